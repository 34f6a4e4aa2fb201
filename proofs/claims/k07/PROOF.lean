import PyProof.Rows.All
import Wide.All
import OpenK.AllK
import Wide.FinOn
import Lean
import PyProof.EqAt
import PyProof.EqKinds
import PyProof.TupleCall
import PyProof.NeKinds
import PyProof.StrBlockI
import PyProof.WalksEnum
import PyProof.EnumMake
import PyProof.ZipIter
import PyProof.Rows.SortStr
import PyProof.Rows.SetFrom
import PyProof.CollectWalk
import PyProof.SetRoads
import PyProof.DictWalks
import PyProof.SumWalk
import PyProof.Rows.SumGenD
import PyProof.DictItems
import KE.KRevIter
import PyProof.Rows.FStrParts
import PyProof.StationsW
import PyProof.ReprRoads
import PyProof.ReprLen
import PyProof.ReprStr
import PyProof.StrLawsRepr
import PyProof.FString
import KE.KIsAll
import KE.KEqDict
import PyProof.AutoSeq1
import PyProof.StrCalls
import PySem.Challenge.RW_hushwise_k07_no_order
set_option Elab.async false
set_option linter.all false
set_option bootstrap.genMatcherCode false
set_option genSizeOf false
set_option compiler.extract_closed false
set_option maxRecDepth 100000
set_option maxHeartbeats 8000000
noncomputable abbrev FG:=PySem.W.Frag
namespace L2
open PySem PySem.Spec PyProof.Rows
variable {pins:List (Addr×Obj)} {E:Value->Shared->Prop} {s:Shared} {A:Around} {w:World} {P:Program}
noncomputable abbrev Key:=Sum Int Str
noncomputable def uL:Key->Value->Bool
 | .inl k,v=>Value.isInt k v
 | .inr x,v=>Value.isStrOf x v
noncomputable def U3 (w:World):Key->Int
 | .inl k=>hashInt k
 | .inr x=>hashStr w x
theorem dW:∀ {k:Key} {v:Value},uL k v=true->(∃ i t,k=Sum.inl i/\v=Value.int i t)\/(∃ x t,k=Sum.inr x/\v=Value.str x t)
 | .inl i,v,h=>by
  obtain ⟨t,e⟩:=Value.isInt_shape (k:=i) (v:=v) h
  exact .inl ⟨i,t,rfl,e⟩
 | .inr x,v,h=>by
  obtain ⟨t,e⟩:=Value.isStrOf_shape (x:=x) (v:=v) h
  exact .inr ⟨x,t,rfl,e⟩
theorem Hy (i:Int) (t:Tok):uL (.inl i) (.int i t)=true:=by simp [uL,Value.isInt]
theorem Hz (x:Str) (t:Tok):uL (.inr x) (.str x t)=true:=by simp [uL,Value.isStrOf]
theorem Qu (a b:Int):decide ((Sum.inl a:Key)=Sum.inl b)=(a==b):=by
 by_cases e:a=b
 . subst e; simp
 . have h:¬ (Sum.inl a:Key)=Sum.inl b:=fun q=>e (Sum.inl.inj q)
   rw [decide_eq_false h]
   exact (beq_eq_false_iff_ne.mpr e).symm
theorem Qv (a b:Str):decide ((Sum.inr a:Key)=Sum.inr b)=decide (a=b):=by
 by_cases e:a=b
 . subst e; simp
 . have h:¬ (Sum.inr a:Key)=Sum.inr b:=fun q=>e (Sum.inr.inj q)
   rw [decide_eq_false h,decide_eq_false e]
theorem Qw (a:Int) (b:Str):decide ((Sum.inl a:Key)=Sum.inr b)=false:=decide_eq_false (fun q=>nomatch q)
theorem Qx (a:Str) (b:Int):decide ((Sum.inr a:Key)=Sum.inl b)=false:=decide_eq_false (fun q=>nomatch q)
noncomputable def cL (prog:Program) (w:World):PySem.KeyKind prog w Key where
 is:=uL
 hash:=U3 w
 inj:=fun v a b ha hb=>by
  rcases dW ha with ⟨i,t,rfl,rfl⟩ | ⟨x,t,rfl,rfl⟩
  . rcases dW hb with ⟨j,u,rfl,e⟩ | ⟨y,u,rfl,e⟩
    . injection e with e1 _; rw [e1]
    . exact nomatch e
  . rcases dW hb with ⟨j,u,rfl,e⟩ | ⟨y,u,rfl,e⟩
    . exact nomatch e
    . injection e with e1 _; rw [e1]
 byValue:=fun k v h=>by
  rcases dW h with ⟨i,t,rfl,rfl⟩ | ⟨x,t,rfl,rfl⟩<;>rfl
 pyHash:=fun hv h=>by
  rcases dW hv with ⟨i,t,rfl,rfl⟩ | ⟨x,t,rfl,rfl⟩
  . exact wpAny_pyHash_int h
  . exact wpAny_pyHash_str h
 eqBool:=fun hu hv h=>by
  rcases dW hu with ⟨i,t,rfl,rfl⟩ | ⟨x,t,rfl,rfl⟩
  . rcases dW hv with ⟨j,u,rfl,rfl⟩ | ⟨y,u,rfl,rfl⟩
    . rw [Qu] at h; exact wpAny_eqBool_int h
    . rw [Qw] at h; exact SeqAt.EqAt.int_str i t y u _ _ _ _ h
  . rcases dW hv with ⟨j,u,rfl,rfl⟩ | ⟨y,u,rfl,rfl⟩
    . rw [Qx] at h; exact SeqAt.EqAt.str_int x t j u _ _ _ _ h
    . rw [Qv] at h; exact wpAny_eqBool_str h
 «strs»:=fun k x t v h=>by
  rcases dW h with ⟨i,u,rfl,e⟩ | ⟨y,u,rfl,e⟩
  . exact nomatch e
  . injection e with e1 _
    subst e1
    cases v<;>rfl
theorem CV (prog:Program) (w:World) (i:Int) (t:Tok):(cL prog w).is (.inl i) (.int i t)=true:=Hy i t
theorem CZ (prog:Program) (w:World) (x:Str) (t:Tok):(cL prog w).is (.inr x) (.str x t)=true:=Hz x t
inductive V where
 | non | bl (b:Bool) | int (i:Int) | str (x:Str) | byt (b:Array UInt8) | flt (b:UInt64) | ref (a:Addr) | ty (n:String)
 deriving DecidableEq
noncomputable def RelV:V->Value->Prop
 | .non,u=>u=Value.none
 | .bl b,u=>u=Value.bool b
 | .int i,u=>∃ t,u=Value.int i t
 | .str x,u=>∃ t,u=Value.str x t
 | .byt b,u=>∃ t,u=Value.bytes b t
 | .flt b,u=>∃ t,u=Value.float b t
 | .ref a,u=>u=Value.ref a
 | .ty n,u=>u=Value.type n
noncomputable abbrev Vals:List V->List Value->Prop:=Paired RelV
theorem Vals.length {xs:List V} {us:List Value} (r:Vals xs us):xs.length=us.length:=Paired.length r
theorem Vals.get:∀ {xs:List V} {us:List Value} {i:Nat} {x:V},Vals xs us->xs[i]?=some x->∃ u,us[i]?=some u/\RelV x u
 | _,_,_,_,.nil,e=>by simp at e
 | _,_,0,_,.cons r _,e=>by simp at e; subst e; exact ⟨_,rfl,r⟩
 | _,_,i+1,x,.cons _ t,e=>by
  obtain ⟨u,h1,h2⟩:=Vals.get (i:=i) (x:=x) t (by simpa using e)
  exact ⟨u,by simpa using h1,h2⟩
theorem Vals.set {x:V} {u:Value} (r:RelV x u):∀ {xs:List V} {us:List Value} (i:Nat),Vals xs us->Vals (xs.set i x) (us.set i u)
 | _,_,_,.nil=>.nil
 | _,_,0,.cons _ t=>.cons r t
 | _,_,i+1,.cons q t=>.cons q (Vals.set r i t)
theorem Vals.append:∀ {xs ys:List V} {us ws:List Value},Vals xs us->Vals ys ws->Vals (xs++ys) (us++ws)
 | _,_,_,_,.nil,s=>s
 | _,_,_,_,.cons r t,s=>.cons r (Vals.append t s)
theorem Vals.take:∀ {xs:List V} {us:List Value} (n:Nat),Vals xs us->Vals (xs.take n) (us.take n)
 | _,_,0,_=>.nil
 | _,_,_+1,.nil=>.nil
 | _,_,n+1,.cons r t=>.cons r (Vals.take n t)
theorem Vals.drop:∀ {xs:List V} {us:List Value} (n:Nat),Vals xs us->Vals (xs.drop n) (us.drop n)
 | _,_,0,r=>r
 | _,_,_+1,.nil=>.nil
 | _,_,n+1,.cons _ t=>Vals.drop n t
noncomputable def lR:Option V->Option Value->Prop
 | some v,some u=>RelV v u
 | none,none=>True
 | _,_=>False
noncomputable def KV {κ:Type}:List (κ×V)->List (κ×Value)->Prop:=Paired fun (p:κ×V) (q:κ×Value)=>p.1=q.1/\RelV p.2 q.2
noncomputable def kV:Key->V
 | .inl i=>.int i
 | .inr x=>.str x
inductive HO where
 | lst (xs:List V)
 | tup (xs:List V)
 | dK (kvs:List (Key×V)) | dT (kvs:List (List Key×V))
 | set (S:Int->Bool) (n:Nat)
 | ins (C dx:Addr) (fs:List (Str×V))
 | own (x:Addr)
 | xd (fs:List (Str×V))
 | met (f x:Addr)
 | rng (lo hi:Int)
 | frz (o:Obj) (u:HO)
 | tbl (ps:Array Value)
 | ext (φ:Heap->Prop)
noncomputable abbrev Hp:=Addr->Option HO
noncomputable def upd (H:Hp) (a:Addr) (o:HO):Hp:=fun b=>if b=a then some o else H b
theorem bh {H:Hp} {a:Addr} {o:HO}:upd H a o a=some o:=by unfold upd; rw [if_pos rfl]
theorem aO {H:Hp} {a b:Addr} {o:HO} (h:b≠a):upd H a o b=H b:=by unfold upd; rw [if_neg h]
theorem Tv {H:Hp} {a b:Addr} {o u:HO} (h:H a=some o) (h':H b=some u) (d:o≠u):a≠b:=by
 intro e; subst e; rw [h] at h'; exact d (Option.some.inj h')
theorem bM {H:Hp} {a b:Addr} {o:HO} (h:H a=some o) (h':H b=none):a≠b:=by
 intro e; subst e; rw [h] at h'; cases h'
section
variable (P:Program) (w:World)
noncomputable def dh (H:Hp) (h:Heap) (a:Addr):HO->Prop
 | .lst xs=>xs.length<=sizeLine/\∃ (its:List Value) (n:Nat),Vals xs its/\h.get? a=some { cls:=.type "list",data:=.seq its.toArray n }
 | .tup xs=>xs.length<=sizeLine/\∃ its:List Value,Vals xs its/\IsTup h a its.toArray
 | .dK kvs=>kvs.length<=sizeLine/\(a==sysModules)=false/\∃ vs,KV kvs vs/\h.DictOf (cL P w) a vs
 | .dT kvs=>kvs.length<=sizeLine/\(a==sysModules)=false/\∃ xs:List (List Key×Addr×Value),
  Paired (fun (p:List Key×V) (q:List Key×Addr×Value)=>p.1=q.1/\H q.2.1=some (.tup (p.1.map kV))/\RelV p.2 q.2.2) kvs xs/\
  ∃ o es ep,h.get? a=some o/\o.ExactDict/\o.data=.dict es ep/\es.toList=xs.map (entryOfKey (tupleKind (cL P w)))/\(xs.map (·.1)).Nodup
 | .set S n=>h.SetOf (intKind P w) a S n
 | .ins C dx fs=>H dx=some (.own a)/\fs.length<=1000/\dx≠a/\h.get? a=some (W.instObj C dx)/\
  ∃ mA,h.Ns1 dx mA/\(∀ f,lR (fs.lookup f) (mA f))/\PySem.Within mA (fs.map (·.1))
 | .own _=>∃ o,h.get? a=some o
 | .xd fs=>∃ mA,h.Ns1 a mA/\∀ f,lR (fs.lookup f) (mA f)
 | .rng lo hi=>∃ t u v,h.get? a=some { cls:=.type "range",data:=.fields #[.int lo t,.int hi u,.int 1 v] }
 | .frz o u=>h.get? a=some o/\dh H h a u
 | .tbl ps=>h.get? a=some { cls:=.none,data:=.fields ps }
 | .met f x=>h.get? a=some (W.methodObj (.ref f) (.ref x))
 | .ext φ=>φ h/\(∃ o,h.get? a=some o)/\∀ h1 h2:Heap,φ h1->(∀ o,h1.get? a=some o->h2.get? a=some o)->φ h2
noncomputable def eF (H:Hp) (h:Heap):Prop:=∀ a o,H a=some o->dh P w H h a o
end
section
variable {P:Program} {w:World} {H H':Hp} {h h':Heap} {a:Addr} {o:HO}
theorem dh.lt (x:dh P w H h a o):a<h.objs.size:=by
 cases o with
 | lst xs=>obtain ⟨_,_,_,_,e⟩:=x; exact Heap.lt_size e
 | tup xs=>obtain ⟨_,_,_,p⟩:=x; exact p.lt
 | dK kvs=>obtain ⟨_,_,_,_,o,_,_,e,_⟩:=x; exact Heap.lt_size e
 | dT kvs=>obtain ⟨_,_,_,_,o,_,_,e,_⟩:=x; exact Heap.lt_size e
 | set S n=>obtain ⟨o,_,_,_,e,_⟩:=x; exact Heap.lt_size e
 | ins C dx fs=>obtain ⟨_,_,_,e,_⟩:=x; exact Heap.lt_size e
 | own y=>obtain ⟨_,e⟩:=x; exact Heap.lt_size e
 | xd fs=>obtain ⟨_,⟨_,_,_,e,_⟩,_⟩:=x; exact Heap.lt_size e
 | rng lo hi=>obtain ⟨_,_,_,e⟩:=x; exact Heap.lt_size e
 | frz ob u=>obtain ⟨e,_⟩:=x; exact Heap.lt_size e
 | tbl ps=>exact Heap.lt_size (show h.get? a=some _ from x)
 | met f y=>exact Heap.lt_size (show h.get? a=some _ from x)
 | ext φ=>obtain ⟨_,⟨_,e⟩,_⟩:=x; exact Heap.lt_size e
theorem Paired.mapP {α β:Type} {F G:α->β->Prop}:∀ {l₁:List α} {l₂:List β},Paired F l₁ l₂->(∀ a b,F a b->G a b)->Paired G l₁ l₂
 | _,_,.nil,_=>.nil
 | _,_,.cons r t,f=>.cons (f _ _ r) (Paired.mapP t f)
theorem dh.stay (x:dh P w H h a o) (k:∀ b u,(b=a\/H b=some (.own a))->h.get? b=some u->h'.get? b=some u)
 (ho:∀ b,H b=some (.own a)->H' b=some (.own a)) (ht:∀ b xs,H b=some (.tup xs)->H' b=some (.tup xs)):dh P w H' h' a o:=by
 induction o with
 | lst xs=>obtain ⟨z,its,n,r,e⟩:=x; exact ⟨z,its,n,r,k _ _ (.inl rfl) e⟩
 | tup xs=>obtain ⟨z,its,r,ob,e,c⟩:=x; exact ⟨z,its,r,ob,k _ _ (.inl rfl) e,c⟩
 | dK kvs=>obtain ⟨z,y,vs,r,ob,es,ep,e,c⟩:=x; exact ⟨z,y,vs,r,ob,es,ep,k _ _ (.inl rfl) e,c⟩
 | dT kvs=>
  obtain ⟨z,y,xs,r,ob,es,ep,e,c⟩:=x
  exact ⟨z,y,xs,Paired.mapP r fun p q z=>⟨z.1,ht _ _ z.2.1,z.2.2⟩,ob,es,ep,k _ _ (.inl rfl) e,c⟩
 | set S n=>obtain ⟨ob,es,ep,t,e,c⟩:=x; exact ⟨ob,es,ep,t,k _ _ (.inl rfl) e,c⟩
 | ins C dx fs=>
  obtain ⟨d,z,ne,e,mA,⟨od,es,ep,e2,c⟩,r⟩:=x
  exact ⟨ho _ d,z,ne,k _ _ (.inl rfl) e,mA,⟨od,es,ep,k _ _ (.inr d) e2,c⟩,r⟩
 | own y=>obtain ⟨ob,e⟩:=x; exact ⟨ob,k _ _ (.inl rfl) e⟩
 | xd fs=>obtain ⟨mA,⟨od,es,ep,e,c⟩,r⟩:=x; exact ⟨mA,⟨od,es,ep,k _ _ (.inl rfl) e,c⟩,r⟩
 | rng lo hi=>obtain ⟨t,u,v,e⟩:=x; exact ⟨t,u,v,k _ _ (.inl rfl) e⟩
 | frz ob u ih=>obtain ⟨e,q⟩:=x; exact ⟨k _ _ (.inl rfl) e,ih q⟩
 | tbl ps=>
  have e:h.get? a=some { cls:=.none,data:=.fields ps }:=x
  show h'.get? a=some { cls:=.none,data:=.fields ps }
  exact k a _ (.inl rfl) e
 | met f y=>
  have e:h.get? a=some (W.methodObj (.ref f) (.ref y)):=x
  show h'.get? a=some (W.methodObj (.ref f) (.ref y))
  exact k a _ (.inl rfl) e
 | ext φ=>obtain ⟨p,⟨o,e⟩,st⟩:=x; exact ⟨st _ _ p fun o q=>k _ _ (.inl rfl) q,⟨o,k _ _ (.inl rfl) e⟩,st⟩
theorem eF.lt (x:eF P w H h) (e:H a=some o):a<h.objs.size:=(x a o e).lt
theorem eF.fresh (x:eF P w H h) (e:h.objs.size<=a):H a=none:=by
 cases q:H a with
 | none=>rfl
 | some u=>exact absurd (Nat.lt_of_lt_of_le (x.lt q) e) (Nat.lt_irrefl _)
theorem eF.kept (x:eF P w H h) (k:∀ b u,h.get? b=some u->h'.get? b=some u):eF P w H h':=fun a o e=>
 (x a o e).stay (fun b u _ q=>k b u q) (fun _ q=>q) fun _ _ q=>q
theorem eF.laid (x:eF P w H h) (k:∀ b u,h.get? b=some u->h'.get? b=some u) (hp:h.objs.size<=a) (new:dh P w (upd H a o) h' a o):eF P w (upd H a o) h':=fun b u e=>by
 have hn:=x.fresh hp
 by_cases hb:b=a
 . subst hb; rw [bh] at e; cases e; exact new
 . rw [aO hb] at e
   exact (x b u e).stay (fun c v _ q=>k c v q) (fun c q=>by rw [aO (bM q hn)]; exact q) fun c xs q=>by rw [aO (bM q hn)]; exact q
end
noncomputable def Rd (H:Hp) (a:Addr) (u:HO):Prop:=H a=some u\/∃ o,H a=some (.frz o u)
theorem Rd.ok {H:Hp} {h:Heap} {a:Addr} {u:HO} (r:Rd H a u) (x:eF P w H h):dh P w H h a u:=by
 rcases r with r | ⟨o,r⟩
 . exact x a u r
 . obtain ⟨_,q⟩:=x a _ r
   exact q
noncomputable def HB:Option HO->Prop
 | some (.lst _)=>True
 | some (.dK _)=>True
 | some (.dT _)=>True
 | some (.set _ _)=>True
 | some (.ins _ _ _)=>True
 | some (.ext _)=>True
 | _=>False
section
variable {P:Program} {w:World} {H:Hp} {h h':Heap} {x e:Addr} {o':HO}
theorem eF.write (ok:eF P w H h) (mu:HB (H x)) (he:e=x\/H e=some (.own x)) (k:∀ b u,b≠e->h.get? b=some u->h'.get? b=some u) (heo:∃ u,h'.get? e=some u)
 (new:dh P w (upd H x o') h' x o'):eF P w (upd H x o') h':=fun b u q=>by
 have nown:∀ c y,H c=some (.own y)->c≠x:=fun c y r z=>by subst z; rw [r] at mu; exact mu
 have ntup:∀ c xs,H c=some (.tup xs)->c≠x:=fun c xs r z=>by subst z; rw [r] at mu; exact mu
 by_cases hb:b=x
 . subst hb; rw [bh] at q; cases q; exact new
 . rw [aO hb] at q
   by_cases hbe:b=e
   . have q':H b=some (.own x):=by
      rcases he with z | z
      . exact absurd (hbe.trans z) hb
      . rw [hbe]; exact z
     rw [q] at q'; cases q'
     obtain ⟨v,hv⟩:=heo
     exact ⟨v,by rw [hbe]; exact hv⟩
   . refine (ok b u q).stay (fun c v hc r=>k c v ?_ r) (fun c r=>by rw [aO (nown c b r)]; exact r) fun c xs r=>by rw [aO (ntup c xs r)]; exact r
     rcases hc with rfl | hc
     . exact hbe
     . rintro rfl
       rcases he with z | z
       . exact nown c b hc z
       . rw [hc] at z; cases z; exact hb rfl
end
structure Un (fs ex:List Addr) (H H':Hp) (h h':Heap):Prop where
 keep:∀ b o,h.get? b=some o->H b=none->b∉fs->b∉ex->h'.get? b=some o
 slot:∀ b o,h.get? b=some o->H b=none->b∈fs->b∉ex->∃ sl,h'.get? b=some { o with slots:=sl }
 free:∀ b o,h.get? b=some o->H b=none->b∉ex->H' b=none
 there:∀ b o,h.get? b=some o->b∉ex->∃ o',h'.get? b=some o'
 tups:∀ b xs,H b=some (.tup xs)->H' b=some (.tup xs)
 frzs:∀ b o u,H b=some (.frz o u)->H' b=some (.frz o u)
 tbls:∀ b ps,H b=some (.tbl ps)->∃ more,H' b=some (.tbl (ps++more))
section
variable {fs fs' ex ex':List Addr} {H H1 H2:Hp} {h h1 h2 h':Heap} {a x e:Addr} {o:HO}
theorem Un.any (u:Un fs ex H H1 h h1) {b:Addr} {ob:Obj} (q:h.get? b=some ob) (n:H b=none) (hx:b∉ex):∃ sl,h1.get? b=some { ob with slots:=sl }:=by
 by_cases hb:b∈fs
 . exact u.slot b ob q n hb hx
 . exact ⟨ob.slots,u.keep b ob q n hb hx⟩
theorem Un.kept (k:∀ b u,h.get? b=some u->h'.get? b=some u):Un fs ex H H h h':=
 ⟨fun b ob q _ _ _=>k b ob q,fun b ob q _ _ _=>⟨ob.slots,k b ob q⟩,fun _ _ _ n _=>n,fun b ob q _=>⟨ob,k b ob q⟩,fun _ _ q=>q,fun _ _ _ q=>q,fun _ ps q=>⟨#[],by rw [q]; simp⟩⟩
theorem Un.refl:Un fs ex H H h h:=Un.kept fun _ _ q=>q
theorem Un.laid (k:∀ b u,h.get? b=some u->h'.get? b=some u) (hp:h.objs.size<=a) (hn:H a=none):Un fs ex H (upd H a o) h h' where
 keep:=fun b u q _ _ _=>k b u q
 slot:=fun b u q _ _ _=>⟨u.slots,k b u q⟩
 free:=fun b u q n _=>by rw [aO (Nat.ne_of_lt (Nat.lt_of_lt_of_le (Heap.lt_size q) hp))]; exact n
 there:=fun b u q _=>⟨u,k b u q⟩
 tups:=fun b xs q=>by rw [aO (bM q hn)]; exact q
 frzs:=fun b u xs q=>by rw [aO (bM q hn)]; exact q
 tbls:=fun b ps q=>⟨#[],by rw [aO (bM q hn),q]; simp⟩
theorem Un.write (mu:HB (H x)) (he:e=x\/H e=some (.own x)) (k:∀ b u,b≠e->h.get? b=some u->h'.get? b=some u) (heo:∃ u,h'.get? e=some u):Un fs ex H (upd H x o) h h':=by
 have hx:∀ b,H b=none->b≠x:=fun b n z=>by subst z; rw [n] at mu; exact mu
 have hb:∀ b,H b=none->b≠e:=fun b n z=>by
  subst z
  rcases he with r | r
  . exact hx b n r
  . rw [n] at r; cases r
 have hm:∀ b u,H b=some u->¬ HB (some u)->b≠x:=fun b u q nm z=>by subst z; rw [q] at mu; exact nm mu
 refine ⟨fun b u q n _ _=>k b u (hb b n) q,fun b u q n _ _=>⟨u.slots,k b u (hb b n) q⟩,fun b u q n _=>by rw [aO (hx b n)]; exact n,fun b u q _=>?_,
  fun b xs q=>by rw [aO (hm b _ q fun z=>z)]; exact q,fun b u xs q=>by rw [aO (hm b _ q fun z=>z)]; exact q,fun b ps q=>⟨#[],by rw [aO (hm b _ q fun z=>z),q]; simp⟩⟩
 by_cases hbe:b=e
 . subst hbe; exact heo
 . exact ⟨u,k b u hbe q⟩
end
noncomputable def MJ (h:Heap) (H:Hp):List Addr:=(List.range h.objs.size).filter fun a=>(H a).isSome
noncomputable def rH (h:Heap) (H:Hp):Heap:=W.hideAll h (MJ h H)
theorem HD (h:Heap) (H:Hp):(rH h H).objs.size=h.objs.size:=W.hideAll_size _ _
theorem Kh {h:Heap} {H:Hp} {b:Addr} {o:Obj} (e:h.get? b=some o) (n:H b=none):(rH h H).get? b=some o:=
 W.hideAll_get _ e fun hm=>by
  have q:(H b).isSome=true:=(List.mem_filter.mp hm).2
  rw [n] at q; simp at q
theorem Ob {h:Heap} {H:Hp} {b:Addr} {o:Obj} (e:(rH h H).get? b=some o):h.get? b=some o/\H b=none:=by
 have e':h.get? b=some o:=W.of_hideAll (MJ h H) e
 refine ⟨e',?_⟩
 cases q:H b with
 | none=>rfl
 | some x=>
  have hm:b∈MJ h H:=List.mem_filter.mpr ⟨List.mem_range.mpr (Heap.lt_size e'),by simp [q]⟩
  have z:(rH h H).get? b=none:=W.hideAll_none (MJ h H) hm
  rw [z] at e; cases e
noncomputable def Oc (g h:Heap) (L:Addr):List (Addr×Obj):=(List.range h.objs.size).filterMap fun a=>if a=L\/(g.get? a).isSome=true then none else (h.get? a).map fun o=>(a,o)
noncomputable def rest (g h:Heap) (L d:Addr):List (Addr×Obj):=(Oc g h L).filter fun p=>decide (p.1≠d)
structure Mod (K:FG) (mg:Str->Option Value) (base:Heap):Prop where
 kin:K.In base
 glob:base.Ns mainGlobals mg
 blt:∃ mb,base.Ns builtinsNs mb/\∀ x:Str,x ≠ "__name__" -> mb x=bootBuiltins x
 nolimit:base.NoLimit
structure Cx where
 prog:Program
 w:World
 K:FG
 mg:Str->Option Value
 base:Heap
 A:Around
 N:List Str
 s₀:Shared
 H0:Hp
 env:Env
 outer:List Env
 stack:List Env
 ex:List Addr
 fn:Str->Bool
 calm:Bool
 pn:List (Addr×Obj)
 xe:Value->Shared->Prop
noncomputable def frs (l:List Env):List Addr:=l.filterMap (·.frame)
noncomputable abbrev Cx.fs (X:Cx):List Addr:=frs X.outer
noncomputable def HF (sc:Scope) (x:Str):Prop:=sc.names.lookup x=some .local\/sc.names.lookup x=some .cell\/sc.names.lookup x=some .free
noncomputable def Loc (sc:Scope) (x:Str):Prop:=sc.names.lookup x=some .local\/sc.names.lookup x=some .cell
noncomputable def Look (env:Env) (h:Heap) (m:Str->Option Value) (x:Str) (u:Value):Prop:=
 (env.kindOf x=some .local/\m x=some u)\/((env.kindOf x=some .cell\/env.kindOf x=some .free)/\∃ c,env.cells.lookup x=some c/\h.IsCell c (some u))
structure Cx.Ok (X:Cx):Prop where
 mod:Mod X.K X.mg X.base
 kind:X.env.scope.kind=.function
 glob:X.env.globals=mainGlobals
 blt:X.env.builtins=builtinsNs
 above:X.s₀.heap.objs.size<=X.env.locals
 inj:∀ x y c,X.env.cells.lookup x=some c->X.env.cells.lookup y=some c->x=y
 has:∀ x,(X.env.kindOf x=some .cell\/X.env.kindOf x=some .free)->∃ c,X.env.cells.lookup x=some c
 cab:∀ x c,X.fn x=true->X.env.cells.lookup x=some c->X.s₀.heap.objs.size<=c
 hd:X.calm=true->X.A.handled=none
 frames:X.A.frames=some X.stack
 stk:X.stack=X.outer\/(X.stack=X.env::X.outer/\X.env.frame=some X.env.locals)
 exf:∀ b∈X.ex,b≠X.env.locals/\∀ x c,X.env.cells.lookup x=some c->c≠b
 bs:∀ b o,X.base.get? b=some o->X.s₀.heap.get? b=some o/\X.H0 b=none
 bsz:X.base.objs.size<=X.s₀.heap.objs.size
 noex:∀ b o,X.base.get? b=some o->b∉X.ex
 exfs:∀ b∈X.ex,b∉X.fs
 funs:X.s₀.heap.FunFrames X.base X.outer
 frf:∀ b∈X.fs,X.H0 b=none
structure Inv (X:Cx) (pins:List (Addr×Obj)) (σ:List (Option V)) (H:Hp) (s:Shared):Prop where
 ok:X.Ok
 os:s.os=X.s₀.os
 bare:AllBare s.gens
 base:Un X.fs X.ex X.H0 H X.s₀.heap s.heap
 loc:∃ m,s.heap.Ns X.env.locals m/\∀ (i:Nat) (x:Str) (v:V),X.N[i]?=some x->σ[i]?=some (some v)->HF X.env.scope x->∃ u,RelV v u/\Look X.env s.heap m x u
 cell:∀ x c,X.env.cells.lookup x=some c->∃ v,s.heap.IsCell c v
 free:H X.env.locals=none
 freeC:∀ x c,X.env.cells.lookup x=some c->H c=none
 pin:∀ p∈X.pn++pins,s.heap.get? p.1=some p.2/\H p.1=none/\p.1≠X.env.locals/\p.1∉X.fs/\∀ v,p.2.data≠.cell v
 hok:eF X.prog X.w H s.heap
 len:σ.length=X.N.length
section
variable {X:Cx} {pins:List (Addr×Obj)} {σ:List (Option V)} {H H':Hp} {s:Shared} {h':Heap}
theorem Cx.Ok.nofr (ok:X.Ok) {b:Addr} {o:Obj} (e:X.base.get? b=some o):b∉X.fs:=fun hb=>by
 have:=(ok.funs.mem hb).1
 rw [e] at this; cases this
theorem Inv.bs (I:Inv X pins σ H s):∀ b o,X.base.get? b=some o->s.heap.get? b=some o/\H b=none:=fun b o e=>
 ⟨I.base.keep b o (I.ok.bs b o e).1 (I.ok.bs b o e).2 (I.ok.nofr e) (I.ok.noex b o e),I.base.free b o (I.ok.bs b o e).1 (I.ok.bs b o e).2 (I.ok.noex b o e)⟩
theorem Inv.bk (I:Inv X pins σ H s):∀ b o,X.base.get? b=some o->s.heap.get? b=some o:=fun b o e=>(I.bs b o e).1
theorem Inv.mod (I:Inv X pins σ H s):Mod X.K X.mg X.base:=I.ok.mod
theorem Inv.kIn (I:Inv X pins σ H s):X.K.In s.heap:=I.ok.mod.kin.keeps I.bk
theorem Inv.lt (I:Inv X pins σ H s):X.env.locals<s.heap.objs.size:=let ⟨_,hn,_⟩:=I.loc; hn.lt
theorem Inv.sz (I:Inv X pins σ H s):X.s₀.heap.objs.size<=s.heap.objs.size:=Nat.le_trans I.ok.above (Nat.le_of_lt I.lt)
theorem Inv.nofs (I:Inv X pins σ H s) {a:Addr} (h:s.heap.objs.size<=a):a∉X.fs:=fun hb=>by
 obtain ⟨_,o,ho,_⟩:=I.ok.funs.mem hb
 exact absurd (Nat.lt_of_lt_of_le (Heap.lt_size ho) (Nat.le_trans I.sz h)) (Nat.lt_irrefl _)
theorem Inv.cne (I:Inv X pins σ H s):∀ x c,X.env.cells.lookup x=some c->c≠X.env.locals:=fun x c e z=>by
 obtain ⟨v,o,ho,hd⟩:=I.cell x c e
 obtain ⟨m,⟨o',es,ep,ho',hd',_⟩,_⟩:=I.loc
 rw [z,ho'] at ho; cases ho; rw [hd'] at hd; cases hd
theorem Inv.funs (I:Inv X pins σ H s):s.heap.FunFrames X.base X.outer:=by
 have all:∀ (l:List Env),(∀ b∈frs l,b∈X.fs)->X.s₀.heap.FunFrames X.base l->s.heap.FunFrames X.base l:=by
  intro l
  induction l with
  | nil=>intro _ _; trivial
  | cons env r ih=>
   intro hs hl
   obtain ⟨hk,⟨L,o,hf,hn,ho,hd⟩,hr⟩:=hl
   have hL:L∈X.fs:=hs L (by unfold frs; rw [List.filterMap_cons,hf]; exact List.mem_cons_self)
   obtain ⟨sl,e⟩:=I.base.slot L o ho (I.ok.frf L hL) hL fun z=>I.ok.exfs L z hL
   exact ⟨hk,⟨L,_,hf,hn,e,hd⟩,ih (fun b hb=>hs b (by unfold frs; rw [List.filterMap_cons,hf]; exact List.mem_cons_of_mem _ hb)) hr⟩
 exact all X.outer (fun _ hb=>hb) I.ok.funs
theorem Inv.stack (I:Inv X pins σ H s):s.heap.FunFrames X.base X.stack:=by
 rcases I.ok.stk with e | ⟨e,hf⟩
 . rw [e]; exact I.funs
 . rw [e]
   obtain ⟨m,hn,_⟩:=I.loc
   refine .cons (by rw [I.ok.kind]; decide) hf hn ?_ I.funs
   exact Heap.get?_none_of_le (Nat.le_trans I.ok.bsz I.ok.above)
theorem Inv.stkSub (I:Inv X pins σ H s):∀ b∈frs X.stack,b∈X.env.locals::X.fs:=fun b hb=>by
 rcases I.ok.stk with e | ⟨e,hf⟩
 . rw [e] at hb; exact List.mem_cons_of_mem _ hb
 . rw [e] at hb
   unfold frs at hb
   rw [List.filterMap_cons,hf] at hb
   exact hb
theorem Inv.stkFree (I:Inv X pins σ H s):∀ b∈frs X.stack,H b=none:=fun b hb=>by
 rcases List.mem_cons.mp (I.stkSub b hb) with e | hb
 . rw [e]; exact I.free
 . obtain ⟨_,o,ho,_⟩:=I.ok.funs.mem hb
   exact I.base.free b o ho (I.ok.frf b hb) fun z=>I.ok.exfs b z hb
theorem Inv.step {g':Array GenState} {t':Nat} {d':Drawn} {ch:List Addr} (I:Inv X pins σ H s)
 (hch:∀ b∈ch,(b∈X.ex\/X.s₀.heap.objs.size<=b)/\b≠X.env.locals/\(∀ x c,X.env.cells.lookup x=some c->c≠b)/\∀ p∈X.pn++pins,p.1≠b)
 (keep:∀ b o,b≠X.env.locals->b∉X.fs->b∉ch->s.heap.get? b=some o->H b=none->h'.get? b=some o)
 (slot:∀ b o,b≠X.env.locals->b∈X.fs->b∉ch->s.heap.get? b=some o->H b=none->∃ sl,h'.get? b=some { o with slots:=sl }) (free:∀ b o,b∉ch->s.heap.get? b=some o->H b=none->H' b=none)
 (there:∀ b o,b∉ch->s.heap.get? b=some o->∃ o',h'.get? b=some o')
 (tups:∀ b xs,H b=some (.tup xs)->H' b=some (.tup xs)) (frzs:∀ b o u,H b=some (.frz o u)->H' b=some (.frz o u)) (tbls:∀ b ps,H b=some (.tbl ps)->∃ more,H' b=some (.tbl (ps++more)))
 (ns:∀ m,s.heap.Ns X.env.locals m->h'.Ns X.env.locals m) (hok:eF X.prog X.w H' h') (hg:AllBare g'):
 Inv X pins σ H' { s with heap:=h',gens:=g',drawn:=d',toks:=t' }:=by
 have neL:∀ b o,X.s₀.heap.get? b=some o->b≠X.env.locals:=fun b o e=>Nat.ne_of_lt (Nat.lt_of_lt_of_le (Heap.lt_size e) I.ok.above)
 have neC:∀ b o,X.s₀.heap.get? b=some o->b∉X.ex->b∉ch:=fun b o e hx hb=>by
  rcases (hch b hb).1 with z | z
  . exact hx z
  . exact absurd (Nat.lt_of_lt_of_le (Heap.lt_size e) z) (Nat.lt_irrefl _)
 have cellK:∀ x c,X.env.cells.lookup x=some c->∀ v,s.heap.IsCell c v->h'.IsCell c v:=fun x c e v ⟨o,ho,hd⟩=>by
  have nch:c∉ch:=fun z=>(hch c z).2.2.1 x c e rfl
  by_cases hc:c∈X.fs
  . obtain ⟨sl,q⟩:=slot c o (I.cne x c e) hc nch ho (I.freeC x c e)
    exact ⟨_,q,hd⟩
  . exact ⟨o,keep c o (I.cne x c e) hc nch ho (I.freeC x c e),hd⟩
 refine ⟨I.ok,I.os,hg,⟨fun b o e n hb hx=>?_,fun b o e n hb hx=>?_,fun b o e n hx=>?_,fun b o e hx=>?_,fun b xs e=>tups b xs (I.base.tups b xs e),fun b o xs e=>frzs b o xs (I.base.frzs b o xs e),fun b ps e=>?_⟩,?_,fun x c e=>?_,?_,fun x c e=>?_,fun p hp=>?_,hok,I.len⟩
 . exact keep b o (neL b o e) hb (neC b o e hx) (I.base.keep b o e n hb hx) (I.base.free b o e n hx)
 . obtain ⟨sl,e1⟩:=I.base.slot b o e n hb hx
   obtain ⟨sl',e2⟩:=slot b _ (neL b o e) hb (neC b o e hx) e1 (I.base.free b o e n hx)
   exact ⟨sl',e2⟩
 . obtain ⟨o',e1⟩:=I.base.there b o e hx
   exact free b o' (neC b o e hx) e1 (I.base.free b o e n hx)
 . obtain ⟨o',e1⟩:=I.base.there b o e hx
   exact there b o' (neC b o e hx) e1
 . obtain ⟨m1,e1⟩:=I.base.tbls b ps e
   obtain ⟨m2,e2⟩:=tbls b _ e1
   exact ⟨m1++m2,by rw [e2,Array.append_assoc]⟩
 . obtain ⟨m,hn,hl⟩:=I.loc
   refine ⟨m,ns m hn,fun i x v e1 e2 e3=>?_⟩
   obtain ⟨u,r,l⟩:=hl i x v e1 e2 e3
   refine ⟨u,r,?_⟩
   rcases l with l | ⟨k,c,e,z⟩
   . exact .inl l
   . exact .inr ⟨k,c,e,cellK x c e _ z⟩
 . obtain ⟨v,z⟩:=I.cell x c e
   exact ⟨v,cellK x c e v z⟩
 . obtain ⟨m,⟨o,_,_,ho,_⟩,_⟩:=I.loc
   exact free _ o (fun z=>(hch _ z).2.1 rfl) ho I.free
 . obtain ⟨v,o,ho,hd⟩:=I.cell x c e
   exact free c o (fun z=>(hch c z).2.2.1 x c e rfl) ho (I.freeC x c e)
 . obtain ⟨e,n,ne,nf,d⟩:=I.pin p hp
   have nch:p.1∉ch:=fun z=>(hch p.1 z).2.2.2 p hp rfl
   exact ⟨keep p.1 p.2 ne nf nch e n,free p.1 p.2 nch e n,ne,nf,d⟩
theorem Inv.un {t':Nat} (I:Inv X pins σ H s) (u:Un X.fs [] H H' s.heap h') (hok:eF X.prog X.w H' h'):Inv X pins σ H' { s with heap:=h',toks:=t' }:=by
 obtain ⟨m,⟨o,es,ep,ho,r⟩,_⟩:=id I.loc
 obtain ⟨sl,hL⟩:=u.any ho I.free (by simp)
 exact I.step (g':=s.gens) (d':=s.drawn) (ch:=[]) (fun _ z=>nomatch z) (fun b o _ hb _ e n=>u.keep b o e n hb (by simp)) (fun b o _ hb _ e n=>u.slot b o e n hb (by simp)) (fun b o _ e n=>u.free b o e n (by simp)) (fun b o _ e=>u.there b o e (by simp)) u.tups u.frzs u.tbls (fun m' hm=>by
  obtain ⟨o',es',ep',ho',r'⟩:=hm
  rw [ho] at ho'; cases ho'
  exact ⟨_,es',ep',hL,r'⟩) hok I.bare
theorem Inv.call {g':Array GenState} {t':Nat} {d':Drawn} {ch:List Addr} (I:Inv X pins σ H s) (u:Un (frs X.stack) ch H H' s.heap h') (hok:eF X.prog X.w H' h') (hg:AllBare g')
 (hch:∀ b∈ch,(b∈X.ex\/X.s₀.heap.objs.size<=b)/\b≠X.env.locals/\(∀ x c,X.env.cells.lookup x=some c->c≠b)/\∀ p∈X.pn++pins,p.1≠b):
 Inv X pins σ H' { s with heap:=h',gens:=g',drawn:=d',toks:=t' }:=by
 obtain ⟨m,⟨o,es,ep,ho,r⟩,_⟩:=id I.loc
 obtain ⟨sl,hL⟩:=u.any ho I.free fun z=>(hch _ z).2.1 rfl
 exact I.step (ch:=ch) hch (fun b o hL hb hc e n=>u.keep b o e n (fun z=>(List.mem_cons.mp (I.stkSub b z)).elim hL hb) hc) (fun b o _ _ hc e n=>u.any e n hc) (fun b o hc e n=>u.free b o e n hc) (fun b o hc e=>u.there b o e hc) u.tups u.frzs u.tbls (fun m' hm=>by
  obtain ⟨o',es',ep',ho',r'⟩:=hm
  rw [ho] at ho'; cases ho'
  exact ⟨_,es',ep',hL,r'⟩) hok hg
theorem Inv.turned {t':Nat} {it:Addr} (I:Inv X pins σ H s) (k:∀ b o,b≠it->s.heap.get? b=some o->h'.get? b=some o) (hn:H it=none) (hL:it≠X.env.locals)
 (h1:it∈X.ex\/X.s₀.heap.objs.size<=it) (h2:∀ x c,X.env.cells.lookup x=some c->c≠it) (h3:∀ p∈X.pn++pins,p.1≠it):Inv X pins σ H { s with heap:=h',toks:=t' }:=by
 have nit:∀ b u,H b=some u->b≠it:=fun b u e z=>by rw [z,hn] at e; cases e
 refine I.step (g':=s.gens) (d':=s.drawn) (ch:=[it]) (fun b hb=>?_) (fun b o _ _ hc e _=>k b o (fun z=>hc (by simp [z])) e) (fun b o _ _ hc e _=>⟨o.slots,k b o (fun z=>hc (by simp [z])) e⟩) (fun _ _ _ _ n=>n)
  (fun b o hc e=>⟨o,k b o (fun z=>hc (by simp [z])) e⟩) (fun _ _ e=>e) (fun _ _ _ e=>e) (fun b ps e=>⟨#[],by rw [e]; simp⟩) (fun m hm=>?_) (fun b u e=>?_) I.bare
 . have e:b=it:=by simpa using hb
   subst e
   exact ⟨h1,hL,h2,h3⟩
 . obtain ⟨o,es,ep,ho,r⟩:=hm
   exact ⟨o,es,ep,k _ o (Ne.symm hL) ho,r⟩
 . refine (I.hok b u e).stay (fun c v hc q=>k c v ?_ q) (fun _ q=>q) fun _ _ q=>q
   rcases hc with z | z
   . rw [z]; exact nit b u e
   . exact nit c _ z
theorem Inv.tok (I:Inv X pins σ H s) (t:Nat):Inv X pins σ H { s with toks:=t }:=I.un (h':=s.heap) (t':=t) Un.refl I.hok
theorem Inv.kept {t':Nat} (I:Inv X pins σ H s) (k:∀ b u,s.heap.get? b=some u->h'.get? b=some u):Inv X pins σ H { s with heap:=h',toks:=t' }:=I.un (Un.kept k) (I.hok.kept k)
theorem Inv.laid {a:Addr} {o:HO} {t':Nat} (I:Inv X pins σ H s) (k:∀ b u,s.heap.get? b=some u->h'.get? b=some u) (hp:s.heap.objs.size<=a) (new:dh X.prog X.w (upd H a o) h' a o):
 Inv X pins σ (upd H a o) { s with heap:=h',toks:=t' }:=I.un (Un.laid k hp (I.hok.fresh hp)) (I.hok.laid k hp new)
theorem Inv.write {x e:Addr} {o:HO} {t':Nat} (I:Inv X pins σ H s) (mu:HB (H x)) (he:e=x\/H e=some (.own x)) (k:∀ b u,b≠e->s.heap.get? b=some u->h'.get? b=some u) (heo:∃ u,h'.get? e=some u)
 (new:dh X.prog X.w (upd H x o) h' x o):Inv X pins σ (upd H x o) { s with heap:=h',toks:=t' }:=I.un (Un.write mu he k heo) (I.hok.write mu he k heo new)
theorem Inv.pins_of {pins':List (Addr×Obj)} (I:Inv X pins σ H s) (h:∀ p∈pins',s.heap.get? p.1=some p.2/\H p.1=none/\p.1≠X.env.locals/\p.1∉X.fs/\∀ v,p.2.data≠.cell v):Inv X pins' σ H s:=
 ⟨I.ok,I.os,I.bare,I.base,I.loc,I.cell,I.free,I.freeC,fun p hp=>(List.mem_append.mp hp).elim (fun z=>I.pin p (List.mem_append_left _ z)) (h p),I.hok,I.len⟩
theorem vA {N:List Str} (hN:N.Nodup) {i j:Nat} {x:Str} (a:N[i]?=some x) (b:N[j]?=some x):i=j:=by
 obtain ⟨h1,e1⟩:=List.getElem?_eq_some_iff.mp a
 obtain ⟨h2,e2⟩:=List.getElem?_eq_some_iff.mp b
 exact (List.getElem_inj hN).mp (e1.trans e2.symm)
theorem yH {M:Model} {i:Nat} {x:Str} {v:V} {u:Value} {Q:Unit->Shared->Prop} (I:Inv X pins σ H s) (hN:X.N.Nodup) (hi:X.N[i]?=some x) (hx:Loc X.env.scope x) (r:RelV v u)
 (h:∀ s',Inv X pins (σ.set i (some v)) H s'->(∃ a,Heap.SameBut a s.heap s'.heap/\(a=X.env.locals\/X.env.cells.lookup x=some a))->Q () s') (hf:X.fn x=true\/X.env.scope.names.lookup x=some .local:=by first | exact .inl rfl | exact .inr rfl | assumption):wpAny M A (storeName X.env x u) Q E s:=by
 obtain ⟨m,hn,hl⟩:=id I.loc
 have hcls:(X.env.scope.kind==.class||(X.env.scope.kind==.module&&X.env.locals != X.env.globals))=false:=by rw [I.ok.kind]; rfl
 have hiσ:i<σ.length:=by rw [I.len]; exact (List.getElem?_eq_some_iff.mp hi).1
 have cne:=I.cne
 have tracked:∀ {a:Addr} {h':Heap},(∃ o,s.heap.get? a=some o/\H a=none)->Heap.SameBut a s.heap h'->eF X.prog X.w H h':=fun {a h'} ha hs b ob e=>by
  obtain ⟨_,_,hfree⟩:=ha
  refine (I.hok b ob e).stay (fun c w' hc q=>(hs.2 c ?_).trans q) (fun _ q=>q) fun _ _ q=>q
  rintro rfl
  rcases hc with rfl | hc
  . rw [hfree] at e; cases e
  . rw [hfree] at hc; cases hc
 rcases hx with hk | hk
 . refine wpAny_storeName_local hk hn (fun h' hn' hs=>?_) hcls
   obtain ⟨oL,_,_,hoL,_⟩:=id hn
   refine h _ ⟨I.ok,I.os,I.bare,⟨fun b o e n hb hx=>?_,fun b o e n hb hx=>?_,I.base.free,fun b o e hx=>?_,I.base.tups,I.base.frzs,I.base.tbls⟩,⟨_,hn',fun j y v' e1 e2 e3=>?_⟩,fun y c e=>?_,I.free,I.freeC,fun p hp=>?_,tracked ⟨oL,hoL,I.free⟩ hs,by simpa using I.len⟩ ⟨_,hs,.inl rfl⟩
   . exact (hs.2 b (Nat.ne_of_lt (Nat.lt_of_lt_of_le (Heap.lt_size e) I.ok.above))).trans (I.base.keep b o e n hb hx)
   . obtain ⟨sl,e1⟩:=I.base.slot b o e n hb hx
     exact ⟨sl,(hs.2 b (Nat.ne_of_lt (Nat.lt_of_lt_of_le (Heap.lt_size e) I.ok.above))).trans e1⟩
   . obtain ⟨o',e1⟩:=I.base.there b o e hx
     exact ⟨o',(hs.2 b (Nat.ne_of_lt (Nat.lt_of_lt_of_le (Heap.lt_size e) I.ok.above))).trans e1⟩
   . by_cases hj:j=i
     . subst hj
       rw [hi] at e1; cases e1
       rw [List.getElem?_set_self hiσ] at e2
       cases e2
       exact ⟨u,r,.inl ⟨hk,by simp⟩⟩
     . rw [List.getElem?_set_ne (Ne.symm hj)] at e2
       obtain ⟨u',r',q⟩:=hl j y v' e1 e2 e3
       refine ⟨u',r',?_⟩
       rcases q with ⟨k,e⟩ | ⟨k,c,e,z⟩
       . refine .inl ⟨k,?_⟩
         have:y≠x:=fun e=>hj (vA hN e1 (e▸hi))
         simp [this,e]
       . exact .inr ⟨k,c,e,z.sameBut hs (cne y c e)⟩
   . obtain ⟨w',z⟩:=I.cell y c e
     exact ⟨w',z.sameBut hs (cne y c e)⟩
   . obtain ⟨e,n,ne,nf,d⟩:=I.pin p hp
     exact ⟨(hs.2 p.1 ne).trans e,n,ne,nf,d⟩
 . have hfn:X.fn x=true:=by
    rcases hf with z | z
    . exact z
    . rw [z] at hk; cases hk
   obtain ⟨c,hc⟩:=I.ok.has x (.inl hk)
   obtain ⟨w',z⟩:=I.cell x c hc
   refine wpAny_storeName_cell I.ok.kind hk hc z (fun h' hc' hs=>?_)
   obtain ⟨oc,hoc,hocd⟩:=id z
   refine h { s with heap:=h' } ⟨I.ok,I.os,I.bare,⟨fun b o e n hb hx=>?_,fun b o e n hb hx=>?_,I.base.free,fun b o e hx=>?_,I.base.tups,I.base.frzs,I.base.tbls⟩,⟨m,hn.sameBut hs (Ne.symm (cne x c hc)),fun j y v' e1 e2 e3=>?_⟩,fun y c' e=>?_,I.free,I.freeC,fun p hp=>?_,tracked ⟨oc,hoc,I.freeC x c hc⟩ hs,by simpa using I.len⟩ ⟨c,hs,.inr hc⟩
   . exact (hs.2 b (Nat.ne_of_lt (Nat.lt_of_lt_of_le (Heap.lt_size e) (I.ok.cab x c hfn hc)))).trans (I.base.keep b o e n hb hx)
   . obtain ⟨sl,e1⟩:=I.base.slot b o e n hb hx
     exact ⟨sl,(hs.2 b (Nat.ne_of_lt (Nat.lt_of_lt_of_le (Heap.lt_size e) (I.ok.cab x c hfn hc)))).trans e1⟩
   . obtain ⟨o',e1⟩:=I.base.there b o e hx
     exact ⟨o',(hs.2 b (Nat.ne_of_lt (Nat.lt_of_lt_of_le (Heap.lt_size e) (I.ok.cab x c hfn hc)))).trans e1⟩
   . by_cases hj:j=i
     . subst hj
       rw [hi] at e1; cases e1
       rw [List.getElem?_set_self hiσ] at e2
       cases e2
       exact ⟨u,r,.inr ⟨.inl hk,c,hc,hc'⟩⟩
     . rw [List.getElem?_set_ne (Ne.symm hj)] at e2
       obtain ⟨u',r',q⟩:=hl j y v' e1 e2 e3
       refine ⟨u',r',?_⟩
       rcases q with q | ⟨k,c',e,z'⟩
       . exact .inl q
       . refine .inr ⟨k,c',e,z'.sameBut hs ?_⟩
         rintro rfl
         exact hj (vA hN e1 (I.ok.inj _ _ _ e hc▸hi))
   . by_cases hcc:c'=c
     . subst hcc; exact ⟨_,hc'⟩
     . obtain ⟨w2,z2⟩:=I.cell y c' e
       exact ⟨w2,z2.sameBut hs hcc⟩
   . obtain ⟨e,n,ne,nf,d⟩:=I.pin p hp
     refine ⟨(hs.2 p.1 ?_).trans e,n,ne,nf,d⟩
     intro q
     rw [q,hoc] at e
     have q':oc=p.2:=Option.some.inj e
     exact d w' (by rw [← q']; exact hocd)
theorem rJ {M:Model} {i:Nat} {x:Str} {v:V} {u:Value} {Q:Unit->Shared->Prop} (I:Inv X pins σ H s) (hN:X.N.Nodup) (hi:X.N[i]?=some x) (hx:Loc X.env.scope x) (r:RelV v u)
 (h:∀ s',Inv X pins (σ.set i (some v)) H s'->Q () s') (hf:X.fn x=true\/X.env.scope.names.lookup x=some .local:=by first | exact .inl rfl | exact .inr rfl | assumption):wpAny M A (storeName X.env x u) Q E s:=
 yH I hN hi hx r (fun s' I' _=>h s' I') hf
theorem Inv.call' {s':Shared} {ch:List Addr} (I:Inv X pins σ H s) (ho:s'.os=s.os) (u:Un (frs X.stack) ch H H' s.heap s'.heap) (hok:eF X.prog X.w H' s'.heap) (hg:AllBare s'.gens)
 (hch:∀ b∈ch,(b∈X.ex\/X.s₀.heap.objs.size<=b)/\b≠X.env.locals/\(∀ x c,X.env.cells.lookup x=some c->c≠b)/\∀ p∈X.pn++pins,p.1≠b):Inv X pins σ H' s':=by
 obtain ⟨h',g',d',t',o'⟩:=s'
 have e:o'=s.os:=ho
 subst e
 exact I.call (g':=g') (t':=t') (d':=d') u hok hg hch
end
noncomputable abbrev XK:=Value->Option Addr->Hp->Prop
noncomputable abbrev St:=List (Option V)
noncomputable abbrev VK:=V->Hp->Prop
noncomputable abbrev TE:=St->Hp->VK->Prop
noncomputable abbrev TT:=St->Hp->(Bool->Hp->Prop)->Prop
noncomputable abbrev TA:=St->Hp->(List V->Hp->Prop)->Prop
structure Ends where
 nx:St->Hp->Prop
 rt:VK
 bk:St->Hp->Prop:=fun _ _=>False
 ct:St->Hp->Prop:=fun _ _=>False
noncomputable abbrev TS:=Ends->St->Hp->Prop
noncomputable def EP (X:Cx) (pins:List (Addr×Obj)) (σ:St) (Q:VK) (u:Value) (s':Shared):Prop:=∃ v H',Inv X pins σ H' s'/\RelV v u/\Q v H'
noncomputable def TP (X:Cx) (pins:List (Addr×Obj)) (σ:St) (Q:Bool->Hp->Prop) (b:Bool) (s':Shared):Prop:=∃ H',Inv X pins σ H' s'/\Q b H'
noncomputable def AP (X:Cx) (pins:List (Addr×Obj)) (σ:St) (Q:List V->Hp->Prop) (us:List Value) (s':Shared):Prop:=∃ vs H',Inv X pins σ H' s'/\Vals vs us/\Q vs H'
noncomputable def SP (X:Cx) (pins:List (Addr×Obj)) (D:Ends) (f:Flow) (s':Shared):Prop:=
 match f with
 | .next=>∃ σ' H',Inv X pins σ' H' s'/\D.nx σ' H'
 | .brk=>∃ σ' H',Inv X pins σ' H' s'/\D.bk σ' H'
 | .cont=>∃ σ' H',Inv X pins σ' H' s'/\D.ct σ' H'
 | .ret u=>∃ v σ' H',Inv X pins σ' H' s'/\RelV v u/\D.rt v H'
noncomputable def PE (X:Cx) (e:Expr) (t:TE):Prop:=
 ∀ (pins:List (Addr×Obj)) (s:Shared) (σ:St) (H:Hp) (Q:VK),Inv X pins σ H s->t σ H Q->wpAny (model X.prog X.w) X.A (eval e X.env) (EP X pins σ Q) X.xe s
noncomputable def PT (X:Cx) (e:Expr) (t:TT):Prop:=
 ∀ (pins:List (Addr×Obj)) (s:Shared) (σ:St) (H:Hp) (Q:Bool->Hp->Prop),Inv X pins σ H s->t σ H Q->wpAny (model X.prog X.w) X.A (isTrue e X.env (eval e X.env)) (TP X pins σ Q) X.xe s
noncomputable def PW (X:Cx) (e:Expr) (t:TT):Prop:=
 ∀ (whole:Sem Value) (pins:List (Addr×Obj)) (s:Shared) (σ:St) (H:Hp) (Q:Bool->Hp->Prop),Inv X pins σ H s->t σ H Q->wpAny (model X.prog X.w) X.A (isTrue e X.env whole) (TP X pins σ Q) X.xe s
theorem PW.pt {X:Cx} {e:Expr} {t:TT} (h:PW X e t):PT X e t:=h _
noncomputable def PA (X:Cx) (es:List Expr) (t:TA):Prop:=
 ∀ (pos:Pos) (pins:List (Addr×Obj)) (s:Shared) (σ:St) (H:Hp) (Q:List V->Hp->Prop),Inv X pins σ H s->t σ H Q->wpAny (model X.prog X.w) X.A (spliced (backTo pos (starEach es X.env))) (AP X pins σ Q) X.xe s
noncomputable def PS (X:Cx) (st:Stmt) (t:TS):Prop:=
 ∀ (pins:List (Addr×Obj)) (s:Shared) (σ:St) (H:Hp) (D:Ends),Inv X pins σ H s->t D σ H->wpAny (model X.prog X.w) X.A (exec st X.env) (SP X pins D) X.xe s
noncomputable def dg (X:Cx) (st:List Stmt) (t:TS):Prop:=
 ∀ (pins:List (Addr×Obj)) (s:Shared) (σ:St) (H:Hp) (D:Ends),Inv X pins σ H s->t D σ H->wpAny (model X.prog X.w) X.A (execs st X.env) (SP X pins D) X.xe s
theorem bu {α:Type} {t:Sem α} {Q Q':α->Shared->Prop} {M:Model} (h:wpAny M A t Q E s) (hQ:∀ a s,Q a s->Q' a s):wpAny M A t Q' E s:=wpAny_mono h hQ fun _ _ x=>x
section
variable {X:Cx}
theorem bin {a b:Expr} {ta tb:TE} (ha:PE X a ta) (hb:PE X b tb) {σ:St} {H:Hp} {R:V->V->Hp->Prop} (I:Inv X pins σ H s) (h:ta σ H fun x H1=>tb σ H1 fun y H2=>R x y H2)
 {α:Type} {Q:α->Shared->Prop} {f:Value->Value->Sem α}
 (hf:∀ v u s2 x y H2,Inv X pins σ H2 s2->RelV x v->RelV y u->R x y H2->wpAny (model X.prog X.w) X.A (f v u) Q X.xe s2):
 wpAny (model X.prog X.w) X.A (eval a X.env) (fun v s₁=>wpAny (model X.prog X.w) X.A (eval b X.env) (fun u s₂=>wpAny (model X.prog X.w) X.A (f v u) Q X.xe s₂) X.xe s₁) X.xe s:=by
 refine bu (ha pins s σ H _ I h) fun v s1 ⟨x,H1,I1,r1,q1⟩=>?_
 refine bu (hb pins s1 σ H1 _ I1 q1) fun u s2 ⟨y,H2,I2,r2,q2⟩=>?_
 exact hf v u s2 x y H2 I2 r1 r2 q2
noncomputable def qp (i:Nat):TE:=fun σ H Q=>∃ v,σ[i]?=some (some v)/\Q v H
noncomputable def tC (v:V):TE:=fun _ H Q=>Q v H
theorem Qy {i:Nat} {x:Str} {pos:Pos} (hN:X.N[i]?=some x) (hv:HF X.env.scope x) (hd:(x==("__debug__" : Str))=false:=by decide) (hcd:(x==("__classdict__" : Str))=false:=by decide):PE X (.Name x pos) (qp i):=by
 intro pins s σ H Q I h
 obtain ⟨v,e,h⟩:=h
 obtain ⟨m,hn,hl⟩:=I.loc
 obtain ⟨u,r,l⟩:=hl i x v hN e hv
 have fin:EP X pins σ Q u s:=⟨v,H,I,r,h⟩
 rcases l with ⟨hk,hm⟩ | ⟨hk,c,hc,hcell⟩
 . exact wpAny_Name (wpAny_loadName_local I.ok.kind hk hn hm fin) hd
 . rcases hk with hk | hk
   . exact wpAny_Name (wpAny_loadName_cell I.ok.kind hk hc hcell fin) hd
   . exact wpAny_Name (wpAny_loadName_free I.ok.kind hk hc hcell fin hcd) hd
theorem Qz {i j pos}:PE X (.Constant (.int i) j pos) (tC (.int i)):=fun _ _ _ H _ I h=>wpAny_Constant_int ⟨.int i,H,I.tok _,⟨_,rfl⟩,h⟩
theorem uM {b j pos}:PE X (.Constant (.bool b) j pos) (tC (.bl b)):=fun _ _ _ H _ I h=>Constant_bool ⟨.bl b,H,I,rfl,h⟩
theorem QB {j pos}:PE X (.Constant .none j pos) (tC .non):=fun _ _ _ H _ I h=>Constant_none ⟨.non,H,I,rfl,h⟩
theorem HH {x j pos}:PE X (.Constant (.str x) j pos) (tC (.str x)):=fun _ _ _ H _ I h=>Calls.Constant_str ⟨.str x,H,I.tok _,⟨_,rfl⟩,h⟩
noncomputable def Gl (X:Cx) (x:Str):Prop:=X.env.kindOf x=some .globalImplicit
theorem nY {σ:St} {H:Hp} {x:Str} {u:Value} {pos:Pos} {Q:Value->Shared->Prop} (I:Inv X pins σ H s) (hg:Gl X x) (hm:X.mg x=some u) (h:Q u s)
 (hd:(x==("__debug__" : Str))=false:=by decide):wpAny (model X.prog X.w) X.A (eval (.Name x pos) X.env) Q E s:=
 Calls.Name_function_global I.ok.kind hg (Calls.loadGlobal_global (by rw [I.ok.glob]; exact I.mod.glob.keeps I.bk) hm h) hd
theorem qH {σ:St} {H:Hp} {x:Str} {u:Value} {pos:Pos} {Q:Value->Shared->Prop} (I:Inv X pins σ H s) (hg:Gl X x) (hm:X.mg x=none) (hv:bootBuiltins x=some u) (h:Q u s)
 (hn:x ≠ "__name__" := by decide) (hd:(x==("__debug__" : Str))=false:=by decide):wpAny (model X.prog X.w) X.A (eval (.Name x pos) X.env) Q E s:=by
 obtain ⟨mb,h1,h2⟩:=I.mod.blt
 exact Calls.Name_function_global I.ok.kind hg (Calls.loadGlobal_builtin (by rw [I.ok.glob]; exact I.mod.glob.keeps I.bk) hm (by rw [I.ok.blt]; exact h1.keeps I.bk) ((h2 x hn).trans hv) h) hd
theorem jU {x:Str} {v:V} {u:Value} {pos:Pos} (hg:Gl X x) (hm:X.mg x=some u) (r:RelV v u) (hd:(x==("__debug__" : Str))=false:=by decide):PE X (.Name x pos) (tC v):=
 fun _ _ _ H _ I h=>nY I hg hm ⟨v,H,I,r,h⟩ hd
theorem Od {x:Str} {v:V} {u:Value} {pos:Pos} (hg:Gl X x) (hm:X.mg x=none) (hv:bootBuiltins x=some u) (r:RelV v u) (hn:x ≠ "__name__" := by decide) (hd:(x==("__debug__" : Str))=false:=by decide):PE X (.Name x pos) (tC v):=
 fun _ _ _ H _ I h=>qH I hg hm hv ⟨v,H,I,r,h⟩ hn hd
variable {a b:Expr} {ta tb:TE} {pos:Pos}
variable {tA tB':TT} {rest:List Expr}
noncomputable def QC (t u:TT):TT:=fun σ H Q=>t σ H fun c H1=>if c=true then u σ H1 Q else Q false H1
noncomputable def Ut (t u:TT):TT:=fun σ H Q=>t σ H fun c H1=>if c=true then Q true H1 else u σ H1 Q
noncomputable def U4 (t:TT):TT:=fun σ H Q=>t σ H fun c H1=>Q (!c) H1
theorem Oe (ha:PT X a tA):PW X (.BoolOp .And [a] pos) tA:=by
 intro wh pins s σ H Q I h
 refine isTrue_and (bu (ha pins s σ H Q I h) fun c s1 e=>?_)
 cases c with
 | true=>exact isTrue_and_nil e
 | false=>exact e
theorem QD (ha:PT X a tA):PW X (.BoolOp .Or [a] pos) tA:=by
 intro wh pins s σ H Q I h
 refine isTrue_or (bu (ha pins s σ H Q I h) fun c s1 e=>?_)
 cases c with
 | false=>exact isTrue_or_nil e
 | true=>exact e
theorem QF (ha:PT X a tA) (hb:PW X (.BoolOp .And (b::rest) pos) tB'):PW X (.BoolOp .And (a::b::rest) pos) (QC tA tB'):=by
 intro wh pins s σ H Q I h
 refine isTrue_and (bu (ha pins s σ H _ I h) fun c s1 ⟨H1,I1,q1⟩=>?_)
 cases c with
 | true=>exact hb wh pins s1 σ H1 Q I1 q1
 | false=>exact ⟨H1,I1,q1⟩
theorem Tz (ha:PT X a tA) (hb:PW X (.BoolOp .Or (b::rest) pos) tB'):PW X (.BoolOp .Or (a::b::rest) pos) (Ut tA tB'):=by
 intro wh pins s σ H Q I h
 refine isTrue_or (bu (ha pins s σ H _ I h) fun c s1 ⟨H1,I1,q1⟩=>?_)
 cases c with
 | true=>exact ⟨H1,I1,q1⟩
 | false=>exact hb wh pins s1 σ H1 Q I1 q1
theorem QG (ha:PT X a tA):PT X (.UnaryOp .Not a pos) (U4 tA):=by
 intro pins s σ H Q I h
 exact isTrue_not (ha pins s σ H (fun c H1=>Q (!c) H1) I h)
noncomputable def TV (ta tb:TE):TE:=fun σ H Q=>ta σ H fun x H1=>∃ c,x=.bl c/\if c=true then tb σ H1 Q else Q (.bl false) H1
theorem QH {op} {t:TE} (h:PE X a t):PE X (.BoolOp op [a] pos) t:=fun pins s σ H Q I hw=>BoolOp_one (h pins s σ H Q I hw)
theorem QJ (ha:PE X a ta) (hb:PE X (.BoolOp .And (b::rest) pos) tb):PE X (.BoolOp .And (a::b::rest) pos) (TV ta tb):=by
 intro pins s σ H Q I h
 refine BoolOp_and (bu (ha pins s σ H _ I h) fun v s1 ⟨x,H1,I1,r1,q1⟩=>?_)
 obtain ⟨c,rfl,q1⟩:=q1
 cases r1
 refine wpAny_truthy_bool ?_
 cases c with
 | true=>exact hb pins s1 σ H1 Q I1 q1
 | false=>exact ⟨.bl false,H1,I1,rfl,q1⟩
noncomputable def VD (t:TT) (ta tb:TE):TE:=fun σ H Q=>t σ H fun c H1=>if c=true then ta σ H1 Q else tb σ H1 Q
theorem Kl {c:Expr} (hc:PT X c tA) (ha:PE X a ta) (hb:PE X b tb):PE X (.IfExp c a b pos) (VD tA ta tb):=by
 intro pins s σ H Q I h
 refine wpAny_IfExp (bu (hc pins s σ H _ I h) fun d s1 ⟨H1,I1,q1⟩=>?_)
 cases d with
 | true=>exact ha pins s1 σ H1 Q I1 q1
 | false=>exact hb pins s1 σ H1 Q I1 q1
end
noncomputable def bQ (K:FG) (H:Hp) (a:Addr) (xs:List V):Prop:=
 Rd H a (.lst xs)\/
  ∃ (o:Obj) (its:Array Value) (n:Nat),K.lookup a=some o/\o.cls=.type "list" /\ o.dict=none/\o.data=.seq its n/\its.size<=sizeLine/\Vals xs its.toList
noncomputable def cG (K:FG) (H:Hp) (a:Addr) (xs:List V):Prop:=
 Rd H a (.tup xs)\/
  ∃ (o:Obj) (its:Array Value) (n:Nat),K.lookup a=some o/\o.cls=.type "tuple" /\ o.data=.seq its n/\its.size<=sizeLine/\Vals xs its.toList
noncomputable def U5:Value->Option V
 | .none=>some .non
 | .bool b=>some (.bl b)
 | .int i _=>some (.int i)
 | .str x _=>some (.str x)
 | .bytes b _=>some (.byt b)
 | .float b _=>some (.flt b)
 | .ref a=>some (.ref a)
 | .type n=>some (.ty n)
 | _=>none
theorem RelV.abs {x:V} {u:Value} (r:RelV x u):U5 u=some x:=by
 cases x with
 | non=>cases r; rfl
 | bl _=>cases r; rfl
 | int _=>obtain ⟨t,rfl⟩:=r; rfl
 | str _=>obtain ⟨t,rfl⟩:=r; rfl
 | byt _=>obtain ⟨t,rfl⟩:=r; rfl
 | flt _=>obtain ⟨t,rfl⟩:=r; rfl
 | ref _=>cases r; rfl
 | ty _=>cases r; rfl
theorem RelV.inj {x y:V} {u:Value} (r:RelV x u) (q:RelV y u):x=y:=Option.some.inj (r.abs.symm.trans q.abs)
theorem Vals.inj:∀ {xs ys:List V} {us:List Value},Vals xs us->Vals ys us->xs=ys
 | _,_,_,.nil,.nil=>rfl
 | _,_,_,.cons r t,.cons r' t'=>by rw [r.inj r',Vals.inj t t']
section
variable {X:Cx} {pins:List (Addr×Obj)} {σ:St} {H:Hp} {s:Shared} {a:Addr} {xs ys:List V}
theorem bQ.of {K:FG} (h:H a=some (.lst xs)):bQ K H a xs:=.inl (.inl h)
theorem cG.of {K:FG} (h:H a=some (.tup xs)):cG K H a xs:=.inl (.inl h)
theorem Inv.list (I:Inv X pins σ H s) (h:bQ X.K H a xs):∃ its:List Value,Vals xs its/\PlainL s.heap a its.toArray/\xs.length<=sizeLine:=by
 rcases h with h | ⟨o,its,n,hk,hc,hd,hs,hz,r⟩
 . obtain ⟨z,its,n,r,e⟩:=h.ok I.hok
   exact ⟨its,r,⟨_,n,e,rfl,rfl,rfl⟩,z⟩
 . refine ⟨its.toList,r,⟨o,n,I.kIn a o hk,hc,hd,by simpa using hs⟩,?_⟩
   have e:=r.length
   simp only [Array.length_toList] at e
   omega
theorem Inv.tuple (I:Inv X pins σ H s) (h:cG X.K H a xs):∃ its:List Value,Vals xs its/\IsTup s.heap a its.toArray/\xs.length<=sizeLine:=by
 rcases h with h | ⟨o,its,n,hk,hc,hs,hz,r⟩
 . obtain ⟨z,its,r,p⟩:=h.ok I.hok
   exact ⟨its,r,p,z⟩
 . refine ⟨its.toList,r,⟨o,I.kIn a o hk,hc,n,by simpa using hs⟩,?_⟩
   have e:=r.length
   simp only [Array.length_toList] at e
   omega
theorem Inv.list_inj (I:Inv X pins σ H s) (h:bQ X.K H a xs) (h':bQ X.K H a ys):xs=ys:=by
 obtain ⟨its,r,⟨o,n,e,_,_,d⟩,_⟩:=I.list h
 obtain ⟨its',r',⟨o',n',e',_,_,d'⟩,_⟩:=I.list h'
 rw [e] at e'; cases e'
 rw [d] at d'
 injection d' with d1 _
 have:its=its':=by simpa using congrArg Array.toList d1
 subst this
 exact r.inj r'
theorem Inv.tuple_inj (I:Inv X pins σ H s) (h:cG X.K H a xs) (h':cG X.K H a ys):xs=ys:=by
 obtain ⟨its,r,⟨o,e,_,n,d⟩,_⟩:=I.tuple h
 obtain ⟨its',r',⟨o',e',_,n',d'⟩,_⟩:=I.tuple h'
 rw [e] at e'; cases e'
 rw [d] at d'
 injection d' with d1 _
 have:its=its':=by simpa using congrArg Array.toList d1
 subst this
 exact r.inj r'
end
noncomputable abbrev Cx.wish (X:Cx) (E:Value->Shared->Prop):Cx:={ X with xe:=E }
noncomputable abbrev Cx.nox (X:Cx):Cx:=X.wish fun _ _=>False
theorem Cx.Ok.wish {X:Cx} (ok:X.Ok) (E:Value->Shared->Prop):(X.wish E).Ok:=
 ⟨ok.mod,ok.kind,ok.glob,ok.blt,ok.above,ok.inj,ok.has,ok.cab,ok.hd,ok.frames,ok.stk,ok.exf,ok.bs,ok.bsz,ok.noex,ok.exfs,ok.funs,ok.frf⟩
theorem Cx.Ok.unwish {X:Cx} (ok:(X.wish E).Ok):X.Ok:=
 ⟨ok.mod,ok.kind,ok.glob,ok.blt,ok.above,ok.inj,ok.has,ok.cab,ok.hd,ok.frames,ok.stk,ok.exf,ok.bs,ok.bsz,ok.noex,ok.exfs,ok.funs,ok.frf⟩
section
variable {X:Cx} {pins:List (Addr×Obj)} {σ:St} {H:Hp} {s:Shared} {E:Value->Shared->Prop}
theorem Inv.wish (I:Inv X pins σ H s) (E:Value->Shared->Prop):Inv (X.wish E) pins σ H s:=⟨I.ok.wish E,I.os,I.bare,I.base,I.loc,I.cell,I.free,I.freeC,I.pin,I.hok,I.len⟩
theorem Inv.unwish (I:Inv (X.wish E) pins σ H s):Inv X pins σ H s:=⟨I.ok.unwish,I.os,I.bare,I.base,I.loc,I.cell,I.free,I.freeC,I.pin,I.hok,I.len⟩
theorem SP.unwish {D:Ends} {f:Flow} {s':Shared} (h:SP (X.wish E) pins D f s'):SP X pins D f s':=by
 cases f with
 | next=>obtain ⟨σ',H',I,q⟩:=h; exact ⟨σ',H',I.unwish,q⟩
 | brk=>obtain ⟨σ',H',I,q⟩:=h; exact ⟨σ',H',I.unwish,q⟩
 | cont=>obtain ⟨σ',H',I,q⟩:=h; exact ⟨σ',H',I.unwish,q⟩
 | ret u=>obtain ⟨v,σ',H',I,r,q⟩:=h; exact ⟨v,σ',H',I.unwish,r,q⟩
theorem dg.nox {st:List Stmt} {t:TS} (h:dg X.nox st t):dg X st t:=fun pins s σ H D I hw=>
 wpAny_mono (h pins s σ H D (I.wish _) hw) (fun _ _ q=>q.unwish) fun _ _ z=>False.elim z
end
section
variable {X:Cx} {st:Stmt} {rest:List Stmt} {t u:TS} {e:Expr} {te:TE} {pos:Pos}
noncomputable def TX:TS:=fun D σ H=>D.nx σ H
noncomputable def U6 (t u:TS):TS:=fun D σ H=>t { D with nx:=u D } σ H
theorem Dk:dg X [] TX:=fun _ _ σ H _ I h=>wpAny_execs_nil ⟨σ,H,I,h⟩
theorem Am (h1:PS X st t) (h2:dg X rest u):dg X (st::rest) (U6 t u):=by
 intro pins s σ H D I h
 refine wpAny_execs_cons (bu (h1 pins s σ H { D with nx:=u D } I h) fun f s1 q=>?_)
 cases f with
 | next=>
  obtain ⟨σ',H',I',q⟩:=q
  exact h2 pins s1 σ' H' D I' q
 | ret v=>exact q
 | brk=>exact q
 | cont=>exact q
theorem Dl (h1:PS X st t):dg X [st] t:=by
 intro pins s σ H D I h
 refine wpAny_execs_cons (bu (h1 pins s σ H D I h) fun f s1 q=>?_)
 cases f with
 | next=>exact wpAny_execs_nil q
 | ret v=>exact q
 | brk=>exact q
 | cont=>exact q
theorem Inv.quiet {σ:St} {H:Hp} (I:Inv X pins σ H s):interactive X.env=false:=by simp [interactive,I.ok.kind]
noncomputable def zZ (te:TE):TS:=fun D σ H=>te σ H fun _ H1=>D.nx σ H1
theorem nZ (he:PE X e te) (hs:swapsWith e none pos.line X.env=pure false:=by rfl):PS X (.Expr e pos) (zZ te):=by
 intro pins s σ H D I h
 exact wpAny_Expr_any (bu (he pins s σ H _ I h) fun v s1 ⟨x,H1,I1,r1,q1⟩=>⟨σ,H1,I1,q1⟩) I.quiet hs
noncomputable def U7 (te:TE):TS:=fun D σ H=>te σ H D.rt
theorem HJ (he:PE X e te):PS X (.Return (some e) pos) (U7 te):=by
 intro pins s σ H D I h
 exact wpAny_Return_some (bu (he pins s σ H _ I h) fun v s1 ⟨x,H1,I1,r1,q1⟩=>⟨x,σ,H1,I1,r1,q1⟩)
noncomputable def U8 (c:TT) (t u:TS):TS:=fun D σ H=>c σ H fun b H1=>if b=true then t D σ H1 else u D σ H1
theorem MK {c:Expr} {a b:List Stmt} {tc:TT} (hc:PT X c tc) (ha:dg X a t) (hb:dg X b u):PS X (.If c a b pos) (U8 tc t u):=by
 intro pins s σ H D I h
 refine wpAny_If (bu (hc pins s σ H _ I h) fun d s1 ⟨H1,I1,q1⟩=>?_)
 cases d with
 | true=>exact ha pins s1 σ H1 D I1 q1
 | false=>exact hb pins s1 σ H1 D I1 q1
end
noncomputable abbrev TG:=V->St->Hp->(St->Hp->Prop)->Prop
noncomputable abbrev tB:=List V->St->Hp->(St->Hp->Prop)->Prop
noncomputable def PG (X:Cx) (target:Expr) (t:TG):Prop:=
 ∀ (pins:List (Addr×Obj)) (s:Shared) (σ:St) (H:Hp) (v:V) (u:Value) (Q:St->Hp->Prop),Inv X pins σ H s->RelV v u->t v σ H Q->
  wpAny (model X.prog X.w) X.A (assign target X.env u) (fun _ s'=>∃ σ' H',Inv X pins σ' H' s'/\Q σ' H') X.xe s
noncomputable def HN (X:Cx) (ts:List Expr) (t:tB):Prop:=
 ∀ (pins:List (Addr×Obj)) (s:Shared) (σ:St) (H:Hp) (vs:List V) (us:List Value) (Q:St->Hp->Prop),Inv X pins σ H s->Vals vs us->t vs σ H Q->
  wpAny (model X.prog X.w) X.A (assignInOrder ((assignEach ts X.env).map (·.2)) us) (fun _ s'=>∃ σ' H',Inv X pins σ' H' s'/\Q σ' H') X.xe s
noncomputable abbrev Km:=V->V->V->Hp->(Hp->Prop)->Prop
noncomputable def Ko (X:Cx) (t:Km):Prop:=
 ∀ (pins:List (Addr×Obj)) (s:Shared) (σ:St) (H:Hp) (o i v:V) (ov iv u:Value) (Q:Hp->Prop),Inv X pins σ H s->RelV o ov->RelV i iv->RelV v u->t o i v H Q->
  wpAny (model X.prog X.w) X.A (setItem ov iv u) (fun _ s'=>∃ H',Inv X pins σ H' s'/\Q H') X.xe s
section
variable {X:Cx} {pos:Pos}
noncomputable def z8 (i:Nat):TG:=fun v σ H Q=>Q (σ.set i (some v)) H
theorem Dm {i:Nat} {x:Str} (hN:X.N.Nodup) (hi:X.N[i]?=some x) (hx:Loc X.env.scope x) (hf:X.fn x=true\/X.env.scope.names.lookup x=some .local:=by first | exact .inl rfl | exact .inr rfl | assumption):PG X (.Name x pos) (z8 i):=by
 intro pins s σ H v u Q I r h
 exact wpAny_assign_Name (rJ I hN hi hx r (fun s' I'=>⟨_,H,I',h⟩) hf)
noncomputable def QK:tB:=fun vs σ H Q=>vs=[]/\Q σ H
noncomputable def MN (t:TG) (u:tB):tB:=fun vs σ H Q=>∃ v r,vs=v::r/\t v σ H fun σ' H'=>u r σ' H' Q
theorem lU:HN X [] QK:=by
 intro pins s σ H vs us Q I r h
 obtain ⟨e,h⟩:=h
 subst e
 cases r
 exact assignInOrder_nil ⟨σ,H,I,h⟩
theorem dX {e:Expr} {es:List Expr} {t:TG} {u:tB} (h1:PG X e t) (h2:HN X es u)
 (hs:(assignEach (e::es) X.env).map (·.2)=assign e X.env::(assignEach es X.env).map (·.2):=by rfl):HN X (e::es) (MN t u):=by
 intro pins s σ H vs us Q I r h
 obtain ⟨v,vr,e1,h⟩:=h
 subst e1
 cases r with
 | cons r rr=>
  rw [hs]
  refine assignInOrder_cons (bu (h1 pins s σ H _ _ _ I r h) fun _ s1 ⟨σ1,H1,I1,q1⟩=>?_)
  exact h2 pins s1 σ1 H1 _ _ Q I1 rr q1
noncomputable def U9 (K:FG) (n:Nat) (t:tB):TG:=fun v σ H Q=>∃ a xs,v=.ref a/\cG K H a xs/\xs.length=n/\t xs σ H Q
theorem QL {es:List Expr} {k:Nat} {t:tB} {n:Nat} (hc:X.calm=true) (h:HN X es t)
 (hn:(assignEach es X.env).length=n:=by rfl) (hst:(assignEach es X.env).findIdx? (·.1)=none:=by rfl):PG X (.Tuple es k pos) (U9 X.K n t):=by
 intro pins s σ H v u Q I r hw
 obtain ⟨a,xs,e1,hq,hl,hw⟩:=hw
 subst e1
 cases r
 obtain ⟨its,rv,ht,hz⟩:=I.tuple hq
 refine assign_Tuple_tuple (I.ok.hd hc) ht (by simp [hn,← hl,rv.length]) hst fun h' hx=>?_
 have I1:Inv X pins σ H { s with heap:=h' }:=I.kept (t':=s.toks) fun b o e=>hx b o (Nat.ne_of_lt (Heap.lt_size e)) e
 exact h pins _ σ H xs _ Q I1 (by simpa using rv) hw
noncomputable def Fy (to ti:TE) (t:Km):TG:=fun v σ H Q=>to σ H fun o H1=>ti σ H1 fun i H2=>t o i v H2 fun H3=>Q σ H3
theorem v9 {o i:Expr} {to ti:TE} {t:Km} (ho:PE X o to) (hi:PE X i ti) (hs:Ko X t)
 (ha:∀ v,assign (.Subscript o i pos) X.env v=(do
   let ov ← holding [v] (eval o X.env)
   let iv ← holding [v,ov] (eval i X.env)
   standAt pos
   holding [v,ov,iv] (setItem ov iv v)
   release [v,ov,iv] []):=by intro _; rfl):PG X (.Subscript o i pos) (Fy to ti t):=by
 intro pins s σ H v u Q I r h
 rw [ha]
 refine wpAny_bind (wpAny_holding (bu (ho pins s σ H _ I h) fun ov s1 ⟨x,H1,I1,r1,q1⟩=>?_))
 refine wpAny_bind (wpAny_holding (bu (hi pins s1 σ H1 _ I1 q1) fun iv s2 ⟨y,H2,I2,r2,q2⟩=>?_))
 refine wpAny_bind (wpAny_standAt (wpAny_bind (wpAny_holding (bu (hs pins s2 σ H2 x y v ov iv u _ I2 r1 r2 r q2) fun _ s3 ⟨H3,I3,q3⟩=>?_))))
 exact wpAny_release ⟨σ,H3,I3,q3⟩
noncomputable def An (te:TE) (g:TG):TS:=fun D σ H=>te σ H fun x H1=>g x σ H1 D.nx
theorem tO {tg e:Expr} {te:TE} {g:TG} (he:PE X e te) (hg:PG X tg g) (hs:swapsWithSole [tg] e pos.line X.env=pure false:=by rfl) (hw:swappedStores [tg] e X.env=pure none:=by rfl)
 (h1:(assignEach [tg] X.env).map (·.2)=[assign tg X.env]:=by rfl):PS X (.Assign [tg] e pos) (An te g):=by
 intro pins s σ H D I h
 refine wpAny_Assign_stores (bu (he pins s σ H _ I h) fun v s1 ⟨x,H1,I1,r1,q1⟩=>?_) hs hw
 rw [h1]
 exact bu (hg pins s1 σ H1 x v _ I1 r1 q1) fun _ s2 q=>q
theorem QM {i:Nat} {x:Str} {e:Expr} {te:TE} {pos':Pos} (hN:X.N.Nodup) (hi:X.N[i]?=some x) (hx:Loc X.env.scope x) (he:PE X e te) (hs:swapsWith e (some (.Name x pos')) pos.line X.env=pure false:=by rfl) (hf:X.fn x=true\/X.env.scope.names.lookup x=some .local:=by first | exact .inl rfl | exact .inr rfl | assumption):
 PS X (.Assign [.Name x pos'] e pos) (An te (z8 i)):=by
 intro pins s σ H D I h
 refine wpAny_Assign_Name (bu (he pins s σ H _ I h) fun v s1 ⟨y,H1,I1,r1,q1⟩=>?_) hs
 exact rJ I1 hN hi hx r1 (fun s2 I2=>⟨_,H1,I2,q1⟩) hf
noncomputable def QQ (c:TT) (tb:TS):TS:=fun D σ H=>∃ W:Nat->St->Hp->Prop,(∃ m,W m σ H)/\∀ m σ H,W m σ H->
 c σ H fun b H1=>if b=true then ∃ N:St->Hp->Prop,(∀ σ' H',N σ' H'->∃ m',m'<m/\W m' σ' H')/\tb { D with nx:=N,ct:=N,bk:=D.nx } σ H1 else D.nx σ H1
theorem Kp {c:Expr} {body:List Stmt} {tc:TT} {tb:TS} (hp:PassesOwn (model X.prog X.w) X.A X.env X.xe) (hc:PT X c tc) (hb:dg X body tb):PS X (.While c body [] pos) (QQ tc tb):=by
 intro pins s σ H D I h
 obtain ⟨W,⟨m0,w0⟩,turn⟩:=h
 refine wpAny_While (codeAny_whileLoop (fun n s'=>∃ σ' H',Inv X pins σ' H' s'/\W n σ' H') ?_ m0 ⟨σ,H,I,w0⟩)
 rintro n s1 ⟨σ1,H1,I1,w1⟩
 refine wpAny_passesOwn hp (bu (hc pins s1 σ1 H1 _ I1 (turn n σ1 H1 w1)) fun b s2 ⟨H2,I2,q2⟩=>?_)
 cases b with
 | true=>
  obtain ⟨N,hN,q2⟩:=q2
  rw [if_pos rfl]
  refine wpAny_passesOwn hp (bu (hb pins s2 σ1 H2 _ I2 q2) fun f s3 q3=>?_)
  cases f with
  | next=>
   obtain ⟨σ3,H3,I3,n3⟩:=q3
   obtain ⟨m',hm,w3⟩:=hN σ3 H3 n3
   exact ⟨m',hm,σ3,H3,I3,w3⟩
  | cont=>
   obtain ⟨σ3,H3,I3,n3⟩:=q3
   obtain ⟨m',hm,w3⟩:=hN σ3 H3 n3
   exact ⟨m',hm,σ3,H3,I3,w3⟩
  | brk=>exact q3
  | ret v=>exact q3
 | false=>
  rw [if_neg Bool.false_ne_true]
  exact wpAny_execs_nil ⟨σ1,H2,I2,q2⟩
end
structure It where
 go:Nat->Hp->Prop
 yld:Nat->Hp->V->Hp->Prop
 stop:Nat->Hp->Prop
noncomputable def lE (X:Cx) (pins:List (Addr×Obj)) (H:Hp) (b:Addr):Prop:=
 H b=none/\b≠X.env.locals/\b∉X.fs/\(b∈X.ex\/X.s₀.heap.objs.size<=b)/\(∀ x c,X.env.cells.lookup x=some c->c≠b)/\∀ p∈X.pn++pins,p.1≠b
theorem Inv.fpOk {X:Cx} {σ:St} {H H':Hp} {b:Addr} (I:Inv X pins σ H s) (hb:s.heap.objs.size<=b) (hn:H' b=none):lE X pins H' b:=by
 refine ⟨hn,Nat.ne_of_gt (Nat.lt_of_lt_of_le I.lt hb),I.nofs hb,.inr (Nat.le_trans I.sz hb),fun x c e z=>?_,fun p hp z=>?_⟩
 . obtain ⟨v,q⟩:=I.cell x c e
   exact absurd (Nat.lt_of_lt_of_le q.lt (by rw [z]; exact hb)) (Nat.lt_irrefl _)
 . exact absurd (Nat.lt_of_lt_of_le (Heap.lt_size (I.pin p hp).1) (by rw [z]; exact hb)) (Nat.lt_irrefl _)
structure Turn (P:Program) (w:World) (K:FG) (tg:Expr) (J:It) (fp:List Addr) (it:Addr) (tn:Nat->Heap->Prop):Prop where
 mem:it∈fp
 obj:∀ i h,tn i h->∀ b∈fp,∃ o,h.get? b=some o/\∀ v,o.data≠.cell v
 keep:∀ i h h',tn i h->(∀ b∈fp,∀ o,h.get? b=some o->h'.get? b=some o)->tn i h'
 item:∀ (X:Cx),X.prog=P->X.w=w->X.K=K->X.calm=true->∀ (i:Nat) (pins:List (Addr×Obj)) (s:Shared) (σ:St) (H:Hp) (E:Value->Shared->Prop),Inv X pins σ H s->(∀ b∈fp,lE X pins H b)->tn i s.heap->J.go i H->
  wpAny (model P w) X.A (pyNext (.ref it)) (fun r s1=>∃ u,r=some u/\
   wpAny (model P w) X.A (letOwnedTupleGo tg (.ref it) u) (fun _ s2=>∃ x H',Inv X pins σ H' s2/\RelV x u/\J.yld i H x H'/\tn (i+1) s2.heap/\∀ b∈fp,H' b=none) E s1) E s
 done:∀ (X:Cx),X.prog=P->X.w=w->X.K=K->X.calm=true->∀ (i:Nat) (pins:List (Addr×Obj)) (s:Shared) (σ:St) (H:Hp) (E:Value->Shared->Prop),Inv X pins σ H s->(∀ b∈fp,lE X pins H b)->tn i s.heap->J.stop i H->
  wpAny (model P w) X.A (pyNext (.ref it)) (fun r s1=>r=none/\Inv X pins σ H s1) E s
 self:∀ (A:Around) (i:Nat) (s:Shared) (Q:Value->Shared->Prop) (E:Value->Shared->Prop),tn i s.heap->Q (.ref it) s->wpAny (model P w) A (pyIter (.ref it)) Q E s
noncomputable abbrev TI:=St->Hp->(It->Hp->Prop)->Prop
noncomputable def PIE (X:Cx) (pins:List (Addr×Obj)) (σ:St) (tg:Expr) (R:It->Hp->Prop) (itv:Value) (s2:Shared):Prop:=
 ∃ (it:Addr) (fp:List Addr) (tn:Nat->Heap->Prop) (J:It) (H':Hp),itv=.ref it/\Inv X pins σ H' s2/\Turn X.prog X.w X.K tg J fp it tn/\tn 0 s2.heap/\(∀ b∈fp,lE X pins H' b)/\R J H'
noncomputable def PI (X:Cx) (tg iter:Expr) (wi:TI):Prop:=
 ∀ (pins:List (Addr×Obj)) (s:Shared) (σ:St) (H:Hp) (R:It->Hp->Prop),Inv X pins σ H s->wi σ H R->
  wpAny (model X.prog X.w) X.A (eval iter X.env) (fun v s1=>wpAny (model X.prog X.w) X.A (pyIter v) (PIE X pins σ tg R) X.xe s1) X.xe s
theorem wg {M:Model} {tg:Expr} {it:Addr} {u:Value} {o:Obj} {n:String} {vs:Array Value} {Q:Unit->Shared->Prop} (ho:s.heap.get? it=some o) (hc:o.cls=.type n) (hd:o.data=.fields vs)
 (hn:["enumerate", "zip", "dict_itemiterator", "dict_reverseitemiterator", "odict_iterator", "itertools.zip_longest", "itertools.pairwise"].contains n=false) (hQ:Q () s):wpAny M A (letOwnedTupleGo tg (.ref it) u) Q E s:=by
 unfold letOwnedTupleGo
 cases tg<;>first
  | exact wpAny_pure hQ
  | (cases u<;>first
      | exact wpAny_pure hQ
      | (refine wpAny_bind (wpAny_load ho ?_)
         rw [hc,hd]
         show wpAny M A (if (["enumerate", "zip", "dict_itemiterator", "dict_reverseitemiterator", "odict_iterator", "itertools.zip_longest", "itertools.pairwise"].contains n&&vs[0]?==some (rawInt _))=true then _ else _) Q E s
         rw [if_neg (by intro h; rw [hn,Bool.false_and] at h; cases h)]
         exact wpAny_pure hQ))
noncomputable def MP (K:FG) (a:Addr):It:=
 ⟨fun i H=>∃ xs x,bQ K H a xs/\xs[i]?=some x,fun i H x H'=>H'=H/\∀ xs,bQ K H a xs->xs[i]?=some x,fun i H=>∃ xs,bQ K H a xs/\xs.length<=i⟩
noncomputable def MT (K:FG) (a:Addr):It:=
 ⟨fun i H=>∃ xs x,cG K H a xs/\xs[i]?=some x,fun i H x H'=>H'=H/\∀ xs,cG K H a xs->xs[i]?=some x,fun i H=>∃ xs,cG K H a xs/\xs.length<=i⟩
noncomputable def HQ (lo:Int) (n:Nat):It:=⟨fun i _=>i<n,fun i H x H'=>H'=H/\x=.int (lo+i),fun i _=>n<=i⟩
theorem HR {K:FG} {tg:Expr} (a it:Addr):Turn P w K tg (MP K a) [it] it (fun i h=>h.IsListIter it a i) where
 mem:=by simp
 obj:=fun i h st b hb=>by
  have e:b=it:=by simpa using hb
  subst e
  obtain ⟨o,e,c,d⟩:=st
  exact ⟨o,e,fun v z=>by rw [d] at z; cases z⟩
 keep:=fun i h h' st k=>st.at fun o e=>k it (by simp) o e
 item:=by
  intro X hP hw hK hc i pins s σ H E I hf st hg
  subst hP hw hK
  obtain ⟨xs,x,hq,hx⟩:=hg
  obtain ⟨its,rv,p,hz⟩:=I.list hq
  obtain ⟨u,hu,ru⟩:=rv.get hx
  obtain ⟨f0,f1,f2,f3,f4,f5⟩:=hf it (by simp)
  refine wpAny_pyNext_list_item st p.isList (x:=u) (by simpa using hu) fun h' st' sb=>?_
  have I1:Inv X pins σ H { s with heap:=h' }:=I.turned (t':=s.toks) (fun b o hb e=>(sb.2 b hb).trans e) f0 f1 f3 f4 f5
  obtain ⟨o,e,c,d⟩:=id st'
  exact ⟨u,rfl,wg (s:={ s with heap:=h' }) e c d (by decide) ⟨x,H,I1,ru,⟨rfl,fun ys hy=>by rw [I.list_inj hy hq]; exact hx⟩,st',fun b hb=>(hf b hb).1⟩⟩
 done:=by
  intro X hP hw hK hc i pins s σ H E I hf st hg
  subst hP hw hK
  obtain ⟨xs,hq,hx⟩:=hg
  obtain ⟨its,rv,p,hz⟩:=I.list hq
  obtain ⟨f0,f1,f2,f3,f4,f5⟩:=hf it (by simp)
  have hl:=rv.length
  exact wpAny_pyNext_list_end (I.ok.hd hc) st p.isList (by simp; omega) fun h' eb=>⟨rfl,I.turned (t':=s.toks) (fun b o hb e=>eb b o hb e) f0 f1 f3 f4 f5⟩
 self:=fun _ _ _ _ _ st h=>wpAny_pyIter_listiter st h
theorem Fz {K:FG} {tg:Expr} (a it:Addr):Turn P w K tg (MT K a) [it] it (fun i h=>h.IsTupleIter it a i) where
 mem:=by simp
 obj:=fun i h st b hb=>by
  have e:b=it:=by simpa using hb
  subst e
  obtain ⟨o,e,c,d⟩:=st
  exact ⟨o,e,fun v z=>by rw [d] at z; cases z⟩
 keep:=fun i h h' st k=>st.at fun o e=>k it (by simp) o e
 item:=by
  intro X hP hw hK hc i pins s σ H E I hf st hg
  subst hP hw hK
  obtain ⟨xs,x,hq,hx⟩:=hg
  obtain ⟨its,rv,p,hz⟩:=I.tuple hq
  obtain ⟨u,hu,ru⟩:=rv.get hx
  obtain ⟨f0,f1,f2,f3,f4,f5⟩:=hf it (by simp)
  refine wpAny_pyNext_tuple_item st (show s.heap.IsTuple a its.toArray from p) (x:=u) (by simpa using hu) fun h' st' sb=>?_
  have I1:Inv X pins σ H { s with heap:=h' }:=I.turned (t':=s.toks) (fun b o hb e=>(sb.2 b hb).trans e) f0 f1 f3 f4 f5
  obtain ⟨o,e,c,d⟩:=id st'
  exact ⟨u,rfl,wg (s:={ s with heap:=h' }) e c d (by decide) ⟨x,H,I1,ru,⟨rfl,fun ys hy=>by rw [I.tuple_inj hy hq]; exact hx⟩,st',fun b hb=>(hf b hb).1⟩⟩
 done:=by
  intro X hP hw hK hc i pins s σ H E I hf st hg
  subst hP hw hK
  obtain ⟨xs,hq,hx⟩:=hg
  obtain ⟨its,rv,p,hz⟩:=I.tuple hq
  obtain ⟨f0,f1,f2,f3,f4,f5⟩:=hf it (by simp)
  have hl:=rv.length
  exact wpAny_pyNext_tuple_end (I.ok.hd hc) st (show s.heap.IsTuple a its.toArray from p) (by simp; omega) fun h' eb=>⟨rfl,I.turned (t':=s.toks) (fun b o hb e=>eb b o hb e) f0 f1 f3 f4 f5⟩
 self:=fun _ _ _ _ _ st h=>wpAny_pyIter_tupleiter st h
theorem FJ {K:FG} {tg:Expr} (it:Addr) (lo:Int) (n:Nat):Turn P w K tg (HQ lo n) [it] it (fun i h=>IsRangeIter h it (lo+(i:Nat)*1) ((n:Int)-(i:Nat)) 1) where
 mem:=by simp
 obj:=fun i h st b hb=>by
  have e:b=it:=by simpa using hb
  subst e
  exact ⟨_,st,fun v z=>by
   have z':Data.fields _=Data.cell v:=z
   cases z'⟩
 keep:=fun i h h' st k=>k it (by simp) _ st
 item:=by
  intro X hP hw hK hc i pins s σ H E I hf st hg
  subst hP hw hK
  obtain ⟨f0,f1,f2,f3,f4,f5⟩:=hf it (by simp)
  have W:=Walks.range (prog:=X.prog) (w:=X.w) (I.ok.hd hc) it lo 1 n
  refine W.item i s _ _ hg st fun v h' tk hv st' kk=>?_
  obtain ⟨t,rfl⟩:=hv
  have I1:Inv X pins σ H { s with heap:=h',toks:=tk }:=I.turned (fun b o hb e=>kk b o (by simpa using hb) e) f0 f1 f3 f4 f5
  refine ⟨_,rfl,wg (s:={ s with heap:=h',toks:=tk }) (n := "range_iterator") st' rfl rfl (by decide) ⟨.int (lo+i),H,I1,⟨t,?_⟩,⟨rfl,rfl⟩,st',fun b hb=>(hf b hb).1⟩⟩
  rw [Int.mul_one]
 done:=by
  intro X hP hw hK hc i pins s σ H E I hf st hg
  subst hP hw hK
  obtain ⟨f0,f1,f2,f3,f4,f5⟩:=hf it (by simp)
  exact wpAny_pyNext_range_end (I.ok.hd hc) st (by have:n<=i:=hg; omega) fun h' eb=>⟨rfl,I.turned (t':=s.toks) (fun b o hb e=>eb b o hb e) f0 f1 f3 f4 f5⟩
 self:=fun _ _ _ _ _ st h=>wpAny_pyIter_rangeiter st h
section
variable {X:Cx} {tg:Expr}
theorem Ao {σ:St} {H:Hp} {R:It->Hp->Prop} {lo hi:Int} {t u v:Tok} {tk:Nat} (I:Inv X pins σ H s) (h1:-(2 ^ 62)<=lo) (h2:lo<2 ^ 62) (h3:-(2 ^ 62)<=hi) (h4:hi<2 ^ 62)
 (q:R (HQ lo (hi-lo).toNat) H):wpAny (model X.prog X.w) X.A (pyIter (.ref s.heap.objs.size)) (PIE X pins σ tg R) E { s with heap:=s.heap.push { cls:=.type "range",data:=.fields #[.int lo t,.int hi u,.int 1 v] },toks:=tk }:=by
 refine wpAny_pyIter_range (IsRange.new ..) (small_one h1 h2 h3 h4) ?_
 have I1:Inv X pins σ H { s with heap:=s.heap.push { cls:=.type "range",data:=.fields #[.int lo t,.int hi u,.int 1 v] },toks:=tk }:=I.kept fun b o e=>Heap.get?_push_of_some _ e
 refine ⟨(s.heap.push { cls:=.type "range",data:=.fields #[.int lo t,.int hi u,.int 1 v] }).objs.size,[(s.heap.push { cls:=.type "range",data:=.fields #[.int lo t,.int hi u,.int 1 v] }).objs.size],_,_,H,rfl,
  I1.kept (t':=tk) fun b o e=>Heap.get?_push_of_some _ e,FJ _ lo (hi-lo).toNat,?_,fun b hb=>?_,q⟩
 . have e1:lo+((0:Nat):Int)*1=lo:=by simp
   have e2:(((hi-lo).toNat:Nat):Int)-((0:Nat):Int)=Builtin.Range.rangeSize lo hi 1:=by rw [rangeSize_one]; split<;>omega
   show IsRangeIter _ _ (lo+((0:Nat):Int)*1) ((((hi-lo).toNat:Nat):Int)-((0:Nat):Int)) 1
   rw [e1,e2]
   exact Heap.get?_push_size _ rfl
 . have e:b=(s.heap.push { cls:=.type "range",data:=.fields #[.int lo t,.int hi u,.int 1 v] }).objs.size:=by simpa using hb
   subst e
   exact I1.fpOk (Nat.le_refl _) (I1.hok.fresh (Nat.le_refl _))
noncomputable def TY (ta:TA):TI:=fun σ H R=>ta σ H fun vs H1=>∃ j:Int,vs=[.int j]/\-(2 ^ 62)<=j/\j<2 ^ 62/\R (HQ 0 j.toNat) H1
noncomputable def M3 (ta:TA):TI:=fun σ H R=>ta σ H fun vs H1=>∃ i j:Int,vs=[.int i,.int j]/\(-(2 ^ 62)<=i/\i<2 ^ 62/\-(2 ^ 62)<=j/\j<2 ^ 62)/\R (HQ i (j-i).toNat) H1
theorem HS {a:Expr} {ta:TA} {p pos:Pos} (hg:Gl X "range") (hm:X.mg "range" = none) (ha:PA X [a] ta) (hs:starEach [a] X.env=[(false,eval a X.env)]:=by rfl):PI X tg (.Call (.Name "range" p) [a] [] pos) (TY ta):=by
 intro pins s σ H R I h
 refine Call_ (qH I hg hm boot_range (PyProof.Rows.callWith_type1 (bu (ha pos pins s σ H _ I h) fun us s1 ⟨vs,H1,I1,r1,q1⟩=>?_) hs rfl))
 obtain ⟨j,e,q1,q2,q⟩:=q1
 subst e
 cases r1 with
 | cons r rr=>
  cases rr
  obtain ⟨t,rfl⟩:=r
  exact call_range_1 (Ao I1 (by omega) (by omega) q1 q2 (by simpa using q))
theorem HW {a b:Expr} {ta:TA} {p pos:Pos} (hg:Gl X "range") (hm:X.mg "range" = none) (ha:PA X [a,b] ta) (hs:starEach [a,b] X.env=[(false,eval a X.env),(false,eval b X.env)]:=by rfl) (hs2:starEach [b] X.env=[(false,eval b X.env)]:=by rfl):
 PI X tg (.Call (.Name "range" p) [a,b] [] pos) (M3 ta):=by
 intro pins s σ H R I h
 refine Call_ (qH I hg hm boot_range (PyProof.Rows.callWith_type1 (bu (ha pos pins s σ H _ I h) fun us s1 ⟨vs,H1,I1,r1,q1⟩=>?_) (by rw [hs,hs2]) (by rw [hs2]; rfl)))
 obtain ⟨i,j,e,⟨q1,q2,q3,q4⟩,q⟩:=q1
 subst e
 cases r1 with
 | cons r rr=>
  cases rr with
  | cons r' rr=>
   cases rr
   obtain ⟨t,rfl⟩:=r
   obtain ⟨t',rfl⟩:=r'
   exact call_range_2 (Ao I1 q1 q2 q3 q4 q)
noncomputable def Va (wi:TI) (g:TG) (tb:TS):TS:=fun D σ H=>wi σ H fun J H1=>∃ W:Nat->Nat->St->Hp->Prop,(∃ m,W 0 m σ H1)/\∀ i m σ H,W i m σ H->
 (J.stop i H/\D.nx σ H)\/(J.go i H/\∃ N:St->Hp->Prop,(∀ σ' H',N σ' H'->∃ m',m'<m/\W (i+1) m' σ' H')/\∀ x H',J.yld i H x H'->g x σ H' fun σ2 H2=>tb { D with nx:=N,ct:=N,bk:=D.nx } σ2 H2)
noncomputable def tQ (fp:List Addr) (h:Heap):List (Addr×Obj):=fp.filterMap fun b=>(h.get? b).map fun o=>(b,o)
theorem rK {fp:List Addr} {h:Heap} {b:Addr} {o:Obj} (hb:b∈fp) (e:h.get? b=some o):(b,o)∈tQ fp h:=List.mem_filterMap.mpr ⟨b,hb,by rw [e]; rfl⟩
theorem HX {fp:List Addr} {h:Heap} {p:Addr×Obj} (hp:p∈tQ fp h):p.1∈fp/\h.get? p.1=some p.2:=by
 obtain ⟨b,hb,e⟩:=List.mem_filterMap.mp hp
 cases q:h.get? b with
 | none=>rw [q] at e; cases e
 | some o=>
  rw [q] at e
  have e':(b,o)=p:=Option.some.inj e
  subst e'
  exact ⟨hb,q⟩
theorem Inv.pinned {σ:St} {H:Hp} {fp:List Addr} (I:Inv X pins σ H s) (hf:∀ b∈fp,lE X pins H b) (ho:∀ b∈fp,∃ o,s.heap.get? b=some o/\∀ v,o.data≠.cell v):Inv X (pins++tQ fp s.heap) σ H s:=
 I.pins_of fun p hp=>(List.mem_append.mp hp).elim (fun z=>I.pin p (List.mem_append_right _ z)) fun z=>by
  obtain ⟨hb,e⟩:=HX z
  obtain ⟨f0,f1,f2,_⟩:=hf p.1 hb
  obtain ⟨o,e',d⟩:=ho p.1 hb
  rw [e] at e'; cases e'
  exact ⟨e,f0,f1,f2,d⟩
theorem Inv.unpinned {pins pl:List (Addr×Obj)} {σ:St} {H:Hp} (I:Inv X (pins++pl) σ H s):Inv X pins σ H s:=I.pins_of fun p hp=>I.pin p (List.mem_append_right _ (List.mem_append_left _ hp))
theorem wj {iter:Expr} {body:List Stmt} {wi:TI} {g:TG} {tb:TS} {pos:Pos} (hp:PassesOwn (model X.prog X.w) X.A X.env X.xe) (hc:X.calm=true) (hi:PI X tg iter wi) (hg:PG X tg g) (hb:dg X body tb)
 (hs:∀ x,foldedSetIterable iter X.env x=pure x:=by intro _; rfl):PS X (.For tg iter body [] pos) (Va wi g tb):=by
 intro pins s σ H D I h
 refine wpAny_For (bu (hi pins s σ H _ I h) fun v s1 h1=>bu h1 fun itv s2 h2=>?_) hs
 obtain ⟨it,fp,tn,J,H2,e,I2,T,st2,f2,W,⟨m0,w0⟩,turn⟩:=h2
 subst e
 have stat:∀ {H':Hp},(∀ b∈fp,H' b=none)->∀ b∈fp,lE X pins H' b:=fun hn b hb=>⟨hn b hb,(f2 b hb).2⟩
 refine codeAny_forLoop_any (fun n s'=>∃ i σ' H',Inv X pins σ' H' s'/\tn i s'.heap/\(∀ b∈fp,H' b=none)/\W i n σ' H') ?_ m0 ⟨0,σ,H2,I2,st2,fun b hb=>(f2 b hb).1,w0⟩
 rintro n s3 ⟨i,σ3,H3,I3,st3,fr3,w3⟩
 rcases turn i n σ3 H3 w3 with ⟨stop,qn⟩ | ⟨go,N,hN,step⟩
 . refine wpAny_passesOwn hp (bu (T.done X rfl rfl rfl hc i pins s3 σ3 H3 X.xe I3 (stat fr3) st3 stop) fun r s4 ⟨hr,I4⟩=>?_)
   subst hr
   exact wpAny_execs_nil ⟨σ3,H3,I4,qn⟩
 . refine wpAny_passesOwn hp (bu (T.item X rfl rfl rfl hc i pins s3 σ3 H3 X.xe I3 (stat fr3) st3 go) fun r s4 ⟨u,hr,h4⟩=>?_)
   subst hr
   refine wpAny_passesOwn hp (bu h4 fun _ s5 ⟨x,H5,I5,r5,y5,st5,fr5⟩=>?_)
   have I5':=I5.pinned (stat fr5) (T.obj _ _ st5)
   refine wpAny_passesOwn hp (bu (hg _ s5 σ3 H5 x u _ I5' r5 (step x H5 y5)) fun _ s6 ⟨σ6,H6,I6,q6⟩=>?_)
   refine wpAny_passesOwn hp (bu (hb _ s6 σ6 H6 _ I6 q6) fun f s7 q7=>?_)
   have again:∀ {σ7:St} {H7:Hp},Inv X (pins++tQ fp s5.heap) σ7 H7 s7->N σ7 H7->∃ m,m<n/\∃ i σ' H',Inv X pins σ' H' s7/\tn i s7.heap/\(∀ b∈fp,H' b=none)/\W i m σ' H':=fun {σ7 H7} I7 n7=>by
    obtain ⟨m',hm,w7⟩:=hN σ7 H7 n7
    refine ⟨m',hm,i+1,σ7,H7,I7.unpinned,T.keep _ _ _ st5 fun b hb o e=>(I7.pin (b,o) (List.mem_append_right _ (List.mem_append_right _ (rK hb e)))).1,fun b hb=>?_,w7⟩
    obtain ⟨o,e,d⟩:=T.obj _ _ st5 b hb
    exact (I7.pin (b,o) (List.mem_append_right _ (List.mem_append_right _ (rK hb e)))).2.1
   cases f with
   | next=>obtain ⟨σ7,H7,I7,n7⟩:=q7; exact again I7 n7
   | cont=>obtain ⟨σ7,H7,I7,n7⟩:=q7; exact again I7 n7
   | brk=>obtain ⟨σ7,H7,I7,q7⟩:=q7; exact ⟨σ7,H7,I7.unpinned,q7⟩
   | ret v=>obtain ⟨x7,σ7,H7,I7,r7,q7⟩:=q7; exact ⟨x7,σ7,H7,I7.unpinned,r7,q7⟩
end
noncomputable abbrev R2:=V->V->Hp->VK->Prop
noncomputable def du (X:Cx) (f:Value->Value->Sem Value) (r:R2):Prop:=
 ∀ (pins:List (Addr×Obj)) (s:Shared) (σ:St) (H:Hp) (x y:V) (v u:Value) (Q:VK),Inv X pins σ H s->RelV x v->RelV y u->r x y H Q->
  wpAny (model X.prog X.w) X.A (f v u) (EP X pins σ Q) X.xe s
noncomputable def QR (X:Cx) (f:Value->Sem Value) (r:V->Hp->VK->Prop):Prop:=
 ∀ (pins:List (Addr×Obj)) (s:Shared) (σ:St) (H:Hp) (x:V) (v:Value) (Q:VK),Inv X pins σ H s->RelV x v->r x H Q->
  wpAny (model X.prog X.w) X.A (f v) (EP X pins σ Q) X.xe s
noncomputable def nA (X:Cx) (f:Value) (r:List V->Hp->VK->Prop):Prop:=
 ∀ (pins:List (Addr×Obj)) (s:Shared) (σ:St) (H:Hp) (xs:List V) (us:List Value) (Q:VK),Inv X pins σ H s->Vals xs us->r xs H Q->
  wpAny (model X.prog X.w) X.A (call f us) (EP X pins σ Q) X.xe s
noncomputable def Vb (X:Cx) (r:V->Hp->(Bool->Hp->Prop)->Prop):Prop:=
 ∀ (pins:List (Addr×Obj)) (s:Shared) (σ:St) (H:Hp) (x:V) (v:Value) (Q:Bool->Hp->Prop),Inv X pins σ H s->RelV x v->r x H Q->
  wpAny (model X.prog X.w) X.A (truthy v) (TP X pins σ Q) X.xe s
noncomputable def HY (r:R2) (ta tb:TE):TE:=fun σ H Q=>ta σ H fun x H1=>tb σ H1 fun y H2=>r x y H2 Q
noncomputable def VF (r:V->Hp->VK->Prop) (ta:TE):TE:=fun σ H Q=>ta σ H fun x H1=>r x H1 Q
noncomputable def rI (C:Int->Int->Prop) (g:Int->Int->V):R2:=fun x y H Q=>∃ i j,x=.int i/\y=.int j/\C i j/\Q (g i j) H
noncomputable def qJ (g:Int->Int->V):R2:=fun x y H Q=>∃ i j,x=.int i/\y=.int j/\Q (g i j) H
noncomputable def rU (g:Int->V):V->Hp->VK->Prop:=fun x H Q=>∃ i,x=.int i/\Q (g i) H
section
variable {X:Cx} {a b c:Expr} {ta tb tc:TE} {pos:Pos}
theorem Kq (ha:PE X a ta) (hb:PE X b tb) {σ:St} {H:Hp} {R:V->V->Hp->Prop} (I:Inv X pins σ H s)
 (h:ta σ H fun x H1=>tb σ H1 fun y H2=>R x y H2) {Q:Value->Shared->Prop} {f:Value->Value->Sem Value}
 (hf:∀ v u s2 x y H2,Inv X pins σ H2 s2->RelV x v->RelV y u->R x y H2->wpAny (model X.prog X.w) X.A (f v u) Q X.xe s2):
 wpAny (model X.prog X.w) X.A (eval a X.env) (fun v s₁=>wpAny (model X.prog X.w) X.A (eval b X.env) (fun u s₂=>wpAny (model X.prog X.w) X.A (f v u) Q X.xe s₂) X.xe s₁) X.xe s:=by
 refine bu (ha pins s σ H _ I h) fun v s1 ⟨x,H1,I1,r1,q1⟩=>?_
 refine bu (hb pins s1 σ H1 _ I1 q1) fun u s2 ⟨y,H2,I2,r2,q2⟩=>?_
 exact hf v u s2 x y H2 I2 r1 r2 q2
theorem M4 {op:Operator} {r:R2} (ho:du X (binaryOp op) r) (ha:PE X a ta) (hb:PE X b tb):PE X (.BinOp a op b pos) (HY r ta tb):=by
 intro pins s σ H Q I h
 exact wpAny_BinOp (Kq ha hb I h fun v u s2 x y H2 I2 rx ry q=>ho pins s2 σ H2 x y v u Q I2 rx ry q)
theorem T3 {op:UnaryOp} {r:V->Hp->VK->Prop} (ho:QR X (unaryOp op) r) (ha:PE X a ta):PE X (.UnaryOp op a pos) (VF r ta):=by
 intro pins s σ H Q I h
 exact UnaryOp_ (bu (ha pins s σ H _ I h) fun v s1 ⟨x,H1,I1,r1,q1⟩=>ho pins s1 σ H1 x v Q I1 r1 q1)
theorem QS {f:Value->Value->Sem Value} {C:Int->Int->Prop} {g:Int->Int->Int}
 (rule:∀ (i j:Int) (t u:Tok) (s:Shared) (Q:Value->Shared->Prop) (E:Value->Shared->Prop),C i j->Q (.int (g i j) s.toks) { s with toks:=s.toks+1 }->wpAny (model X.prog X.w) X.A (f (.int i t) (.int j u)) Q E s):
 du X f (rI C fun i j=>.int (g i j)):=by
 intro pins s σ H x y v u Q I rx ry h
 obtain ⟨i,j,rfl,rfl,hc,q⟩:=h
 obtain ⟨t,rfl⟩:=rx
 obtain ⟨t',rfl⟩:=ry
 exact rule i j t t' s _ _ hc ⟨.int (g i j),H,I.tok _,⟨_,rfl⟩,q⟩
theorem QT {f:Value->Value->Sem Value} {g:Int->Int->Int}
 (rule:∀ (i j:Int) (t u:Tok) (s:Shared) (Q:Value->Shared->Prop) (E:Value->Shared->Prop),Q (.int (g i j) s.toks) { s with toks:=s.toks+1 }->wpAny (model X.prog X.w) X.A (f (.int i t) (.int j u)) Q E s):
 du X f (qJ fun i j=>.int (g i j)):=by
 intro pins s σ H x y v u Q I rx ry h
 obtain ⟨i,j,rfl,rfl,q⟩:=h
 obtain ⟨t,rfl⟩:=rx
 obtain ⟨t',rfl⟩:=ry
 exact rule i j t t' s _ _ ⟨.int (g i j),H,I.tok _,⟨_,rfl⟩,q⟩
theorem Kr {f:Value->Value->Sem Value} {g:Int->Int->Bool}
 (rule:∀ (i j:Int) (t u:Tok) (s:Shared) (Q:Value->Shared->Prop) (E:Value->Shared->Prop),Q (.bool (g i j)) s->wpAny (model X.prog X.w) X.A (f (.int i t) (.int j u)) Q E s):
 du X f (qJ fun i j=>.bl (g i j)):=by
 intro pins s σ H x y v u Q I rx ry h
 obtain ⟨i,j,rfl,rfl,q⟩:=h
 obtain ⟨t,rfl⟩:=rx
 obtain ⟨t',rfl⟩:=ry
 exact rule i j t t' s _ _ ⟨.bl (g i j),H,I,rfl,q⟩
noncomputable def QV (i j:Int):Prop:=0<j/\j<1073741824
noncomputable def FN (i j:Int):Prop:=(-(2 ^ 64)<i/\i<2 ^ 64)\/(-(2 ^ 64)<j/\j<2 ^ 64)
theorem FN.ok {i j:Int} (h:FN i j):IntMulOk i j:=by
 rcases h with ⟨h1,h2⟩ | ⟨h1,h2⟩
 . exact .of_left (intBits_le_64 h1 h2)
 . exact .of_right (intBits_le_64 h1 h2)
theorem QW:du X (binaryOp .Add) (qJ fun i j=>.int (i+j)):=QT fun _ _ _ _ _ _ _ q=>add_int q
theorem wu:du X (binaryOp .Sub) (qJ fun i j=>.int (i-j)):=QT fun _ _ _ _ _ _ _ q=>sub_int q
theorem Ia:du X (binaryOp .Mult) (rI FN fun i j=>.int (i*j)):=QS fun _ _ _ _ _ _ _ hc q=>mul_int q hc.ok
theorem gJ:du X (binaryOp .FloorDiv) (rI QV fun i j=>.int (i/j)):=QS fun i j _ _ _ _ _ hc q=>by
 have h1:(0:Int)<j:=hc.1
 have h2:j<1073741824:=hc.2
 exact floordiv_int (by omega) (by rw [Int.fdiv_eq_ediv_of_nonneg i (by omega)]; exact q) (.inl (PyProof.noPylong_small (by omega)))
theorem dM:du X (binaryOp .Mod) (rI (fun _ j=>0<j) fun i j=>.int (i%j)):=QS fun i j _ _ _ _ _ hc q=>by
 have h1:(0:Int)<j:=hc
 exact mod_int' (by omega) (by rw [Int.fmod_eq_emod_of_nonneg i (by omega)]; exact q)
theorem VG {f:Value->Sem Value} {g:Int->Int}
 (rule:∀ (i:Int) (t:Tok) (s:Shared) (Q:Value->Shared->Prop) (E:Value->Shared->Prop),Q (.int (g i) s.toks) { s with toks:=s.toks+1 }->wpAny (model X.prog X.w) X.A (f (.int i t)) Q E s):
 QR X f (rU fun i=>.int (g i)):=by
 intro pins s σ H x v Q I rx h
 obtain ⟨i,rfl,q⟩:=h
 obtain ⟨t,rfl⟩:=rx
 exact rule i t s _ _ ⟨.int (g i),H,I.tok _,⟨_,rfl⟩,q⟩
theorem QX:QR X (unaryOp .USub) (rU fun i=>.int (-i)):=VG fun _ _ _ _ _ q=>neg_int q
end
noncomputable def scal:V->V->Bool
 | .non,.non=>true | .non,.int _=>true | .int _,.non=>true | .non,.bl _=>true | .bl _,.non=>true | .non,.str _=>true | .str _,.non=>true
 | .int _,.int _=>true | .bl _,.bl _=>true | .str _,.str _=>true | .byt _,.byt _=>true
 | .int _,.str _=>true | .str _,.int _=>true | .bl _,.str _=>true | .str _,.bl _=>true
 | _,_=>false
section
variable {X:Cx} {a b c:Expr} {ta tb tc:TE} {pos:Pos}
theorem ww {σ:St} {H:Hp} {Q:VK} {k k':Bool} (I:Inv X pins σ H s) (q:Q (.bl k) H) (e:k=k'):EP X pins σ Q (.bool k') s:=by
 subst e
 exact ⟨.bl k,H,I,rfl,q⟩
theorem pP:du X (compareOp .Lt) (qJ fun i j=>.bl (decide (i<j))):=Kr fun _ _ _ _ _ _ _ q=>lt_int q
theorem M5:du X (compareOp .LtE) (qJ fun i j=>.bl (decide (i<=j))):=Kr fun _ _ _ _ _ _ _ q=>le_int q
theorem M6:du X (compareOp .Gt) (qJ fun i j=>.bl (decide (j<i))):=Kr fun _ _ _ _ _ _ _ q=>gt_int q
theorem Ib:du X (compareOp .In) (fun x y H Q=>∃ i j,x=.str i/\y=.str j/\Q (.bl (!(Builtin.Str.occurrences j i 0 j.length 1).isEmpty)) H):=by
 intro pins s σ H x y v u Q I rx ry h
 obtain ⟨i,j,rfl,rfl,q⟩:=h
 obtain ⟨t,rfl⟩:=rx
 obtain ⟨t',rfl⟩:=ry
 exact in_str (ww I q rfl)
theorem QZ:du X (compareOp .Is) (fun x y H Q=>y=.non/\Q (.bl (decide (x=.non))) H):=by
 intro pins s σ H x y v u Q I rx ry h
 obtain ⟨rfl,q⟩:=h
 cases ry
 refine is_none_gen (ww I q ?_)
 cases x<;>first
  | (cases rx; rfl)
  | (obtain ⟨t,rfl⟩:=rx; rfl)
theorem uN:du X (compareOp .IsNot) (fun x y H Q=>y=.non/\Q (.bl (!decide (x=.non))) H):=by
 intro pins s σ H x y v u Q I rx ry h
 obtain ⟨rfl,q⟩:=h
 cases ry
 refine isnot_none_gen (ww I q ?_)
 cases x<;>first
  | (cases rx; rfl)
  | (obtain ⟨t,rfl⟩:=rx; rfl)
theorem Aq:du X (compareOp .NotIn) (fun x y H Q=>∃ i j,x=.str i/\y=.str j/\Q (.bl (!(!(Builtin.Str.occurrences j i 0 j.length 1).isEmpty))) H):=by
 intro pins s σ H x y v u Q I rx ry h
 obtain ⟨i,j,rfl,rfl,q⟩:=h
 obtain ⟨t,rfl⟩:=rx
 obtain ⟨t',rfl⟩:=ry
 exact notIn_str (ww I q rfl)
theorem du.or {f:Value->Value->Sem Value} {r r':R2} (h:du X f r) (h':du X f r'):du X f (fun x y H Q=>r x y H Q\/r' x y H Q):=by
 intro pins s σ H x y v u Q I rx ry q
 rcases q with q | q
 . exact h pins s σ H x y v u Q I rx ry q
 . exact h' pins s σ H x y v u Q I rx ry q
theorem bU (b:Expr) {op:CmpOp} (h:op≠.In:=by decide) (h2:op≠.NotIn:=by decide):behindInMarks op b=false:=by
 have e1:(op==CmpOp.In)=false:=by cases op<;>first | rfl | exact absurd rfl h
 have e2:(op==CmpOp.NotIn)=false:=by cases op<;>first | rfl | exact absurd rfl h2
 cases b<;>simp [behindInMarks,e1,e2]
theorem Og {op:CmpOp} {r:R2} (ho:du X (compareOp op) r) (ha:PE X a ta) (hb:PE X b tb) (hm:behindInMarks op b=false):PE X (.Compare a [op] [b] pos) (HY r ta tb):=by
 intro pins s σ H Q I h
 exact wpAny_Compare1 (Kq ha hb I h fun v u s2 x y H2 I2 rx ry q=>ho pins s2 σ H2 x y v u Q I2 rx ry q) hm
noncomputable def FP (t:TE):TT:=fun σ H Q=>t σ H fun x H'=>∃ k,x=.bl k/\Q k H'
theorem Oh {op:CmpOp} {r:R2} (ho:du X (compareOp op) r) (ha:PE X a ta) (hb:PE X b tb) (hm:behindInMarks op b=false):PT X (.Compare a [op] [b] pos) (FP (HY r ta tb)):=by
 intro pins s σ H Q I h
 refine wpAny_isTrue_Compare1 (bu (ha pins s σ H _ I h) fun v s1 ⟨x,H1,I1,r1,q1⟩=>bu (hb pins s1 σ H1 _ I1 q1) fun u s2 ⟨y,H2,I2,r2,q2⟩=>
  bu (ho pins s2 σ H2 x y v u _ I2 r1 r2 q2) fun c s3 ⟨z,H3,I3,r3,k,e,q3⟩=>?_) hm
 subst e
 cases r3
 exact wpAny_truthy_bool ⟨H3,I3,q3⟩
noncomputable def Ar (r r':R2) (ta tb tc:TE):TE:=fun σ H Q=>ta σ H fun x H1=>tb σ H1 fun y H2=>r x y H2 fun z H3=>∃ k,z=.bl k/\
 (if k=true then tc σ H3 fun w' H4=>r' y w' H4 Q else Q (.bl false) H3)
theorem Ks {op op':CmpOp} {r r':R2} (ho:du X (compareOp op) r) (ho':du X (compareOp op') r') (ha:PE X a ta) (hb:PE X b tb) (hc:PE X c tc)
 (hm:lastMarks [op,op'] [b,c]=false:=by with_unfolding_all rfl):PE X (.Compare a [op,op'] [b,c] pos) (Ar r r' ta tb tc):=by
 intro pins s σ H Q I h
 refine Compare_chain (bu (ha pins s σ H _ I h) fun v s1 ⟨x,H1,I1,r1,q1⟩=>chain_link (bu (hb pins s1 σ H1 _ I1 q1) fun u s2 ⟨y,H2,I2,r2,q2⟩=>
  bu (ho pins s2 σ H2 x y v u _ I2 r1 r2 q2) fun d s3 ⟨z,H3,I3,r3,k,e,q3⟩=>?_)) hm
 subst e
 cases r3
 refine wpAny_truthy_bool ?_
 cases k with
 | false=>exact ite_ff ⟨.bl false,H3,I3,rfl,q3⟩
 | true=>exact ite_tt (chain_last (bu (hc pins s3 σ H3 _ I3 q3) fun w' s4 ⟨z',H4,I4,r4,q4⟩=>ho' pins s4 σ H4 y z' u w' Q I4 r2 r4 q4))
theorem Ku {op op':CmpOp} {r r':R2} (ho:du X (compareOp op) r) (ho':du X (compareOp op') r') (ha:PE X a ta) (hb:PE X b tb) (hc:PE X c tc)
 (hm:lastMarks [op,op'] [b,c]=false:=by with_unfolding_all rfl):PT X (.Compare a [op,op'] [b,c] pos) (FP (Ar r r' ta tb tc)):=by
 intro pins s σ H Q I h
 refine isTrue_chain (bu (ha pins s σ H _ I h) fun v s1 ⟨x,H1,I1,r1,q1⟩=>test_link (bu (hb pins s1 σ H1 _ I1 q1) fun u s2 ⟨y,H2,I2,r2,q2⟩=>
  bu (ho pins s2 σ H2 x y v u _ I2 r1 r2 q2) fun d s3 ⟨z,H3,I3,r3,k,e,q3⟩=>?_)) hm
 subst e
 cases r3
 refine wpAny_truthy_bool ?_
 cases k with
 | false=>
  obtain ⟨k',e',q'⟩:=q3
  cases e'
  exact ite_ff ⟨H3,I3,q'⟩
 | true=>
  refine ite_tt (test_last (bu (hc pins s3 σ H3 _ I3 q3) fun w' s4 ⟨z',H4,I4,r4,q4⟩=>bu (ho' pins s4 σ H4 y z' u w' _ I4 r2 r4 q4) fun d' s5 ⟨z2,H5,I5,r5,k2,e2,q5⟩=>?_))
  subst e2
  cases r5
  exact wpAny_truthy_bool ⟨H5,I5,q5⟩
noncomputable def Kv (K:FG) (x:V) (H:Hp) (k:Bool):Prop:=
 match x with
 | .non=>k=false
 | .bl b=>k=b
 | .int i=>k=(i != 0)
 | .str y=>y.length<=sizeLine/\k=((y.length:Int) != 0)
 | .byt y=>y.size<=sizeLine/\k=((y.size:Int) != 0)
 | .ref p=>(∃ xs,bQ K H p xs/\k=!xs.isEmpty)\/(∃ xs,cG K H p xs/\k=!xs.isEmpty)\/∃ kvs,H p=some (.dK kvs)/\k=!kvs.isEmpty
 | _=>False
theorem FQ {κ:Type} {kvs:List (κ×V)} {vs:List (κ×Value)} (r:KV kvs vs):(!vs.isEmpty)=!kvs.isEmpty:=by
 cases r<;>rfl
theorem wy {xs:List V} {its:List Value} (r:Vals xs its):(!its.toArray.isEmpty)=!xs.isEmpty:=by
 cases r<;>simp
theorem qK:(sizeLine:Nat)<2 ^ 63:=by rw [sizeLine_eq]; decide
theorem Q0:Vb X (fun x H Q=>∃ k,Kv X.K x H k/\Q k H):=by
 intro pins s σ H x v Q I rx h
 obtain ⟨k,e,q⟩:=h
 have hl:=qK
 have hs:sizeLine=16777216:=sizeLine_eq
 cases x with
 | non=>
  cases rx
  have e':k=false:=e
  subst e'
  exact truthy_none ⟨H,I,q⟩
 | bl b=>
  cases rx
  have e':k=b:=e
  subst e'
  exact wpAny_truthy_bool ⟨H,I,q⟩
 | int i=>
  obtain ⟨t,rfl⟩:=rx
  have e':k=(i != 0):=e
  subst e'
  exact PySem.P.truthy_int ⟨H,I,q⟩
 | str y=>
  obtain ⟨t,rfl⟩:=rx
  obtain ⟨hy,e'⟩:y.length<=sizeLine/\k=((y.length:Int) != 0):=e
  subst e'
  exact PySem.P.truthy_str (by omega) ⟨H,I.tok _,q⟩
 | byt y=>
  obtain ⟨t,rfl⟩:=rx
  obtain ⟨hy,e'⟩:y.size<=sizeLine/\k=((y.size:Int) != 0):=e
  subst e'
  exact W.truthy_bytes (by omega) ⟨H,I.tok _,q⟩
 | ref p=>
  cases rx
  have e':(∃ xs,bQ X.K H p xs/\k=!xs.isEmpty)\/(∃ xs,cG X.K H p xs/\k=!xs.isEmpty)\/∃ kvs,H p=some (.dK kvs)/\k=!kvs.isEmpty:=e
  rcases e' with ⟨xs,hx,e'⟩ | ⟨xs,hx,e'⟩ | ⟨kvs,hx,e'⟩
  . subst e'
    obtain ⟨its,r,pl,hz⟩:=I.list hx
    have hlen:=r.length
    exact wpAny_truthy_list pl.isList (by simp only [List.size_toArray]; omega) ⟨H,I.tok _,by rw [wy r]; exact q⟩
  . subst e'
    obtain ⟨its,r,pl,hz⟩:=I.tuple hx
    have hlen:=r.length
    exact truthy_tuple pl (by simp only [List.size_toArray]; omega) ⟨H,I.tok _,by rw [wy r]; exact q⟩
  . subst e'
    obtain ⟨hz,hS,vs,r,m⟩:kvs.length<=sizeLine/\(p==sysModules)=false/\∃ vs,KV kvs vs/\s.heap.DictOf (cL X.prog X.w) p vs:=I.hok p _ hx
    have hlen:kvs.length=vs.length:=Paired.length r
    exact wpAny_truthy_dict hS m (by omega) ⟨H,I.tok _,by rw [FQ r]; exact q⟩
 | _=>exact (show False from e).elim
theorem Kw (ha:PE X a ta) (he:∀ whole,isTrue a X.env whole=(do let v ← whole; standAt a.pos; holding [v] (truthy v))):
 PT X a (fun σ H Q=>ta σ H fun x H'=>∃ k,Kv X.K x H' k/\Q k H'):=by
 intro pins s σ H Q I h
 exact isTrue_plain (bu (ha pins s σ H _ I h) fun v s1 ⟨x,H1,I1,r1,q1⟩=>Q0 pins s1 σ H1 x v Q I1 r1 q1) (he _)
theorem FT:du X (binaryOp .Add) (fun x y H Q=>∃ i j,x=.str i/\y=.str j/\i.length+j.length<=sizeLine/\Q (.str (i++j)) H):=by
 intro pins s σ H x y v u Q I rx ry h
 obtain ⟨i,j,rfl,rfl,hz,q⟩:=h
 obtain ⟨t,rfl⟩:=rx
 obtain ⟨t',rfl⟩:=ry
 exact add_str (fun t' tk=>⟨.str (i++j),H,I.tok _,⟨_,rfl⟩,q⟩) hz
theorem vals1 {x:V} {us:List Value} (r:Vals [x] us):∃ u,us=[u]/\RelV x u:=by
 cases r with
 | cons r1 r2=>cases r2; exact ⟨_,rfl,r1⟩
theorem vals2 {x y:V} {us:List Value} (r:Vals [x,y] us):∃ u w',us=[u,w']/\RelV x u/\RelV y w':=by
 cases r with
 | cons r1 r2=>
  cases r2 with
  | cons r3 r4=>cases r4; exact ⟨_,_,rfl,r1,r3⟩
theorem yI (hc:X.calm=true):nA X (.builtin "min") (fun xs H Q=>∃ i j,xs=[.int i,.int j]/\Q (.int (if j<i then j else i)) H):=by
 intro pins s σ H xs us Q I r h
 obtain ⟨i,j,rfl,q⟩:=h
 obtain ⟨u,w',rfl,⟨t,rfl⟩,⟨t',rfl⟩⟩:=vals2 r
 refine min_two_ints (I.ok.hd hc) fun h' tk k=>⟨_,H,I.kept k,?_,q⟩
 by_cases hj:j<i
 . rw [if_pos hj,if_pos hj]; exact ⟨_,rfl⟩
 . rw [if_neg hj,if_neg hj]; exact ⟨_,rfl⟩
noncomputable def Ky (K:FG) (x:V) (H:Hp) (n:Nat):Prop:=
 match x with
 | .str y=>y.length<=sizeLine/\n=y.length
 | .byt y=>y.size<=sizeLine/\n=y.size
 | .ref p=>(∃ xs,bQ K H p xs/\n=xs.length)\/∃ xs,cG K H p xs/\n=xs.length
 | _=>False
theorem oG:nA X (.builtin "len") (fun xs H Q=>∃ x n,xs=[x]/\Ky X.K x H n/\Q (.int n) H):=by
 intro pins s σ H xs us Q I r h
 obtain ⟨x,n,rfl,e,q⟩:=h
 obtain ⟨u,rfl,rx⟩:=vals1 r
 have hl:=qK
 have hs:sizeLine=16777216:=sizeLine_eq
 cases x with
 | str y=>
  obtain ⟨t,rfl⟩:=rx
  obtain ⟨hy,e'⟩:y.length<=sizeLine/\n=y.length:=e
  subst e'
  exact len_str (by omega) ⟨.int _,H,I.tok _,⟨_,rfl⟩,q⟩
 | byt y=>
  obtain ⟨t,rfl⟩:=rx
  obtain ⟨hy,e'⟩:y.size<=sizeLine/\n=y.size:=e
  subst e'
  exact W.len_bytes (by omega) ⟨.int _,H,I.tok _,⟨_,rfl⟩,q⟩
 | ref p=>
  cases rx
  have e':(∃ xs,bQ X.K H p xs/\n=xs.length)\/∃ xs,cG X.K H p xs/\n=xs.length:=e
  rcases e' with ⟨xs,hx,e'⟩ | ⟨xs,hx,e'⟩
  . subst e'
    obtain ⟨its,r',pl,hz⟩:=I.list hx
    have hlen:=r'.length
    exact Calls.call_len_list pl.isList (by simp only [List.size_toArray]; omega) ⟨.int xs.length,H,I.tok _,⟨_,by simp only [List.size_toArray]; rw [hlen]⟩,q⟩
  . subst e'
    obtain ⟨its,r',pl,hz⟩:=I.tuple hx
    have hlen:=r'.length
    exact len_tuple pl (by simp only [List.size_toArray]; omega) ⟨.int xs.length,H,I.tok _,⟨_,by simp only [List.size_toArray]; rw [hlen]⟩,q⟩
 | _=>exact (show False from e).elim
end
structure xW (h:Heap) (x dx C:Addr) (mA:Str->Option Value):Prop where
 obj:h.get? x=some (W.instObj C dx)
 ns:h.Ns1 dx mA
 ne:dx≠x
theorem Ie {h:Heap} {dx:Addr} {mA:Str->Option Value} (n:h.Ns1 dx mA):∃ od,h.get? dx=some od/\∀ name,W.lookIn name od=some (mA name):=by
 obtain ⟨o,es,ep,ho,hd,hk,_,hm⟩:=n
 refine ⟨o,ho,fun name=>?_⟩
 have e:=hm name
 unfold nsFind findBy at e
 rw [← Array.find?_toList] at e
 unfold W.lookIn
 rw [hd]
 dsimp only
 split
 . rename_i y q
   rw [q] at e
   exact congrArg some e
 . rename_i q
   rw [q] at e
   have a:es.toList.any (·.refKey)=false:=by
    rw [List.any_eq_false]
    intro y hy
    obtain ⟨z,t,hkey⟩:=hk y (Array.mem_toList_iff.mp hy)
    simp [DictEntry.refKey,hkey]
   have a':¬ es.toList.any (·.refKey)=true:=by rw [a]; exact Bool.false_ne_true
   rw [if_neg a']
   exact congrArg some e
theorem xW.look {h:Heap} {x dx C:Addr} {mA:Str->Option Value} (I:xW h x dx C mA):∃ od,W.InstAt h x (W.instObj C dx) C (some od)/\∀ name,W.lookIn name od=some (mA name):=
 let ⟨od,ho,hl⟩:=Ie I.ns
 ⟨od,⟨I.obj,rfl,rfl,ho⟩,hl⟩
section
variable {prog:Program} {w:World} {A:Around} {E:Value->Shared->Prop} {s:Shared} {K:FG} {x dx C f:Addr} {mA:Str->Option Value} {name:Str} {v:Value}
theorem Oi {expr:Bool} {Q:Value->Shared->Prop} (X:K.In s.heap) (I:xW s.heap x dx C mA) (hg:W.plainGet K C name=true) (hh:W.hasDictIn K C=true)
 (ha:W.findIn K (.ref C) name=some none) (hv:mA name=some v) (hv':W.handedIn v=true) (h:Q v { s with toks:=s.toks+1 }):
 wpAny (model prog w) A (getAttr (.ref x) name expr) Q E s:=by
 obtain ⟨od,J,hl⟩:=I.look
 exact W.get_value X J (W.plainGet_of hg).1 (W.findObj_own hh ha rfl (by rw [hl,hv])) hv' h
theorem Oj {ns:List Str} {Q:Unit->Shared->Prop} (X:K.In s.heap) (I:xW s.heap x dx C mA)
 (hs:W.findIn K (.ref C) "__setattr__" = some (some (.builtin "object.__setattr__"))) (hp:W.plainOver K C=true) (ht:W.takerIn K C name=some none) (hh:W.hasDictIn K C=true)
 (hw:PySem.Within mA ns) (hsz:ns.length<=sizeLine)
 (h:∀ h',xW h' x dx C (fun y=>if y=name then some v else mA y)->Heap.SameBut dx s.heap h'->Q () { s with heap:=h',toks:=s.toks+2 }):
 wpAny (model prog w) A (setAttr (.ref x) name v) Q E s:=by
 obtain ⟨od,J,hl⟩:=I.look
 refine W.set_plain X J hs (W.osa_open (s:={ s with toks:=s.toks+1 }) (r:=none) X J hp ht fun b=>?_)
 obtain ⟨cd,hc,hd'⟩:=W.any_some hh
 have hx:s.heap.get? x=some ⟨.ref C,some dx,.plain,#[]⟩:=I.obj
 refine wpAny_bind (wpAny_pure (wpAny_bind (wpAny_bind (wpAny_loadPart hx (wpAny_bind (W.Looks.here (s:={ s with toks:=s.toks+1 }) (W.looks_clsIn X hc) ?_))))))
 rw [hd']
 refine wpAny_pure (a:=some dx) (wpAny_bind (wpAny_pure (wpAny_bind ?_)))
 refine wpAny_nsSet1 (s:={ s with toks:=s.toks+1 }) I.ns fun h' hn2 hs2=>?_
 obtain ⟨oD,esD,epD,hoD,hdD,hcD⟩:=hn2.count (PySem.Within.cons name v hw)
 refine wpAny_bind (wpAny_lookBehind hoD (by rw [hdD]; exact pastItsLine_dict (Nat.le_trans hcD (by rw [List.length_cons]; omega))) ?_)
 exact wpAny_pure (h _ ⟨(hs2.2 _ (Ne.symm I.ne)).trans I.obj,hn2,I.ne⟩ hs2)
theorem Kz {R:Result->Shared->Prop} {vs:List Value} {kw:List (Str×Value)} (X:K.In s.heap) (hm:W.makesIn K C=true)
 (hi:W.findIn K (.ref C) "__init__" = some (some (.ref f))) (hf:W.typeIn K (.ref f)=some (.type "function"))
 (h:codeAny (model prog w) (A.under (.builtin "type.__call__" ⟨.ref C::vs,kw⟩)) (.call (.ref f) ⟨.ref (s.heap.objs.size+1)::vs,kw⟩) (W.InitBack (s.heap.objs.size+1) R)
   { s with heap:=(s.heap.push W.emptyDict).push (W.instObj C s.heap.objs.size) }):
 codeAny (model prog w) A (.call (.ref C) ⟨vs,kw⟩) R s:=by
 obtain ⟨hh,g,d,t,os⟩:=s
 exact W.make_core (W.makes_of X hm) (W.looks_findIn X hi) (fun self=>W.bind_fn X self hf) (.inl rfl) h
end
noncomputable def gF (f:Str) (v:V):List (Str×V)->List (Str×V)
 | []=>[(f,v)]
 | (g,x)::r=>if g=f then (g,v)::r else (g,x)::gF f v r
theorem vh (f g:Str) (v:V):∀ fs:List (Str×V),(gF f v fs).lookup g=if g=f then some v else fs.lookup g
 | []=>by
  show List.lookup g [(f,v)]=_
  by_cases h:g=f
  . have hb:(g==f)=true:=beq_iff_eq.mpr h
    simp only [List.lookup,hb,if_pos h]
  . have hb:(g==f)=false:=beq_eq_false_iff_ne.mpr h
    simp only [List.lookup,hb,if_neg h]
 | (k,x)::r=>by
  have ih:=vh f g v r
  rw [show gF f v ((k,x)::r)=(if k=f then (k,v)::r else (k,x)::gF f v r) from rfl]
  by_cases hk:k=f
  . rw [if_pos hk]
    by_cases h:g=k
    . have hb:(g==k)=true:=beq_iff_eq.mpr h
      simp only [List.lookup,hb,if_pos (h.trans hk)]
    . have hb:(g==k)=false:=beq_eq_false_iff_ne.mpr h
      simp only [List.lookup,hb,if_neg (fun e:g=f=>h (e.trans hk.symm))]
  . rw [if_neg hk]
    by_cases h:g=k
    . have hb:(g==k)=true:=beq_iff_eq.mpr h
      simp only [List.lookup,hb,if_neg (fun e:g=f=>hk (h.symm.trans e))]
    . have hb:(g==k)=false:=beq_eq_false_iff_ne.mpr h
      simp only [List.lookup,hb]
      exact ih
theorem tR (f:Str) (v:V):∀ fs:List (Str×V),f∈(gF f v fs).map (·.1)/\∀ g,g∈fs.map (·.1)->g∈(gF f v fs).map (·.1)
 | []=>⟨by simp [gF],fun g h=>by simp at h⟩
 | (k,x)::r=>by
  obtain ⟨i1,i2⟩:=tR f v r
  rw [show gF f v ((k,x)::r)=(if k=f then (k,v)::r else (k,x)::gF f v r) from rfl]
  by_cases hk:k=f
  . rw [if_pos hk]
    subst hk
    exact ⟨by simp,fun g h=>by simpa using h⟩
  . rw [if_neg hk]
    refine ⟨?_,fun g h=>?_⟩
    . rw [List.map_cons]
      exact List.mem_cons_of_mem _ i1
    . rw [List.map_cons] at h ⊢
      rcases List.mem_cons.mp h with e | e
      . exact List.mem_cons.mpr (.inl e)
      . exact List.mem_cons_of_mem _ (i2 g e)
theorem vm (f:Str) (v:V):∀ fs:List (Str×V),(gF f v fs).length<=fs.length+1
 | []=>by simp [gF]
 | (k,x)::r=>by
  have ih:=vm f v r
  rw [show gF f v ((k,x)::r)=(if k=f then (k,v)::r else (k,x)::gF f v r) from rfl]
  by_cases hk:k=f
  . rw [if_pos hk,List.length_cons,List.length_cons]; omega
  . rw [if_neg hk,List.length_cons,List.length_cons]; omega
theorem lR.some_of {v:V} {o:Option Value} (r:lR (some v) o):∃ u,o=some u/\RelV v u:=by
 cases o with
 | none=>exact (show False from r).elim
 | some u=>exact ⟨u,rfl,r⟩
theorem Ig {v:V} {u:Value} (r:RelV v u):W.handedIn u=true:=by
 cases v with
 | non=>cases (show u=Value.none from r); rfl
 | bl b=>cases (show u=Value.bool b from r); rfl
 | int i=>obtain ⟨t,e⟩:=(show ∃ t,u=Value.int i t from r); cases e; rfl
 | str x=>obtain ⟨t,e⟩:=(show ∃ t,u=Value.str x t from r); cases e; rfl
 | byt b=>obtain ⟨t,e⟩:=(show ∃ t,u=Value.bytes b t from r); cases e; rfl
 | flt b=>obtain ⟨t,e⟩:=(show ∃ t,u=Value.float b t from r); cases e; rfl
 | ref a=>cases (show u=Value.ref a from r); rfl
 | ty n=>cases (show u=Value.type n from r); rfl
section
variable {P:Program} {w:World} {H H':Hp} {h h':Heap} {a C dx:Addr} {fs fs':List (Str×V)}
theorem Dn (hok:eF P w H h) (e:H a=some (.ins C dx fs)):∃ mA,xW h a dx C mA/\(∀ f,lR (fs.lookup f) (mA f))/\PySem.Within mA (fs.map (·.1))/\fs.length<=1000/\H dx=some (.own a):=by
 obtain ⟨d,z,ne,ob,mA,n,r,q⟩:=(show dh P w H h a (.ins C dx fs) from hok a _ e)
 exact ⟨mA,⟨ob,n,ne⟩,r,q,z,d⟩
end
structure Av (K:FG) (C:Addr):Prop where
 pg:W.plainGet K C Str.empty=true
 hd:W.hasDictIn K C=true
 po:W.plainOver K C=true
 sa:W.findIn K (.ref C) "__setattr__" = some (some (.builtin "object.__setattr__"))
theorem Av.get {K:FG} {C:Addr} (c:Av K C) (f:Str):W.plainGet K C f=true:=c.pg
noncomputable def jX (K:FG) (C:Addr) (f:Str):Prop:=W.findIn K (.ref C) f=some none
theorem jX.taker {K:FG} {C:Addr} {f:Str} (n:jX K C f):W.takerIn K C f=some none:=by
 unfold W.takerIn
 rw [show W.findIn K (.ref C) f=some none from n]
 rfl
structure Meth (K:FG) (C:Addr) (m:Str) (f:Addr):Prop where
 at_:W.findIn K (.ref C) m=some (some (.ref f))
 fn:W.isFn K (.ref f)=true
 kp:W.keepIn K (.ref f)=true
section
variable {X:Cx} {pins:List (Addr×Obj)} {σ:St} {H:Hp} {s:Shared} {a C dx:Addr} {fs:List (Str×V)} {f:Str} {v:V} {A:Around} {E:Value->Shared->Prop}
theorem FZ {b:Bool} {Q:Value->Shared->Prop} (I:Inv X pins σ H s) (e:H a=some (.ins C dx fs)) (c:Av X.K C) (n:jX X.K C f) (l:fs.lookup f=some v)
 (h:∀ u s',Inv X pins σ H s'->RelV v u->Q u s'):wpAny (model X.prog X.w) A (getAttr (.ref a) f b) Q E s:=by
 obtain ⟨mA,O,r,_,_,_⟩:=Dn I.hok e
 obtain ⟨u,hu,ru⟩:=lR.some_of (v:=v) (o:=mA f) (by rw [← l]; exact r f)
 exact Oi I.kIn O (c.get f) c.hd n hu (Ig ru) (h u _ (I.tok _) ru)
theorem Ga {y:V} {u:Value} {Q:Unit->Shared->Prop} (I:Inv X pins σ H s) (e:H a=some (.ins C dx fs)) (c:Av X.K C) (n:jX X.K C f) (hl:fs.length<1000) (ry:RelV y u)
 (h:∀ s',Inv X pins σ (upd H a (.ins C dx (gF f y fs))) s'->Q () s'):wpAny (model X.prog X.w) A (setAttr (.ref a) f u) Q E s:=by
 obtain ⟨mA,O,r,wi,_,ho⟩:=Dn I.hok e
 have hz:(fs.map (·.1)).length<=sizeLine:=by rw [List.length_map,sizeLine_eq]; omega
 refine Oj I.kIn O c.sa c.po n.taker c.hd wi hz fun h' O' sb=>h _ ?_
 have hd:∃ o,h'.get? dx=some o:=let ⟨o,_,_,e',_⟩:=O'.ns; ⟨o,e'⟩
 refine I.write (x:=a) (e:=dx) (by rw [e]; exact True.intro) (.inr ho) (fun b q hb z=>(sb.2 b hb).trans z) hd ?_
 refine ⟨by rw [aO O.ne]; exact ho,?_,O.ne,O'.obj,_,O'.ns,fun g=>?_,fun g hg=>?_⟩
 . have:=vm f y fs; omega
 . show lR ((gF f y fs).lookup g) (if g=f then some u else mA g)
   rw [vh]
   by_cases q:g=f
   . rw [if_pos q,if_pos q]; exact ry
   . rw [if_neg q,if_neg q]; exact r g
 . by_cases q:g=f
   . rw [q]; exact (tR f y fs).1
   . refine (tR f y fs).2 g (wi g fun z=>hg ?_)
     show (if g=f then some u else mA g)=none
     rw [if_neg q]; exact z
theorem Inv.made (I:Inv X pins σ H s):Inv X pins σ (upd (upd H s.heap.objs.size (.own (s.heap.objs.size+1))) (s.heap.objs.size+1) (.ins C s.heap.objs.size []))
 { s with heap:=(s.heap.push W.emptyDict).push (W.instObj C s.heap.objs.size) }:=by
 have e1:(s.heap.push W.emptyDict).get? s.heap.objs.size=some W.emptyDict:=Heap.get?_push_size s.heap rfl
 have e2:((s.heap.push W.emptyDict).push (W.instObj C s.heap.objs.size)).get? (s.heap.objs.size+1)=some (W.instObj C s.heap.objs.size):=by
  have:=Heap.get?_push_size (s.heap.push W.emptyDict) (o:=W.instObj C s.heap.objs.size) rfl
  rwa [Heap.size_push] at this
 have e3:(s.heap.push W.emptyDict).Ns s.heap.objs.size (fun _=>none):=⟨W.emptyDict,#[],_,e1,rfl,(fun e he=>absurd he (by simp)),fun _=>rfl⟩
 have I1:=I.laid (a:=s.heap.objs.size) (o:=.own (s.heap.objs.size+1)) (h':=s.heap.push W.emptyDict) (t':=s.toks) (fun b u q=>Heap.get?_push_of_some _ q) (Nat.le_refl _) ⟨_,e1⟩
 refine I1.laid (a:=s.heap.objs.size+1) (o:=.ins C s.heap.objs.size []) (t':=s.toks) (fun b u q=>Heap.get?_push_of_some _ q) (Nat.le_of_eq (Heap.size_push _ _)) ?_
 have ne:s.heap.objs.size≠s.heap.objs.size+1:=Nat.ne_of_lt (Nat.lt_succ_self _)
 refine ⟨by rw [aO ne,bh],Nat.zero_le _,ne,e2,fun _=>none,(Heap.Ns1.of_empty e3).at fun o q=>Heap.get?_push_of_some _ q,fun _=>True.intro,fun y hy=>absurd rfl hy⟩
theorem Ol {prog:Program} {env:Env} {e:Expr} {f:Str} {pos:Pos} {Q:Value->Shared->Prop} (hb:attributeBase e f env (eval e env)=eval e env)
 (h:wpAny (model prog w) A (eval e env) (fun o s₁=>wpAny (model prog w) A (getAttr o f true) Q E s₁) E s):wpAny (model prog w) A (eval (.Attribute e f pos) env) Q E s:=
 Attribute_any_ h (by rw [arm_eval_Attribute,hb])
end
noncomputable def Vc (K:FG) (ta:TE) (f:Str):TE:=fun σ H Q=>ta σ H fun x H1=>∃ a C dx fs v,x=.ref a/\H1 a=some (.ins C dx fs)/\Av K C/\jX K C f/\fs.lookup f=some v/\Q v H1
noncomputable def Vd (K:FG) (ta tv:TE) (f:Str):TS:=fun D σ H=>tv σ H fun y H1=>ta σ H1 fun x H2=>∃ a C dx fs,x=.ref a/\H2 a=some (.ins C dx fs)/\Av K C/\jX K C f/\fs.length<1000/\
 D.nx σ (upd H2 a (.ins C dx (gF f y fs)))
section
variable {X:Cx} {o e value:Expr} {f:Str} {pos pos' tpos:Pos} {ta tv:TE}
theorem Q3 (he:PE X e ta) (hb:attributeBase e f X.env (eval e X.env)=eval e X.env):PE X (.Attribute e f pos) (Vc X.K ta f):=by
 intro pins s σ H Q I h
 refine Ol hb (bu (he pins s σ H _ I h) fun u s1 ⟨x,H1,I1,rx,a,C,dx,fs,v,ex,ea,c,n,l,q⟩=>?_)
 subst ex
 obtain rfl:u=Value.ref a:=rx
 exact FZ I1 ea c n l fun u' s2 I2 ru=>⟨v,H1,I2,ru,q⟩
theorem Q4 (ha:PE X o ta) (hv:PE X value tv) (hs:swapsWith value (some (.Attribute o f pos')) pos.line X.env=pure false):PS X (.Assign [.Attribute o f pos'] value pos) (Vd X.K ta tv f):=by
 intro pins s σ H D I h
 refine plainObj_wpAny_Assign_Attribute (bu (hv pins s σ H _ I h) fun u s1 ⟨y,H1,I1,ry,q⟩=>bu (ha pins s1 σ H1 _ I1 q) fun ov s2 ⟨x,H2,I2,rx,a,C,dx,fs,ex,ea,c,n,l,q2⟩=>?_) hs
 subst ex
 obtain rfl:ov=Value.ref a:=rx
 exact Ga I2 ea c n l ry fun s3 I3=>⟨σ,_,I3,q2⟩
noncomputable def KC:V->V->Hp->VK->Prop:=fun x y H Q=>∃ i j,x=.int i/\y=.int j/\Q (.int (i+j)) H
end
section
variable {X:Cx} {pins:List (Addr×Obj)} {σ:St} {H:Hp} {s:Shared} {A:Around} {E:Value->Shared->Prop} {Q:Value->Shared->Prop} {c:Value} {b:Bool}
end
structure cU (b:Bool) (k:Nat) (A:Around):Prop where
 hd:b=true->A.handled=none
 dp:A.depth+3*k+5<recursionLimit
 un:A.units+16*k+200<cLine
 gd:A.guards=some []
noncomputable abbrev ie:=cU true
theorem cU.mono {b:Bool} {j k:Nat} (r:cU b k A) (h:j<=k):cU b j A:=⟨r.hd,by have:=r.dp; omega,by have:=r.un; omega,r.gd⟩
theorem cU.deeper {b:Bool} {k:Nat} (r:cU b (k+1) A) (env:Env):cU b k (A.deeper env):=
 ⟨r.hd,by have:=r.dp; show A.depth+1+3*k+5<_; omega,by have:=r.un; show A.units+3+16*k+200<_; omega,r.gd⟩
theorem Gb {C:Addr} {us:List Value} {kw:List (Str×Value)}:(A.under (.builtin "type.__call__" ⟨.ref C::us,kw⟩)).depth=A.depth+1:=by
 first | rfl | simp [Around.under,Code.weight,Code.isCreation,Code.isGuard,Code.isCaller,Code.frames,Code.isFrame,guardIds]
theorem Gd {C:Addr} {us:List Value} {kw:List (Str×Value)}:(A.under (.builtin "type.__call__" ⟨.ref C::us,kw⟩)).units=A.units+1:=by
 first | rfl | simp [Around.under,Code.cUnits,Code.frames,Code.isFrame]
theorem cU.make {b:Bool} {k:Nat} (r:cU b (k+1) A) (C:Addr) (us:List Value) (kw:List (Str×Value)):cU b k (A.under (.builtin "type.__call__" ⟨.ref C::us,kw⟩)):=
 ⟨r.hd,by have:=r.dp; rw [Gb]; omega,by have:=r.un; rw [Gd]; omega,by first | exact r.gd | (simpa [Around.under,Code.isGuard,guardIds] using r.gd)⟩
theorem cU.depth {b:Bool} {k:Nat} (r:cU b k A):A.depth<recursionLimit:=by have:=r.dp; omega
theorem cU.units {b:Bool} {k:Nat} (r:cU b k A):A.units+64<cLine:=by have:=r.un; omega
noncomputable def KD:TA:=fun _ H Q=>Q [] H
noncomputable def z9 (ta:TE) (tr:TA):TA:=fun σ H Q=>ta σ H fun x H1=>tr σ H1 fun xs H2=>Q (x::xs) H2
section
variable {X:Cx} {e:Expr} {es:List Expr} {te:TE} {t:TA} {pos:Pos}
theorem jJ:PA X [] KD:=fun _ _ _ _ H Q I h=>Calls.spliced_nil ⟨[],H,I,.nil,h⟩
theorem cM (ha:PE X e te) (hr:PA X es t) (hs:starEach (e::es) X.env=(false,eval e X.env)::starEach es X.env:=by rfl):PA X (e::es) (z9 te t):=by
 intro pos pins s σ H Q I h
 rw [hs]
 show wpAny _ _ (spliced ((false,eval e X.env)::backTo pos (starEach es X.env))) _ _ s
 refine Calls.spliced_cons (bu (ha pins s σ H _ I h) fun u s1 ⟨x,H1,I1,r1,q1⟩=>?_)
 exact bu (hr pos pins s1 σ H1 _ I1 q1) fun us s2 ⟨xs,H2,I2,r2,q2⟩=>⟨x::xs,H2,I2,.cons r1 r2,q2⟩
noncomputable def Q5 (t:TA):TE:=fun σ H Q=>t σ H fun xs H1=>xs.length<=sizeLine/\∀ p,H1 p=none->Q (.ref p) (upd H1 p (.tup xs))
noncomputable def Ve (t:TA):TE:=fun σ H Q=>t σ H fun xs H1=>xs.length<=sizeLine/\∀ p,H1 p=none->Q (.ref p) (upd H1 p (.lst xs))
theorem Ih {x1} (h:PA X es t):PE X (.Tuple es x1 pos) (Q5 t):=by
 intro pins s σ H Q I hq
 refine wpAny_Tuple_spliced (bu (h pos pins s σ H _ I hq) fun us s1 ⟨xs,H1,I1,r,z,q⟩=>⟨by rw [← r.length]; exact z,?_⟩)
 have hf:H1 s1.heap.objs.size=none:=I1.hok.fresh (Nat.le_refl _)
 refine ⟨.ref s1.heap.objs.size,upd H1 s1.heap.objs.size (.tup xs),I1.laid (t':=s1.toks) (fun b u e=>Heap.get?_push_of_some _ e) (Nat.le_refl _) ?_,rfl,q _ hf⟩
 exact ⟨z,us,r,⟨_,Heap.get?_push_size _ rfl,rfl,_,rfl⟩⟩
theorem Q6 (h:PA X es t):PE X (.List es pos) (Ve t):=by
 intro pins s σ H Q I hq
 refine wpAny_List_spliced (bu (h pos pins s σ H _ I hq) fun us s1 ⟨xs,H1,I1,r,z,q⟩=>⟨by rw [← r.length]; exact z,?_⟩)
 have hf:H1 s1.heap.objs.size=none:=I1.hok.fresh (Nat.le_refl _)
 refine ⟨.ref s1.heap.objs.size,upd H1 s1.heap.objs.size (.lst xs),I1.laid (t':=s1.toks) (fun b u e=>Heap.get?_push_of_some _ e) (Nat.le_refl _) ?_,rfl,q _ hf⟩
 exact ⟨z,us,0,r,Heap.get?_push_size _ rfl⟩
end
noncomputable abbrev Sp:=List V->Hp->VK->XK->Prop
noncomputable abbrev qM:=List Env->Hp->Shared->XK->Value->Shared->Prop
structure vB (P:Program) (w:World) (K:FG) (mg:Str->Option Value) (base:Heap) (A:Around) (outer:List Env) (s:Shared) (H:Hp):Prop where
 frames:A.frames=some outer
 mod:Mod K mg base
 bs:∀ b o,base.get? b=some o->s.heap.get? b=some o/\H b=none
 bsz:base.objs.size<=s.heap.objs.size
 funs:s.heap.FunFrames base outer
 frf:∀ b∈frs outer,H b=none
 hok:eF P w H s.heap
 bare:AllBare s.gens
noncomputable def CE (outer:List Env) (P:Program) (w:World) (H:Hp) (s:Shared) (Q:VK) (u:Value) (s':Shared):Prop:=
 ∃ v H',s'.os=s.os/\AllBare s'.gens/\Un (frs outer) [] H H' s.heap s'.heap/\eF P w H' s'.heap/\RelV v u/\Q v H'
noncomputable def CR (CX:qM) (outer:List Env) (P:Program) (w:World) (H:Hp) (s:Shared) (Q:VK) (E:XK) (r:Result) (s':Shared):Prop:=
 match r with
 | .ok (.ret u)=>CE outer P w H s Q u s'
 | .ok _=>False
 | .error e=>CX outer H s E e s'
structure nC (b:Bool) (P:Program) (w:World) (K:FG) (mg:Str->Option Value) (base:Heap) (CX:qM) (k:Nat) (f:Addr) (fd:FuncData) (ps:List Str) (sp:Sp):Prop where
 len:∀ vs H Q E,sp vs H Q E->vs.length=ps.length
 run:∀ (A:Around) (outer:List Env) (s:Shared) (H:Hp) (args:Args) (us:List Value) (vs:List V) (Q:VK) (E:XK),cU b k A->vB P w K mg base A outer s H->BindsTo s fd args (ps.zip us)->Vals vs us->sp vs H Q E->
  codeAny (model P w) A (.call (.ref f) args) (CR CX outer P w H s Q E) s
noncomputable abbrev lF:=nC true
theorem nC.imp {b:Bool} {K:FG} {mg:Str->Option Value} {base:Heap} {CX:qM} {k:Nat} {f:Addr} {fd:FuncData} {ps:List Str} {sp sp':Sp} (F:nC b P w K mg base CX k f fd ps sp)
 (h:∀ vs H Q E,sp' vs H Q E->sp vs H Q E):nC b P w K mg base CX k f fd ps sp':=
 ⟨fun vs H Q E q=>F.len vs H Q E (h _ _ _ _ q),fun A outer s H args us vs Q E hr he hb hv hs=>F.run A outer s H args us vs Q E hr he hb hv (h _ _ _ _ hs)⟩
theorem vB.make {K:FG} {mg:Str->Option Value} {base:Heap} {outer:List Env} {H:Hp} (e:vB P w K mg base A outer s H) (C:Addr) (us:List Value) (kw:List (Str×Value)):
 vB P w K mg base (A.under (.builtin "type.__call__" ⟨.ref C::us,kw⟩)) outer s H:=⟨by first | exact e.frames | (simpa [Around.under,Code.envs,Code.isFrame,pushEnvs] using e.frames),e.mod,e.bs,e.bsz,e.funs,e.frf,e.hok,e.bare⟩
section
variable {X:Cx} {pins:List (Addr×Obj)} {σ:St} {H:Hp} {s s':Shared}
theorem Inv.env0 (I:Inv X pins σ H s):vB X.prog X.w X.K X.mg X.base X.A X.stack s H:=
 ⟨I.ok.frames,I.ok.mod,I.bs,Nat.le_trans I.ok.bsz I.sz,I.stack,I.stkFree,I.hok,I.bare⟩
theorem Inv.after {Q:VK} {u:Value} (I:Inv X pins σ H s) (h:CE X.stack X.prog X.w H s Q u s'):EP X pins σ Q u s':=by
 obtain ⟨v,H',os,bare,un,hok,r,q⟩:=h
 obtain ⟨hh,g,d,t,os'⟩:=s'
 obtain rfl:os'=s.os:=os
 exact ⟨v,H',I.call (h':=hh) (g':=g) (d':=d) (t':=t) (ch:=[]) un hok bare (fun b z=>absurd z (by simp)),r,q⟩
end
noncomputable def Ge (sp:Sp) (dvs:List V) (E:XK) (t:TA):TE:=fun σ H Q=>t σ H fun vs H1=>sp (vs++dvs) H1 Q E
noncomputable def M7 (C:Addr) (sp:Sp) (dvs:List V) (E:XK) (t:TA):TE:=fun σ H Q=>t σ H fun vs H1=>∀ x dx,H1 x=none->H1 dx=none->dx≠x->
 sp (.ref x::(vs++dvs)) (upd (upd H1 dx (.own x)) x (.ins C dx [])) (fun v H2=>v=.non/\Q (.ref x) H2) E
noncomputable def Binds (K:FG) (fd:FuncData) (ps:List Str) (ds:List Value):Prop:=
 ∀ (s:Shared) (us:List Value),K.In s.heap->(us++ds).length=ps.length->BindsTo s fd ⟨us,[]⟩ (ps.zip (us++ds))
theorem Binds.all {K:FG} {fd:FuncData} {ps:List Str} (h:∀ us:List Value,us.length=ps.length->bindArgs fd ⟨us,[]⟩=pure (ps.zip us)):Binds K fd ps []:=fun s us _ hl=>by
 rw [List.append_nil] at hl ⊢
 exact .of_eq (h us hl)
noncomputable def oH (CX:qM) (X:Cx) (E:XK):Prop:=∀ (pins:List (Addr×Obj)) (σ:St) (H:Hp) (s:Shared) (e:Value) (s':Shared),Inv X pins σ H s->CX X.stack H s E e s'->X.xe e s'
section
variable {X:Cx} {CX:qM} {k:Nat} {f C:Addr} {fd:FuncData} {ps:List Str} {sp:Sp} {dvs:List V} {ds:List Value} {E:XK} {x m:Str} {p pos apos:Pos} {e o:Expr} {es:List Expr} {ta:TE} {t:TA}
theorem Q7 {b:Bool} {σ:St} {H:Hp} {Q:VK} {us:List Value} {vs:List V} (F:nC b X.prog X.w X.K X.mg X.base CX k f fd ps sp) (hr:cU b k X.A) (hb:Binds X.K fd ps ds) (hd:Vals dvs ds) (hx:∀ H s e s',Inv X pins σ H s->CX X.stack H s E e s'->X.xe e s')
 (I:Inv X pins σ H s) (r:Vals vs us) (h:sp (vs++dvs) H Q E):wpAny (model X.prog X.w) X.A (call (.ref f) us) (EP X pins σ Q) X.xe s:=by
 have r2:Vals (vs++dvs) (us++ds):=r.append hd
 have hl:(us++ds).length=ps.length:=by rw [← r2.length]; exact F.len _ _ _ _ h
 refine wpAny_call (codeAny_mono (F.run X.A X.stack s H ⟨us,[]⟩ (us++ds) (vs++dvs) Q E hr I.env0 (hb s us I.kIn hl) r2 h) fun r s' hq=>?_)
 cases r with
 | error e=>exact hx H s e s' I hq
 | ok fl=>
  cases fl with
  | ret u=>exact I.after hq
  | next=>exact False.elim hq
  | brk=>exact False.elim hq
  | cont=>exact False.elim hq
theorem Do {b:Bool} (F:nC b X.prog X.w X.K X.mg X.base CX k f fd ps sp) (hr:cU b k X.A) (hg:Gl X x) (hm:X.mg x=some (.ref f)) (hk:W.keepIn X.K (.ref f)=true) (hb:Binds X.K fd ps ds) (hd:Vals dvs ds) (hx:oH CX X E)
 (ha:PA X (e::es) t) (hdb:(x==("__debug__" : Str))=false:=by decide) (he:starEach (e::es) X.env=(false,eval e X.env)::starEach es X.env:=by rfl) (hpl:(backTo pos (starEach es X.env)).any (·.1)=false:=by rfl):
 PE X (.Call (.Name x p) (e::es) [] pos) (Ge sp dvs E t):=by
 intro pins s σ H Q I h
 refine wpAny_Call_Name_kw (nY I hg hm ?_ hdb)
 refine W.callWith_K (h₀:=X.base) I.ok.mod.kin hk (bu (ha pos pins s σ H _ I h) fun us s1 ⟨vs,H1,I1,r,q⟩=>⟨I1.kIn,?_⟩) he hpl
 exact Q7 F hr hb hd (hx _ _) I1 r q
structure Mk (K:FG) (C f:Addr):Prop where
 makes:W.makesIn K C=true
 init:W.findIn K (.ref C) "__init__" = some (some (.ref f))
 fn:W.isFn K (.ref f)=true
 kp:W.keepIn K (.ref C)=true
theorem KH {σ:St} {H:Hp} {Q:VK} {us:List Value} {vs:List V} (M:Mk X.K C f) (F:lF X.prog X.w X.K X.mg X.base CX k f fd ps sp) (hr:ie (k+1) X.A) (hb:Binds X.K fd ps ds) (hd:Vals dvs ds)
 (hx:∀ H s e s',Inv X pins σ H s->CX X.stack H s E e s'->X.xe e s') (I:Inv X pins σ H s) (r:Vals vs us)
 (h:∀ x dx,H x=none->H dx=none->dx≠x->sp (.ref x::(vs++dvs)) (upd (upd H dx (.own x)) x (.ins C dx [])) (fun v H2=>v=.non/\Q (.ref x) H2) E):
 wpAny (model X.prog X.w) X.A (call (.ref C) us) (EP X pins σ Q) X.xe s:=by
 have hq:=h (s.heap.objs.size+1) s.heap.objs.size (I.hok.fresh (Nat.le_succ _)) (I.hok.fresh (Nat.le_refl _)) (Nat.ne_of_lt (Nat.lt_succ_self _))
 have I2:=Inv.made (C:=C) I
 have r2:Vals (V.ref (s.heap.objs.size+1)::(vs++dvs)) (Value.ref (s.heap.objs.size+1)::(us++ds)):=.cons rfl (r.append hd)
 have hl:(Value.ref (s.heap.objs.size+1)::us++ds).length=ps.length:=by
  have e:=r2.length
  rw [F.len _ _ _ _ hq] at e
  exact e.symm
 refine wpAny_call (Kz (f:=f) I.kIn M.makes M.init (beq_iff_eq.mp M.fn) (codeAny_mono (F.run _ X.stack _ _ ⟨Value.ref (s.heap.objs.size+1)::us,[]⟩ (Value.ref (s.heap.objs.size+1)::(us++ds)) _ _ E (hr.make C us [])
  (I2.env0.make C us []) (hb _ (Value.ref (s.heap.objs.size+1)::us) I2.kIn hl) r2 hq) fun r s' hq'=>?_))
 cases r with
 | error e=>exact hx _ _ e s' I2 hq'
 | ok fl=>
  cases fl with
  | ret u=>
   obtain ⟨v,H',I3,rv,ev,q3⟩:=I2.after hq'
   subst ev
   exact ⟨rv,⟨V.ref (s.heap.objs.size+1),H',I3,rfl,q3⟩⟩
  | next=>exact False.elim hq'
  | brk=>exact False.elim hq'
  | cont=>exact False.elim hq'
end
section
variable {X:Cx} {CX:qM} {k:Nat} {f C:Addr} {fd:FuncData} {ps ks:List Str} {sp:Sp} {E:XK} {x m:Str} {p pos apos kpos:Pos} {e o:Expr} {es:List Expr} {kws:List Keyword} {te ta:TE} {t tk:TA} {nm:Option Str}
variable {g:List Value->List Value->List Value} {gV:List V->List V->List V}
end
structure bw (N P:List Str) (sc:Scope):Prop where
 kind:sc.kind=.function
 co:sc.isCoroutine=false
 gen:sc.isGenerator=false
 nd:N.Nodup
 pre:N.take P.length=P
 par:∀ x∈P,sc.names.lookup x=some .local\/sc.names.lookup x=some .cell
 nofree:∀ y∈sc.names,y.2≠.free
theorem yJ {kindOf:Str->Option NameKind} {x:Str}:∀ {binds:List (Str×Value)} {m:Str->Option Value},(∀ v,(x,v)∉binds)->bindL kindOf binds m x=m x
 | [],_,_=>rfl
 | (n,v)::r,m,h=>by
  unfold bindL
  rw [yJ fun w hw=>h w (List.mem_cons_of_mem _ hw)]
  split
  . have:x≠n:=by rintro rfl; exact h v List.mem_cons_self
    simp [this]
  . rfl
theorem yK {kindOf:Str->Option NameKind} {x:Str}:∀ {binds:List (Str×Value)} {m:Str->Option Value},(∀ v,(x,v)∉binds)->bindC kindOf binds m x=m x
 | [],_,_=>rfl
 | (n,v)::r,m,h=>by
  unfold bindC
  rw [yK fun w hw=>h w (List.mem_cons_of_mem _ hw)]
  split
  . rfl
  . have:x≠n:=by rintro rfl; exact h v List.mem_cons_self
    simp [this]
theorem yM {kindOf:Str->Option NameKind} {x:Str} {v:Value}:∀ {P:List Str} {vs:List Value} {i:Nat} {m:Str->Option Value},P.Nodup->P[i]?=some x->vs[i]?=some v->kindOf x=some .local->
 bindL kindOf (P.zip vs) m x=some v
 | [],_,_,_,_,h,_,_=>by simp at h
 | _::_,[],_,_,_,_,h,_=>by simp at h
 | p::P,w::vs,0,m,nd,h1,h2,hk=>by
  simp at h1 h2; subst h1; subst h2
  show bindL kindOf ((p,w)::P.zip vs) m p=_
  unfold bindL
  rw [yJ fun v hv=>(List.nodup_cons.mp nd).1 (List.of_mem_zip hv).1,if_pos hk]
  simp
 | p::P,w::vs,i+1,m,nd,h1,h2,hk=>by
  show bindL kindOf ((p,w)::P.zip vs) m x=_
  unfold bindL
  exact yM (i:=i) (List.nodup_cons.mp nd).2 (by simpa using h1) (by simpa using h2) hk
theorem yN {kindOf:Str->Option NameKind} {x:Str} {v:Value}:∀ {P:List Str} {vs:List Value} {i:Nat} {m:Str->Option Value},P.Nodup->P[i]?=some x->vs[i]?=some v->kindOf x≠some .local->
 bindC kindOf (P.zip vs) m x=some v
 | [],_,_,_,_,h,_,_=>by simp at h
 | _::_,[],_,_,_,_,h,_=>by simp at h
 | p::P,w::vs,0,m,nd,h1,h2,hk=>by
  simp at h1 h2; subst h1; subst h2
  show bindC kindOf ((p,w)::P.zip vs) m p=_
  unfold bindC
  rw [yK fun v hv=>(List.nodup_cons.mp nd).1 (List.of_mem_zip hv).1,if_neg hk]
  simp
 | p::P,w::vs,i+1,m,nd,h1,h2,hk=>by
  show bindC kindOf ((p,w)::P.zip vs) m x=_
  unfold bindC
  exact yN (i:=i) (List.nodup_cons.mp nd).2 (by simpa using h1) (by simpa using h2) hk
noncomputable def start (N:List Str) (vs:List V):St:=vs.map some++List.replicate (N.length-vs.length) none
noncomputable def pQ (b:Bool) (CX:qM) (P:Program) (w:World) (K:FG) (mg:Str->Option Value) (base:Heap) (N:List Str) (qual:Str) (scope:Scope) (f:Addr) (cd:Value) (A:Around) (outer:List Env) (s:Shared) (H:Hp) (E:XK):Cx where
 prog:=P
 w:=w
 K:=K
 mg:=mg
 base:=base
 A:=A.deeper (envOfC qual scope s.heap.objs.size f cd)
 N:=N
 s₀:=s
 H0:=H
 env:=envOfC qual scope s.heap.objs.size f cd
 outer:=outer
 stack:=envOfC qual scope s.heap.objs.size f cd::outer
 ex:=[]
 calm:=b
 fn:=fun _=>true
 pn:=[]
 xe:=fun e s'=>wpAny (model P w) (A.deeper (envOfC qual scope s.heap.objs.size f cd)) (leaving (envOfC qual scope s.heap.objs.size f cd) e) (fun _ s''=>CX outer H s E e s'') (fun e' s''=>CX outer H s E e' s'') s'
noncomputable abbrev j8:=pQ true
theorem Aw {sc:Scope} {n:Nat} {x:Str} (h:sc.names.lookup x=some .cell):∃ c,(cellsFrom n sc.names []).lookup x=some c:=by
 have q:=W.cellsFrom_some sc.names n [] (.inl h)
 exact Option.isSome_iff_exists.mp q
theorem Ii {cm:Bool} {CX:qM} {K:FG} {mg:Str->Option Value} {base:Heap} {N ps:List Str} {qual:Str} {scope:Scope} {f:Addr} {cd:Value} {outer:List Env} {s s1:Shared} {H:Hp} {E:XK} {us:List Value} {vs:List V}
 (S:bw N ps scope) (hd:cm=true->A.handled=none) (e0:vB P w K mg base A outer s H) (hl:vs.length=ps.length) (r:Vals vs us)
 (x:InCallC s s.heap.objs.size (bindL (envOfC qual scope s.heap.objs.size f cd).kindOf (ps.zip us) fun _=>none) (cellsFrom (s.heap.objs.size+1) scope.names []) (bindC (envOfC qual scope s.heap.objs.size f cd).kindOf (ps.zip us) fun _=>none) s1):
 Inv (pQ cm CX P w K mg base N qual scope f cd A outer s H E) [] (start N vs) H s1:=by
 have hpl:ps.length<=N.length:=by have:=congrArg List.length S.pre; rw [List.length_take] at this; omega
 obtain ⟨h1,tk,rfl,hk⟩:=x.done
 have noA:∀ b:Addr,b∉(pQ cm CX P w K mg base N qual scope f cd A outer s H E).ex:=fun b z=>absurd (show b∈([]:List Addr) from z) (by simp)
 refine ⟨⟨e0.mod,S.kind,rfl,rfl,Nat.le_refl _,fun y z c h1 h2=>?_,fun y hy=>?_,fun y c _ h=>?_,hd,Around.frames_deeper e0.frames,.inr ⟨rfl,rfl⟩,fun b z=>absurd z (noA b),e0.bs,e0.bsz,fun b _ _=>noA b,fun b z=>absurd z (noA b),e0.funs,e0.frf⟩,
  rfl,e0.bare,Un.kept hk,⟨_,x.toInCall.ns,fun i y v h1 h2 h3=>?_⟩,fun y c h=>⟨_,x.cell y c h⟩,e0.hok.fresh (Nat.le_refl _),fun y c h=>?_,fun p hp=>absurd (show p∈([]:List (Addr×Obj)) from hp) (by simp),e0.hok.kept hk,?_⟩
 . exact name_of_addr x.apart (PySem.mem_of_lookup h1) (PySem.mem_of_lookup h2)
 . have hy:scope.names.lookup y=some .cell\/scope.names.lookup y=some .free:=hy
   rcases hy with hy | hy
   . exact Aw hy
   . exact absurd rfl (S.nofree _ (PySem.mem_of_lookup hy))
 . exact Nat.le_of_lt (x.above y c (PySem.mem_of_lookup h))
 . have hi:i<vs.length:=by
    unfold start at h2
    by_cases hi:i<vs.length
    . exact hi
    . rw [List.getElem?_append_right (by simpa using hi)] at h2
      rw [List.getElem?_replicate] at h2
      split at h2<;>cases h2
   have ha:vs[i]?=some v:=by
    unfold start at h2
    rw [List.getElem?_append_left (by simpa using hi),List.getElem?_map] at h2
    cases e:vs[i]? with
    | none=>rw [e] at h2; cases h2
    | some a=>rw [e] at h2; cases h2; rfl
   obtain ⟨u,hu,rv⟩:=r.get ha
   have hp:ps[i]?=some y:=by
    rw [← S.pre,List.getElem?_take_of_lt (by omega)]; exact h1
   have ndP:ps.Nodup:=by rw [← S.pre]; exact S.nd.sublist (List.take_sublist _ _)
   refine ⟨u,rv,?_⟩
   rcases S.par y (List.mem_of_getElem? hp) with k | k
   . exact .inl ⟨k,yM ndP hp hu k⟩
   . obtain ⟨c,e⟩:=Aw (n:=s.heap.objs.size+1) k
     refine .inr ⟨.inl k,c,e,?_⟩
     have q:=x.cell y c e
     rw [yN ndP hp hu (by show scope.names.lookup y≠_; rw [k]; decide)] at q
     exact q
 . exact e0.hok.fresh (Nat.le_of_lt (x.above y c (PySem.mem_of_lookup h)))
 . unfold start
   show _=N.length
   rw [List.length_append,List.length_map,List.length_replicate]
   omega
theorem M8 {b:Bool} {CX:qM} {K:FG} {mg:Str->Option Value} {base:Heap} {k:Nat} {f:Addr} {name qual:Str} {params:Arguments} {body:List Stmt} {scope:Scope} {dV kV doc pm cdv ct oc:Value} {an od:Option Addr}
 {osl:Array (Option Value)} {N ps:List Str} {sp:Sp} (lk:K.lookup f=some ⟨oc,od,.func (W.fnOf name qual params body scope dV kV doc pm an cdv ct),osl⟩) (hcd:W.codeIn K cdv qual=true) (S:bw N ps scope)
 (len:∀ vs H Q E,sp vs H Q E->vs.length=ps.length)
 (hbody:∀ (A:Around) (outer:List Env) (s:Shared) (H:Hp) (vs:List V) (Q:VK) (E:XK),cU b k (A.deeper (envOfC qual scope s.heap.objs.size f cdv))->sp vs H Q E->
   ∃ t,dg (pQ b CX P w K mg base N qual scope f cdv A outer s H E) body t/\t { nx:=fun _ H'=>Q .non H',rt:=Q } (start N vs) H):
 nC b P w K mg base CX (k+1) f (W.fnOf name qual params body scope dV kV doc pm an cdv ct) ps sp:=by
 refine ⟨len,fun A outer s H args us vs Q E hr e0 hb r hsp=>?_⟩
 have hl:=len _ _ _ _ hsp
 have KX:K.In s.heap:=e0.mod.kin.keeps fun b o e=>(e0.bs b o e).1
 have lim:s.heap.NoLimit:=e0.mod.nolimit.keeps fun b o e=>(e0.bs b o e).1
 have hkind:∀ y∈ps.zip us,scope.names.lookup y.1=some .local\/(scope.names.lookup y.1=some .cell/\((cellsFrom (s.heap.objs.size+1) scope.names []).lookup y.1).isSome=true):=fun ⟨n,v⟩ hy=>by
  rcases S.par n (List.of_mem_zip hy).1 with q | q
  . exact .inl q
  . exact .inr ⟨q,W.cellsFrom_some _ _ _ (.inl q)⟩
 refine codeAny_call_function hr.depth (KX _ _ lk) rfl S.co S.gen rfl (W.codeRec_of KX hcd) (hb _ _ _ _ ?_)
 refine wpAny_newFunctionEnv_cells S.kind hkind fun env he s1 x=>?_
 subst he
 refine ⟨lim.keeps x.toInCall.keep,codeAny_func ?_⟩
 obtain ⟨t,ht,hq⟩:=hbody A outer s H vs Q E (hr.deeper _) hsp
 have I:Inv (pQ b CX P w K mg base N qual scope f cdv A outer s H E) [] (start N vs) H s1:=Ii S hr.hd e0 hl r x
 refine wpAny_mono (ht [] s1 (start N vs) H _ I hq) (fun fl s' hs=>?_) fun e s' hs=>hs
 have fin:∀ {σ':St} {H':Hp} {v:V} {u:Value},Inv (pQ b CX P w K mg base N qual scope f cdv A outer s H E) [] σ' H' s'->RelV v u->Q v H'->CE outer P w H s Q u s':=
  fun {σ' H' v u} J rv q=>⟨v,H',J.os,J.bare,J.base,J.hok,rv,q⟩
 cases fl with
 | ret u=>
  obtain ⟨v,σ',H',J,rv,q⟩:=hs
  exact fin J rv q
 | next=>
  obtain ⟨σ',H',J,q⟩:=hs
  exact fin (v:=V.non) (u:=Value.none) J rfl q
 | brk=>
  obtain ⟨_,_,_,q⟩:=hs
  exact False.elim q
 | cont=>
  obtain ⟨_,_,_,q⟩:=hs
  exact False.elim q
section
variable {X:Cx} {x:Str} {p pos:Pos} {e:Expr} {es:List Expr} {t:TA} {id T:String} {r:List V->Hp->VK->Prop}
noncomputable def Ax (r:List V->Hp->VK->Prop) (t:TA):TE:=fun σ H Q=>t σ H fun vs H1=>r vs H1 Q
theorem dm (hc:nA X (.builtin id) r) (hg:Gl X x) (hm:X.mg x=none) (hv:bootBuiltins x=some (.builtin id)) (ha:PA X (e::es) t) (hn:x ≠ "__name__" := by decide) (hdb:(x==("__debug__" : Str))=false:=by decide)
 (he:starEach (e::es) X.env=(false,eval e X.env)::starEach es X.env:=by rfl) (hpl:(backTo pos (starEach es X.env)).any (·.1)=false:=by rfl):PE X (.Call (.Name x p) (e::es) [] pos) (Ax r t):=by
 intro pins s σ H Q I h
 refine wpAny_Call_Name_kw (qH I hg hm hv ?_ hn hdb)
 exact PyProof.Rows.callWith_builtin1 (bu (ha pos pins s σ H _ I h) fun us s1 ⟨vs,H1,I1,r1,q1⟩=>hc pins s1 σ H1 vs us Q I1 r1 q1) he hpl
theorem jK (hc:nA X (.type T) r) (hg:Gl X x) (hm:X.mg x=none) (hv:bootBuiltins x=some (.type T)) (ha:PA X (e::es) t) (hn:x ≠ "__name__" := by decide) (hdb:(x==("__debug__" : Str))=false:=by decide)
 (he:starEach (e::es) X.env=(false,eval e X.env)::starEach es X.env:=by rfl) (hpl:(backTo pos (starEach es X.env)).any (·.1)=false:=by rfl):PE X (.Call (.Name x p) (e::es) [] pos) (Ax r t):=by
 intro pins s σ H Q I h
 refine wpAny_Call_Name_kw (qH I hg hm hv ?_ hn hdb)
 exact PyProof.Rows.callWith_type1 (bu (ha pos pins s σ H _ I h) fun us s1 ⟨vs,H1,I1,r1,q1⟩=>hc pins s1 σ H1 vs us Q I1 r1 q1) he hpl
end
end L2
namespace HT
open PySem PyProof.Rows
section
open PySem.SeqAt
open PySem.AutoSeq1 (wpAny_loadPart')
open PySem.MeetsSeq PySem.MeetsSeq2 PySem.MeetsSeq3
end
section
variable {prog:Program} {w:World} {A:Around} {E:Value->Shared->Prop} {s:Shared}
theorem cat_tup {t b:Addr} {vs ws:List Value} {Q:Value->Shared->Prop} (ht:IsTup s.heap t vs.toArray) (hb:IsTup s.heap b ws.toArray) (hv:vs≠[])
 (h1:ws=[]->Q (.ref t) s) (h2:ws≠[]->Q (.ref s.heap.objs.size) { s with heap:=s.heap.push { cls:=.type "tuple",data:=.seq (vs++ws).toArray } })
 (hsz:vs.length+ws.length<=sizeLine):wpAny (model prog w) A (binaryOp .Add (.ref t) (.ref b)) Q E s:=by
 obtain ⟨⟨cls,dd,data,sl⟩,ho,hc,n,hd⟩:=id ht
 obtain ⟨⟨cls2,dd2,data2,sl2⟩,ho2,hc2,n2,hd2⟩:=id hb
 simp only at hc hd hc2 hd2
 subst hc hd hc2 hd2
 have e:vs.toArray++ws.toArray=(vs++ws).toArray:=by simp
 by_cases hw:ws=[]
 . exact concat_meets ⟨_,ho,rfl⟩ ⟨_,ho2,rfl⟩ noFill_tuple_add seq_tuple_add F.slot_tuple_add F.entry_tuple_add (F.args_tuple_add_2 _ _)
    (tuple_addW1 t b vs.toArray ws.toArray n n2 dd dd2 sl sl2 (by simpa using hv) (by simp [hw])) ⟨ho,ho2,h1 hw⟩
 . refine concat_meets ⟨_,ho,rfl⟩ ⟨_,ho2,rfl⟩ noFill_tuple_add seq_tuple_add F.slot_tuple_add F.entry_tuple_add (F.args_tuple_add_2 _ _)
    (tuple_addW2 t b vs.toArray ws.toArray n n2 dd dd2 sl sl2 (by simpa using hv) (by simpa using hw) (by rw [List.size_toArray,List.size_toArray]; exact hsz)) ⟨ho,ho2,?_⟩
   rw [e]
   exact h2 hw
noncomputable def sIx (n d:Nat):Option Int->Nat
 | none=>d
 | some v=>if v<0 then (v+(n:Int)).toNat else min v.toNat n
theorem sIx_none (n d:Nat):sIx n d none=d:=rfl
theorem sIx_nat (n d k:Nat):sIx n d (some (k:Int))=min k n:=by
 show (if (k:Int)<0 then ((k:Int)+(n:Int)).toNat else min (k:Int).toNat n)=min k n
 rw [if_neg (by omega),Int.toNat_natCast]
theorem sIx_le (n d:Nat) (hd:d<=n) (o:Option Int):sIx n d o<=n:=by
 cases o with
 | none=>exact hd
 | some v=>
  show (if v<0 then (v+(n:Int)).toNat else min v.toNat n)<=n
  by_cases hv:v<0
  . rw [if_pos hv]; omega
  . rw [if_neg hv]; exact Nat.min_le_right _ _
end
end HT
namespace L2
open PySem PySem.Spec PyProof.Rows
variable {pins:List (Addr×Obj)} {E:Value->Shared->Prop} {s:Shared} {A:Around} {w:World} {P:Program}
noncomputable abbrev TO:=St->Hp->(Option Int->Hp->Prop)->Prop
noncomputable def PO (X:Cx) (e:Option Expr) (t:TO):Prop:=
 ∀ (pins:List (Addr×Obj)) (s:Shared) (σ:St) (H:Hp) (Q:Option Int->Hp->Prop),Inv X pins σ H s->t σ H Q->
  wpAny (model X.prog X.w) X.A (evalPart e X.env) (fun u s'=>∃ o H',Inv X pins σ H' s'/\IsPart u o/\Q o H') X.xe s
noncomputable def Om:TO:=fun _ H Q=>Q none H
noncomputable def T4 (t:TE):TO:=fun σ H Q=>t σ H fun x H1=>∃ i,x=.int i/\Q (some i) H1
section
variable {X:Cx} {e:Expr} {te:TE} {lo hi:Option Expr} {tl th:TO} {pos p2:Pos}
theorem Oo:PO X none Om:=by
 intro pins s σ H Q I h
 rw [evalPart_none]
 exact wpAny_pure ⟨none,H,I,.none,h⟩
theorem Oq (h:PE X e te):PO X (some e) (T4 te):=by
 intro pins s σ H Q I hw
 rw [evalPart_some]
 refine bu (h pins s σ H _ I hw) fun u s1 ⟨x,H1,I1,r1,q1⟩=>?_
 obtain ⟨i,rfl,q⟩:=q1
 obtain ⟨t,rfl⟩:=r1
 exact ⟨some i,H1,I1,.int i t,q⟩
noncomputable def Ay (X:Cx) (r:V->Option Int->Option Int->Hp->VK->Prop):Prop:=
 ∀ (pins:List (Addr×Obj)) (s:Shared) (σ:St) (H:Hp) (x:V) (v vl vu:Value) (lo hi:Option Int) (sl:Addr) (Q:VK),Inv X pins σ H s->RelV x v->s.heap.IsSliceOf sl vl vu .none->IsPart vl lo->IsPart vu hi->r x lo hi H Q->
  ∃ T id,typeLookup (.type T) "__getitem__" = pure (some (.builtin id))/\s.TypeIs v T/\wpAny (model X.prog X.w) X.A (getItem v (.ref sl)) (EP X pins σ Q) X.xe s
theorem Ay.or {r r':V->Option Int->Option Int->Hp->VK->Prop} (h:Ay X r) (h':Ay X r'):Ay X (fun x lo hi H Q=>r x lo hi H Q\/r' x lo hi H Q):=by
 intro pins s σ H x v vl vu lo hi sl Q I rx hs pl pu q
 rcases q with q | q
 . exact h pins s σ H x v vl vu lo hi sl Q I rx hs pl pu q
 . exact h' pins s σ H x v vl vu lo hi sl Q I rx hs pl pu q
noncomputable def VH (r:V->Option Int->Option Int->Hp->VK->Prop) (te:TE) (tl th:TO):TE:=fun σ H Q=>te σ H fun x H1=>tl σ H1 fun l H2=>th σ H2 fun u H3=>r x l u H3 Q
theorem KJ {r:V->Option Int->Option Int->Hp->VK->Prop} (hr:Ay X r) (he:PE X e te) (hl:PO X lo tl) (hu:PO X hi th):PE X (.Subscript e (.Slice lo hi none p2) pos) (VH r te tl th):=by
 intro pins s σ H Q I h
 refine Subscript_ (bu (he pins s σ H _ I h) fun v s1 ⟨x,H1,I1,r1,q1⟩=>?_)
 refine wpAny_Slice (bu (hl pins s1 σ H1 _ I1 q1) fun vl s2 ⟨l,H2,I2,pl,q2⟩=>bu (hu pins s2 σ H2 _ I2 q2) fun vu s3 ⟨u,H3,I3,pu,q3⟩=>?_)
 rw [evalPart_none]
 refine wpAny_pure ?_
 have I4:Inv X pins σ H3 { s3 with heap:=s3.heap.push { cls:=.type "slice",data:=.fields #[vl,vu,.none] } }:=I3.kept (t':=s3.toks) fun b ob q=>Heap.get?_push_of_some _ q
 obtain ⟨T,id,hT,ht,hg⟩:=hr pins { s3 with heap:=s3.heap.push { cls:=.type "slice",data:=.fields #[vl,vu,.none] } } σ H3 x v vl vu l u s3.heap.objs.size Q I4 r1 (Heap.IsSliceOf.new ..) pl pu q3
 show wpAny (model X.prog X.w) X.A (subscriptTail e (.Slice lo hi none p2) v (.ref s3.heap.objs.size)) (EP X pins σ Q) X.xe { s3 with heap:=s3.heap.push { cls:=.type "slice",data:=.fields #[vl,vu,.none] } }
 exact tail_any (ops:=[.ref s3.heap.objs.size,v]) ht hT hg (by with_unfolding_all rfl)
noncomputable def vC (xs:List V) (lo hi:Option Int):List V:=(xs.drop (HT.sIx xs.length 0 lo)).take (HT.sIx xs.length xs.length hi-HT.sIx xs.length 0 lo)
theorem Dc (xs:List V) (lo hi:Option Int):(vC xs lo hi).length<=xs.length:=by
 unfold vC
 rw [List.length_take,List.length_drop]
 omega
noncomputable def M9 (K:FG):R2:=fun x y H Q=>∃ a b xs ys,x=.ref a/\y=.ref b/\cG K H a xs/\cG K H b ys/\xs≠[]/\xs.length+ys.length<=sizeLine/\
 (ys=[]->Q (.ref a) H)/\(ys≠[]->∀ p,H p=none->Q (.ref p) (upd H p (.tup (xs++ys))))
theorem Vals.nil_iff {xs:List V} {us:List Value} (r:Vals xs us):us=[] ↔ xs=[]:=by
 cases r with
 | nil=>simp
 | cons _ _=>simp
theorem Ot:du X (binaryOp .Add) (M9 X.K):=by
 intro pins s σ H x y v u Q I rx ry h
 obtain ⟨a,b,xs,ys,rfl,rfl,ha,hb,hx,hz,q1,q2⟩:=h
 cases rx
 cases ry
 obtain ⟨its,r1,p1,_⟩:=I.tuple ha
 obtain ⟨its2,r2,p2,_⟩:=I.tuple hb
 refine HT.cat_tup p1 p2 (fun z=>hx (r1.nil_iff.mp z)) (fun z=>⟨.ref a,H,I,rfl,q1 (r2.nil_iff.mp z)⟩) (fun z=>?_) (by rw [← r1.length,← r2.length]; exact hz)
 refine ⟨.ref s.heap.objs.size,_,I.laid (t':=s.toks) (o:=.tup (xs++ys)) (fun b ob q=>Heap.get?_push_of_some _ q) (Nat.le_refl _) ?_,rfl,q2 (fun w=>z (r2.nil_iff.mpr w)) _ (I.hok.fresh (Nat.le_refl _))⟩
 exact ⟨by rw [List.length_append]; exact hz,_,r1.append r2,IsTup.new _ _⟩
end
noncomputable def pR (n:Nat) (i:Int):Option Nat:=if 0<=i then (if i<n then some i.toNat else none) else if -(n:Int)<=i then some (i+n).toNat else none
noncomputable def fW {α:Type} (xs:List α) (i:Int):Option α:=(pR xs.length i).bind fun j=>xs[j]?
theorem Dp {n:Nat} {i:Int} {j:Nat} (h:pR n i=some j):seqIndex? i n=some j/\j<n/\-(n:Int)<=i/\i<n:=by
 unfold pR at h
 by_cases h0:0<=i
 . rw [if_pos h0] at h
   by_cases h1:i<n
   . rw [if_pos h1] at h
     have e:i.toNat=j:=Option.some.inj h
     exact ⟨by rw [seqIndex_of h0 h1,e],by omega,by omega,h1⟩
   . rw [if_neg h1] at h; cases h
 . rw [if_neg h0] at h
   by_cases h1:-(n:Int)<=i
   . rw [if_pos h1] at h
     have e:(i+n).toNat=j:=Option.some.inj h
     exact ⟨by rw [seqIndex_neg (by omega) h1,e],by omega,h1,by omega⟩
   . rw [if_neg h1] at h; cases h
theorem xX {α:Type} {xs:List α} {i:Int} {v:α} (h:fW xs i=some v):∃ j,seqIndex? i xs.length=some j/\xs[j]?=some v/\j<xs.length/\-(xs.length:Int)<=i/\i<xs.length:=by
 unfold fW at h
 cases e:pR xs.length i with
 | none=>rw [e] at h; cases h
 | some j=>
  rw [e] at h
  obtain ⟨h1,h2,h3,h4⟩:=Dp e
  exact ⟨j,h1,h,h2,h3,h4⟩
noncomputable def xY (b:Expr):Prop:=∀ o i,subscripted b false o i=operate [o,i] (getItem o i)
noncomputable def vo (X:Cx) (r:R2):Prop:=
 ∀ (value slice:Expr) (pins:List (Addr×Obj)) (s:Shared) (σ:St) (H:Hp) (x y:V) (v u:Value) (Q:VK),Inv X pins σ H s->RelV x v->RelV y u->r x y H Q->
  subscripted slice false v u=operate [v,u] (getItem v u)->wpAny (model X.prog X.w) X.A (subscriptTail value slice v u) (EP X pins σ Q) X.xe s
noncomputable def Nb (X:Cx) (id:String) (r:V->List V->Hp->VK->Prop):Prop:=
 ∀ (pins:List (Addr×Obj)) (s:Shared) (σ:St) (H:Hp) (x:V) (xs:List V) (v:Value) (us:List Value) (Q:VK),Inv X pins σ H s->RelV x v->Vals xs us->r x xs H Q->
  wpAny (model X.prog X.w) X.A (call (.builtin id) (v::us)) (EP X pins σ Q) X.xe s
section
variable {X:Cx} {a b:Expr} {ta tb:TE} {pos:Pos}
theorem vo.or {r r':R2} (h:vo X r) (h':vo X r'):vo X (fun x y H Q=>r x y H Q\/r' x y H Q):=by
 intro value slice pins s σ H x y v u Q I rx ry q hs
 rcases q with q | q
 . exact h value slice pins s σ H x y v u Q I rx ry q hs
 . exact h' value slice pins s σ H x y v u Q I rx ry q hs
theorem Nf {r:R2} (hr:vo X r) (ha:PE X a ta) (hb:PE X b tb) (hs:xY b):PE X (.Subscript a b pos) (HY r ta tb):=by
 intro pins s σ H Q I h
 exact Subscript_ (Kq ha hb I h fun v u s2 x y H2 I2 rx ry q=>hr a b pins s2 σ H2 x y v u Q I2 rx ry q (hs _ _))
noncomputable def Q8 (K:FG):R2:=fun x y H Q=>∃ p xs i v,x=.ref p/\y=.int i/\bQ K H p xs/\fW xs i=some v/\Q v H
noncomputable def Q9 (K:FG):R2:=fun x y H Q=>∃ p xs i v,x=.ref p/\y=.int i/\cG K H p xs/\fW xs i=some v/\Q v H
noncomputable def Ra:R2:=fun x y H Q=>∃ z i c,x=.str z/\y=.int i/\z.length<=sizeLine/\fW z.cps.toList i=some c/\Q (.str ⟨#[c]⟩) H
theorem Ou:vo X (Q8 X.K):=by
 intro value slice pins s σ H x y v u Q I rx ry h hs
 obtain ⟨p,xs,i,z,rfl,rfl,hq,he,q⟩:=h
 cases rx
 obtain ⟨t,rfl⟩:=ry
 obtain ⟨its,r,pl,hz⟩:=I.list hq
 obtain ⟨j,h1,h2,h3,h4,h5⟩:=xX he
 obtain ⟨w,ew,rw'⟩:=r.get h2
 have hl:=r.length
 have hn:=qK
 have fin:EP X pins σ Q w s:=⟨z,H,I,rw',q⟩
 by_cases h0:0<=i
 . have hj:i.toNat=j:=by
    rw [seqIndex_of h0 h5] at h1
    exact Option.some.inj h1
   exact item_listR pl.isList h0 (by omega) (by rw [hj]; simpa using ew) fin hs
 . have hj:(i+(its.toArray.size:Int)).toNat=j:=by
    rw [seqIndex_neg (by omega) h4] at h1
    rw [List.size_toArray,← hl]
    exact Option.some.inj h1
   exact subscriptTail_builtinR (x:=w) pl.isList.typeIs slot_list_getitem.lookup
    (wpAny_getItem_list_neg (Q:=fun r s'=>r=w/\EP X pins σ Q r s') pl.isList (by omega) (by rw [List.size_toArray]<;>omega) (by omega) (by rw [hj]; simpa using ew) ⟨rfl,fin⟩) hs
theorem Rb:vo X (Q9 X.K):=by
 intro value slice pins s σ H x y v u Q I rx ry h hs
 obtain ⟨p,xs,i,z,rfl,rfl,hq,he,q⟩:=h
 cases rx
 obtain ⟨t,rfl⟩:=ry
 obtain ⟨its,r,pl,hz⟩:=I.tuple hq
 obtain ⟨j,h1,h2,h3,h4,h5⟩:=xX he
 obtain ⟨w,ew,rw'⟩:=r.get h2
 have hl:=r.length
 have hn:=qK
 have fin:EP X pins σ Q w s:=⟨z,H,I,rw',q⟩
 exact subscriptTail_builtinR (x:=w) pl.typeIs slot_tuple_getitem.lookup
  (getItem_tuple (j:=j) (Q:=fun r s'=>r=w/\EP X pins σ Q r s') pl (by omega) (by omega) (by rw [List.size_toArray,← hl]; exact h1) (by simpa using ew) ⟨rfl,fin⟩) hs
theorem Rc:vo X Ra:=by
 intro value slice pins s σ H x y v u Q I rx ry h hs
 obtain ⟨z,i,c,rfl,rfl,hz,he,q⟩:=h
 obtain ⟨t,rfl⟩:=rx
 obtain ⟨t',rfl⟩:=ry
 obtain ⟨j,h1,h2,h3,h4,h5⟩:=xX he
 have hl:z.cps.toList.length=z.length:=by simp [Str.length]
 rw [hl] at h1 h4 h5
 have hn:=qK
 exact tail_any (typeIs_str s z t) slot_str_getitem.lookup (getItem_str (c:=c) (by
  have e1:decide (i < -(2 ^ 63:Int))=false:=decide_eq_false (by omega)
  have e2:decide (i ≥ 2 ^ 63)=false:=decide_eq_false (by omega)
  rw [e1,e2,Bool.or_false]) (by rw [h1]; simpa using h2) ⟨.str ⟨#[c]⟩,H,I.tok _,⟨_,rfl⟩,q⟩) hs
noncomputable def Rf (K:FG):R2:=fun x y H Q=>Q8 K x y H Q\/Q9 K x y H Q\/Ra x y H Q
theorem Ij:vo X (Rf X.K):=Ou.or (Rb.or Rc)
theorem Gf (its:List Value) (n j:Nat) (u:Value):Obj.mapSeq (·.setIfInBounds j u) { cls:=.type "list",data:=.seq its.toArray n }={ cls:=.type "list",data:=.seq (its.set j u).toArray n }:=by
 simp [Obj.mapSeq]
theorem Inv.lst {σ:St} {H:Hp} {p:Addr} {xs:List V} (I:Inv X pins σ H s) (h:H p=some (.lst xs)):
 ∃ (its:List Value) (n:Nat),Vals xs its/\s.heap.get? p=some { cls:=.type "list",data:=.seq its.toArray n }/\xs.length<=sizeLine:=by
 obtain ⟨z,its,n,r,e⟩:=I.hok p _ h
 exact ⟨its,n,r,e,z⟩
theorem Inv.lstUpd {σ:St} {H:Hp} {p:Addr} {xs ys:List V} {its its':List Value} {n n':Nat} {f:Obj->Obj} (I:Inv X pins σ H s) (h:H p=some (.lst xs))
 (ho:s.heap.get? p=some { cls:=.type "list",data:=.seq its.toArray n }) (hf:f { cls:=.type "list",data:=.seq its.toArray n }={ cls:=.type "list",data:=.seq its'.toArray n' }) (r:Vals ys its') (hz:ys.length<=sizeLine) (t:Nat):
 Inv X pins σ (upd H p (.lst ys)) { s with heap:=s.heap.update p f,toks:=t }:=by
 have e:(s.heap.update p f).get? p=some { cls:=.type "list",data:=.seq its'.toArray n' }:=by
  rw [Heap.get?_update_self f ho (by rw [hf]<;>rfl),hf]
 refine I.write (x:=p) (e:=p) (by rw [h]; trivial) (.inl rfl) (fun b u hb q=>(Heap.get?_update_other _ _ (Ne.symm hb)).trans q) ⟨_,e⟩ ?_
 exact ⟨hz,its',n',r,e⟩
noncomputable def Ng:V->V->V->Hp->(Hp->Prop)->Prop:=fun o i v H Q=>∃ p xs k j,o=.ref p/\i=.int k/\H p=some (.lst xs)/\pR xs.length k=some j/\Q (upd H p (.lst (xs.set j v)))
theorem set_list:Ko X Ng:=by
 intro pins s σ H o i v ov iv u Q I ro ri rv h
 obtain ⟨p,xs,k,j,rfl,rfl,hp,hj,q⟩:=h
 cases ro
 obtain ⟨t,rfl⟩:=ri
 obtain ⟨its,n,r,ho,hz⟩:=I.lst hp
 obtain ⟨h1,h2,h3,h4⟩:=Dp hj
 have hl:=r.length
 have hn:=qK
 have I':Inv X pins σ (upd H p (.lst (xs.set j v))) { s with heap:=s.heap.update p (Obj.mapSeq (·.setIfInBounds j u)) }:=
  I.lstUpd hp ho (Gf its n j u) (r.set rv j) (by rw [List.length_set]; exact hz) s.toks
 by_cases h0:0<=k
 . have hk:k.toNat=j:=by
    rw [seqIndex_of h0 h4] at h1
    exact Option.some.inj h1
   exact W.ki_setAt ho h0 (by omega) (by rw [List.size_toArray,← hl]; exact h4) (by rw [hk]; exact ⟨_,I',q⟩)
 . have hk:(k+(its.toArray.size:Int)).toNat=j:=by
    rw [seqIndex_neg (by omega) h3] at h1
    rw [List.size_toArray,← hl]
    exact Option.some.inj h1
   exact W.ki_setBack ho (by omega) (by rw [List.size_toArray,← hl]; exact h3) (by omega) (by rw [hk]; exact ⟨_,I',q⟩)
theorem Az (lo hi:Option Int) (n:Nat):(sliceBounds lo hi none n).1=((HT.sIx n 0 lo:Nat):Int)/\(sliceBounds lo hi none n).2.1=((HT.sIx n n hi:Nat):Int)/\(sliceBounds lo hi none n).2.2=1:=by
 refine ⟨?_,?_,rfl⟩
 . cases lo with
   | none=>simp [sliceBounds,HT.sIx]
   | some i=>
    simp only [sliceBounds,HT.sIx,Option.getD_none,show (1:Int)>0 by decide,if_true]
    by_cases h:i<0
    . simp only [h,if_true]<;>omega
    . simp only [h,if_false]<;>omega
 . cases hi with
   | none=>simp [sliceBounds,HT.sIx]
   | some i=>
    simp only [sliceBounds,HT.sIx,Option.getD_none,show (1:Int)>0 by decide,if_true]
    by_cases h:i<0
    . simp only [h,if_true]<;>omega
    . simp only [h,if_false]<;>omega
theorem zK (its:List Value) (lo hi:Option Int):slicePick its.toArray lo hi none=((its.drop (HT.sIx its.length 0 lo)).take (HT.sIx its.length its.length hi-HT.sIx its.length 0 lo)).toArray:=by
 obtain ⟨h1,h2,h3⟩:=Az lo hi its.toArray.size
 unfold slicePick
 rw [h1,h2,h3]
 simp only [sliceRange_one,pick_run,List.size_toArray]<;>rfl
noncomputable def Vf (K:FG):V->Option Int->Option Int->Hp->VK->Prop:=fun x lo hi H Q=>∃ a xs,x=.ref a/\bQ K H a xs/\∀ p,H p=none->Q (.ref p) (upd H p (.lst (vC xs lo hi)))
theorem Ov:Ay X (Vf X.K):=by
 intro pins s σ H x v vl vu lo hi sl Q I rx hs pl pu h
 obtain ⟨a,xs,rfl,hx,q⟩:=h
 cases rx
 obtain ⟨its,r,ht,hz⟩:=I.list hx
 have hlen:=r.length
 refine ⟨"list",_,slot_list_getitem.lookup,ht.isList.typeIs,?_⟩
 refine wpAny_getItem_list_slice ht.isList hs pl pu .none (by simp) ?_ (by rw [List.size_toArray]<;>omega)
 rw [zK,← hlen]
 refine ⟨.ref s.heap.objs.size,_,I.laid (t':=s.toks) (o:=.lst (vC xs lo hi)) (fun b ob q=>Heap.get?_push_of_some _ q) (Nat.le_refl _) ?_,rfl,q _ (I.hok.fresh (Nat.le_refl _))⟩
 exact ⟨Nat.le_trans (Dc xs lo hi) hz,_,0,(r.drop (HT.sIx xs.length 0 lo)).take (HT.sIx xs.length xs.length hi-HT.sIx xs.length 0 lo),Heap.get?_push_size _ rfl⟩
noncomputable def Nh:V->Bool
 | .non=>true
 | .bl _=>true
 | .int _=>true
 | .str _=>true
 | _=>false
theorem iC:nA X (.type "list") (fun xs H Q=>∃ p ys,xs=[.ref p]/\(bQ X.K H p ys\/cG X.K H p ys)/\∀ l,H l=none->Q (.ref l) (upd H l (.lst ys))):=by
 intro pins s σ H xs us Q I r h
 obtain ⟨p,ys,rfl,hq,q⟩:=h
 obtain ⟨u,rfl,rx⟩:=vals1 r
 cases rx
 have fin:∀ (its:List Value),Vals ys its->ys.length<=sizeLine->∀ (h':Heap) (c':Nat),(∀ b o',s.heap.get? b=some o'->h'.get? b=some o')->
  h'.get? s.heap.objs.size=some { cls:=.type "list",dict:=none,data:=.seq its.toArray c',slots:=#[] }->EP X pins σ Q (.ref s.heap.objs.size) { s with heap:=h' }:=fun its r' hz h' c' kp e=>
  ⟨.ref s.heap.objs.size,_,I.laid (t':=s.toks) kp (Nat.le_refl _) (show dh X.prog X.w _ h' _ (.lst ys) from ⟨hz,its,c',r',e⟩),rfl,q _ (I.hok.fresh (Nat.le_refl _))⟩
 rcases hq with hq | hq
 . obtain ⟨its,r',pl,hz⟩:=I.list hq
   have hlen:=r'.length
   obtain ⟨o,ho,hc,n,hd⟩:=pl.isList
   exact call_list_seq p (.inl rfl) ho hc hd (fun h' c' kp e=>fin its r' hz h' c' kp e) (by simp only [List.size_toArray]<;>omega)
 . obtain ⟨its,r',pl,hz⟩:=I.tuple hq
   have hlen:=r'.length
   obtain ⟨o,ho,hc,n,hd⟩:=pl
   exact call_list_seq p (.inr rfl) ho hc hd (fun h' c' kp e=>fin its r' hz h' c' kp e) (by simp only [List.size_toArray]<;>omega)
theorem zL:nA X (.type "tuple") (fun xs H Q=>∃ p ys,xs=[.ref p]/\((bQ X.K H p ys/\∀ l,H l=none->Q (.ref l) (upd H l (.tup ys)))\/(cG X.K H p ys/\Q (.ref p) H))):=by
 intro pins s σ H xs us Q I r h
 obtain ⟨p,ys,rfl,h⟩:=h
 obtain ⟨u,rfl,rx⟩:=vals1 r
 cases rx
 rcases h with ⟨hq,q⟩ | ⟨hq,q⟩
 . obtain ⟨its,r',pl,hz⟩:=I.list hq
   have hlen:=r'.length
   refine call_tuple_list pl.isList (fun h' kp=>?_) (by simp only [List.size_toArray]<;>omega)
   have I1:Inv X pins σ H { s with heap:=h' }:=I.kept (t':=s.toks) kp
   have I2:Inv X pins σ (upd H h'.objs.size (.tup ys)) { s with heap:=h'.push { cls:=.type "tuple",data:=.seq its.toArray } }:=
    I1.laid (t':=s.toks) (fun b o e=>Heap.get?_push_of_some _ e) (Nat.le_refl _) (show dh X.prog X.w _ _ _ (.tup ys) from ⟨hz,its,r',IsTup.new _ _⟩)
   exact ⟨.ref h'.objs.size,_,I2,rfl,q _ (I1.hok.fresh (Nat.le_refl _))⟩
 . obtain ⟨its,r',pl,hz⟩:=I.tuple hq
   exact call_tuple_same pl ⟨.ref p,H,I,rfl,q⟩
noncomputable def Uu (K:FG) (T:String) (x:V) (H:Hp):Prop:=match x with
 | .str _=>T = "str"
 | .int _=>T = "int"
 | .ref p=>(T = "list" /\ ∃ xs,bQ K H p xs)\/(T = "tuple" /\ ∃ o,K.lookup p=some o/\o.cls=.type "tuple" /\ o.dict=none)\/
  (T = "dict" /\ ((∃ kvs,H p=some (.dK kvs))\/∃ kvs,H p=some (.dT kvs)))\/(T = "set" /\ ∃ S n,H p=some (.set S n))
 | _=>False
theorem Rh {σ:St} {H:Hp} {T:String} {x:V} {v:Value} (I:Inv X pins σ H s) (r:RelV x v) (ty:Uu X.K T x H):
 s.TypeIs v T/\∀ a,v=.ref a->∃ ob,s.heap.get? a=some ob/\ob.dict=none:=by
 cases x with
 | str z=>
  obtain ⟨t,rfl⟩:=r
  cases (show T = "str" from ty)
  exact ⟨typeIs_str s z t,fun _ e=>nomatch e⟩
 | int i=>
  obtain ⟨t,rfl⟩:=r
  cases (show T = "int" from ty)
  exact ⟨typeIs_int s i t,fun _ e=>nomatch e⟩
 | ref p=>
  cases r
  rcases ty with ⟨rfl,xs,hq⟩ | ⟨rfl,o,hk,hc,hd⟩ | ⟨rfl,hk⟩ | ⟨rfl,S,n,hk⟩
  . obtain ⟨its,_,pl,_⟩:=I.list hq
    refine ⟨pl.isList.typeIs,fun a e=>?_⟩
    cases e
    obtain ⟨o,n,e,c,hd,_⟩:=pl
    exact ⟨o,e,hd⟩
  . refine ⟨⟨o,I.kIn p o hk,hc⟩,fun a e=>?_⟩
    cases e
    exact ⟨o,I.kIn _ o hk,hd⟩
  . have z:∃ o,s.heap.get? p=some o/\o.ExactDict:=by
     rcases hk with ⟨kvs,hk⟩ | ⟨kvs,hk⟩
     . obtain ⟨_,_,_,_,o,_,_,e,ex,_⟩:=I.hok p _ hk
       exact ⟨o,e,ex⟩
     . obtain ⟨_,_,_,_,o,_,_,e,ex,_⟩:=I.hok p _ hk
       exact ⟨o,e,ex⟩
    obtain ⟨o,e,ex⟩:=z
    refine ⟨⟨o,e,ex.1⟩,fun a e2=>?_⟩
    cases e2
    exact ⟨o,e,ex.2.1⟩
  . obtain ⟨o,_,_,_,e,ex,_⟩:=I.hok p _ hk
    refine ⟨⟨o,e,ex.1⟩,fun a e2=>?_⟩
    cases e2
    exact ⟨o,e,ex.2.1⟩
 | _=>exact False.elim ty
noncomputable def Dq (K:FG) (T:String) (r:V->List V->Hp->VK->Prop) (to:TE) (t:TA):TE:=fun σ H Q=>to σ H fun x H1=>Uu K T x H1/\t σ H1 fun xs H2=>r x xs H2 Q
variable {o e:Expr} {es:List Expr} {to:TE} {t:TA} {name:Str} {apos cpos:Pos} {T id:String} {r:V->List V->Hp->VK->Prop}
theorem nD (pa:PlainAttrs T) (slot:Slot T name id) (hty:typeOf (.builtin id)=pure (.type "method_descriptor")) (hm:Nb X id r) (ho:PE X o to) (ha:PA X (e::es) t)
 (hbase:attributeBase o name X.env (eval o X.env)=eval o X.env:=by rfl)
 (hfew:((backTo cpos (starEach (e::es) X.env)).all (fun x=>!x.1)&&(backToKw cpos (keywordEach [] X.env)).all (fun x=>x.1.isSome)
   && decide ((e::es).length+([]:List Keyword).length+(if ([]:List Keyword).isEmpty then 0 else 1)<30))=true:=by rfl)
 (hline:(apos.endLine==cpos.line)=true:=by rfl) (hs:starEach (e::es) X.env=(false,eval e X.env)::starEach es X.env:=by rfl) (hplain:(backTo cpos (starEach es X.env)).any (·.1)=false:=by rfl):
 PE X (.Call (.Attribute o name apos) (e::es) [] cpos) (Dq X.K T r to t):=by
 intro pins s σ H Q I h
 refine wpAny_Call_method_late hbase hfew hline rfl (bu (ho pins s σ H _ I h) fun v s1 ⟨x,H1,I1,r1,ty,q1⟩=>?_)
 obtain ⟨h1,h2⟩:=Rh I1 r1 ty
 refine ⟨T,id,pa,slot,hty,h1,h2,?_⟩
 have hA:=ha cpos pins s1 σ H1 _ I1 q1
 rw [hs] at hA ⊢
 refine Calls.callWith_builtin (by show (false||(backTo cpos (starEach es X.env)).any (·.1))=false; rw [hplain]<;>rfl) (Calls.evalArgs_plain ?_)
 exact bu hA fun us s2 ⟨vs,H2,I2,r2,q2⟩=>hm pins s2 σ H2 x vs v us Q I2 r1 r2 q2
end
noncomputable def Ri (X:Cx) (id:String) (r:V->List V->Hp->VK->Prop):Prop:=
 ∀ (pins:List (Addr×Obj)) (s:Shared) (σ:St) (H:Hp) (x:V) (xs:List V) (v:Value) (us:List Value) (Q:VK),Inv X pins σ H s->RelV x v->Vals xs us->r x xs H Q->
  wpAny (model X.prog X.w) X.A (call (.builtin id) (v::us)) (EP X pins σ Q) X.xe s
theorem Vals.one:∀ {x:V} {us:List Value},Vals [x] us->∃ u,us=[u]/\RelV x u
 | _,_,.cons r .nil=>⟨_,rfl,r⟩
theorem Vals.zero:∀ {us:List Value},Vals [] us->us=[]
 | _,.nil=>rfl
theorem Vals.rep {xs:List V} {us:List Value} (h:Vals xs us):∀ k:Nat,Vals (List.replicate k xs).flatten (List.replicate k us).flatten
 | 0=>.nil
 | k+1=>by
  rw [List.replicate_succ,List.replicate_succ,List.flatten_cons,List.flatten_cons]
  exact Vals.append h (Vals.rep h k)
theorem foldl_rep (its:List Value):∀ (k:Nat) (acc:List Value),
 List.foldl (fun x1 x2=>x1++x2) acc.toArray (List.replicate k its.toArray)=(acc++(List.replicate k its).flatten).toArray
 | 0,acc=>by simp
 | k+1,acc=>by
  have e:acc.toArray++its.toArray=(acc++its).toArray:=by simp
  have e2:(acc++its)++(List.replicate k its).flatten=acc++(List.replicate (k+1) its).flatten:=by
   rw [List.replicate_succ,List.flatten_cons,List.append_assoc]
  rw [← e2,← foldl_rep its k (acc++its),← e,List.replicate_succ,List.foldl_cons]
section
variable {X:Cx} {pins:List (Addr×Obj)} {σ:St} {H:Hp} {s:Shared} {l b:Addr} {xs ys zs:List V}
theorem Inv.lset {its its':List Value} {n:Nat} {f:Array Value->Array Value} {t':Nat} (I:Inv X pins σ H s) (hH:H l=some (.lst xs))
 (e:s.heap.get? l=some { cls:=.type "list",data:=.seq its.toArray n }) (hf:f its.toArray=its'.toArray) (hv:Vals ys its') (hz:ys.length<=sizeLine):
 Inv X pins σ (upd H l (.lst ys)) { s with heap:=s.heap.update l (Obj.mapSeq f),toks:=t' }:=by
 have q:=PySem.IsL.update e f
 rw [hf] at q
 refine I.write (x:=l) (e:=l) (by rw [hH]; exact trivial) (.inl rfl) (fun b' u hb hu=>(Heap.get?_update_other s.heap (Obj.mapSeq f) (Ne.symm hb)).trans hu) ⟨_,q⟩ ?_
 exact ⟨hz,its',_,hv,q⟩
theorem Inv.lnew {its:List Value} {t':Nat} (I:Inv X pins σ H s) (hv:Vals ys its) (hz:ys.length<=sizeLine):
 Inv X pins σ (upd H s.heap.objs.size (.lst ys)) { s with heap:=s.heap.push { cls:=.type "list",data:=.seq its.toArray },toks:=t' }:=
 I.laid (fun _ _ q=>Heap.get?_push_of_some _ q) (Nat.le_refl _) ⟨hz,its,0,hv,Heap.get?_push_size _ rfl⟩
theorem Inv.fresh (I:Inv X pins σ H s):H s.heap.objs.size=none:=I.hok.fresh (Nat.le_refl _)
theorem Inv.lstM (I:Inv X pins σ H s) (hH:H l=some (.lst xs)):xs.length<=sizeLine/\∃ (its:List Value) (n:Nat),Vals xs its/\xs.length=its.length/\s.heap.get? l=some { cls:=.type "list",data:=.seq its.toArray n }:=by
 obtain ⟨z,its,n,r,e⟩:=I.hok l _ hH
 exact ⟨z,its,n,r,r.length,e⟩
theorem KN {n:Nat} (h:n<=sizeLine):Builtin.List.listTooLong n=false:=by
 unfold Builtin.List.listTooLong
 exact decide_eq_false (by omega)
end
section
variable {X:Cx}
noncomputable def Dr:V->List V->Hp->VK->Prop:=fun x vs H Q=>∃ l xs y,x=.ref l/\vs=[y]/\H l=some (.lst xs)/\xs.length<sizeLine/\Q .non (upd H l (.lst (xs++[y])))
theorem yP:Ri X "list.append" Dr:=by
 intro pins s σ H x vs v us Q I rx rv h
 obtain ⟨l,xs,y,rfl,rfl,hH,hz,q⟩:=h
 cases rx
 obtain ⟨u,rfl,ru⟩:=rv.one
 obtain ⟨z,its,n,r,hl,e⟩:=I.lstM hH
 refine call_meets F.slot_list_append ⟨_,e,rfl⟩ F.entry_list_append (F.args_list_append_2 _ _) (PySem.list_append l its.toArray n u (by rw [List.size_toArray]; omega)) ⟨e,?_⟩
 refine ⟨.non,_,I.lset (its':=its++[u]) hH e (by simp) (r.append (.cons ru .nil)) ?_,rfl,q⟩
 rw [List.length_append,List.length_singleton]
 omega
noncomputable def Vg:R2:=fun x y H Q=>∃ l k xs,x=.ref l/\y=.int k/\H l=some (.lst xs)/\-(2 ^ 63)<=k/\k<2 ^ 63/\xs.length*k.toNat<=sizeLine/\
 ∀ p,H p=none->Q (.ref p) (upd H p (.lst (List.replicate k.toNat xs).flatten))
theorem len_rep {α:Type} (xs:List α) (k:Nat):(List.replicate k xs).flatten.length=k*xs.length:=by
 induction k with
 | zero=>simp
 | succ k ih=>rw [List.replicate_succ,List.flatten_cons,List.length_append,ih,Nat.succ_mul,Nat.add_comm]
theorem Rj:du X (binaryOp .Mult) Vg:=by
 intro pins s σ H x y v u Q I rx ry h
 obtain ⟨l,k,xs,rfl,rfl,hH,h1,h2,hz,q⟩:=h
 cases rx
 obtain ⟨t,rfl⟩:=ry
 obtain ⟨z,its,n,r,hl,e⟩:=I.lstM hH
 have hlen:its.toArray.size*k.toNat<=sizeLine:=by rw [List.size_toArray,← hl]; exact hz
 have hcap:¬ its.toArray.size*k.toNat>(2 ^ 63-1)/8:=by
  have:(sizeLine:Nat)<=(2 ^ 63-1)/8:=by decide
  omega
 have hfit:¬ (!Builtin.List.listFitsIndex k)=true:=by
  rw [fitsIndex_both h1 h2]
  exact Bool.false_ne_true
 have hlong:¬ Builtin.List.listTooLong (its.toArray.size*k.toNat)=true:=by
  rw [KN hlen]
  exact Bool.false_ne_true
 have hnew:List.foldl (fun x1 x2=>x1++x2) #[] (List.replicate (if its.toArray.isEmpty=true then 0 else k.toNat) its.toArray)=(List.replicate k.toNat its).flatten.toArray:=by
  have f0:∀ m:Nat,List.foldl (fun x1 x2=>x1++x2) #[] (List.replicate m its.toArray)=(List.replicate m its).flatten.toArray:=fun m=>by
   have:=foldl_rep its m []
   rw [List.nil_append] at this
   exact this
  rw [f0]
  cases its with
  | nil=>simp
  | cons a r'=>rw [if_neg (by simp)]
 refine wpAny_binaryOp_repeat_ref (T := "list") (U := "int") (by decide) ⟨_,e,rfl⟩ (fun s'=>typeIs_int s' k t) noFill_list_mul F.fills_int_mul F.slot_int_rmul repeat_list F.slot_int_index.lookup
  (call_meets F.slot_int_rmul (typeIs_int s k t) F.entry_int_rmul (F.args_int_rmul_2 _ _) (int___rmul___int_list k t l its.toArray n)
    ⟨e,rfl,⟨_,e,rfl⟩,call_meets F.slot_list_mul ⟨_,e,rfl⟩ F.entry_list_mul (F.args_list_mul_2 _ _) (AutoListH.list___mul___list_int_3 l its.toArray n k t hfit hcap hlong) ⟨e,?_⟩⟩)
 rw [hnew]
 exact ⟨.ref _,_,I.lnew (t':=s.toks) (r.rep k.toNat) (by rw [len_rep,Nat.mul_comm]; exact hz),rfl,q _ I.fresh⟩
end
section
variable {prog:Program}
end
section
variable {X:Cx}
end
end L2
namespace Att
open PySem PySem.W PySem.Calls PyProof.Rows
theorem wz {P:Params} {h:Heap}:∀ (ns:List Int) (vs:List Value),WellAll P h vs (ns.map WData.int)->IntsAre vs ns:=by
 intro ns
 induction ns with
 | nil=>
  intro vs w
  rw [List.map_nil] at w
  cases w
  exact .nil
 | cons n ns ih=>
  intro vs w
  rw [List.map_cons] at w
  cases w with
  | cons a b=>
   cases a
   exact .cons _ _ (ih _ b)
theorem Ik {l:OpenLaw} {n:Nat} (hn:l.most=some n) {P:Params} {h:Heap} {args:List WData} {vals:List Value}
 (hpre:l.row.toRowW.claim.pre args=true) (hwl:WellAll P h vals args):
 ∃ a vs ns,vals=[Value.ref a]/\args=[WData.list (ns.map WData.int)]/\h.get? a=some { cls:=.type "list",data:=.seq vs.toArray }/\IntsAre vs ns/\ns.length<=n:=by
 have hsh:WShape.hasAll [] args [.list .int]=true:=(pre_splitW hpre).1
 have hc:l.pre.holds [] { args:=args }=true:=(pre_splitW hpre).2
 obtain ⟨d,r,rfl,h1,h2⟩:=hasAllW_cons hsh
 obtain rfl:=hasAllW_nil h2
 obtain ⟨xs,rfl,h3⟩:=hasW_list h1
 obtain ⟨ns,rfl⟩:=items_int h3
 have hlen:ns.length<=n:=by
  unfold OpenLaw.pre at hc
  have h4:(WTm.not (.lt (.lit (.int (n:Int))) (.len (.arg 0)))).holds [] { args:=[.list (ns.map .int)] }=true:=by
   have h4:=(holds_andW hc).1
   rw [hn] at h4
   exact h4
  have h5:=condW_of h4 (w_not (w_lt w_lit (w_len_list (w_arg rfl))))
  rw [List.length_map] at h5
  refine Nat.le_of_not_lt fun q=>?_
  have q':(n:Int)<((ns.length:Nat):Int):=by omega
  first
   | (rw [decide_eq_true q'] at h5; exact absurd h5 (by decide))
   | (simp at h5; omega)
 cases hwl with
 | cons w1 w2=>
  cases w2
  cases w1 with
  | list ho hall=>exact ⟨_,_,ns,rfl,rfl,ho,wz ns _ hall,hlen⟩
theorem Il (l:OpenLaw) (args:List WData):l.row.toRowW.claim.post args (.bool true) args=true:=
 postW_of (r:=l.row.toRowW) (X:=(true==true))
  (show WShape.has [] (.bool true) .bool=true by first | rfl | decide | simp [WShape.has,WShape.arms,WShape.armsAll])
  (show (WTm.eq .res (.lit (.bool true))).value [] { args:=args,res:=some (.bool true),after:=args }=some (.bool (true==true)) from w_eq_bool (w_res rfl) w_lit) rfl
theorem attach_call {l:OpenLaw} {n:Nat} {q:Program} {loose:List Str} {XP:(Str->Option Value)->Heap->Prop} {YP:World->Heap->Prop} {d:DefRec}
 (hn:l.most=some n) (hdf:d.params.defaults=[])
 (call:∀ (w:World) (s₀ s₁:Shared) (mg mb:Str->Option Value) (fa:Addr) (o:Obj) (pm cd doc:Value) (a:Addr) (vs:List Value) (ns:List Int),
   Ground q loose [] XP w s₀ mg mb s₁.heap->YP w s₁.heap->
   s₁.heap.get? fa=some o->o.data=.func (docDef d.name d.params d.body d.scope pm cd doc)->s₁.heap.CodeRec cd d.name->mg d.name=some (.ref fa)->
   s₁.heap.get? a=some { cls:=.type "list",data:=.seq vs.toArray }->IntsAre vs ns->ns.length<=n->s₁.gens=#[]->
   codeAny (model l.prog w) callerA (.call (.ref fa) ⟨[.ref a],[]⟩) (fun r s'=>r=.ok (.ret (.bool true))/\OldK s₁.heap s'.heap/\s'.os=s₁.os/\AllBare s'.gens) s₁):
 WalkO q loose XP YP l.row.toRowW d [] (fun f vs=>PySem.call f vs):=by
 intro w s₀ s₁ mg mb G Y fa o pm cd doc dV kV ho hd hcd hD hmg hg args vals as hpre hlay hrd hwl hlo
 obtain rfl:dV=.none:=Dflts.none hD hdf
 obtain rfl:kV=.none:=Dflts.noKw hD
 obtain ⟨a,vs,ns,rfl,rfl,hobj,hints,hlen⟩:=Ik hn hpre hwl
 refine enter_call (codeAny_mono (call w s₀ s₁ mg mb fa o pm cd doc a vs ns G Y ho (fd_plain hd) hcd hmg hobj hints hlen hg) fun r s' hq=>?_)
 obtain ⟨rfl,h2,h3,h4⟩:=hq
 exact ⟨.inl ⟨.bool true,.bool true,[],rfl,fun _=>rfl,.bool true,Il l _,fun _=>⟨List.Pairwise.nil,fun _ hm=>(nomatch hm)⟩⟩,h2,h3,h4⟩
section
variable {prog:Program} {w:World} {A:Around} {E:Value->Shared->Prop} {s:Shared} {K:Frag}
end
end Att
namespace L2
open PySem PySem.Spec PyProof.Rows
variable {pins:List (Addr×Obj)} {E:Value->Shared->Prop} {s:Shared} {A:Around} {w:World} {P:Program}
theorem yQ:∀ {vs:List Value} {ns:List Int},IntsAre vs ns->Vals (ns.map V.int) vs
 | _,_,.nil=>.nil
 | _,_,.cons n t h=>.cons ⟨t,rfl⟩ (yQ h)
noncomputable def Only (H:Hp):Prop:=∀ b,H b=none\/∃ o xs,H b=some (.frz o (.lst xs))
theorem KQ {K:FG} {mg mb:Str->Option Value} {CX:qM} {k:Nat} {fa a:Addr} {fd:FuncData} {x:Str} {sp:Sp} {s₁:Shared} {vs:List Value} {ns:List Int}
 (KX:K.In s₁.heap) (hns:s₁.heap.Ns mainGlobals mg) (hb:s₁.heap.Ns builtinsNs mb) (hbb:∀ x:Str,x ≠ "__name__" -> mb x=bootBuiltins x) (hlim:s₁.heap.NoLimit) (hg:s₁.gens=#[])
 (ha:s₁.heap.get? a=some { cls:=.type "list",data:=.seq vs.toArray }) (hi:IntsAre vs ns) (hl:ns.length<=sizeLine) (hr:ie k callerA)
 (F:∀ base:Heap,K.In base->base.Ns mainGlobals mg->lF P w K mg base CX k fa fd [x] sp) (hbind:∀ (s:Shared) (u:Value),BindsTo s fd ⟨[u],[]⟩ [(x,u)])
 (hsp:∀ H:Hp,Only H->bQ K H a (ns.map V.int)->sp [.ref a] H (fun v _=>v=.bl true) fun _ _ _=>False)
 (hCX:∀ H e s',CX [] H s₁ (fun _ _ _=>False) e s'->False):
 codeAny (model P w) callerA (.call (.ref fa) ⟨[.ref a],[]⟩) (fun r s'=>r=.ok (.ret (.bool true))/\OldK s₁.heap s'.heap/\s'.os=s₁.os/\AllBare s'.gens) s₁:=by
 have rv:=yQ hi
 have lenV:=hi.length
 have core:∀ H:Hp,Only H->bQ K H a (ns.map V.int)->eF P w H s₁.heap->(∀ b,H b≠none->b=a)->(H a≠none->K.lookup a=none)->
  codeAny (model P w) callerA (.call (.ref fa) ⟨[.ref a],[]⟩) (fun r s'=>r=.ok (.ret (.bool true))/\OldK s₁.heap s'.heap/\s'.os=s₁.os/\AllBare s'.gens) s₁:=by
  intro H hO hS hok hA hK
  have base_of:∀ {b:Addr} {o:Obj},s₁.heap.get? b=some o->H b=none->(rH s₁.heap H).get? b=some o:=fun e n=>Kh e n
  have noA:∀ {b:Addr} {o:Obj} {es:Array DictEntry} {ep:Nat},s₁.heap.get? b=some o->o.data=.dict es ep->H b=none:=fun {b o es ep} e d=>by
   cases q:H b with
   | none=>rfl
   | some u=>
    have e':b=a:=hA b (by rw [q]; simp)
    subst e'
    rw [ha] at e; cases e
    have d':Data.seq vs.toArray _=Data.dict es ep:=d
    cases d'
  have nsK:∀ {b:Addr} {m:Str->Option Value},s₁.heap.Ns b m->(rH s₁.heap H).Ns b m:=fun {b m} ⟨o,es,ep,e,d,r⟩=>⟨o,es,ep,base_of e (noA e d),d,r⟩
  have hKb:K.In (rH s₁.heap H):=fun b o e=>base_of (KX b o e) (by
   cases q:H b with
   | none=>rfl
   | some u=>
    have e':b=a:=hA b (by rw [q]; simp)
    subst e'
    rw [hK (by rw [q]; simp)] at e; cases e)
  have hM:Mod K mg (rH s₁.heap H):=⟨hKb,nsK hns,⟨mb,nsK hb,hbb⟩,let ⟨mc,h1,h2⟩:=hlim; ⟨mc,nsK h1,h2⟩⟩
  have e0:vB P w K mg (rH s₁.heap H) callerA [] s₁ H:=⟨rfl,hM,fun b o e=>Ob e,Nat.le_of_eq (HD _ _),trivial,fun b hb=>absurd (show b∈([]:List Addr) from hb) (by simp),hok,.of_eq hg⟩
  refine codeAny_mono ((F _ hKb (nsK hns)).run callerA [] s₁ H ⟨[.ref a],[]⟩ [.ref a] [.ref a] _ _ hr e0 (hbind s₁ (.ref a)) (.cons rfl .nil) (hsp H hO hS)) fun r s' h=>?_
  cases r with
  | error e=>exact (hCX H e s' h).elim
  | ok fl=>
   cases fl with
   | next=>exact False.elim h
   | brk=>exact False.elim h
   | cont=>exact False.elim h
   | ret u=>
    obtain ⟨v,H',os,bare,un,hok',r',q⟩:=h
    have q':v=.bl true:=q
    subst q'
    obtain rfl:u=Value.bool true:=r'
    refine ⟨rfl,OldK.of_keep fun b o e=>?_,os,bare⟩
    cases q:H b with
    | none=>exact un.keep b o e q (by intro z; exact absurd (show b∈([]:List Addr) from z) (by simp)) (by simp)
    | some u=>
     rcases hO b with z | ⟨ob,xs,z⟩
     . rw [q] at z; cases z
     . have z2:=un.frzs b ob _ z
       obtain ⟨e1,_⟩:=hok b _ z
       obtain ⟨e2,_⟩:=hok' b _ z2
       rw [e] at e1; cases e1
       exact e2
 cases hk:K.lookup a with
 | some o=>
  have e:=KX a o hk
  rw [ha] at e
  cases e
  refine core (fun _=>none) (fun _=>.inl rfl) (.inr ⟨_,vs.toArray,_,hk,rfl,rfl,rfl,by rw [List.size_toArray,lenV]; exact hl,by simpa using rv⟩) (fun b u z=>by have z':(none:Option HO)=some u:=z; cases z') (fun b z=>absurd rfl z) fun z=>absurd rfl z
 | none=>
  refine core (fun b=>if b=a then some (.frz { cls:=.type "list",data:=.seq vs.toArray } (.lst (ns.map V.int))) else none) (fun b=>?_) (.inl (.inr ⟨{ cls:=.type "list",data:=.seq vs.toArray },if_pos rfl⟩)) (fun b u z=>?_) (fun b z=>?_) fun _=>hk
  . by_cases hb:b=a
    . exact .inr ⟨_,_,if_pos hb⟩
    . exact .inl (if_neg hb)
  . by_cases hb:b=a
    . have z':=(if_pos hb).symm.trans z
      cases z'
      subst hb
      exact ⟨ha,by rw [List.length_map]; exact hl,vs,_,rv,ha⟩
    . have z':=(if_neg hb).symm.trans z
      cases z'
  . by_cases hb:b=a
    . exact hb
    . exact absurd (if_neg hb) z
theorem walk_of {l:W.OpenLaw} {n k:Nat} {q:Program} {loose:List Str} {XP:(Str->Option Value)->Heap->Prop} {YP:World->Heap->Prop} {d:DefRec} {K:Params->FG} {CX:World->qM} {sp:World->Sp} {x:Str}
 (hn:l.most=some n) (hn2:n<=sizeLine) (hdf:d.params.defaults=[]) (hr:ie k callerA)
 (hY:∀ (w:World) (h:Heap),YP w h->(K w.params).In h)
 (F:∀ (w:World) (mg:Str->Option Value) (fa:Addr) (h:Heap),(K w.params).In h->h.Ns mainGlobals mg->mg d.name=some (.ref fa)->
   ∃ fd:FuncData,(∀ (s:Shared) (u:Value),BindsTo s fd ⟨[u],[]⟩ [(x,u)])/\
    ∀ base:Heap,(K w.params).In base->base.Ns mainGlobals mg->lF l.prog w (K w.params) mg base (CX w) k fa fd [x] (sp w))
 (hsp:∀ (w:World) (H:Hp) (a:Addr) (ns:List Int),ns.length<=n->Only H->bQ (K w.params) H a (ns.map V.int)->sp w [.ref a] H (fun v _=>v=.bl true) fun _ _ _=>False)
 (hCX:∀ (w:World) (H:Hp) (s:Shared) (e:Value) (s':Shared),CX w [] H s (fun _ _ _=>False) e s'->False):
 W.WalkO q loose XP YP l.row.toRowW d [] (fun f vs=>PySem.call f vs):=by
 refine Att.attach_call hn hdf fun w s₀ s₁ mg mb fa o pm cd doc a vs ns G Y ho hd hcd hmg hobj hints hlen hg=>?_
 have KX:=hY w _ Y
 obtain ⟨fd,hb,hF⟩:=F w mg fa _ KX G.T.g hmg
 exact KQ KX G.T.g G.T.b G.T.builtins G.T.nolimit hg hobj hints (Nat.le_trans hlen hn2) hr hF hb (fun H hO hS=>hsp w H a ns hlen hO hS) fun H e s'=>hCX w H s₁ e s'
noncomputable def inClass (s:Stmt) (j:Nat):Stmt:=match s with
 | .ClassDef _ _ _ body _ _ _ _ _ _ _=>body.getD j (.Pass ⟨0,0,0,0⟩)
 | _=>.Pass ⟨0,0,0,0⟩
noncomputable def bx (s:Stmt):Arguments:=match s with
 | .FunctionDef _ a _ _ _ _ _ _ _ _=>a
 | _=>{ posonlyargs:=[],args:=[],vararg:=none,kwonlyargs:=[],kw_defaults:=[],kwarg:=none,defaults:=[] }
noncomputable def aU (s:Stmt):List Stmt:=match s with
 | .FunctionDef _ _ b _ _ _ _ _ _ _=>b
 | _=>[]
noncomputable def az (s:Stmt):Scope:=match s with
 | .FunctionDef _ _ _ _ _ _ sc _ _ _=>sc
 | _=>{ kind:=.function,names:=[],isGenerator:=false,isCoroutine:=false }
noncomputable abbrev qN:qM:=fun _ _ _ _ _ _=>False
noncomputable abbrev E0:XK:=fun _ _ _=>False
theorem T5 {X:Cx}:oH qN X E0:=fun _ _ _ _ _ _ _ h=>h.elim
structure oJ (K:FG) (x qual:Str) (st:Stmt) (f:Addr) (fd:FuncData):Prop where
 ex:∃ (oc:Value) (od:Option Addr) (kV doc pm:Value) (an:Option Addr) (cdv ct:Value) (osl:Array (Option Value)),
  fd=W.fnOf x qual (bx st) (aU st) (az st) .none kV doc pm an cdv ct/\K.lookup f=some ⟨oc,od,.func fd,osl⟩/\W.codeIn K cdv qual=true
 kp:W.keepIn K (.ref f)=true
section
variable {P:Program} {w:World} {K:FG} {mg:Str->Option Value} {base:Heap}
theorem oJ.ok {b:Bool} {x qual:Str} {st:Stmt} {f:Addr} {fd:FuncData} {N ps:List Str} {k:Nat} {sp:Sp} (F:oJ K x qual st f fd) (S:bw N ps (az st)) (len:∀ vs H Q E,sp vs H Q E->vs.length=ps.length)
 (hbody:∀ (cdv:Value) (A:Around) (outer:List Env) (s:Shared) (H:Hp) (vs:List V) (Q:VK) (E:XK),cU b k (A.deeper (envOfC qual (az st) s.heap.objs.size f cdv))->sp vs H Q E->
   ∃ t,dg (pQ b qN P w K mg base N qual (az st) f cdv A outer s H E).nox (aU st) t/\t { nx:=fun _ H'=>Q .non H',rt:=Q } (start N vs) H):nC b P w K mg base qN (k+1) f fd ps sp:=by
 obtain ⟨oc,od,kV,doc,pm,an,cdv,ct,osl,rfl,lk,hcd⟩:=F.ex
 refine M8 lk hcd S len fun A outer s H vs Q E hr hsp=>?_
 obtain ⟨t,h,q⟩:=hbody cdv A outer s H vs Q E hr hsp
 exact ⟨t,h.nox,q⟩
theorem oJ.binds {x qual:Str} {st:Stmt} {f:Addr} {fd:FuncData} {ps:List Str} (F:oJ K x qual st f fd)
 (h:∀ (kV doc pm:Value) (an:Option Addr) (cdv ct:Value) (us:List Value),us.length=ps.length->bindArgs (W.fnOf x qual (bx st) (aU st) (az st) .none kV doc pm an cdv ct) ⟨us,[]⟩=pure (ps.zip us)):Binds K fd ps []:=by
 obtain ⟨oc,od,kV,doc,pm,an,cdv,ct,osl,rfl,lk,hcd⟩:=F.ex
 exact .all (h kV doc pm an cdv ct)
theorem tU {x qual:Str} {st:Stmt} {f:Addr} {oc:Value} {od an:Option Addr} {osl:Array (Option Value)} {kV doc pm cdv ct:Value} (l:K.lookup f=some ⟨oc,od,.func (W.fnOf x qual (bx st) (aU st) (az st) .none kV doc pm an cdv ct),osl⟩)
 (c:W.codeIn K cdv qual=true) (k:W.keepIn K (.ref f)=true):oJ K x qual st f (W.fnOf x qual (bx st) (aU st) (az st) .none kV doc pm an cdv ct):=⟨⟨oc,od,kV,doc,pm,an,cdv,ct,osl,rfl,l,c⟩,k⟩
end
theorem nF {b:Bool} {k:Nat} (hr:cU b k A):A.units+1<cLine:=Nat.lt_of_le_of_lt (Nat.add_le_add_left (by decide:1<=64) _) hr.units
section
variable {X:Cx}
theorem pv (i:Nat) {x:Str} {pos:Pos} (hN:X.N[i]?=some x:=by rfl) (hv:HF X.env.scope x:=by first | exact Or.inl rfl | exact Or.inr (Or.inl rfl) | exact Or.inr (Or.inr rfl)) (hd:(x==("__debug__" : Str))=false:=by decide)
 (hcd:(x==("__classdict__" : Str))=false:=by decide):PE X (.Name x pos) (qp i):=Qy hN hv hd hcd
end
noncomputable def cC (H H':Hp):Prop:=∀ b o,H b=some o->H' b=some o
theorem cC.refl (H:Hp):cC H H:=fun _ _ h=>h
theorem cC.trans {H H1 H2:Hp} (a:cC H H1) (b:cC H1 H2):cC H H2:=fun c o h=>b c o (a c o h)
theorem cC.free {H H':Hp} (e:cC H H') {l:Addr} (h:H' l=Option.none):H l=Option.none:=by
 cases q:H l with
 | none=>rfl
 | some o=>
  rw [e l o q] at h
  cases h
theorem cC.seq {K:FG} {H H':Hp} {a:Addr} {xs:List V} (e:cC H H') (h:bQ K H a xs):bQ K H' a xs:=by
 rcases h with (h | ⟨o,h⟩) | h
 . exact .inl (.inl (e _ _ h))
 . exact .inl (.inr ⟨o,e _ _ h⟩)
 . exact .inr h
section
variable {κ:Type} [DecidableEq κ]
noncomputable def j9 (kvs:List (κ×V)) (k:κ):Option V:=(kvs.find? fun kv=>decide (kv.1=k)).map (·.2)
noncomputable def putK (kvs:List (κ×V)) (k:κ) (v:V):List (κ×V):=
 if (kvs.any fun kv=>decide (kv.1=k))=true then kvs.map (fun kv=>if kv.1=k then (kv.1,v) else kv) else kvs++[(k,v)]
theorem oK {p:κ×V} {r:List (κ×V)} {k:κ} (e:p.1=k):j9 (p::r) k=some p.2:=by simp [j9,List.find?_cons,e]
theorem oM {p:κ×V} {r:List (κ×V)} {k:κ} (e:¬ p.1=k):j9 (p::r) k=j9 r k:=by simp [j9,List.find?_cons,e]
theorem oN (k:κ):∀ kvs:List (κ×V),(kvs.any fun kv=>decide (kv.1=k))=(j9 kvs k).isSome
 | []=>rfl
 | p::r=>by
  rw [List.any_cons]
  by_cases e:p.1=k
  . simp only [oK e,decide_eq_true e,Bool.true_or,Option.isSome_some]
  . rw [oM e,decide_eq_false e,Bool.false_or]; exact oN k r
theorem vp (kvs:List (κ×V)) (k:κ) (v:V):(putK kvs k v).length<=kvs.length+1:=by
 unfold putK
 split
 . rw [List.length_map]; omega
 . rw [List.length_append,List.length_cons,List.length_nil]; omega
theorem Ba {kvs:List (κ×V)} {k:κ} (v:V) (h:j9 kvs k=none):putK kvs k v=kvs++[(k,v)]:=by
 unfold putK
 rw [oN,h]
 exact if_neg (by decide)
theorem lR.isSome_eq {o:Option V} {u:Option Value} (r:lR o u):o.isSome=u.isSome:=by
 cases o with
 | none=>cases u with
  | none=>rfl
  | some _=>exact (show False from r).elim
 | some _=>cases u with
  | none=>exact (show False from r).elim
  | some _=>rfl
theorem KV.val {kvs:List (κ×V)} {vs:List (κ×Value)} (r:KV kvs vs) (k:κ):lR (j9 kvs k) (valueAt vs k):=by
 unfold KV at r
 induction r with
 | nil=>exact True.intro
 | @cons p q ps qs h t ih=>
  obtain ⟨h1,h2⟩:=h
  by_cases e:p.1=k
  . have e':q.1=k:=h1.symm.trans e
    have b:valueAt (q::qs) k=some q.2:=by simp [valueAt,List.find?_cons,e']
    rw [oK e,b]; exact h2
  . have e':¬ q.1=k:=fun z=>e (h1.trans z)
    have b:valueAt (q::qs) k=valueAt qs k:=by simp [valueAt,List.find?_cons,e']
    rw [oM e,b]; exact ih
theorem KV.any {kvs:List (κ×V)} {vs:List (κ×Value)} (r:KV kvs vs) (k:κ):(kvs.any fun kv=>decide (kv.1=k))=vs.any fun kv=>decide (kv.1=k):=by
 unfold KV at r
 induction r with
 | nil=>rfl
 | cons h t ih=>rw [List.any_cons,List.any_cons,ih,h.1]
theorem KV.repl {kvs:List (κ×V)} {vs:List (κ×Value)} (r:KV kvs vs) (k:κ) {y:V} {u:Value} (ry:RelV y u):
 KV (kvs.map fun kv=>if kv.1=k then (kv.1,y) else kv) (vs.map fun kv=>if kv.1=k then (kv.1,u) else kv):=by
 unfold KV at r ⊢
 induction r with
 | nil=>exact .nil
 | @cons p q ps qs h t ih=>
  rw [List.map_cons,List.map_cons]
  refine .cons ?_ ih
  obtain ⟨h1,h2⟩:=h
  by_cases e:p.1=k
  . rw [if_pos e,if_pos (h1.symm.trans e)]; exact ⟨h1,ry⟩
  . rw [if_neg e,if_neg (fun z=>e (h1.trans z))]; exact ⟨h1,h2⟩
theorem KV.put {kvs:List (κ×V)} {vs:List (κ×Value)} (r:KV kvs vs) (k:κ) {y:V} {u:Value} (ry:RelV y u):KV (putK kvs k y) (stored vs k u):=by
 unfold putK stored
 rw [r.any k]
 by_cases e:(vs.any fun kv=>decide (kv.1=k))=true
 . rw [if_pos e,if_pos e]; exact r.repl k ry
 . rw [if_neg e,if_neg e]; exact Paired.snoc r ⟨rfl,ry⟩
theorem KV.keys {kvs:List (κ×V)} {vs:List (κ×Value)} (r:KV kvs vs):kvs.map (·.1)=vs.map (·.1):=by
 unfold KV at r
 induction r with
 | nil=>rfl
 | cons h t ih=>rw [List.map_cons,List.map_cons,ih,h.1]
theorem KV.length {kvs:List (κ×V)} {vs:List (κ×Value)} (r:KV kvs vs):kvs.length=vs.length:=Paired.length r
end
theorem Gg {k:Key} {u:Value} (r:RelV (kV k) u):(cL P w).is k u=true:=by
 cases k with
 | inl i=>obtain ⟨t,e⟩:=(show ∃ t,u=Value.int i t from r); subst e; exact CV P w i t
 | inr x=>obtain ⟨t,e⟩:=(show ∃ t,u=Value.str x t from r); subst e; exact CZ P w x t
theorem yR:∀ {ks:List Key} {us:List Value},Vals (ks.map kV) us->ItemsAre (cL P w) ks us
 | [],_,r=>by rw [List.map_nil] at r; cases r; exact .nil
 | k::ks,_,r=>by
  rw [List.map_cons] at r
  cases r with
  | cons h t=>exact .cons (Gg h) (yR t)
noncomputable abbrev KT (H:Hp):List (List Key×V)->List (List Key×Addr×Value)->Prop:=Paired fun p q=>p.1=q.1/\H q.2.1=some (.tup (p.1.map kV))/\RelV p.2 q.2.2
theorem KT.val {H:Hp} {kvs:List (List Key×V)} {xs:List (List Key×Addr×Value)} (r:KT H kvs xs) (k:List Key):lR (j9 kvs k) ((atKey xs k).map (·.2)):=by
 induction r with
 | nil=>exact True.intro
 | @cons p q ps qs h t ih=>
  obtain ⟨h1,_,h2⟩:=h
  by_cases e:p.1=k
  . have e':q.1=k:=h1.symm.trans e
    have b:atKey (q::qs) k=some q.2:=by simp [atKey,List.find?_cons,e']
    rw [oK e,b]; exact h2
  . have e':¬ q.1=k:=fun z=>e (h1.trans z)
    have b:atKey (q::qs) k=atKey qs k:=by simp [atKey,List.find?_cons,e']
    rw [oM e,b]; exact ih
theorem KT.repl {H:Hp} {kvs:List (List Key×V)} {xs:List (List Key×Addr×Value)} (r:KT H kvs xs) (k:List Key) {y:V} {u:Value} (ry:RelV y u):
 KT H (kvs.map fun kv=>if kv.1=k then (kv.1,y) else kv) (xs.map (putAt k u)):=by
 induction r with
 | nil=>exact .nil
 | @cons p q ps qs h t ih=>
  rw [List.map_cons,List.map_cons]
  refine .cons ?_ ih
  obtain ⟨h1,h2,h3⟩:=h
  unfold putAt
  by_cases e:p.1=k
  . rw [if_pos e,if_pos (h1.symm.trans e)]; exact ⟨h1,h2,ry⟩
  . rw [if_neg e,if_neg (fun z=>e (h1.trans z))]; exact ⟨h1,h2,h3⟩
theorem KT.put {H:Hp} {kvs:List (List Key×V)} {xs:List (List Key×Addr×Value)} (r:KT H kvs xs) (k:List Key) {b:Addr} {y:V} {u:Value} (hb:H b=some (.tup (k.map kV))) (ry:RelV y u):
 KT H (putK kvs k y) (storedH xs k b u):=by
 have e:(kvs.any fun kv=>decide (kv.1=k))=(atKey xs k).isSome:=by
  rw [oN,(r.val k).isSome_eq,Option.isSome_map]
 unfold putK storedH
 rw [e]
 by_cases q:(atKey xs k).isSome=true
 . rw [if_pos q,if_pos q]; exact r.repl k ry
 . rw [if_neg q,if_neg q]; exact Paired.snoc r ⟨rfl,hb,ry⟩
theorem KT.keeps {H H':Hp} {kvs:List (List Key×V)} {xs:List (List Key×Addr×Value)} (r:KT H kvs xs) (ht:∀ b ys,H b=some (.tup ys)->H' b=some (.tup ys)):KT H' kvs xs:=
 Paired.mapP r fun _ _ z=>⟨z.1,ht _ _ z.2.1,z.2.2⟩
section
variable {P:Program} {w:World} {H:Hp} {h:Heap} {a:Addr}
theorem Ni {u:HO} (ok:eF P w H h) (e:Rd H a u):dh P w H h a u:=e.ok ok
theorem Gh {kvs:List (Key×V)} (ok:eF P w H h) (e:Rd H a (.dK kvs)):kvs.length<=sizeLine/\(a==sysModules)=false/\∃ vs,KV kvs vs/\h.DictOf (cL P w) a vs:=
 show dh P w H h a (.dK kvs) from Ni ok e
theorem Gi {kvs:List (Key×V)} (ok:eF P w H h) (e:H a=some (.dK kvs)):kvs.length<=sizeLine/\(a==sysModules)=false/\∃ vs,KV kvs vs/\h.DictOf (cL P w) a vs:=Gh ok (.inl e)
theorem Bb {ks:List Key} (ok:eF P w H h) (e:H a=some (.tup (ks.map kV))):(tupleKind (cL P w)).is h ks a:=by
 obtain ⟨_,its,r,o,h1,h2,n,h3⟩:=(show dh P w H h a (.tup (ks.map kV)) from ok a _ e)
 exact ⟨o,its.toArray,n,h1,h2,h3,by simpa using yR r⟩
theorem Gj {kvs:List (List Key×V)} (ok:eF P w H h) (e:Rd H a (.dT kvs)):kvs.length<=sizeLine/\(a==sysModules)=false/\
 ∃ xs,KT H kvs xs/\h.DictOfH (tupleKind (cL P w)) a xs:=by
 obtain ⟨z,y,xs,r,o,es,ep,h1,h2,h3,h4,h5⟩:=(show dh P w H h a (.dT kvs) from Ni ok e)
 refine ⟨z,y,xs,r,o,es,ep,h1,h2,h3,h4,fun x hx=>?_,h5⟩
 have all:∀ {l:List (List Key×V)} {m:List (List Key×Addr×Value)},KT H l m->∀ x∈m,(tupleKind (cL P w)).is h x.1 x.2.1:=by
  intro l m q
  induction q with
  | nil=>intro x hx; exact nomatch hx
  | @cons p q ps qs hq t ih=>
   intro x hx
   rcases List.mem_cons.mp hx with e | hx
   . subst e
     exact Bb ok (by rw [← hq.1]; exact hq.2.1)
   . exact ih x hx
 exact all r x hx
theorem T6 {kvs:List (List Key×V)} (ok:eF P w H h) (e:H a=some (.dT kvs)):kvs.length<=sizeLine/\(a==sysModules)=false/\
 ∃ xs,KT H kvs xs/\h.DictOfH (tupleKind (cL P w)) a xs:=Gj ok (.inl e)
end
noncomputable def KR (H:Hp) (a:Addr) (y:V) (r:Option V):Prop:=
 (∃ kvs k,Rd H a (.dK kvs)/\y=kV k/\r=j9 kvs k)\/∃ kvs k b,Rd H a (.dT kvs)/\y=.ref b/\H b=some (.tup (k.map kV))/\r=j9 kvs k
noncomputable def Rk (H:Hp) (a:Addr) (y v:V) (H':Hp):Prop:=
 (∃ kvs k,H a=some (.dK kvs)/\y=kV k/\kvs.length<sizeLine/\H'=upd H a (.dK (putK kvs k v)))\/
 ∃ kvs k b,H a=some (.dT kvs)/\y=.ref b/\H b=some (.tup (k.map kV))/\kvs.length<sizeLine/\H'=upd H a (.dT (putK kvs k v))
section
variable {X:Cx} {pins:List (Addr×Obj)} {σ:St} {H:Hp} {s:Shared} {a:Addr} {y v:V} {u r:Value} {o:Option V} {A:Around} {E:Value->Shared->Prop}
theorem Inv.big (I:Inv X pins σ H s):sysModules<s.heap.objs.size:=by
 have h:mainGlobals<s.heap.objs.size:=(I.mod.glob.keeps I.bk).lt
 exact Nat.lt_trans (by decide) h
theorem Im {Q:Value->Shared->Prop} (hu:A.units+1<cLine) (I:Inv X pins σ H s) (g:KR H a y (some v)) (ry:RelV y u) (h:∀ w' s',Inv X pins σ H s'->RelV v w'->Q w' s'):
 wpAny (model X.prog X.w) A (getItem (.ref a) u) Q E s:=by
 rcases g with ⟨kvs,k,e,ey,l⟩ | ⟨kvs,k,b,e,ey,eb,l⟩
 . subst ey
   obtain ⟨z,hd,vs,rel,dd⟩:=Gh I.hok e
   obtain ⟨w',hw,rw'⟩:=lR.some_of (v:=v) (o:=valueAt vs k) (by rw [l]; exact rel.val k)
   exact wpAny_getItem_of (Gg ry) dd.mapOf hw (h w' _ (I.tok _) rw')
 . subst ey
   cases (show u=Value.ref b from ry)
   obtain ⟨z,hd,xs,rel,dd⟩:=Gj I.hok e
   obtain ⟨w',hw,rw'⟩:=lR.some_of (v:=v) (o:=(atKey xs k).map (·.2)) (by rw [l]; exact rel.val k)
   obtain ⟨p,hp,hp2⟩:=Option.map_eq_some_iff.mp hw
   refine wpAny_getItem_heap (tupleKind_room_in1 hu) (Bb I.hok eb) dd hp ?_
   rw [hp2]
   exact h w' _ (I.tok _) rw'
theorem uO {h':Heap} {t':Nat} {ob:HO} (I:Inv X pins σ H s) (mu:HB (H a)) (hs:Heap.SameBut a s.heap h') (he:∃ q,h'.get? a=some q) (new:dh X.prog X.w (upd H a ob) h' a ob):
 Inv X pins σ (upd H a ob) { s with heap:=h',toks:=t' }:=
 I.write (x:=a) (e:=a) mu (.inl rfl) (fun b q hb z=>(hs.2 b hb).trans z) he new
theorem Rm {H':Hp} {h':Heap} {kvs:List (Key×V)} {vs:List (Key×Value)} (z:kvs.length<=sizeLine) (hd:(a==sysModules)=false) (rel:KV kvs vs) (dd:h'.DictOf (cL P w) a vs):
 dh P w H' h' a (.dK kvs):=⟨z,hd,vs,rel,dd⟩
theorem Io {H':Hp} {Q:Unit->Shared->Prop} (hu:A.units+1<cLine) (I:Inv X pins σ H s) (g:Rk H a y v H') (ry:RelV y u) (rv:RelV v r) (h:∀ s',Inv X pins σ H' s'->Q () s'):
 wpAny (model X.prog X.w) A (setItem (.ref a) u r) Q E s:=by
 rcases g with ⟨kvs,k,e,ey,l,eH⟩ | ⟨kvs,k,b,e,ey,eb,l,eH⟩
 . subst ey eH
   obtain ⟨z,hd,vs,rel,dd⟩:=Gi I.hok e
   have hz:vs.length<=sizeLine:=by rw [← rel.length]; exact z
   have hl:(putK kvs k v).length<=sizeLine:=by have:=vp kvs k v; omega
   refine wpAny_setItem_pairs (hsz:=hz) (Gg ry) dd fun h' dd' hs=>h _ ?_
   have he:∃ q,h'.get? a=some q:=let ⟨q,_,_,hq,_⟩:=dd'; ⟨q,hq⟩
   exact uO I (by rw [e]; exact True.intro) hs he (Rm hl hd (rel.put k rv) dd')
 . subst ey eH
   cases (show u=Value.ref b from ry)
   obtain ⟨z,hd,xs,rel,dd⟩:=T6 I.hok e
   have hz:xs.length<=sizeLine:=by rw [← Paired.length rel]; exact z
   have hl:(putK kvs k v).length<=sizeLine:=by have:=vp kvs k v; omega
   refine wpAny_setItem_heap (hsz:=hz) (tupleKind_room_in1 hu) (Bb I.hok eb) dd fun h' dd' hs=>h _ ?_
   obtain ⟨q,es,ep,hq,h2,h3,h4,_,h5⟩:=dd'
   refine uO I (by rw [e]; exact True.intro) hs ⟨q,hq⟩ ⟨hl,hd,_,(rel.put k eb rv).keeps fun c ys ec=>?_,q,es,ep,hq,h2,h3,h4,h5⟩
   rw [aO (Tv ec e (fun z=>nomatch z))]
   exact ec
end
section
variable {X:Cx} {pins:List (Addr×Obj)} {σ:St} {H:Hp} {s:Shared} {a:Addr} {kvs:List (Key×V)} {k:Key} {u:Value} {A:Around} {E:Value->Shared->Prop}
end
theorem Dd {X:Cx} {σ:St} {H:Hp} {a:Addr} {y:V} {o:Option V} (I:Inv X pins σ H s) (g:KR H a y o):s.TypeIs (.ref a) "dict" := by
 rcases g with ⟨kvs,k,e,_,_⟩ | ⟨kvs,k,b,e,_,_,_⟩
 . obtain ⟨_,_,vs,_,dd⟩:=Gh I.hok e
   exact dd.typeIs
 . obtain ⟨_,_,xs,_,dd⟩:=Gj I.hok e
   exact dd.typeIs
section
variable {X:Cx} {o i e value:Expr} {pos pos' tpos:Pos} {td ty tv:TE}
end
theorem KY {H:Hp} (h:Heap) (hb:sysModules<h.objs.size):dh P w H (h.push { cls:=.type "dict",data:=.dict #[] }) h.objs.size (.dK []):=
 ⟨Nat.zero_le _,beq_eq_false_iff_ne.mpr (Ne.symm (Nat.ne_of_lt hb)),[],.nil,Heap.DictOf.new h⟩
theorem KZ {H:Hp} (h:Heap) (hb:sysModules<h.objs.size):dh P w H (h.push { cls:=.type "dict",data:=.dict #[] }) h.objs.size (.dT []):=
 ⟨Nat.zero_le _,beq_eq_false_iff_ne.mpr (Ne.symm (Nat.ne_of_lt hb)),[],.nil,_,#[],0,Heap.get?_push_size _ rfl,⟨rfl,rfl,rfl⟩,rfl,rfl,List.nodup_nil⟩
noncomputable def Rn:TE:=fun _ H Q=>∀ p,H p=none->Q (.ref p) (upd H p (.dK []))
noncomputable def Ro:TE:=fun _ H Q=>∀ p,H p=none->Q (.ref p) (upd H p (.dT []))
section
variable {X:Cx} {pos:Pos}
theorem K1:PE X (.Dict [] [] pos) Rn:=fun pins s σ H Q I h=>
 wpAny_Dict_empty ⟨.ref s.heap.objs.size,_,I.laid (a:=s.heap.objs.size) (o:=.dK []) (t':=s.toks) (fun _ _ q=>Heap.get?_push_of_some _ q) (Nat.le_refl _) (KY s.heap I.big),rfl,h _ (I.hok.fresh (Nat.le_refl _))⟩
theorem K3:PE X (.Dict [] [] pos) Ro:=fun pins s σ H Q I h=>
 wpAny_Dict_empty ⟨.ref s.heap.objs.size,_,I.laid (a:=s.heap.objs.size) (o:=.dT []) (t':=s.toks) (fun _ _ q=>Heap.get?_push_of_some _ q) (Nat.le_refl _) (KZ s.heap I.big),rfl,h _ (I.hok.fresh (Nat.le_refl _))⟩
end
section
variable {X:Cx} {pins:List (Addr×Obj)} {σ:St} {H:Hp} {s:Shared} {a:Addr} {y d:V} {u r:Value} {o:Option V} {A:Around} {E:Value->Shared->Prop}
end
section
variable {X:Cx} {o e f:Expr} {apos cpos:Pos} {td ty tx:TE}
end
section
variable {X:Cx} {pins:List (Addr×Obj)} {σ:St} {H:Hp} {s:Shared} {a:Addr} {kvs:List (Key×V)} {A:Around} {E:Value->Shared->Prop}
end
section
variable {X:Cx} {pins:List (Addr×Obj)} {σ:St} {H:Hp} {s:Shared} {a:Addr} {y:V} {u:Value} {A:Around} {E:Value->Shared->Prop}
end
section
variable {X:Cx}
end
section
variable {κ:Type} [DecidableEq κ]
end
noncomputable def pU (names:List (Str×NameKind)) (env:Env):List (Str×Addr):=names.foldl (fun cs p=>if (p.2==NameKind.free)=true then (p.1,(env.cells.lookup p.1).getD 0)::cs else cs) []
theorem tV {env:Env}:∀ (names:List (Str×NameKind)) (cs:List (Str×Addr)) (x:Str) (c:Addr),
 (∀ y d,cs.lookup y=some d->d=(env.cells.lookup y).getD 0)->
 (names.foldl (fun cs p=>if (p.2==NameKind.free)=true then (p.1,(env.cells.lookup p.1).getD 0)::cs else cs) cs).lookup x=some c->c=(env.cells.lookup x).getD 0
 | [],cs,x,c,h,e=>h x c e
 | (n,k)::r,cs,x,c,h,e=>by
  simp only [List.foldl_cons] at e
  refine tV r _ x c ?_ e
  intro y d q
  split at q
  . simp only [List.lookup_cons] at q
    split at q
    . rename_i z
      have z':y=n:=by simpa using z
      rw [z']; exact (Option.some.inj q).symm
    . exact h y d q
  . exact h y d q
theorem wA {env:Env}:∀ (names:List (Str×NameKind)) (cs:List (Str×Addr)) (x:Str) (c:Addr),
 (names.foldl (fun cs p=>if (p.2==NameKind.free)=true then (p.1,(env.cells.lookup p.1).getD 0)::cs else cs) cs).lookup x=some c->(∃ d,cs.lookup x=some d)\/(x,NameKind.free)∈names
 | [],cs,x,c,e=>.inl ⟨c,e⟩
 | (n,k)::r,cs,x,c,e=>by
  simp only [List.foldl_cons] at e
  rcases wA r _ x c e with ⟨d,q⟩ | q
  . split at q
    . rename_i hk
      simp only [List.lookup_cons] at q
      split at q
      . rename_i z
        have z':x=n:=by simpa using z
        have k':k=NameKind.free:=by simpa using hk
        right; rw [z',k']; exact List.mem_cons_self
      . exact .inl ⟨d,q⟩
    . exact .inl ⟨d,q⟩
  . exact .inr (List.mem_cons_of_mem _ q)
theorem tW {env:Env}:∀ (names:List (Str×NameKind)) (cs:List (Str×Addr)) (x:Str),
 ((∃ d,cs.lookup x=some d)\/(x,NameKind.free)∈names)->∃ c,(names.foldl (fun cs p=>if (p.2==NameKind.free)=true then (p.1,(env.cells.lookup p.1).getD 0)::cs else cs) cs).lookup x=some c
 | [],cs,x,h=>by
  rcases h with h | h
  . exact h
  . cases h
 | (n,k)::r,cs,x,h=>by
  simp only [List.foldl_cons]
  refine tW r _ x ?_
  rcases h with ⟨d,h⟩ | h
  . left
    split
    . simp only [List.lookup_cons]
      split
      . exact ⟨_,rfl⟩
      . exact ⟨d,h⟩
    . exact ⟨d,h⟩
  . rcases List.mem_cons.mp h with e | h
    . left
      cases e
      simp
    . exact .inr h
theorem m8 {env:Env}:∀ (names:List (Str×NameKind)) (cs:List (Str×Addr)),(∀ p∈names,p.2=NameKind.free->∃ c,env.cells.lookup p.1=some c)->
 (forIn names cs fun p r=>if (p.2==NameKind.free)=true then do let a ← cellOf env p.1; pure (ForInStep.yield ((p.1,a)::r)) else pure (ForInStep.yield r):Sem (List (Str×Addr)))=
  pure (names.foldl (fun cs p=>if (p.2==NameKind.free)=true then (p.1,(env.cells.lookup p.1).getD 0)::cs else cs) cs)
 | [],cs,_=>by simp
 | (n,k)::r,cs,h=>by
  rw [List.forIn_cons,List.foldl_cons]
  by_cases hk:(k==NameKind.free)=true
  . obtain ⟨c,hc⟩:=h (n,k) List.mem_cons_self (by simpa using hk)
    have hc':List.lookup n env.cells=some c:=hc
    simp only [hk,if_true,cellOf,hc',pure_bind,Option.getD_some]
    exact m8 r _ fun p hp=>h p (List.mem_cons_of_mem _ hp)
  . simp only [hk,pure_bind]
    exact m8 r _ fun p hp=>h p (List.mem_cons_of_mem _ hp)
theorem tD {sc:Scope} {env:Env} (h:∀ p∈sc.names,p.2=NameKind.free->∃ c,env.cells.lookup p.1=some c):closureFor sc env=pure (pU sc.names env):=by
 have:=m8 (env:=env) sc.names [] h
 unfold closureFor pU
 rw [← this]
 simp only [bind_pure]
theorem lV {env:Env}:∀ (names:List (Str×NameKind)) (x:Str),
 (names.map fun (n,k)=>if (k==NameKind.free&&env.scope.kind==.function&&env.kindOf n==some .cell) then (n,NameKind.cell) else (n,k)).lookup x=
  (names.lookup x).map fun k=>if (k==NameKind.free&&env.scope.kind==.function&&env.kindOf x==some .cell) then NameKind.cell else k
 | [],x=>rfl
 | (n,k)::r,x=>by
  have ih:=lV (env:=env) r x
  simp only [List.map_cons]
  by_cases hx:x=n
  . subst hx
    split<;>simp_all
  . have hb:(x==n)=false:=beq_eq_false_iff_ne.mpr hx
    split<;>simp only [List.lookup_cons,hb,ih]
theorem ig {x:Str} {a:Addr}:∀ (names:List (Str×NameKind)) (n:Nat) (acc:List (Str×Addr)),(cellsFrom n names acc).lookup x=some a->n<=a\/acc.lookup x=some a
 | [],_,_,h=>.inr h
 | (y,k)::r,n,acc,h=>by
  unfold cellsFrom at h
  split at h
  . rcases ig r _ _ h with q | q
    . exact .inl (Nat.le_of_succ_le q)
    . rw [List.lookup_cons] at q
      split at q
      . cases q; exact .inl (Nat.le_refl _)
      . exact .inr q
  . exact ig r _ _ h
theorem tX {x y:Str} {a:Addr}:∀ (names:List (Str×NameKind)) (n:Nat) (acc:List (Str×Addr)),(∀ z b,acc.lookup z=some b->b<n)->(cellsFrom n names acc).lookup x=some a->(cellsFrom n names acc).lookup y=some a->n<=a->x=y
 | [],_,_,h,h1,h2,h3=>absurd (h _ _ h1) (Nat.not_lt.mpr h3)
 | (z,k)::r,n,acc,h,h1,h2,h3=>by
  unfold cellsFrom at h1 h2
  split at h1
  . rename_i hk
    rw [if_pos hk] at h2
    have one:∀ {w:Str},(cellsFrom (n+1) r ((z,n)::acc)).lookup w=some a->a=n->w=z:=fun {w} e e'=>by
     rcases ig r _ _ e with q | q
     . exact absurd q (by rw [e']; exact Nat.not_succ_le_self n)
     . rw [List.lookup_cons] at q
       split at q
       . rename_i hw; exact beq_iff_eq.mp hw
       . exact absurd (h _ _ q) (by rw [e']; exact Nat.lt_irrefl _)
    by_cases e:a=n
    . exact (one h1 e).trans (one h2 e).symm
    . refine tX r (n+1) _ (fun w b q=>?_) h1 h2 (Nat.lt_of_le_of_ne h3 (Ne.symm e))
      rw [List.lookup_cons] at q
      split at q
      . cases q; exact Nat.lt_succ_self _
      . exact Nat.lt_succ_of_lt (h _ _ q)
  . rename_i hk
    rw [if_neg hk] at h2
    exact tX r n acc h h1 h2 h3
theorem tY {x:Str} {a:Addr}:∀ (names:List (Str×NameKind)) (n:Nat) (acc:List (Str×Addr)),names.lookup x=some .cell->(cellsFrom n names acc).lookup x=some a->n<=a
 | [],_,_,h,_=>by cases h
 | (y,k)::r,n,acc,h,h1=>by
  rw [List.lookup_cons] at h
  unfold cellsFrom at h1
  split at h
  . rename_i hy
    cases h
    rw [if_pos (by decide)] at h1
    rcases ig r _ _ h1 with q | q
    . exact Nat.le_of_succ_le q
    . rw [List.lookup_cons,hy] at q; cases q; exact Nat.le_refl _
  . split at h1
    . exact Nat.le_of_succ_le (tY r _ _ h h1)
    . exact tY r _ _ h h1
theorem tZ {x:Str}:∀ (names:List (Str×NameKind)) (n:Nat) (acc:List (Str×Addr)),(∀ p∈names,p.2=.cell->p.1≠x)->(cellsFrom n names acc).lookup x=acc.lookup x
 | [],_,_,_=>rfl
 | (y,k)::r,n,acc,h=>by
  unfold cellsFrom
  split
  . rename_i hk
    rw [tZ r _ _ fun p hp=>h p (List.mem_cons_of_mem _ hp),List.lookup_cons,show (x==y)=false from beq_eq_false_iff_ne.mpr fun e=>h _ List.mem_cons_self (by simpa using hk) e.symm]
  . exact tZ r _ _ fun p hp=>h p (List.mem_cons_of_mem _ hp)
theorem rM:∀ (names:List (Str×NameKind)) (h:Heap) (acc:List (Str×Addr)) (x:Str) (a:Addr),(cellsFrom h.objs.size names acc).lookup x=some a->h.objs.size<=a->(∀ z b,acc.lookup z=some b->b<h.objs.size)->(pushCells h names).IsCell a none
 | [],h,acc,x,a,e,hl,hb=>absurd (hb _ _ e) (Nat.not_lt.mpr hl)
 | (y,k)::r,h,acc,x,a,e,hl,hb=>by
  unfold cellsFrom at e
  unfold pushCells
  split at e
  . rename_i hk
    rw [if_pos hk]
    have hz:=Heap.size_push h ({ cls:=.type "cell",data:=.cell none }:Obj)
    by_cases q:a=h.objs.size
    . subst q
      exact ⟨_,pushCells_keeps r _ _ _ (Heap.get?_push_size _ rfl),rfl⟩
    . refine rM r _ ((y,h.objs.size)::acc) x a (by rw [hz]; exact e) (by rw [hz]; exact Nat.lt_of_le_of_ne hl (Ne.symm q)) fun z b q'=>?_
      rw [hz]
      rw [List.lookup_cons] at q'
      split at q'
      . cases q'; exact Nat.lt_succ_self _
      . exact Nat.lt_succ_of_lt (hb _ _ q')
  . rename_i hk
    rw [if_neg hk]
    exact rM r h acc x a e hl hb
noncomputable abbrev kh (sc:Scope) (C:Addr) (env:Env):List (Str×Addr):=cellsFrom (C+1) sc.names (pU sc.names env)
structure gh (X:Cx) (M F:List Str) (ixs:List Nat) (sc:Scope):Prop where
 kind:sc.kind=.function
 locs:∀ y∈sc.names,y.2=.local->sc.names.lookup y.1=some .local
 cel:∀ y∈sc.names,y.2=.cell->sc.names.lookup y.1=some .cell
 own:∀ p∈sc.names,p.2=.free->X.env.scope.names.lookup p.1=some .cell\/X.env.scope.names.lookup p.1=some .free
 frs:∀ x∈F,sc.names.lookup x=some .free
 ixl:ixs.length=F.length
 ixn:∀ (j i:Nat),ixs[j]?=some i->X.N[i]?=F[j]?
noncomputable abbrev t6 (m:Nat) (ixs:List Nat) (σ:St):St:=List.replicate m none++ixs.map fun i=>(σ[i]?).join
noncomputable def dN (X:Cx) (M F:List Str) (sc:Scope) (C:Addr) (fp:List Addr) (s:Shared) (H:Hp):Cx where
 prog:=X.prog
 w:=X.w
 K:=X.K
 mg:=X.mg
 base:=X.base
 A:=X.A
 N:=M++F
 s₀:=s
 H0:=H
 env:=compEnvC sc (kh sc C X.env) C X.env
 outer:=X.stack
 stack:=X.stack
 ex:=fp
 fn:=fun x=>sc.names.lookup x==some .cell
 calm:=X.calm
 pn:=[]
 xe:=fun _ _=>False
section
variable {X:Cx} {pins:List (Addr×Obj)} {σ:St} {H:Hp} {s:Shared}
theorem gh.free_of {M F:List Str} {ixs:List Nat} {sc:Scope} (c:gh X M F ixs sc) {x:Str} {k:NameKind} (h:sc.names.lookup x=some k):(x,k)∈sc.names:=by
 generalize sc.names=l at h
 induction l with
 | nil=>cases h
 | cons p r ih=>
  rw [List.lookup_cons] at h
  split at h
  . rename_i z
    have z':x=p.1:=by simpa using z
    have e:p.2=k:=Option.some.inj h
    subst e
    rw [z']
    exact List.mem_cons_self
  . exact List.mem_cons_of_mem _ (ih h)
theorem vD (I:Inv X pins σ H s) {M F:List Str} {ixs:List Nat} {sc:Scope} (c:gh X M F ixs sc):∀ p∈sc.names,p.2=NameKind.free->∃ a,X.env.cells.lookup p.1=some a:=fun p hp e=>
 I.ok.has p.1 (by rcases c.own p hp e with h | h; exact .inl h; exact .inr h)
theorem fU (I:Inv X pins σ H s) {M F:List Str} {ixs:List Nat} {sc:Scope} (c:gh X M F ixs sc) {x:Str} {a:Addr} (h:(pU sc.names X.env).lookup x=some a):X.env.cells.lookup x=some a:=by
 have e:=tV (env:=X.env) sc.names [] x a (fun y d q=>by cases q) h
 rcases wA sc.names [] x a h with ⟨d,q⟩ | q
 . cases q
 . obtain ⟨b,hb⟩:=vD I c _ q rfl
   have hb':X.env.cells.lookup x=some b:=hb
   rw [hb',Option.getD_some] at e
   rw [hb',e]
theorem Ip (I:Inv X pins σ H s) {M F:List Str} {ixs:List Nat} {sc:Scope} (c:gh X M F ixs sc) {x:Str} {a:Addr} (h:(pU sc.names X.env).lookup x=some a):a<s.heap.objs.size:=by
 obtain ⟨v,o,ho,_⟩:=I.cell x a (fU I c h)
 exact Heap.lt_size ho
theorem Ow (I:Inv X pins σ H s) {M F:List Str} {ixs:List Nat} {sc:Scope} (c:gh X M F ixs sc) {C:Addr} {fp:List Addr} (hC:s.heap.objs.size<=C) (hf:∀ b∈fp,lE X pins H b) (ho:∀ b∈fp,∃ o,s.heap.get? b=some o):(dN X M F sc C fp s H).Ok where
 mod:=I.ok.mod
 kind:=c.kind
 glob:=I.ok.glob
 blt:=I.ok.blt
 above:=hC
 inj:=fun x y a e1 e2=>by
  have e1':(kh sc C X.env).lookup x=some a:=e1
  have e2':(kh sc C X.env).lookup y=some a:=e2
  have lt:∀ z b,(pU sc.names X.env).lookup z=some b->b<C+1:=fun z b q=>Nat.lt_succ_of_lt (Nat.lt_of_lt_of_le (Ip I c q) hC)
  rcases ig _ _ _ e1' with q | q
  . exact tX _ _ _ lt e1' e2' q
  . rcases ig _ _ _ e2' with q' | q'
    . exact absurd (lt _ _ q) (Nat.not_lt.mpr q')
    . exact I.ok.inj x y a (fU I c q) (fU I c q')
 has:=fun x h=>by
  have h':((sc.names.lookup x).map fun k=>if (k==NameKind.free&&X.env.scope.kind==.function&&X.env.kindOf x==some .cell) then NameKind.cell else k)=some .cell\/((sc.names.lookup x).map fun k=>if (k==NameKind.free&&X.env.scope.kind==.function&&X.env.kindOf x==some .cell) then NameKind.cell else k)=some .free:=by
   rw [← lV]; exact h
  refine Option.isSome_iff_exists.mp (W.cellsFrom_some _ _ _ ?_)
  cases e:sc.names.lookup x with
  | none=>rw [e] at h'; rcases h' with h' | h'<;>cases h'
  | some k=>
   rw [e] at h'
   have m:=c.free_of e
   cases k with
   | free=>exact .inr (Option.isSome_iff_exists.mpr (tW sc.names [] x (.inr m)))
   | cell=>exact .inl rfl
   | _=>rcases h' with h' | h'<;>simp at h'
 cab:=fun x a h e=>Nat.le_trans hC (Nat.le_of_succ_le (tY _ _ _ (beq_iff_eq.mp h) e))
 hd:=I.ok.hd
 frames:=I.ok.frames
 stk:=.inl rfl
 exf:=fun b hb=>⟨by
  obtain ⟨o,e⟩:=ho b hb
  exact Nat.ne_of_lt (Nat.lt_of_lt_of_le (Heap.lt_size e) hC),fun x a e=>by
  obtain ⟨o,eo⟩:=ho b hb
  rcases ig _ _ _ (show (kh sc C X.env).lookup x=some a from e) with q | q
  . exact Nat.ne_of_gt (Nat.lt_of_lt_of_le (Heap.lt_size eo) (Nat.le_trans hC (Nat.le_of_succ_le q)))
  . exact (hf b hb).2.2.2.2.1 x a (fU I c q)⟩
 bs:=I.bs
 bsz:=Nat.le_trans I.ok.bsz I.sz
 noex:=fun b o e hb=>by
  obtain ⟨_,_,_,h,_⟩:=hf b hb
  rcases h with h | h
  . exact I.ok.noex b o e h
  . exact absurd (Nat.lt_of_lt_of_le (Heap.lt_size (I.ok.bs b o e).1) h) (Nat.lt_irrefl _)
 exfs:=fun b hb z=>by
  obtain ⟨_,h1,h2,_⟩:=hf b hb
  rcases List.mem_cons.mp (I.stkSub b z) with z | z
  . exact h1 z
  . exact h2 z
 funs:=I.stack
 frf:=I.stkFree
theorem K4 (I:Inv X pins σ H s) {M F:List Str} {ixs:List Nat} {sc:Scope} (c:gh X M F ixs sc) {fp:List Addr} (hf:∀ b∈fp,lE X pins H b) (ho:∀ b∈fp,∃ o,s.heap.get? b=some o)
 {h₁:Heap} {tk:Nat} {C:Addr} {m1:Str->Option Value} (hC:C=s.heap.objs.size+1) (hns:h₁.Ns C m1) (old:∀ b o,s.heap.get? b=some o->h₁.get? b=some o)
 (hD:h₁.get? s.heap.objs.size=some { cls:=.type "list",data:=.seq #[] 0 }) (hce:∀ x a,(kh sc C X.env).lookup x=some a->C+1<=a->h₁.IsCell a none):
 Inv (dN X M F sc C fp s H) [] (t6 M.length ixs σ) (upd H s.heap.objs.size (.lst [])) { s with heap:=h₁,toks:=tk }:=by
 have hDn:H s.heap.objs.size=none:=I.hok.fresh (Nat.le_refl _)
 have hCle:s.heap.objs.size<=C:=by rw [hC]; exact Nat.le_succ _
 have hCn:H C=none:=I.hok.fresh hCle
 have hok:=Ow (X:=X) I c (C:=C) (fp:=fp) hCle hf ho
 refine ⟨hok,rfl,I.bare,Un.laid old (Nat.le_refl _) hDn,⟨m1,hns,?_⟩,?_,?_,?_,?_,?_,?_⟩
 . intro i x v e1 e2 hv
   have e1':(M++F)[i]?=some x:=e1
   by_cases hi:i<M.length
   . rw [List.getElem?_append_left (by simpa using hi)] at e2
     rw [List.getElem?_replicate] at e2
     simp [hi] at e2
   . rw [List.getElem?_append_right (by omega)] at e1'
     rw [List.getElem?_append_right (by simpa using Nat.le_of_not_lt hi)] at e2
     simp only [List.length_replicate,List.getElem?_map] at e2
     cases q:ixs[i-M.length]? with
     | none=>rw [q] at e2; cases e2
     | some i'=>
      rw [q] at e2
      have e2':(σ[i']?).join=some v:=by simpa using e2
      have e3:σ[i']?=some (some v):=by
       cases z:σ[i']? with
       | none=>rw [z] at e2'; cases e2'
       | some y=>rw [z] at e2'; simp at e2'; rw [e2']
      have xF:x∈F:=List.mem_of_getElem? e1'
      have hlk:=c.frs x xF
      have hm:=c.free_of hlk
      have hX:=c.own _ hm rfl
      have hN:X.N[i']?=some x:=by rw [c.ixn _ _ q]; exact e1'
      obtain ⟨m,hn,hl⟩:=I.loc
      have vis:HF X.env.scope x:=by
       rcases hX with h | h
       . exact .inr (.inl h)
       . exact .inr (.inr h)
      obtain ⟨u,r,l⟩:=hl i' x v hN e3 vis
      refine ⟨u,r,.inr ⟨?_,?_⟩⟩
      . show (Env.kindOf (compEnvC sc (kh sc C X.env) C X.env) x=_)\/(Env.kindOf (compEnvC sc (kh sc C X.env) C X.env) x=_)
        have:Env.kindOf (compEnvC sc (kh sc C X.env) C X.env) x=(sc.names.lookup x).map fun k=>if (k==NameKind.free&&X.env.scope.kind==.function&&X.env.kindOf x==some .cell) then NameKind.cell else k:=lV sc.names x
        rw [this,hlk]
        simp only [Option.map_some]
        split
        . exact .inl rfl
        . exact .inr rfl
      . rcases l with ⟨hk,_⟩ | ⟨_,cc,hcc,hcell⟩
        . rcases hX with h | h
          . have hk':X.env.scope.names.lookup x=some .local:=hk
            have h':X.env.scope.names.lookup x=some .cell:=h
            rw [h'] at hk'; cases hk'
          . have hk':X.env.scope.names.lookup x=some .local:=hk
            have h':X.env.scope.names.lookup x=some .free:=h
            rw [h'] at hk'; cases hk'
        . obtain ⟨a,ha⟩:=tW (env:=X.env) sc.names [] x (.inr hm)
          have ha':=fU I c (x:=x) (a:=a) ha
          rw [hcc] at ha'; cases ha'
          obtain ⟨oc,hoc,hd⟩:=hcell
          exact ⟨cc,(tZ _ _ _ fun p hp e z=>by have:=c.cel p hp e; rw [z,hlk] at this; cases this).trans ha,oc,old _ _ hoc,hd⟩
 . intro x a e
   have e':(kh sc C X.env).lookup x=some a:=e
   rcases ig _ _ _ e' with q | q
   . exact ⟨none,hce x a e' q⟩
   . obtain ⟨v,oc,hoc,hd⟩:=I.cell x a (fU I c q)
     exact ⟨v,oc,old _ _ hoc,hd⟩
 . show upd H s.heap.objs.size (.lst []) C=none
   rw [aO (by rw [hC]; exact Nat.succ_ne_self _)]; exact hCn
 . intro x a e
   rcases ig _ _ _ (show (kh sc C X.env).lookup x=some a from e) with q | q
   . have q':s.heap.objs.size<a:=Nat.lt_of_le_of_lt hCle q
     rw [aO (Nat.ne_of_gt q')]
     exact I.hok.fresh (Nat.le_of_lt q')
   . obtain ⟨v,oc,hoc,hd⟩:=I.cell x a (fU I c q)
     rw [aO (Nat.ne_of_lt (Heap.lt_size hoc))]
     exact I.freeC x a (fU I c q)
 . intro p hp; cases hp
 . exact I.hok.laid old (Nat.le_refl _) ⟨Nat.zero_le _,[],0,.nil,hD⟩
 . show (List.replicate M.length none++_).length=(M++F).length
   simp [c.ixl]
noncomputable def qt (X:Cx) (ifs:List Expr) (t:TT):Prop:=
 ∀ (pins:List (Addr×Obj)) (s:Shared) (σ:St) (H:Hp) (Q:Bool->Hp->Prop),Inv X pins σ H s->t σ H Q->
  wpAny (model X.prog X.w) X.A (forIn ifs true fun c r=>if r=true then do let ok ← isTrue c X.env (eval c X.env); pure (ForInStep.yield ok) else pure (ForInStep.yield r)) (TP X pins σ Q) X.xe s
theorem K5 {X:Cx}:qt X [] (fun _ H Q=>Q true H):=fun _ s σ H Q I h=>wpAny_tests_nil ⟨H,I,h⟩
theorem K6 {X:Cx} {c:Expr} {t:TT} (h:PT X c t):qt X [c] t:=fun pins s σ H Q I q=>wpAny_tests_one (h pins s σ H Q I q)
noncomputable def Gk (wi:TI) (m:Nat) (ixs:List Nat) (g:TG) (tc:TT) (te:TE):TE:=fun σ H Q=>wi σ H fun J H1=>∀ p,H1 p=none->
 ∃ W:Nat->Nat->St->Hp->Prop,(∃ n,W 0 n (t6 m ixs σ) (upd H1 p (.lst [])))/\∀ i n σ' H',W i n σ' H'->
  ((J.stop i H'/\Q (.ref p) H')\/(J.go i H'/\∀ x H2,J.yld i H' x H2->g x σ' H2 fun σ3 H3=>tc σ3 H3 fun b H4=>
    if b=true then te σ3 H4 fun v H5=>∃ ys,H5 p=some (.lst ys)/\ys.length<sizeLine/\∃ n',n'<n/\W (i+1) n' σ3 (upd H5 p (.lst (ys++[v])))
    else ∃ n',n'<n/\W (i+1) n' σ3 H4))
noncomputable def CI (X:Cx) (fp:List Addr) (tn:Nat->Heap->Prop) (W:Nat->Nat->St->Hp->Prop) (n:Nat) (s:Shared):Prop:=∃ i σ H,Inv X [] σ H s/\tn i s.heap/\(∀ b∈fp,H b=none)/\W i n σ H
theorem vG {P:Prop} (h:∀ G:Prop,(P->G)->G):P:=h P id
theorem Ir {D it:Addr} {fp:List Addr} {tn:Nat->Heap->Prop} {J:It} {tg iter elt:Expr} {ifs:List Expr} {sc:Scope} {pos:Pos} {g:TG} {tc:TT} {te:TE} {W:Nat->Nat->St->Hp->Prop} {F:Hp->Prop} (hcalm:X.calm=true) (T:Turn X.prog X.w X.K tg J fp it tn) (hg:PG X tg g) (hc:qt X ifs tc) (he:PE X elt te) (hx:∀ u s,X.xe u s->False)
 (stat:∀ {H':Hp},(∀ b∈fp,H' b=none)->∀ b∈fp,lE X [] H' b)
 (turn:∀ i n σ' H',W i n σ' H'->((J.stop i H'/\F H')\/(J.go i H'/\∀ x H2,J.yld i H' x H2->g x σ' H2 fun σ3 H3=>tc σ3 H3 fun b H4=>
   if b=true then te σ3 H4 fun v H5=>∃ ys,H5 D=some (.lst ys)/\ys.length<sizeLine/\∃ n',n'<n/\W (i+1) n' σ3 (upd H5 D (.lst (ys++[v])))
   else ∃ n',n'<n/\W (i+1) n' σ3 H4)))
 {R:Result->Shared->Prop} (hR:∀ σ' H' s',Inv X [] σ' H' s'->F H'->R (.ok .next) s') (n:Nat) (s':Shared) (hI:CI X fp tn W n s'):
 wpAny (model X.prog X.w) X.A (compTurn (.ListComp elt [⟨tg,iter,ifs,0⟩] sc pos) 0 (.ref it) (.ref D) X.env)
  (fun fin s'=>match fin with | .done f=>R (.ok f) s' | .again c'=>c'=.compLoop (.ListComp elt [⟨tg,iter,ifs,0⟩] sc pos) 0 (.ref it) (.ref D) X.env/\∃ m,m<n/\CI X fp tn W m s') (fun _ _=>False) s':=by
 refine vG fun G kG=>?_
 obtain ⟨i,σ',H',I',st',fr',w'⟩:=hI
 rw [compTurn_list] at kG
 rcases turn i n σ' H' w' with ⟨stop,qn⟩ | ⟨go,step⟩
 . refine kG (wpAny_bind (wpAny_standAt (wpAny_bind (wpAny_mono (T.done X rfl rfl rfl hcalm i [] s' σ' H' (fun _ _=>False) I' (stat fr') st' stop) (fun r s4 h4=>?_) fun _ _ f=>f))))
   obtain ⟨hr,I4⟩:=h4
   subst hr
   exact wpAny_pure (hR σ' H' _ I4 qn)
 . refine kG (wpAny_bind (wpAny_standAt (wpAny_bind (wpAny_mono (T.item X rfl rfl rfl hcalm i [] s' σ' H' (fun _ _=>False) I' (stat fr') st' go) (fun r s4 h4=>?_) fun _ _ f=>f))))
   obtain ⟨u,hr,h4⟩:=h4
   subst hr
   refine wpAny_bind (wpAny_mono h4 (fun _ s5 h5=>?_) fun _ _ f=>f)
   refine vG fun G kG=>?_
   obtain ⟨x,H5,I5,r5,y5,st5,fr5⟩:=h5
   have again:∀ {s7:Shared} {σ7:St} {H7:Hp} {n':Nat},Inv X ([]++tQ fp s5.heap) σ7 H7 s7->W (i+1) n' σ7 H7->CI X fp tn W n' s7:=fun {s7 σ7 H7 n'} I7 w7=>by
    have pn:∀ b∈fp,∀ o,s5.heap.get? b=some o->s7.heap.get? b=some o/\H7 b=none:=fun b hb o e=>by
     have:=I7.pin (b,o) (List.mem_append_right _ (List.mem_append_right _ (rK hb e)))
     exact ⟨this.1,this.2.1⟩
    refine ⟨i+1,σ7,H7,I7.unpinned,T.keep _ _ _ st5 fun b hb o e=>(pn b hb o e).1,fun b hb=>?_,w7⟩
    obtain ⟨o,e,d⟩:=T.obj _ _ st5 b hb
    exact (pn b hb o e).2
   refine kG (wpAny_bind (wpAny_mono (hg _ s5 σ' H5 x u _ (I5.pinned (stat fr5) (T.obj _ _ st5)) r5 (step x H5 y5)) (fun _ s6 h6=>?_) hx))
   refine vG fun G kG=>?_
   obtain ⟨σ6,H6,I6,q6⟩:=h6
   refine kG (wpAny_bind (wpAny_mono (hc _ s6 σ6 H6 _ I6 q6) (fun ok s7 h7=>?_) hx))
   refine vG fun G kG=>?_
   obtain ⟨H7,I7,q7⟩:=h7
   cases ok with
   | false=>
    rw [if_neg Bool.false_ne_true] at q7
    obtain ⟨n',hn',w7⟩:=q7
    exact kG (wpAny_pure ⟨rfl,n',hn',again I7 w7⟩)
   | true=>
    rw [if_pos rfl] at q7
    refine kG (wpAny_bind (wpAny_bind (wpAny_mono (he _ s7 σ6 H7 _ I7 q7) (fun v s8 h8=>?_) hx)))
    refine vG fun G kG=>?_
    obtain ⟨y,H8,I8,r8,ys,hp8,hz,n',hn',w8⟩:=h8
    refine kG (wpAny_bind (wpAny_mono (yP (X:=X) _ s8 σ6 H8 (.ref D) [y] (.ref D) [v] (fun _ H9=>W (i+1) n' σ6 H9) I8 rfl (.cons r8 .nil) ⟨_,ys,y,rfl,rfl,hp8,hz,w8⟩) (fun _ s9 h9=>?_) hx))
    obtain ⟨_,H9,I9,_,w9⟩:=h9
    exact wpAny_pure (wpAny_pure ⟨rfl,n',hn',again I9 w9⟩)
theorem Ox {Md:Model} {sc:Scope} {gl:Addr} {clo:List (Str×Addr)} {qual:Str} {env:Env} {Q:Env->Shared->Prop}
 (h:Q (newEnv sc s.heap.objs.size gl (cellsFrom (s.heap.objs.size+1) sc.names clo) qual none .none (some env) builtinsNs) { s with heap:=pushCells (s.heap.push { cls:=.type "dict",data:=.dict #[] }) sc.names }):
 wpAny Md A (newFunctionEnv sc gl clo [] qual none .none (some env)) Q E s:=by
 simp only [newFunctionEnv,Option.isSome_some,if_true]
 refine wpAny_bind (wpAny_alloc ?_)
 refine wpAny_bind (wpAny_layCells _ (fun name kind cells=>by cases hkc:kind==NameKind.cell<;>simp [hkc]) _ _ _ _ ?_)
 rw [show ({ s with heap:=s.heap.push { cls:=.type "dict",data:=.dict #[] } }:Shared).heap.objs.size=s.heap.objs.size+1 from Heap.size_push ..]
 exact wpAny_bind (wpAny_pure (wpAny_pure h))
theorem wC {M F:List Str} {ixs:List Nat} {sc:Scope} {tg iter elt:Expr} {ifs:List Expr} {g:TG} {tc:TT} {te:TE} {pos:Pos} (hcalm:X.calm=true) (c:gh X M F ixs sc)
 (hg:∀ C fp s H,PG (dN X M F sc C fp s H) tg g) (hc:∀ C fp s H,qt (dN X M F sc C fp s H) ifs tc) (he:∀ C fp s H,PE (dN X M F sc C fp s H) elt te)
 {fp:List Addr} {it:Addr} {tn:Nat->Heap->Prop} {J:It} {Q:VK} (I:Inv X pins σ H s) (T:Turn X.prog X.w X.K tg J fp it tn) (st:tn 0 s.heap) (hf:∀ b∈fp,lE X pins H b)
 (h:∀ p,H p=none->∃ W:Nat->Nat->St->Hp->Prop,(∃ n,W 0 n (t6 M.length ixs σ) (upd H p (.lst [])))/\∀ i n σ' H',W i n σ' H'->
   ((J.stop i H'/\Q (.ref p) H')\/(J.go i H'/\∀ x H2,J.yld i H' x H2->g x σ' H2 fun σ3 H3=>tc σ3 H3 fun b H4=>
     if b=true then te σ3 H4 fun v H5=>∃ ys,H5 p=some (.lst ys)/\ys.length<sizeLine/\∃ n',n'<n/\W (i+1) n' σ3 (upd H5 p (.lst (ys++[v])))
     else ∃ n',n'<n/\W (i+1) n' σ3 H4)))
 {RR:Value->Addr->Result->Shared->Prop} {E:Value->Shared->Prop}
 (hR:∀ D C s' H' m,s.heap.get? D=none->s.heap.get? C=none->s.heap.objs.size<=C->H D=none->D≠C->H' C=none->s'.heap.Ns C m->s'.os=s.os->AllBare s'.gens->Un (frs X.stack) fp H H' s.heap s'.heap->eF X.prog X.w H' s'.heap->Q (.ref D) H'->RR (.ref D) C (.ok .next) s'):
 wpAny (model X.prog X.w) X.A (newList []) (fun acc s₃=>wpAny (model X.prog X.w) X.A (newFunctionEnv sc X.env.globals (pU sc.names X.env) [] X.env.qual none .none (some X.env)) (fun cenv s₄=>
  codeAny (model X.prog X.w) X.A (.compStart (.ListComp elt [⟨tg,iter,ifs,0⟩] sc pos) 0 (.ref it) acc { cenv with scope:=relabel sc X.env }) (RR acc cenv.locals) s₄) E s₃) E s:=by
 refine wpAny_newObj_type (Ox ?_)
 dsimp only
 generalize hH2:s.heap.push { cls:=.type "list",dict:=none,data:=.seq ([]:List Value).toArray }=H2
 generalize hh1:pushCells (H2.push { cls:=.type "dict",data:=.dict #[] }) sc.names=h₁
 have kp:∀ b o,H2.get? b=some o->h₁.get? b=some o:=fun b o e=>by rw [← hh1]; exact pushCells_keeps _ _ _ _ (Heap.get?_push_of_some _ e)
 have hns₁:h₁.Ns H2.objs.size (fun _=>none):=by rw [← hh1]; exact (Heap.Ns.new H2 (.type "dict")).keeps (pushCells_keeps _ _)
 have hC:H2.objs.size=s.heap.objs.size+1:=by rw [← hH2,Heap.size_push]
 have hDC:s.heap.objs.size≠H2.objs.size:=by rw [hC]; exact Nat.ne_of_lt (Nat.lt_succ_self _)
 have below:∀ b,b<s.heap.objs.size->b≠H2.objs.size:=fun b hb=>by rw [hC]; exact Nat.ne_of_lt (Nat.lt_succ_of_lt hb)
 have old:∀ b o,s.heap.get? b=some o->h₁.get? b=some o:=fun b o e=>kp b o (hH2▸Heap.get?_push_of_some _ e)
 have hD:h₁.get? s.heap.objs.size=some { cls:=.type "list",data:=.seq #[] 0 }:=kp _ _ (hH2▸Heap.get?_push_size _ rfl)
 have fresh:∀ a,s.heap.objs.size<=a->s.heap.get? a=none:=fun a ha=>by
  cases e:s.heap.get? a with
  | none=>rfl
  | some o'=>exact absurd (Heap.lt_size e) (Nat.not_lt.mpr ha)
 have hDn:H s.heap.objs.size=none:=I.hok.fresh (Nat.le_refl _)
 have hfo:∀ b∈fp,∃ o,s.heap.get? b=some o:=fun b hb=>let ⟨o,e,_⟩:=T.obj 0 _ st b hb; ⟨o,e⟩
 have hz2:(H2.push { cls:=.type "dict",data:=.dict #[] }).objs.size=H2.objs.size+1:=Heap.size_push ..
 have hce:∀ x a,(kh sc H2.objs.size X.env).lookup x=some a->H2.objs.size+1<=a->h₁.IsCell a none:=fun x a e q=>by
  rw [← hh1]
  exact rM _ _ (pU sc.names X.env) x a (by rw [hz2]; exact e) (by rw [hz2]; exact q) fun z b q'=>by rw [hz2,hC]; exact Nat.lt_succ_of_lt (Nat.lt_succ_of_lt (Ip I c q'))
 have I0:=K4 I c hf hfo (tk:=s.toks) hC hns₁ old hD hce
 obtain ⟨W,⟨n0,w0⟩,turn⟩:=h _ hDn
 have nf:∀ b∈fp,b≠s.heap.objs.size:=fun b hb=>by obtain ⟨o,e⟩:=hfo b hb; exact Nat.ne_of_lt (Heap.lt_size e)
 have stat:∀ {H':Hp},(∀ b∈fp,H' b=none)->∀ b∈fp,lE (dN X M F sc H2.objs.size fp s H) [] H' b:=fun {H'} hn b hb=>by
  obtain ⟨f0,f1,f2,f3,f4,f5⟩:=hf b hb
  obtain ⟨o,e⟩:=hfo b hb
  refine ⟨hn b hb,below b (Heap.lt_size e),fun z=>?_,.inl hb,fun x a e'=>by
   rcases ig _ _ _ (show (kh sc H2.objs.size X.env).lookup x=some a from e') with q | q
   . exact Nat.ne_of_gt (Nat.lt_of_lt_of_le (Heap.lt_size e) (Nat.le_trans (by rw [hC]; exact Nat.le_succ _) (Nat.le_of_succ_le q)))
   . exact f4 x a (fU I c q),fun p hp=>by cases hp⟩
  rcases List.mem_cons.mp (I.stkSub b z) with z | z
  . exact f1 z
  . exact f2 z
 have st1:tn 0 h₁:=T.keep 0 _ _ st fun b hb o e=>old b o e
 have loop:codeAny (model X.prog X.w) X.A (.compLoop (.ListComp elt [⟨tg,iter,ifs,0⟩] sc pos) 0 (.ref it) (.ref s.heap.objs.size) (compEnvC sc (kh sc H2.objs.size X.env) H2.objs.size X.env))
  (RR (.ref s.heap.objs.size) H2.objs.size) { s with heap:=h₁ }:=by
  refine codeAny_loop rfl (CI (dN X M F sc H2.objs.size fp s H) fp tn W) (fun n s' hI=>?_) n0 ⟨0,_,_,I0,st1,fun b hb=>by rw [aO (nf b hb)]; exact (hf b hb).1,w0⟩
  show wpAny _ X.A ((compTurn (.ListComp elt [⟨tg,iter,ifs,0⟩] sc pos) 0 (.ref it) (.ref s.heap.objs.size) (compEnvC sc (kh sc H2.objs.size X.env) H2.objs.size X.env)).onRaise (fun x=>do noteFrame x (compEnvC sc (kh sc H2.objs.size X.env) H2.objs.size X.env); theTreesLotGoes x)) _ _ s'
  refine wpAny_noted (wpAny_mono (Ir (X:=dN X M F sc H2.objs.size fp s H) hcalm T (hg _ fp s H) (hc _ fp s H) (he _ fp s H) (fun _ _ f=>f) stat turn (fun σ' H' s4 I4 qn=>?_) n s' hI) (fun _ _ h=>h) fun _ _ f=>f.elim)
  obtain ⟨m4,hn4,_⟩:=I4.loc
  exact hR _ _ _ H' m4 (fresh _ (Nat.le_refl _)) (fresh _ (by rw [hC]; exact Nat.le_succ _)) (by rw [hC]; exact Nat.le_succ _) hDn hDC I4.free hn4 I4.os I4.bare I4.base I4.hok qn
 exact codeAny_compStart_list loop (T.self _ 0 _ _ _ st1 loop)
end
section
variable {X:Cx}
theorem Ds {σ σ':St} {H H':Hp} {s s':Shared} {C:Addr} (I:Inv X pins σ H s) (hC:s.heap.get? C=none) (I':Inv X pins σ' H' s') (hn:H' C=none) {h':Heap} {m:Str->Option Value} (hs:Heap.SameBut C s'.heap h')
 (hsz:s.heap.objs.size<=C):Inv X pins σ' H' { s' with heap:=h' }:=by
 have ne:∀ a o,s.heap.get? a=some o->C≠a:=fun a o e z=>by rw [z,e] at hC; cases hC
 refine I'.turned (t':=s'.toks) (it:=C) (fun b o hb e=>(hs.2 b hb).trans e) hn ?_ (.inr (Nat.le_trans I.sz hsz)) (fun x c e=>?_) (fun p hp=>?_)
 . exact Nat.ne_of_gt (Nat.lt_of_lt_of_le I.lt hsz)
 . obtain ⟨v,o,ho,_⟩:=I.cell x c e
   exact Ne.symm (ne _ _ ho)
 . exact Ne.symm (ne _ _ (I.pin p hp).1)
theorem Oz (M F:List Str) (ixs:List Nat) {sc:Scope} {tg iter elt:Expr} {ifs:List Expr} {wi:TI} {g:TG} {tc:TT} {te:TE} {pos:Pos} (hcalm:X.calm=true) (c:gh X M F ixs sc) (hi:PI X tg iter wi)
 (hg:∀ C fp s H,PG (dN X M F sc C fp s H) tg g) (hc:∀ C fp s H,qt (dN X M F sc C fp s H) ifs tc) (he:∀ C fp s H,PE (dN X M F sc C fp s H) elt te)
 (hs:∀ x,foldedSetIterable iter X.env x=pure x:=by intro _; rfl):PE X (.ListComp elt [⟨tg,iter,ifs,0⟩] sc pos) (Gk wi M.length ixs g tc te):=by
 intro pins s σ H Q I h
 rw [eval_ListComp]
 refine wpAny_comprehension_free (use:=none) rfl hs (tD (vD I c)) c.kind c.locs (bu (hi pins s σ H _ I h) fun v s1 h1=>bu h1 fun itv s2 h2=>?_)
 obtain ⟨it,fp,tn,J,H2,e,I2,T,st2,f2,q⟩:=h2
 subst e
 refine wC (Q:=Q) hcalm c hg hc he I2 T st2 f2 q (RR:=fun acc C=>compPost (model X.prog X.w) X.A X.xe none (EP X pins σ Q) acc C) ?_
 intro D C s' H' m hD hC hsz hDn hDC hCn hns hos hbare hun hok q'
 have I3:Inv X pins σ H' s':=I2.call' hos hun hok hbare fun b hb=>by
  obtain ⟨_,g1,g2,g3,g4,g5⟩:=f2 b hb
  exact ⟨g3,g1,g4,g5⟩
 exact ⟨m,hns,fun h' hs'=>⟨.ref D,H',Ds (m:=m) I2 hC I3 hCn hs' hsz,rfl,q'⟩⟩
theorem OD {i:Nat} (M F:List Str) (ixs:List Nat) {x:Str} {sc:Scope} {tg iter elt:Expr} {ifs:List Expr} {wi:TI} {g:TG} {tc:TT} {te:TE} {pos pos' pos2:Pos} (hN:X.N.Nodup) (hix:X.N[i]?=some x) (hx:X.env.scope.names.lookup x=some .local)
 (hcalm:X.calm=true) (c:gh X M F ixs sc) (hi:PI X tg iter wi)
 (hg:∀ C fp s H,PG (dN X M F sc C fp s H) tg g) (hc:∀ C fp s H,qt (dN X M F sc C fp s H) ifs tc) (he:∀ C fp s H,PE (dN X M F sc C fp s H) elt te)
 (hsw:swapsWith (.ListComp elt [⟨tg,iter,ifs,0⟩] sc pos) (some (.Name x pos')) pos2.line X.env=pure true:=by rfl)
 (hs:∀ x,foldedSetIterable iter X.env x=pure x:=by intro _; rfl):PS X (.Assign [.Name x pos'] (.ListComp elt [⟨tg,iter,ifs,0⟩] sc pos) pos2) (fun D σ H=>Gk wi M.length ixs g tc te σ H fun v H1=>D.nx (σ.set i (some v)) H1):=by
 intro pins s σ H D I h
 rw [exec_Assign_Name_used _ _ _ _ hsw]
 refine wpAny_bind (wpAny_standAt (wpAny_bind ?_))
 show wpAny _ X.A (do let _ ← comprehension (.ListComp elt [⟨tg,iter,ifs,0⟩] sc pos) sc X.env _ (newList []) false (eval iter X.env) (some (assign (.Name x pos') X.env))) _ _ s
 refine wpAny_bind (wpAny_mono (wpAny_comprehension_free (use:=some (assign (.Name x pos') X.env)) (Q:=fun _ s'=>SP X pins D .next s') rfl hs (tD (vD I c)) c.kind c.locs
  (bu (hi pins s σ H _ I h) fun v s1 h1=>bu h1 fun itv s2 h2=>?_)) (fun _ s' hq=>wpAny_pure (wpAny_pure hq)) fun _ _ e=>e)
 obtain ⟨it,fp,tn,J,H2,e,I2,T,st2,f2,q⟩:=h2
 subst e
 refine wC (Q:=fun v H1=>D.nx (σ.set i (some v)) H1) hcalm c hg hc he I2 T st2 f2 q (RR:=fun acc C=>compPost (model X.prog X.w) X.A X.xe (some (assign (.Name x pos') X.env)) (fun _ s'=>SP X pins D .next s') acc C) ?_
 intro D' C s' H' m hD hC hsz hDn hDC hCn hns hos hbare hun hok q'
 have I3:Inv X pins σ H' s':=I2.call' hos hun hok hbare fun b hb=>by
  obtain ⟨_,g1,g2,g3,g4,g5⟩:=f2 b hb
  exact ⟨g3,g1,g4,g5⟩
 have hLC:C≠X.env.locals:=Nat.ne_of_gt (Nat.lt_of_lt_of_le I2.lt hsz)
 show wpAny _ X.A (assign (.Name x pos') X.env (.ref D')) _ _ _
 refine wpAny_assign_Name (yH (v:=.ref D') I3 hN hix (.inl hx) rfl (fun s'' I4 ⟨a,hsb,ha⟩=>?_) (.inr hx))
 have hCa:C≠a:=by
  rcases ha with ha | ha
  . rw [ha]; exact hLC
  . obtain ⟨v,o,ho,_⟩:=I2.cell x a ha
    intro z; rw [z,ho] at hC; cases hC
 exact ⟨m,hns.sameBut hsb hCa,fun h' hs'=>⟨_,H',Ds (m:=m) I2 hC I4 hCn hs' hsz,q'⟩⟩
theorem OJ:du X (binaryOp .Add) (fun x y H Q=>∃ a b xs ys,x=.ref a/\y=.ref b/\bQ X.K H a xs/\bQ X.K H b ys/\xs.length+ys.length<=sizeLine/\∀ p,H p=none->Q (.ref p) (upd H p (.lst (xs++ys)))):=by
 intro pins s σ H x y v u Q I rx ry h
 obtain ⟨a,b,xs,ys,rfl,rfl,ha,hb,hz,q⟩:=h
 cases rx
 cases ry
 obtain ⟨its,r1,⟨⟨c1,d1,dt1,s1⟩,n1,g1,e1,e2,e3⟩,_⟩:=I.list ha
 obtain ⟨its2,r2,⟨⟨c2,d2,dt2,s2⟩,n2,g2,f1,f2,f3⟩,_⟩:=I.list hb
 simp only at e1 e2 e3 f1 f2 f3
 subst e1 e2 e3 f1 f2 f3
 have hl1:=r1.length
 have hl2:=r2.length
 refine concat_meets ⟨_,g1,rfl⟩ ⟨_,g2,rfl⟩ noFill_list_add seq_list_add F.slot_list_add F.entry_list_add (F.args_list_add_2 _ _) (list_addW a b its.toArray its2.toArray n1 n2 none none s1 s2 (by rw [List.size_toArray,List.size_toArray]; omega)) ⟨g1,g2,?_⟩
 have ea:its.toArray++its2.toArray=(its++its2).toArray:=by simp
 rw [ea]
 exact ⟨.ref _,_,I.lnew (t':=s.toks) (r1.append r2) (by rw [List.length_append]; omega),rfl,q _ I.fresh⟩
end
noncomputable def jL (z:Str) (lo hi:Option Int):Str:=⟨((z.cps.toList.drop (HT.sIx z.length 0 lo)).take (HT.sIx z.length z.length hi-HT.sIx z.length 0 lo)).toArray⟩
theorem T7 (lo hi:Option Int) (n:Nat):Builtin.Str.strSliceIndices lo hi 1 n=(List.range (HT.sIx n n hi-HT.sIx n 0 lo)).map (HT.sIx n 0 lo+·):=by
 have e1:∀ (o:Option Int) (d:Nat),d<=n->(match o with | none=>(d:Int) | some i=>max 0 (min (if i<0 then i+(n:Int) else i) (n:Int)))=((HT.sIx n d o:Nat):Int):=fun o d hd=>by
  cases o with
  | none=>rfl
  | some i=>
   simp only [HT.sIx]
   by_cases h:i<0
   . simp only [h,if_true]<;>omega
   . simp only [h,if_false]<;>omega
 rw [← sliceRange_one]
 have a1:=e1 lo 0 (Nat.zero_le _)
 have a2:=e1 hi n (Nat.le_refl _)
 unfold Builtin.Str.strSliceIndices
 rw [← a1,← a2]
 cases lo<;>cases hi<;>simp
theorem Iu (z:Str) (lo hi:Option Int):Txt.slice z lo hi=jL z lo hi:=by
 unfold Txt.slice jL
 rw [T7]
 have hp:=pick_run z.cps (HT.sIx z.length 0 lo) (HT.sIx z.length z.length hi-HT.sIx z.length 0 lo)
 split
 . rename_i h
   have h2:(List.map (HT.sIx z.length 0 lo+·) (List.range (HT.sIx z.length z.length hi-HT.sIx z.length 0 lo))).length=z.length:=by simpa using h
   rw [List.length_map,List.length_range] at h2
   have hh:HT.sIx z.length z.length hi<=z.length:=HT.sIx_le _ _ (Nat.le_refl _) hi
   have hl0:HT.sIx z.length 0 lo<=z.length:=HT.sIx_le _ _ (Nat.zero_le _) lo
   have hl:HT.sIx z.length 0 lo=0:=by omega
   rw [h2,hl,List.drop_zero,List.take_of_length_le (by rw [Array.length_toList]; exact Nat.le_refl _)]
 . rw [hp]
noncomputable def Vh:V->Option Int->Option Int->Hp->VK->Prop:=fun x lo hi H Q=>∃ z,x=.str z/\z.length<=sizeLine/\Q (.str (jL z lo hi)) H
section
variable {X:Cx}
theorem Rp:Ay X Vh:=by
 intro pins s σ H x v vl vu lo hi sl Q I rx hs pl pu h
 obtain ⟨z,rfl,hz,q⟩:=h
 obtain ⟨t,rfl⟩:=rx
 refine ⟨"str",_,F.slot_str_getitem.lookup,typeIs_str _ _ _,?_⟩
 have go:∀ (l u:Option (Int×Tok)),vl=partValue l->vu=partValue u->l.map (·.1)=lo->u.map (·.1)=hi->wpAny (model X.prog X.w) X.A (getItem (.str z t) (.ref sl)) (EP X pins σ Q) X.xe s:=fun l u e1 e2 e3 e4=>by
  subst e1 e2 e3 e4
  refine wpAny_getItem_str_slice (l:=l) (u:=u) (st:=none) hs rfl (post_val_or_str ⟨Nat.le_trans (Txt.slice_le z _ _) hz,fun t' k=>?_⟩)
  refine ⟨.str (jL z (l.map (·.1)) (u.map (·.1))),H,I.tok _,⟨t',?_⟩,q⟩
  rw [← Iu]
  rfl
 cases pl with
 | none=>cases pu with
  | none=>exact go none none rfl rfl rfl rfl
  | int j tj=>exact go none (some (j,tj)) rfl rfl rfl rfl
 | int i ti=>cases pu with
  | none=>exact go (some (i,ti)) none rfl rfl rfl rfl
  | int j tj=>exact go (some (i,ti)) (some (j,tj)) rfl rfl rfl rfl
end
section
variable {X:Cx} {pins:List (Addr×Obj)} {σ:St} {H:Hp} {s:Shared} {h':Heap}
end
section
variable {X:Cx}
noncomputable def T8:R2:=fun x y H Q=>∃ a v,x=.ref a/\KR H a y (some v)/\Q v H
theorem O1 (hu:X.A.units+1<cLine):vo X T8:=by
 intro value slice pins s σ H x y v u Q I rx ry h hs
 obtain ⟨a,z,rfl,g,q⟩:=h
 cases rx
 exact tail_any (Dd I g) F.slot_dict_getitem.lookup (Im hu I g ry fun w' s3 I3 rw'=>⟨z,H,I3,rw',q⟩) hs
noncomputable def Gm:V->V->V->Hp->(Hp->Prop)->Prop:=fun o i v H Q=>∃ a H',o=.ref a/\Rk H a i v H'/\Q H'
theorem set_dict (hu:X.A.units+1<cLine):Ko X Gm:=by
 intro pins s σ H o i v ov iv u Q I ro ri rv h
 obtain ⟨a,H',rfl,g,q⟩:=h
 cases ro
 exact Io hu I g ri rv fun s4 I4=>⟨H',I4,q⟩
noncomputable def Gn (lo st:Int) (n:Nat):It:=⟨fun i _=>i<n,fun i H x H'=>H'=H/\x=.int (lo+(i:Nat)*st),fun i _=>n<=i⟩
theorem De {K:FG} {tg:Expr} (it:Addr) (lo sp:Int) (n:Nat):Turn P w K tg (Gn lo sp n) [it] it (fun i h=>IsRangeIter h it (lo+(i:Nat)*sp) ((n:Int)-(i:Nat)) sp) where
 mem:=by simp
 obj:=fun i h st b hb=>by
  have e:b=it:=by simpa using hb
  subst e
  exact ⟨_,st,fun v z=>by
   have z':Data.fields _=Data.cell v:=z
   cases z'⟩
 keep:=fun i h h' st k=>k it (by simp) _ st
 item:=by
  intro X hP hw hK hc i pins s σ H E I hf st hg
  subst hP hw hK
  obtain ⟨f0,f1,f2,f3,f4,f5⟩:=hf it (by simp)
  have W:=Walks.range (prog:=X.prog) (w:=X.w) (I.ok.hd hc) it lo sp n
  refine W.item i s _ _ hg st fun v h' tk hv st' kk=>?_
  obtain ⟨t,rfl⟩:=hv
  have I1:Inv X pins σ H { s with heap:=h',toks:=tk }:=I.turned (fun b o hb e=>kk b o (by simpa using hb) e) f0 f1 f3 f4 f5
  exact ⟨_,rfl,wg (s:={ s with heap:=h',toks:=tk }) (n := "range_iterator") st' rfl rfl (by decide) ⟨.int _,H,I1,⟨t,rfl⟩,⟨rfl,rfl⟩,st',fun b hb=>(hf b hb).1⟩⟩
 done:=by
  intro X hP hw hK hc i pins s σ H E I hf st hg
  subst hP hw hK
  obtain ⟨f0,f1,f2,f3,f4,f5⟩:=hf it (by simp)
  exact wpAny_pyNext_range_end (I.ok.hd hc) st (by have:n<=i:=hg; omega) fun h' eb=>⟨rfl,I.turned (t':=s.toks) (fun b o hb e=>eb b o hb e) f0 f1 f3 f4 f5⟩
 self:=fun _ _ _ _ _ st h=>wpAny_pyIter_rangeiter st h
noncomputable def oO (lo hi st:Int):Nat:=(if lo<hi then (hi-lo-1)/st+1 else 0).toNat
theorem Iv {lo hi st:Int} (h:0<st):((oO lo hi st:Nat):Int)=Builtin.Range.rangeSize lo hi st:=by
 unfold oO Builtin.Range.rangeSize
 rw [if_pos (show st>0 from h)]
 split
 . have h2:0<=(hi-lo-1)/st:=Int.ediv_nonneg (by omega) (by omega)
   omega
 . rfl
theorem Df {a b c:Int} (ha:-(2 ^ 61)<=a) (ha':a<2 ^ 61) (hb:-(2 ^ 61)<=b) (hb':b<2 ^ 61) (hc:0<c) (hc':c<2 ^ 61):Builtin.Range.small a b c=true:=by
 have h1:-(2 ^ 63)<=Builtin.Range.rangeSize a b c/\Builtin.Range.rangeSize a b c<2 ^ 63:=by
  unfold Builtin.Range.rangeSize
  rw [if_pos (show c>0 from hc)]
  split
  . have h2:0<=(b-a-1)/c:=Int.ediv_nonneg (by omega) (by omega)
    have h3:(b-a-1)/c<=b-a-1:=Int.ediv_le_self _ (by omega)
    omega
  . omega
 unfold Builtin.Range.small
 simp only [Builtin.Range.rangeFitsLong,Bool.and_eq_true,Bool.or_eq_true,decide_eq_true_eq,beq_iff_eq]
 refine ⟨⟨⟨⟨by omega,by omega⟩,by omega⟩,h1⟩,.inr ?_⟩
 rw [if_pos (show c>0 from hc)]
 simp only [Bool.and_eq_true,decide_eq_true_eq]
 omega
theorem Iw {tg:Expr} {σ:St} {H:Hp} {R:It->Hp->Prop} {lo hi st:Int} {t u v:Tok} {tk:Nat} (I:Inv X pins σ H s) (h1:-(2 ^ 61)<=lo) (h2:lo<2 ^ 61) (h3:-(2 ^ 61)<=hi) (h4:hi<2 ^ 61) (h5:0<st) (h6:st<2 ^ 61)
 (q:R (Gn lo st (oO lo hi st)) H):wpAny (model X.prog X.w) X.A (pyIter (.ref s.heap.objs.size)) (PIE X pins σ tg R) E { s with heap:=s.heap.push { cls:=.type "range",data:=.fields #[.int lo t,.int hi u,.int st v] },toks:=tk }:=by
 refine wpAny_pyIter_range (IsRange.new ..) (Df h1 h2 h3 h4 h5 h6) ?_
 have I1:Inv X pins σ H { s with heap:=s.heap.push { cls:=.type "range",data:=.fields #[.int lo t,.int hi u,.int st v] },toks:=tk }:=I.kept fun b o e=>Heap.get?_push_of_some _ e
 refine ⟨(s.heap.push { cls:=.type "range",data:=.fields #[.int lo t,.int hi u,.int st v] }).objs.size,[(s.heap.push { cls:=.type "range",data:=.fields #[.int lo t,.int hi u,.int st v] }).objs.size],_,_,H,rfl,
  I1.kept (t':=tk) fun b o e=>Heap.get?_push_of_some _ e,De _ lo st (oO lo hi st),?_,fun b hb=>?_,q⟩
 . have e1:lo+((0:Nat):Int)*st=lo:=by simp
   have e2:(((oO lo hi st):Nat):Int)-((0:Nat):Int)=Builtin.Range.rangeSize lo hi st:=by rw [Iv h5]; simp
   show IsRangeIter _ _ (lo+((0:Nat):Int)*st) ((((oO lo hi st):Nat):Int)-((0:Nat):Int)) st
   rw [e1,e2]
   exact Heap.get?_push_size _ rfl
 . have e:b=(s.heap.push { cls:=.type "range",data:=.fields #[.int lo t,.int hi u,.int st v] }).objs.size:=by simpa using hb
   subst e
   exact I1.fpOk (Nat.le_refl _) (I1.hok.fresh (Nat.le_refl _))
noncomputable def Nj (ta:TA):TI:=fun σ H R=>ta σ H fun vs H1=>∃ i j c:Int,vs=[.int i,.int j,.int c]/\(-(2 ^ 61)<=i/\i<2 ^ 61/\-(2 ^ 61)<=j/\j<2 ^ 61/\0<c/\c<2 ^ 61)/\R (Gn i c (oO i j c)) H1
theorem Iz {tg a b c:Expr} {ta:TA} {p pos:Pos} (hg:Gl X "range") (hm:X.mg "range" = none) (ha:PA X [a,b,c] ta) (hs:starEach [a,b,c] X.env=(false,eval a X.env)::starEach [b,c] X.env:=by rfl) (hs2:(backTo pos (starEach [b,c] X.env)).any (·.1)=false:=by rfl):
 PI X tg (.Call (.Name "range" p) [a,b,c] [] pos) (Nj ta):=by
 intro pins s σ H R I h
 refine Call_ (qH I hg hm boot_range (PyProof.Rows.callWith_type1 (bu (ha pos pins s σ H _ I h) fun us s1 ⟨vs,H1,I1,r1,q1⟩=>?_) hs hs2))
 obtain ⟨i,j,c,e,⟨q1,q2,q3,q4,q5,q6⟩,q⟩:=q1
 subst e
 cases r1 with
 | cons r rr=>
  cases rr with
  | cons r' rr=>
   cases rr with
   | cons r'' rr=>
    cases rr
    obtain ⟨t,rfl⟩:=r
    obtain ⟨t',rfl⟩:=r'
    obtain ⟨t'',rfl⟩:=r''
    have h0:c.natAbs≠0:=by omega
    have h3:c.natAbs.log2<64:=(Nat.log2_lt h0).mpr (by omega)
    exact call_range_3 (by omega) (Iw I1 q1 q2 q3 q4 q5 q6 q) (.inl (PyProof.noPylong_of_log2 (by omega)))
noncomputable def VJ (t:TE):TE:=fun σ H Q=>t σ H fun v H1=>∃ a kvs,v=.ref a/\H1 a=some (.dK kvs)/\∀ o,Q v (upd H1 a (.frz o (.dK kvs)))
theorem Inv.fz {σ:St} {H:Hp} {a:Addr} {kvs:List (Key×V)} (I:Inv X pins σ H s) (e:H a=some (.dK kvs)):∃ o,Inv X pins σ (upd H a (.frz o (.dK kvs))) s:=by
 obtain ⟨z,hd,vs,r,ob,es,ep,h1,h2⟩:=I.hok a _ e
 refine ⟨ob,?_⟩
 exact uO (h':=s.heap) (t':=s.toks) (ob:=.frz ob (.dK kvs)) I (by rw [e]; exact True.intro) (Heap.SameBut.refl ..) ⟨ob,h1⟩ ⟨h1,z,hd,vs,r,ob,es,ep,h1,h2⟩
theorem T9 {e:Expr} {t:TE} (h:PE X e t):PE X e (VJ t):=fun pins s σ H Q I q=>bu (h pins s σ H _ I q) fun u s1 ⟨v,H1,I1,rv,a,kvs,ev,ea,k⟩=>by
 obtain ⟨o,I2⟩:=I1.fz ea
 exact ⟨v,_,I2,rv,k o⟩
noncomputable def Rq (a:Addr) (o:Obj) (kvs:List (Key×V)):It:=
 ⟨fun i H=>H a=some (.frz o (.dK kvs))/\i<kvs.length,fun i H x H'=>H'=H/\∃ k,(kvs.map (·.1))[i]?=some k/\x=kV k,fun i H=>H a=some (.frz o (.dK kvs))/\kvs.length<=i⟩
theorem Rr {k:Key} {u:Value} (h:(cL P w).is k u=true):RelV (kV k) u:=by
 rcases dW h with ⟨i,t,rfl,rfl⟩ | ⟨x,t,rfl,rfl⟩
 . exact ⟨t,rfl⟩
 . exact ⟨t,rfl⟩
theorem vH {σ:St} {H:Hp} {a:Addr} {o:Obj} {kvs:List (Key×V)} (I:Inv X pins σ H s) (e:H a=some (.frz o (.dK kvs))):
 (a==sysModules)=false/\∃ vs ep es,KV kvs vs/\o.data=.dict es ep/\s.heap.DictAt (cL X.prog X.w) a vs ep:=by
 obtain ⟨h1,z,hd,vs,r,ob,es,ep,h2,h3,h4,h5⟩:=I.hok a _ e
 rw [h1] at h2
 cases h2
 exact ⟨hd,vs,ep,es,r,h4,o,es,h1,h3,h4,h5⟩
theorem IK {K:FG} {tg:Expr} (a it:Addr) (o:Obj) (kvs:List (Key×V)) (ep:Nat) (he:∃ es,o.data=.dict es ep):Turn P w K tg (Rq a o kvs) [it] it (fun i h=>h.IsKeyIter it a i kvs.length ep) where
 mem:=by simp
 obj:=fun i h st b hb=>by
  have e:b=it:=by simpa using hb
  subst e
  obtain ⟨o,e,c,d⟩:=st
  exact ⟨o,e,fun v z=>by rw [d] at z; cases z⟩
 keep:=fun i h h' st k=>by
  obtain ⟨o,e,c,d⟩:=st
  exact ⟨o,k it (by simp) o e,c,d⟩
 item:=by
  intro X hP hw hK hc i pins s σ H E I hf st hg
  subst hP hw hK
  obtain ⟨hg,hi⟩:=hg
  obtain ⟨hd,vs,ep',es,r,hdat,dd⟩:=vH I hg
  obtain ⟨es0,he⟩:=he
  rw [hdat] at he
  cases he
  have hl:kvs.length=vs.length:=r.length
  obtain ⟨f0,f1,f2,f3,f4,f5⟩:=hf it (by simp)
  rw [hl] at st
  have hx:vs[i]?=some (vs[i]'(by omega)):=List.getElem?_eq_getElem (by omega)
  refine wpAny_pyNext_dict_item (k:=(vs[i]'(by omega)).1) (v:=(vs[i]'(by omega)).2) st dd hx fun key h' hk st' sb=>?_
  have I1:Inv X pins σ H { s with heap:=h' }:=I.turned (t':=s.toks) (fun b o hb e=>(sb.2 b hb).trans e) f0 f1 f3 f4 f5
  have ek:=r.keys
  have e1:(kvs.map (·.1))[i]?=some (vs[i]'(by omega)).1:=by rw [ek,List.getElem?_map,hx]; rfl
  obtain ⟨ob,e,c,d⟩:=id st'
  refine ⟨key,rfl,wg (s:={ s with heap:=h' }) e c d (by decide) ⟨kV (vs[i]'(by omega)).1,H,I1,Rr hk,⟨rfl,_,e1,rfl⟩,by rw [hl]; exact st',fun b hb=>(hf b hb).1⟩⟩
 done:=by
  intro X hP hw hK hc i pins s σ H E I hf st hg
  subst hP hw hK
  obtain ⟨hg,hi⟩:=hg
  obtain ⟨hd,vs,ep',es,r,hdat,dd⟩:=vH I hg
  obtain ⟨es0,he⟩:=he
  rw [hdat] at he
  cases he
  have hl:kvs.length=vs.length:=r.length
  obtain ⟨f0,f1,f2,f3,f4,f5⟩:=hf it (by simp)
  rw [hl] at st
  exact wpAny_pyNext_dict_end (I.ok.hd hc) st dd (List.getElem?_eq_none (by omega)) fun h' eb=>⟨rfl,I.turned (t':=s.toks) (fun b o hb e=>eb b o hb e) f0 f1 f3 f4 f5⟩
 self:=fun _ _ _ _ _ st h=>wpAny_pyIter_keyiter st h
noncomputable def Ua (tl:TE):TI:=fun σ H R=>tl σ H fun x H1=>∃ a o kvs,x=.ref a/\H1 a=some (.frz o (.dK kvs))/\R (Rq a o kvs) H1
theorem O2 {tg l:Expr} {tl:TE} (hl:PE X l tl):PI X tg l (Ua tl):=by
 intro pins s σ H R I h
 refine bu (hl pins s σ H _ I h) fun v s1 ⟨x,H1,I1,r1,q1⟩=>?_
 obtain ⟨a,o,kvs,e,hq,q⟩:=q1
 subst e
 cases r1
 obtain ⟨hd,vs,ep,es,r,hdat,dd⟩:=vH I1 hq
 refine wpAny_pyIter_dict hd dd ?_
 have hln:kvs.length=vs.length:=r.length
 refine ⟨s1.heap.objs.size,[s1.heap.objs.size],_,_,H1,rfl,I1.kept (t':=s1.toks) fun b o e=>Heap.get?_push_of_some _ e,IK a _ o kvs ep ⟨es,hdat⟩,⟨_,Heap.get?_push_size _ rfl,rfl,?_⟩,fun b hb=>?_,q⟩
 . rw [hln]; rfl
 . have e:b=s1.heap.objs.size:=by simpa using hb
   subst e
   exact I1.fpOk (Nat.le_refl _) (I1.hok.fresh (Nat.le_refl _))
end
section
variable {X:Cx} {pins:List (Addr×Obj)} {σ:St} {H:Hp} {s:Shared} {h':Heap}
theorem Inv.turnedL {t':Nat} {fp:List Addr} (I:Inv X pins σ H s) (k:∀ b o,b∉fp->s.heap.get? b=some o->h'.get? b=some o) (f:∀ b∈fp,lE X pins H b):Inv X pins σ H { s with heap:=h',toks:=t' }:=by
 have nit:∀ b u,H b=some u->b∉fp:=fun b u e z=>by rw [(f b z).1] at e; cases e
 refine I.step (g':=s.gens) (d':=s.drawn) (ch:=fp) (fun b hb=>⟨(f b hb).2.2.2.1,(f b hb).2.1,(f b hb).2.2.2.2.1,(f b hb).2.2.2.2.2⟩) (fun b o _ _ hc e _=>k b o hc e) (fun b o _ _ hc e _=>⟨o.slots,k b o hc e⟩) (fun _ _ _ _ n=>n)
  (fun b o hc e=>⟨o,k b o hc e⟩) (fun _ _ e=>e) (fun _ _ _ e=>e) (fun b ps e=>⟨#[],by rw [e]; simp⟩) (fun m hm=>?_) (fun b u e=>?_) I.bare
 . obtain ⟨o,es,ep,ho,r⟩:=hm
   exact ⟨o,es,ep,k _ o (fun z=>(f _ z).2.1 rfl) ho,r⟩
 . refine (I.hok b u e).stay (fun c v hc q=>k c v ?_ q) (fun _ q=>q) fun _ _ q=>q
   rcases hc with z | z
   . rw [z]; exact nit b u e
   . exact nit c _ z
end
theorem Inv.madeT {X:Cx} {σ:St} {H:Hp} {fp:List Addr} {xs:List V} {us:List Value} {g2:Heap} {t':Nat} (I:Inv X pins σ H s) (hl:xs.length<=sizeLine) (rv:Vals xs us) (hf:∀ c∈fp,lE X pins H c) (lt:∀ c∈fp,∃ o,s.heap.get? c=some o)
 (hT:g2.get? s.heap.objs.size=some { cls:=.type "tuple",data:=.seq us.toArray }) (k:∀ c o,c∉fp->s.heap.get? c=some o->g2.get? c=some o):
 Inv X pins σ (upd H s.heap.objs.size (.tup xs)) { s with heap:=g2,toks:=t' }/\∀ c∈fp,upd H s.heap.objs.size (.tup xs) c=none:=by
 have up:∀ c∈fp,upd H s.heap.objs.size (.tup xs) c=none:=fun c hc=>by
  obtain ⟨o,e⟩:=lt c hc
  rw [aO (Nat.ne_of_lt (Heap.lt_size e))]
  exact (hf c hc).1
 have I1:Inv X pins σ (upd H s.heap.objs.size (.tup xs)) { s with heap:=s.heap.push { cls:=.type "tuple",data:=.seq us.toArray },toks:=t' }:=
  I.laid (fun b o q=>Heap.get?_push_of_some _ q) (Nat.le_refl _) ⟨hl,us,rv,⟨_,Heap.get?_push_size s.heap rfl,rfl,0,rfl⟩⟩
 refine ⟨Inv.turnedL (s:={ s with heap:=s.heap.push { cls:=.type "tuple",data:=.seq us.toArray },toks:=t' }) (h':=g2) (t':=t') I1 (fp:=fp) (fun c o hc q=>?_) (fun c hc=>⟨up c hc,(hf c hc).2⟩),up⟩
 have q':(s.heap.push { cls:=.type "tuple",data:=.seq us.toArray }).get? c=some o:=q
 by_cases hbT:c=s.heap.objs.size
 . subst hbT
   rw [Heap.get?_push_size s.heap rfl] at q'
   exact q'▸hT
 . rw [Heap.get?_push_ne s.heap c _ hbT] at q'
   exact k c o hc q'
theorem Ru {a b:V}:[a,b].length<=sizeLine:=by rw [sizeLine_eq]; exact Nat.le_of_ble_eq_true rfl
section
variable {X:Cx}
end
section
variable {prog:Program}
end
section
variable {prog:Program} {w:World} {A:Around} {R:Result->Shared->Prop} {I:Addr} {fp wr:List Addr} {G:Array GenState->Array GenState->Prop} {n:Nat} {P:Nat->Value->Prop} {St:Nat->Shared->Prop}
end
section
variable {prog:Program}
theorem K7 {α:Type} {Q':α->Shared->Prop} (hh:A.handled=none) (h:∀ h' e,(∀ b o,s.heap.get? b=some o->h'.get? b=some o)->(∃ o,h'.get? e=some o/\o.cls=.type "StopIteration")->E (.ref e) { s with heap:=h' }):
 wpAny (model prog w) A (newExc (.type "StopIteration") [] >>= fun e=>(raiseNew e:Sem α)) Q' E s:=by
 refine wpAny_bind ?_
 simp only [newExc,newTuple]
 refine wpAny_bind (wpAny_newObj_type (wpAny_bind (m:=firstArgMember _ _) (wpAny_of_eq (a:=Value.none) (by first | rfl | (simp only [firstArgMember]; rfl)) (wpAny_newObj_type ?_ (by size_fits)))) (by size_fits))
 simp only [raiseNew]
 refine wpAny_bind (wpAny_handled ?_)
 rw [hh]
 exact wpAny_bind (wpAny_pure (wpAny_throw (h _ _ (fun b o q=>Heap.get?_push_of_some _ (Heap.get?_push_of_some _ q)) ⟨_,Heap.get?_push_size _ rfl,rfl⟩)))
end
section
variable {X:Cx} {pins:List (Addr×Obj)} {σ:St} {H:Hp} {s:Shared}
end
section
variable {X:Cx}
end
section
variable {prog:Program}
theorem Gp {d:Addr} {Q:Value->Shared->Prop} (hd:(d==sysModules)=false) (hT:s.TypeIs (.ref d) "dict")
 (h:Q (.ref s.heap.objs.size) { s with heap:=s.heap.push { cls:=.type "dict_items",data:=.fields #[.ref d] } }):wpAny (model prog w) A (Builtin.«dict.items» ⟨[.ref d],[]⟩) (fun fin s'=>∃ v,fin=.done (.ret v)/\Q v s') E s:=by
 unfold Builtin.«dict.items»
 refine wpAny_bind ?_
 unfold Builtin.Dict.noArgs
 refine wpAny_bind (wpAny_notOrdered_dict hT (show wpAny _ _ (pure d) _ _ s from wpAny_pure (show wpAny _ _ (Builtin.Dict.showsAll d >>= _) _ _ s from ?_)))
 unfold Builtin.Dict.showsAll
 rw [if_neg (by rw [hd]; simp)]
 exact wpAny_bind (wpAny_pure (wpAny_bind (wpAny_newObj_type (wpAny_pure ⟨_,rfl,h⟩))))
theorem Gq {v d:Addr} {od:Obj} {es:Array DictEntry} {ep:Nat} {Q:Value->Shared->Prop} (hv:s.heap.IsItemsView v d) (ho:s.heap.get? d=some od) (hd:od.data=.dict es ep)
 (h:Q (.ref s.heap.objs.size) { s with heap:=s.heap.push { cls:=.type "dict_itemiterator",data:=.fields #[.none,.bool false,.ref d,.int 0 0,.int es.size 0,.int ep 0,.none,.none] } }):wpAny (model prog w) A (pyIter (.ref v)) Q E s:=by
 obtain ⟨ov,q1,q2,q3⟩:=id hv
 refine wpAny_pyIter_slot hv.typeIs F.slot_dict_items_iter (wpAny_call_entry F.slot_dict_items_iter hv.typeIs F.entry_dict_items_iter ?_ (F.args_dict_items_iter_1 _))
 unfold Builtin.«dict_items.__iter__»
 refine wpAny_bind (wpAny_pure (wpAny_bind ?_))
 unfold Builtin.Dict_items.dictOf
 refine wpAny_bind (wpAny_field q1 q3 (x:=.ref d) rfl (wpAny_pure (wpAny_bind ?_)))
 unfold Builtin.Dict_items.newIterator
 refine wpAny_bind (wpAny_dictEntries ho hd (wpAny_bind (wpAny_dictEpoch ho hd ?_)))
 simp only [show Builtin.Dict_items.ownsTuple "dict_itemiterator" = true from by decide,if_true]
 refine wpAny_newObj_type (wpAny_pure ⟨_,rfl, "dict_itemiterator",_,⟨_,Heap.get?_push_size _ rfl,rfl⟩,F.slot_dict_itemiterator_next.lookup,?_⟩) (by simp only [sizeOk,Builtin.Dict_items.ownedTupleFields,List.size_toArray,List.length_append,List.length_cons,List.length_nil,sizeLine_eq]; omega)
 simpa [rawInt,Builtin.Dict_items.ownedTupleFields] using h
theorem Gr {it d:Addr} {od:Obj} {es:Array DictEntry} {i ep:Nat} {ok ov:Value} {Q:Option Value->Shared->Prop} (hit:IsItemIter s.heap it d i es.size ep ok ov) (ho:s.heap.get? d=some od) (hd:od.data=.dict es ep) (hlt:i<es.size)
 (hQ:∀ h',IsItemIterOut h' it d (i+1) es.size ep es[i].key es[i].val s.heap.objs.size->h'.get? s.heap.objs.size=some { cls:=.type "tuple",data:=.seq #[es[i].key,es[i].val] }->h'.objs.size=s.heap.objs.size+1->(∀ b o,b≠it->s.heap.get? b=some o->h'.get? b=some o)->Q (some (.ref s.heap.objs.size)) { s with heap:=h' }):
 wpAny (model prog w) A (pyNext (.ref it)) Q E s:=by
 have hT:s.TypeIs (.ref it) "dict_itemiterator" := ⟨_,hit,rfl⟩
 have il:it<s.heap.objs.size:=Heap.lt_size hit
 unfold pyNext
 refine wpAny_bind (wpAny_attempt (wpAny_callSpecial?_slot (name:=Str.ofString "__next__") hT F.slot_dict_itemiterator_next (wpAny_call_entry F.slot_dict_itemiterator_next hT F.entry_dict_itemiterator_next ?_ (F.args_dict_itemiterator_next_1 _))))
 refine wpAny_bind (wpAny_pure (wpAny_bind (wpAny_bind ?_)))
 first | refine wpAny_bind (wpAny_typeNameOfWhole_itemiter hT (wpAny_pure (wpAny_bind (wpAny_fieldsOf hit rfl ?_)))) | refine wpAny_bind (wpAny_typeNameOf_itemiter hT (wpAny_pure (wpAny_bind (wpAny_fieldsOf hit rfl ?_))))
 simp only [show Builtin.Dict_items.ownsTuple "dict_itemiterator" = true from by decide,if_true]
 refine (show wpAny _ _ (if (Value.ref d==Value.none)=true then _ else _) _ _ _ from ?_)
 rw [if_neg (show ¬ ((Value.ref d==Value.none)=true) from fun q=>nomatch q)]
 refine wpAny_bind (wpAny_pure (wpAny_bind (wpAny_dictEntries ho hd ?_)))
 rw [if_neg (by simp)]
 refine wpAny_bind (wpAny_pure (wpAny_bind (wpAny_dictEpoch ho hd ?_)))
 rw [if_neg (by simp)]
 refine wpAny_pure ?_
 simp only [show ¬ ((i:Int)<0) from by omega,if_false,Int.toNat_natCast,Array.getElem?_eq_getElem hlt]
 refine wpAny_bind ?_
 first | refine wpAny_bind (wpAny_typeNameOfWhole_itemiter hT (wpAny_pure (wpAny_bind (wpAny_isOneOf_itemiter hT ?_)))) | refine wpAny_bind (wpAny_typeNameOf_itemiter hT (wpAny_pure (wpAny_bind (wpAny_isOneOf_itemiter hT ?_))))
 refine (show wpAny _ _ (setField (.ref it) 3 (rawInt ((i:Int)+1)) >>= _) _ _ s from wpAny_bind (wpAny_setField_rec hit (by simp) fun g1 e1 b1=>?_))
 have e1':IsItemIter g1 it d (i+1) es.size ep ok ov:=e1
 have T1:Shared.TypeIs { s with heap:=g1 } (.ref it) "dict_itemiterator" := ⟨_,e1',rfl⟩
 refine wpAny_bind (wpAny_holding (wpAny_bind (wpAny_isOneOf_itemiter T1 (wpAny_bind (wpAny_isOneOf_itemiter T1 ?_)))))
 refine (show wpAny _ _ (Builtin.Dict_items.pairFromOwner (.ref it) 6 es[i].key es[i].val) _ _ { s with heap:=g1 } from ?_)
 unfold Builtin.Dict_items.pairFromOwner
 refine wpAny_bind (wpAny_newTuple ?_)
 have z1:g1.objs.size=s.heap.objs.size:=b1.1
 have e2:IsItemIter (g1.push { cls:=.type "tuple",data:=.seq #[es[i].key,es[i].val] }) it d (i+1) es.size ep ok ov:=Heap.get?_push_of_some _ e1'
 have t2:(g1.push { cls:=.type "tuple",data:=.seq #[es[i].key,es[i].val] }).get? s.heap.objs.size=some { cls:=.type "tuple",data:=.seq #[es[i].key,es[i].val] }:=by rw [← z1]; exact Heap.get?_push_size _ rfl
 have z2:(g1.push { cls:=.type "tuple",data:=.seq #[es[i].key,es[i].val] }).objs.size=s.heap.objs.size+1:=by rw [Heap.size_push,z1]
 have k2:∀ b o,b≠it->s.heap.get? b=some o->(g1.push { cls:=.type "tuple",data:=.seq #[es[i].key,es[i].val] }).get? b=some o:=fun b o hb q=>Heap.get?_push_of_some _ (b1.extBut b o hb q)
 refine (show wpAny _ _ (Builtin.Dict_items.ownedTupleIsFree (.ref it) >>= _) _ _ { s with heap:=g1.push { cls:=.type "tuple",data:=.seq #[es[i].key,es[i].val] } } from ?_)
 generalize g1.push { cls:=.type "tuple",data:=.seq #[es[i].key,es[i].val] }=g2 at e2 t2 z2 k2 ⊢
 have n0:s.heap.objs.size≠it:=Nat.ne_of_gt il
 refine wpAny_bind ?_
 unfold Builtin.Dict_items.ownedTupleIsFree
 refine wpAny_bind (wpAny_field e2 rfl (x:=.none) rfl (wpAny_pure ?_))
 simp only [if_true]
 refine wpAny_bind (wpAny_field e2 rfl (x:=ok) rfl (wpAny_bind (wpAny_field e2 rfl (x:=ov) rfl ?_)))
 refine wpAny_bind (wpAny_setField_rec (s:={ s with heap:=g2 }) e2 (by simp) fun g3 e3 b3=>wpAny_bind (wpAny_setField_rec (s:={ s with heap:=g3 }) e3 (by simp) fun g4 e4 b4=>wpAny_bind (wpAny_setField_rec (s:={ s with heap:=g4 }) e4 (by simp) fun g5 e5 b5=>wpAny_bind (wpAny_setField_rec (s:={ s with heap:=g5 }) e5 (by simp) fun g6 e6 b6=>?_))))
 rw [z1] at e6 ⊢
 refine wpAny_bind (wpAny_letGo (wpAny_pure (wpAny_pure ⟨_,rfl,wpAny_pure (hQ g6 e6 ?_ ?_ ?_)⟩)))
 . exact b6.extBut _ _ n0 (b5.extBut _ _ n0 (b4.extBut _ _ n0 (b3.extBut _ _ n0 t2)))
 . show g6.objs.size=_
   rw [b6.1,b5.1,b4.1,b3.1]
   exact z2
 . exact fun b o hb q=>b6.extBut b o hb (b5.extBut b o hb (b4.extBut b o hb (b3.extBut b o hb (k2 b o hb q))))
theorem IV {it d:Addr} {od:Obj} {es:Array DictEntry} {i ep:Nat} {ok ov:Value} {Q:Option Value->Shared->Prop} (hh:A.handled=none) (hit:IsItemIter s.heap it d i es.size ep ok ov) (ho:s.heap.get? d=some od) (hd:od.data=.dict es ep) (hge:es.size<=i)
 (hQ:∀ h',Heap.ExtBut it s.heap h'->Q none { s with heap:=h' }):wpAny (model prog w) A (pyNext (.ref it)) Q E s:=by
 have hT:s.TypeIs (.ref it) "dict_itemiterator" := ⟨_,hit,rfl⟩
 unfold pyNext
 refine wpAny_bind (wpAny_attempt (wpAny_callSpecial?_slot (name:=Str.ofString "__next__") hT F.slot_dict_itemiterator_next (wpAny_call_entry F.slot_dict_itemiterator_next hT F.entry_dict_itemiterator_next ?_ (F.args_dict_itemiterator_next_1 _))))
 refine wpAny_bind (wpAny_pure (wpAny_bind (wpAny_bind ?_)))
 first | refine wpAny_bind (wpAny_typeNameOfWhole_itemiter hT (wpAny_pure (wpAny_bind (wpAny_fieldsOf hit rfl ?_)))) | refine wpAny_bind (wpAny_typeNameOf_itemiter hT (wpAny_pure (wpAny_bind (wpAny_fieldsOf hit rfl ?_))))
 simp only [show Builtin.Dict_items.ownsTuple "dict_itemiterator" = true from by decide,if_true]
 refine (show wpAny _ _ (if (Value.ref d==Value.none)=true then _ else _) _ _ _ from ?_)
 rw [if_neg (show ¬ ((Value.ref d==Value.none)=true) from fun q=>nomatch q)]
 refine wpAny_bind (wpAny_pure (wpAny_bind (wpAny_dictEntries ho hd ?_)))
 rw [if_neg (by simp)]
 refine wpAny_bind (wpAny_pure (wpAny_bind (wpAny_dictEpoch ho hd ?_)))
 rw [if_neg (by simp)]
 refine wpAny_pure ?_
 simp only [show ¬ ((i:Int)<0) from by omega,if_false,Int.toNat_natCast,Array.getElem?_eq_none hge]
 refine wpAny_bind ?_
 first | refine wpAny_bind (wpAny_typeNameOfWhole_itemiter hT (wpAny_pure ?_)) | refine wpAny_bind (wpAny_typeNameOf_itemiter hT (wpAny_pure ?_))
 refine (show wpAny _ _ (setField (.ref it) 2 .none >>= fun _=>newExc (.type "StopIteration") [] >>= fun e=>raiseNew e) _ _ s from wpAny_bind (wpAny_setField_rec hit (by simp) fun g1 q1 b1=>K7 (s:={ s with heap:=g1 }) hh fun g2 e k ⟨o,q,hc⟩=>?_))
 refine wpAny_bind (wpAny_isInstance (T := "StopIteration") (b:=true) (show Shared.TypeIs { s with heap:=g2 } (.ref e) "StopIteration" from ⟨o,q,hc⟩) isSubtype_stop (?_:wpAny _ _ _ _ _ _))
 exact wpAny_pure (hQ _ fun b o hb z=>k b o (b1.extBut b o hb z))
end
theorem yU {α β:Type} {F:α->β->Prop}:∀ {l:List α} {m:List β},Paired F l m->∀ (i:Nat) (h1:i<l.length) (h2:i<m.length),F l[i] m[i]
 | _,_,.nil,i,h1,h2=>absurd h1 (Nat.not_lt_zero _)
 | _,_,.cons a t,0,h1,h2=>a
 | _,_,.cons a t,i+1,h1,h2=>yU t i (by simpa using h1) (by simpa using h2)
theorem O3:entryFor table "dict_itemiterator.__iter__" = some Builtin.«dict_keyiterator.__iter__»:=entryFor_alias (id' := "dict_keyiterator.__iter__") (by kernel_rfl) (by first | rfl | decide +kernel | (unfold String.splitOn; simp +decide [String.splitOnAux])) (by decide +kernel) (by kernel_rfl)
theorem wD {prog:Program} {it d:Addr} {i n ep:Nat} {u v:Value} {Q:Value->Shared->Prop} (q:IsItemIter s.heap it d i n ep u v) (h:Q (.ref it) s):wpAny (model prog w) A (pyIter (.ref it)) Q E s:=by
 have hT:s.TypeIs (.ref it) "dict_itemiterator" := ⟨_,q,rfl⟩
 refine wpAny_pyIter_slot hT F.slot_dict_itemiterator_iter (wpAny_call_entry F.slot_dict_itemiterator_iter hT O3 ?_ (F.args_dict_itemiterator_iter_1 _))
 exact show wpAny _ _ (ret (.ref it)) _ _ s from wpAny_pure ⟨_,rfl, "dict_itemiterator",_,hT,F.slot_dict_itemiterator_next.lookup,h⟩
noncomputable def Rv (a:Addr) (o:Obj) (kvs:List (List Key×V)):It:=
 ⟨fun i H=>H a=some (.frz o (.dT kvs))/\i<kvs.length,fun i H x H'=>∃ T kb kv,H T=none/\x=.ref T/\kvs[i]?=some kv/\H kb=some (.tup (kv.1.map kV))/\H'=upd H T (.tup [.ref kb,kv.2]),fun i H=>H a=some (.frz o (.dT kvs))/\kvs.length<=i⟩
theorem wF {X:Cx} {σ:St} {H:Hp} {a:Addr} {o:Obj} {kvs:List (List Key×V)} (I:Inv X pins σ H s) (e:H a=some (.frz o (.dT kvs))):
 (a==sysModules)=false/\s.heap.get? a=some o/\o.cls=.type "dict" /\ ∃ (es:Array DictEntry) (ep:Nat),o.data=.dict es ep/\es.size=kvs.length/\∀ i (h:i<es.size),∃ kb kv,kvs[i]?=some kv/\es[i].key=.ref kb/\H kb=some (.tup (kv.1.map kV))/\RelV kv.2 es[i].val:=by
 obtain ⟨h1,z,hd,xs,pr,ob,es,ep,h2,h3,h4,h5,h6⟩:=I.hok a _ e
 rw [h1] at h2
 cases h2
 have hl:es.size=xs.length:=by
  have:=congrArg List.length h5
  simpa using this
 refine ⟨hd,h1,h3.1,es,ep,h4,by rw [hl]; exact pr.length.symm,fun i hi=>?_⟩
 have hx:i<xs.length:=by omega
 have e1:es[i]=entryOfKey (tupleKind (cL X.prog X.w)) xs[i]:=by
  have q:es.toList[i]?=(xs.map (entryOfKey (tupleKind (cL X.prog X.w))))[i]?:=by rw [h5]
  rw [Array.getElem?_toList,Array.getElem?_eq_getElem hi,List.getElem?_map,List.getElem?_eq_getElem hx] at q
  exact Option.some.inj q
 have hk:i<kvs.length:=by have:=pr.length; omega
 obtain ⟨q1,q2,q3⟩:=yU pr i hk hx
 exact ⟨xs[i].2.1,kvs[i],List.getElem?_eq_getElem hk,by rw [e1]; rfl,q2,by rw [e1]; exact q3⟩
theorem Gs {K:FG} {elts:List Expr} {x1} {pos:Pos} (a it:Addr) (o:Obj) (kvs:List (List Key×V)) (ep:Nat) (he:∃ es,o.data=.dict es ep):Turn P w K (.Tuple elts x1 pos) (Rv a o kvs) [it] it (fun i h=>∃ u v,IsItemIter h it a i kvs.length ep u v) where
 mem:=by simp
 obj:=fun i h st b hb=>by
  have e:b=it:=by simpa using hb
  subst e
  obtain ⟨u,v,q⟩:=st
  exact ⟨_,q,fun v z=>by
   have z':Data.fields _=Data.cell v:=z
   cases z'⟩
 keep:=fun i h h' st k=>by
  obtain ⟨u,v,q⟩:=st
  exact ⟨u,v,k it (by simp) _ q⟩
 item:=by
  intro X hP hw hK hc i pins s σ H E I hf st hg
  subst hP hw hK
  refine vG fun G kG=>?_
  obtain ⟨hg,hi⟩:=hg
  obtain ⟨u,v,q⟩:=st
  obtain ⟨hd,ho,hcl,es,ep',hdat,hsz,ent⟩:=wF I hg
  obtain ⟨es0,he⟩:=he
  rw [hdat] at he
  cases he
  have hie:i<es.size:=by omega
  obtain ⟨kb,kv,k1,k2,k3,k4⟩:=ent i hie
  have il:it<s.heap.objs.size:=Heap.lt_size q
  have hTn:H s.heap.objs.size=none:=I.hok.fresh (Nat.le_refl _)
  have n0:s.heap.objs.size≠it:=Nat.ne_of_gt il
  rw [← hsz] at q
  refine kG (Gr q ho hdat hie fun g1 a1 a2 a3 a4=>⟨_,rfl,wpAny_letOwnedTupleGo_items a1 fun g2 b1 b2=>?_⟩)
  obtain ⟨I2,up⟩:=I.madeT (xs:=[.ref kb,kv.2]) (us:=[es[i].key,es[i].val]) (g2:=g2) (t':=s.toks) (fp:=[it]) Ru (.cons (by rw [k2]; exact rfl) (.cons k4 .nil)) hf (fun c hc=>by rw [List.mem_singleton.mp hc]; exact ⟨_,q⟩) ((b2.2 _ n0).trans a2) fun c o hc z=>by
   have hc':c≠it:=fun e=>hc (List.mem_singleton.mpr e)
   exact (b2.2 c hc').trans (a4 c o hc' z)
  exact ⟨.ref s.heap.objs.size,_,I2,rfl,⟨s.heap.objs.size,kb,kv,hTn,rfl,k1,k3,rfl⟩,⟨_,_,by rw [← hsz]; exact b1⟩,up⟩
 done:=by
  intro X hP hw hK hc i pins s σ H E I hf st hg
  subst hP hw hK
  refine vG fun G kG=>?_
  obtain ⟨hg,hi⟩:=hg
  obtain ⟨u,v,q⟩:=st
  obtain ⟨hd,ho,hcl,es,ep',hdat,hsz,ent⟩:=wF I hg
  obtain ⟨es0,he⟩:=he
  rw [hdat] at he
  cases he
  rw [← hsz] at q
  refine kG (IV (I.ok.hd hc) q ho hdat (by omega) fun g k=>⟨rfl,?_⟩)
  exact I.turnedL (h':=g) (t':=s.toks) (fp:=[it]) (fun c o hc z=>k c o (fun e=>hc (by simp [e])) z) hf
 self:=fun _ _ _ _ _ st h=>by
  obtain ⟨u,v,q⟩:=st
  exact wD q h
noncomputable def Gu (v a:Addr):Heap->Prop:=fun h=>h.IsItemsView v a
section
variable {X:Cx}
noncomputable def Rw (tl:TE):TI:=fun σ H R=>tl σ H fun x H1=>∃ v a o kvs,x=.ref v/\H1 v=some (.ext (Gu v a))/\H1 a=some (.frz o (.dT kvs))/\R (Rv a o kvs) H1
theorem K8 {l:Expr} {tl:TE} {elts:List Expr} {x1} {tpos:Pos} (hl:PE X l tl):PI X (.Tuple elts x1 tpos) l (Rw tl):=by
 intro pins s σ H R I h
 refine bu (hl pins s σ H _ I h) fun v s1 ⟨x,H1,I1,r1,q1⟩=>?_
 obtain ⟨v,a,o,kvs,rfl,hv,hq,q⟩:=q1
 cases r1
 obtain ⟨vw,_⟩:=I1.hok v _ hv
 obtain ⟨hd,ho,hcl,es,ep,hdat,hsz,ent⟩:=wF I1 hq
 refine Gq vw ho hdat ?_
 refine ⟨s1.heap.objs.size,[s1.heap.objs.size],_,_,H1,rfl,I1.kept (t':=s1.toks) fun b o e=>Heap.get?_push_of_some _ e,Gs a _ o kvs ep ⟨es,hdat⟩,⟨.none,.none,?_⟩,fun b hb=>?_,q⟩
 . rw [← hsz]
   exact Heap.get?_push_size _ rfl
 . have e:b=s1.heap.objs.size:=by simpa using hb
   subst e
   exact I1.fpOk (Nat.le_refl _) (I1.hok.fresh (Nat.le_refl _))
noncomputable def IW:V->List V->Hp->VK->Prop:=fun x vs H Q=>∃ a o kvs,x=.ref a/\vs=[]/\H a=some (.frz o (.dT kvs))/\∀ l,H l=none->Q (.ref l) (upd H l (.ext (Gu l a)))
theorem K9:Nb X "dict.items" IW:=by
 intro pins s σ H x vs v us Q I rx rv h
 obtain ⟨a,o,kvs,rfl,rfl,hH,q⟩:=h
 cases rx
 have hus:=rv.zero
 subst hus
 obtain ⟨hd,ho,hcl,es,ep,hdat,hsz,ent⟩:=wF I hH
 have hT:s.TypeIs (.ref a) "dict" := ⟨o,ho,hcl⟩
 refine wpAny_call_entry F.slot_dict_items hT F.entry_dict_items (Gp hd hT ?_) (F.args_dict_items_1 _)
 exact ⟨.ref s.heap.objs.size,_,I.laid (t':=s.toks) (fun b o q=>Heap.get?_push_of_some _ q) (Nat.le_refl _) (show dh X.prog X.w _ _ _ (.ext (Gu s.heap.objs.size a)) from ⟨⟨_,Heap.get?_push_size _ rfl,rfl,rfl⟩,⟨_,Heap.get?_push_size _ rfl⟩,fun h1 h2 ⟨o,q1,q2⟩ k=>⟨o,k _ q1,q2⟩⟩),rfl,q _ (I.hok.fresh (Nat.le_refl _))⟩
theorem wG {α β:Type} {F G:α->β->Prop} (h:∀ a b,F a b->G a b):∀ {l:List α} {m:List β},Paired F l m->Paired G l m
 | _,_,.nil=>.nil
 | _,_,.cons a t=>.cons (h _ _ a) (wG h t)
noncomputable def Vi (t:TE):TE:=fun σ H Q=>t σ H fun v H1=>∃ a kvs,v=.ref a/\H1 a=some (.dT kvs)/\∀ o,Q v (upd H1 a (.frz o (.dT kvs)))
theorem Inv.fzT {σ:St} {H:Hp} {a:Addr} {kvs:List (List Key×V)} (I:Inv X pins σ H s) (e:H a=some (.dT kvs)):∃ o,Inv X pins σ (upd H a (.frz o (.dT kvs))) s:=by
 obtain ⟨z,hd,xs,pr,ob,es,ep,h1,h2,h3,h4,h5⟩:=I.hok a _ e
 refine ⟨ob,?_⟩
 refine uO (h':=s.heap) (t':=s.toks) (ob:=.frz ob (.dT kvs)) I (by rw [e]; exact True.intro) (Heap.SameBut.refl ..) ⟨ob,h1⟩ ⟨h1,z,hd,xs,?_,ob,es,ep,h1,h2,h3,h4,h5⟩
 refine wG (fun p q ⟨q1,q2,q3⟩=>⟨q1,?_,q3⟩) pr
 rw [aO (fun n=>by rw [n,e] at q2; cases q2)]
 exact q2
theorem Rx {e:Expr} {t:TE} (h:PE X e t):PE X e (Vi t):=fun pins s σ H Q I q=>bu (h pins s σ H _ I q) fun u s1 ⟨v,H1,I1,rv,a,kvs,ev,ea,k⟩=>by
 obtain ⟨o,I2⟩:=I1.fzT ea
 exact ⟨v,_,I2,rv,k o⟩
theorem La {o:Expr} {to:TE} {apos cpos:Pos} (ho:PE X o to)
 (hbase:attributeBase o "items" X.env (eval o X.env)=eval o X.env:=by rfl) (hline:(apos.endLine==cpos.line)=true:=by rfl):PE X (.Call (.Attribute o "items" apos) [] [] cpos) (fun σ H Q=>to σ H fun x H1=>IW x [] H1 Q):=by
 intro pins s σ H Q I h
 refine wpAny_Call_method0_late hbase hline (bu (ho pins s σ H _ I h) fun v s1 ⟨x,H1,I1,r1,q1⟩=>?_)
 have q1':=q1
 obtain ⟨a,ob,kvs,rfl,_,hH,_⟩:=q1
 cases r1
 have hz:∃ o,s1.heap.get? a=some o/\o.ExactDict:=by
  obtain ⟨h1,z,hd,xs,pr,ob',es,ep,h2,h3,h4,h5,h6⟩:=I1.hok a _ hH
  exact ⟨_,h2,h3⟩
 obtain ⟨o2,e2,ex⟩:=hz
 exact ⟨"dict", "dict.items",F.plainAttrs_dict,F.slot_dict_items,F.type_dict_items,⟨o2,e2,ex.1⟩,fun b e=>(by cases e; exact ⟨o2,e2,ex.2.1⟩),Calls.callWith_builtin rfl (PySem.evalArgs_none (K9 pins s1 σ H1 (.ref a) [] (.ref a) [] Q I1 rfl .nil q1'))⟩
end
section
variable {prog:Program}
end
section
variable {X:Cx} {pins:List (Addr×Obj)} {σ:St} {H:Hp} {s:Shared}
end
section
variable {X:Cx}
end
noncomputable abbrev t7:=Option Key
noncomputable def Uv:t7->V
 | none=>.non
 | some k=>kV k
section
variable {prog:Program}
end
noncomputable abbrev XD:=List (List t7×Addr×V)
noncomputable abbrev XV:=List (List t7×Addr×Value)
noncomputable def XR:XD->XV->Prop:=Paired fun x y=>x.1=y.1/\x.2.1=y.2.1/\RelV x.2.2 y.2.2
noncomputable def Uw (hk:List t7->Int) (a:Addr) (xs:XD):Heap->Prop:=fun h=>xs.length<=sizeLine/\(a==sysModules)=false/\∃ ys:XV,XR xs ys/\(ys.map (·.1)).Nodup/\
 ∃ o es ep,h.get? a=some o/\o.ExactDict/\o.data=.dict es ep/\es.toList=ys.map fun y=>⟨hk y.1,.ref y.2.1,y.2.2⟩
section
variable {prog:Program} {w:World} {A:Around} {E:Value->Shared->Prop} {s:Shared} {K:Type} [DecidableEq K] {knd:HeapKind prog w K}
end
section
variable {X:Cx}
end
noncomputable def rN (a c:Addr):Heap->Prop:=fun h=>∃ o,W.InstAt h a o c none
noncomputable def vq (G:Addr->Prop) (e:Addr) (cls:Value) (h:Heap):Prop:=
 ∃ oe vs,h.get? e=some oe/\(oe.cls=cls/\oe.dict=none)/\oe.data=.fields vs/\¬ G e/\
  (vs[1]?=some .none\/∃ T oT ts,vs[1]?=some (.ref T)/\¬ G T/\T≠e/\h.get? T=some oT/\oT.data=.fields ts/\ts[3]?=some .none)
noncomputable def Left (G:Addr->Prop) (fs:List Addr) (h h':Heap):Prop:=
 h.objs.size<=h'.objs.size/\(∀ b o,G b->h.get? b=some o->(b∉fs->h'.get? b=some o)/\∃ sl,h'.get? b=some { o with slots:=sl })/\
  ∀ b o,h.get? b=some o->(∀ vs,o.data≠.fields vs)->∃ o',h'.get? b=some o'/\o'.data=o.data
section
variable {M:Model} {A:Around} {E:Value->Shared->Prop} {s:Shared} {base:Heap} {env:Env} {outer:List Env} {L e:Addr} {G:Addr->Prop} {Q:Unit->Shared->Prop}
theorem xZ (o:Obj) (f):(o.mapFields f).dict=o.dict:=by
 unfold Obj.mapFields
 split<;>rfl
theorem yV {oe:Obj} {vs:Array Value} {head:Value} {hn:Bool} (hfr:A.frames=some (env::outer)) (hl:s.heap.FunFrames base (env::outer)) (hf:env.frame=some L)
 (he:s.heap.get? e=some oe) (hdi:oe.dict=none) (hd:oe.data=.fields vs) (hz:1<vs.size) (hne:¬ G e) (hG:∀ b,G b->b<s.heap.objs.size)
 (h:∀ h',Left G ((env::outer).filterMap (·.frame)) s.heap h'->vq G e oe.cls h'->Q () { s with heap:=h' }):
 wpAny M A (do let a ← frameOf env; let pl ← entryPlaceOf L hn; let b ← EntryCells.newEntry head a .none (rawInt L) .none pl; setField (.ref e) 1 b) (fun _ s'=>wpAny M A (setFlight (.ref e) none) Q E s') E s:=by
 have hm:e∉(env::outer).filterMap (·.frame):=fun hm=>by
  obtain ⟨_,o,ho,hnf⟩:=hl.mem hm
  rw [he] at ho
  cases ho
  exact hnf vs hd
 refine wpAny_bind (wpAny_frameOf_fun hfr hl hf fun g k=>wpAny_bind (wpAny_entryPlaceOf fun pl hp=>?_))
 unfold EntryCells.newEntry newFields
 refine wpAny_bind (wpAny_newObj_type ?_ (hp.sizeOk5 _ _ _ _ _))
 have e1:g.get? e=some oe:=(k.2.1 e hm).trans he
 generalize hob:({ cls:=.type "traceback",dict:=none,data:=.fields ([head,.ref L,.none,rawInt L,.none]++(if pl.isEmpty then List.replicate 6 Value.none else pl)).toArray }:Obj)=ob
 have hdb:ob.data=.fields ([head,.ref L,.none,rawInt L,.none]++(if pl.isEmpty then List.replicate 6 Value.none else pl)).toArray:=by rw [← hob]
 have e2:=Heap.get?_push_of_some (h:=g) ob e1
 refine wpAny_setField e2 hd hz ?_
 have hT:g.objs.size≠e:=Nat.ne_of_gt (Heap.lt_size e1)
 have hd3:=Obj.data_mapFields hd (·.setIfInBounds 1 (Value.ref g.objs.size))
 have e3:=Heap.get?_update_self (Obj.mapFields (·.setIfInBounds 1 (Value.ref g.objs.size))) e2 (Obj.isFreed_of_fields hd3)
 have t3:=(Heap.get?_update_other (g.push ob) (Obj.mapFields (·.setIfInBounds 1 (Value.ref g.objs.size))) (Ne.symm hT)).trans (Heap.get?_push_size g (by rw [← hob]; rfl))
 unfold setFlight
 refine wpAny_bind (wpAny_field e3 hd3 (x:=.ref g.objs.size) (by simp [hz]) ?_)
 rw [if_pos (show (Value.ref g.objs.size != Value.none)=true from by simp)]
 have hsz:3<([head,.ref L,.none,rawInt L,.none]++(if pl.isEmpty then List.replicate 6 Value.none else pl)).toArray.size:=by
  simp only [List.size_toArray,List.length_append,List.length_cons,List.length_nil]; omega
 have keep:∀ b o,b≠e->g.get? b=some o->(((g.push ob).update e (Obj.mapFields (·.setIfInBounds 1 (Value.ref g.objs.size)))).update g.objs.size (Obj.mapFields (·.setIfInBounds 3 ((none:Option Addr).elim Value.none fun f=>rawInt f)))).get? b=some o:=fun b o hb q=>by
  rw [Heap.get?_update_other _ _ (Nat.ne_of_gt (Heap.lt_size q)),Heap.get?_update_other _ _ (Ne.symm hb)]
  exact Heap.get?_push_of_some _ q
 have nb:∀ b,G b->b≠e:=fun b hb z=>hne (z▸hb)
 refine wpAny_setField t3 hdb hsz (h _ ⟨?_,fun b o hb q=>⟨fun hs=>?_,?_⟩,fun b o q nf=>?_⟩ ?_)
 . rw [Heap.size_update,Heap.size_update,← k.1]
   show g.objs.size<=(g.objs.push ob).size
   rw [Array.size_push]; exact Nat.le_succ _
 . exact keep b o (nb b hb) ((k.2.1 b hs).trans q)
 . obtain ⟨sl,q'⟩:=k.2.2 b o q
   exact ⟨sl,keep b _ (nb b hb) q'⟩
 . obtain ⟨sl,q'⟩:=k.2.2 b o q
   refine ⟨_,keep b _ (fun z=>?_) q',rfl⟩
   rw [z,he] at q
   cases q
   exact nf vs hd
 . refine ⟨_,_,(Heap.get?_update_other _ _ hT).trans e3,⟨Obj.cls_mapFields _ _,(xZ _ _).trans hdi⟩,hd3,hne,.inr ⟨g.objs.size,_,_,by simp [hz],fun z=>by have:=hG _ z; rw [k.1] at this; exact Nat.lt_irrefl _ this,hT,Heap.get?_update_self _ t3 (Obj.isFreed_of_fields (Obj.data_mapFields hdb _)),Obj.data_mapFields hdb _,?_⟩⟩
   simp
theorem Left.frames {h h':Heap} {fs:List Addr} {l:List Env} (x:Left G fs h h') (hl:h.FunFrames base l):h'.FunFrames base l:=hl.of_keeps fun b o q nf=>x.2.2 b o q nf
theorem Left.trans {h h1 h2:Heap} {fs:List Addr} (x:Left G fs h h1) (y:Left G fs h1 h2):Left G fs h h2:=
 ⟨Nat.le_trans x.1 y.1,fun b o hb q=>by
  obtain ⟨a1,sl,a2⟩:=x.2.1 b o hb q
  obtain ⟨b1,sl',b2⟩:=y.2.1 b _ hb a2
  exact ⟨fun hs=>(y.2.1 b o hb (a1 hs)).1 hs,sl',b2⟩,fun b o q nf=>by
  obtain ⟨o1,q1,d1⟩:=x.2.2 b o q nf
  obtain ⟨o2,q2,d2⟩:=y.2.2 b o1 q1 (fun vs z=>nf vs (d1▸z))
  exact ⟨o2,q2,d2.trans d1⟩⟩
theorem Ja {cls:Value} (hfr:A.frames=some (env::outer)) (hl:s.heap.FunFrames base (env::outer)) (hf:env.frame=some L) (hG:∀ b,G b->b<s.heap.objs.size) (hy:vq G e cls s.heap)
 (h:∀ h',Left G ((env::outer).filterMap (·.frame)) s.heap h'->vq G e cls h'->Q () { s with heap:=h' }):wpAny M A (noteFrame (.ref e) env) (fun _ s1=>wpAny M A (setFlight (.ref e) none) Q E s1) E s:=by
 obtain ⟨oe,vs,he,⟨rfl,hdi⟩,hd,hne,h1⟩:=hy
 unfold noteFrame
 simp only [hf]
 rcases h1 with h1 | ⟨T,oT,ts,h1,hnT,hTe,hT,hdT,h3⟩
 . refine wpAny_bind (wpAny_field he hd h1 ?_)
   rw [if_neg (by decide)]
   exact yV hfr hl hf he hdi hd (Array.getElem?_eq_some_iff.mp h1).1 hne hG h
 . refine wpAny_bind (wpAny_field he hd h1 ?_)
   rw [if_pos (show (Value.ref T != Value.none)=true from by simp)]
   refine wpAny_bind (wpAny_field hT hdT h3 ?_)
   rw [if_neg (show ¬ ((Value.none==rawInt L)=true) from by simp [rawInt])]
   refine wpAny_bind (wpAny_setField hT hdT (Array.getElem?_eq_some_iff.mp h3).1 ?_)
   have other:∀ b,b≠T->(s.heap.update T (Obj.mapFields (·.setIfInBounds 3 Value.none))).get? b=s.heap.get? b:=fun b hb=>Heap.get?_update_other _ _ (Ne.symm hb)
   have x:Left G ((env::outer).filterMap (·.frame)) s.heap (s.heap.update T (Obj.mapFields (·.setIfInBounds 3 Value.none))):=
    ⟨by rw [Heap.size_update]; exact Nat.le_refl _,fun b o hb q=>by
     have z:=(other b (fun z=>hnT (z▸hb))).trans q
     exact ⟨fun _=>z,o.slots,z⟩,fun b o q nf=>⟨o,(other b fun z=>by rw [z,hT] at q; cases q; exact nf ts hdT).trans q,rfl⟩⟩
   exact yV hfr (x.frames hl) hf ((other e (Ne.symm hTe)).trans he) hdi hd (Array.getElem?_eq_some_iff.mp h1).1 hne (fun b hb=>Nat.lt_of_lt_of_le (hG b hb) x.1) fun h' y f=>h h' (x.trans y) f
theorem leave {cls:Value} (hfr:A.frames=some (env::outer)) (hl:s.heap.FunFrames base (env::outer)) (hf:env.frame=some L) (hG:∀ b,G b->b<s.heap.objs.size) (hy:vq G e cls s.heap)
 (h:∀ h',Left G ((env::outer).filterMap (·.frame)) s.heap h'->vq G e cls h'->Q () { s with heap:=h' }):wpAny M A (leaving env (.ref e)) Q E s:=wpAny_bind (Ja hfr hl hf hG hy h)
end
noncomputable def gM (P:Program) (w:World):qM:=fun outer H s E x s'=>
 ∃ (e C:Addr) (H':Hp) (G:Addr->Prop),x=.ref e/\s'.os=s.os/\AllBare s'.gens/\Un (frs outer) [] H H' s.heap s'.heap/\eF P w H' s'.heap/\(∀ b o,s.heap.get? b=some o->G b)/\(∀ b o,H' b=some o->G b)/\(∀ b,G b->b<s'.heap.objs.size)/\vq G e (.ref C) s'.heap/\E (.ref C) none H'
theorem eF.left {H:Hp} {h h':Heap} {fs:List Addr} {G:Addr->Prop} (x:eF P w H h) (y:Left G fs h h') (hn:∀ b o,H b=some o->G b) (hf:∀ b∈fs,H b=none):eF P w H h':=fun a o q=>
 (x a o q).stay (fun b u hb hg=>by
   have ht:∃ o',H b=some o':=by
    rcases hb with rfl | hb
    . exact ⟨_,q⟩
    . exact ⟨_,hb⟩
   obtain ⟨o',ht⟩:=ht
   exact (y.2.1 b u (hn b o' ht) hg).1 fun hb'=>by rw [hf b hb'] at ht; cases ht) (fun _ z=>z) fun _ _ z=>z
theorem Un.left {H H':Hp} {h h1 h2:Heap} {fs gs:List Addr} {G:Addr->Prop} (u:Un fs [] H H' h h1) (y:Left G gs h1 h2) (hn:∀ b o,h.get? b=some o->G b) (hg:∀ b∈gs,b∈fs\/h.objs.size<=b):Un fs [] H H' h h2 where
 keep:=fun b o q hb hf hx=>(y.2.1 b o (hn b _ q) (u.keep b o q hb hf hx)).1 fun z=>by
  rcases hg b z with z | z
  . exact hf z
  . exact absurd (Heap.lt_size q) (Nat.not_lt.mpr z)
 slot:=fun b o q hb hf hx=>by
  obtain ⟨sl,e1⟩:=u.slot b o q hb hf hx
  obtain ⟨_,sl',e2⟩:=y.2.1 b _ (hn b _ q) e1
  exact ⟨sl',e2⟩
 free:=u.free
 there:=fun b o q hx=>by
  obtain ⟨o',e1⟩:=u.there b o q hx
  obtain ⟨_,sl',e2⟩:=y.2.1 b _ (hn b _ q) e1
  exact ⟨_,e2⟩
 tups:=u.tups
 frzs:=u.frzs
 tbls:=u.tbls
theorem Jb {K:FG} {mg:Str->Option Value} {base:Heap} {N:List Str} {qual:Str} {sc:Scope} {f:Addr} {cd:Value} {outer:List Env} {H:Hp} {E:XK}
 {pins:List (Addr×Obj)} {σ:St} {H1:Hp} {s1:Shared} {e C:Addr} {G:Addr->Prop} (I:Inv (j8 (gM P w) P w K mg base N qual sc f cd A outer s H E) pins σ H1 s1)
 (hs:∀ b o,s.heap.get? b=some o->G b) (hn:∀ b o,H1 b=some o->G b) (hG:∀ b,G b->b<s1.heap.objs.size) (hy:vq G e (.ref C) s1.heap) (hE:E (.ref C) none H1):
 (j8 (gM P w) P w K mg base N qual sc f cd A outer s H E).xe (.ref e) s1:=by
 have hfr:(A.deeper (envOfC qual sc s.heap.objs.size f cd)).frames=some (envOfC qual sc s.heap.objs.size f cd::outer):=I.ok.frames
 show wpAny (model P w) (A.deeper (envOfC qual sc s.heap.objs.size f cd)) (leaving (envOfC qual sc s.heap.objs.size f cd) (.ref e)) (fun _ s''=>gM P w outer H s E (.ref e) s'') (fun e' s''=>gM P w outer H s E e' s'') s1
 refine leave (G:=G) (L:=s.heap.objs.size) (cls:=.ref C) hfr I.stack rfl hG hy fun h2 y fl=>?_
 have hf:∀ b∈frs (envOfC qual sc s.heap.objs.size f cd::outer),H1 b=none:=I.stkFree
 refine ⟨e,C,H1,G,rfl,I.os,I.bare,?_,I.hok.left y hn hf,hs,hn,fun b hb=>Nat.lt_of_lt_of_le (hG b hb) y.1,fl,hE⟩
 have u:Un (frs outer) [] H H1 s.heap s1.heap:=I.base
 refine u.left y hs fun b hb=>?_
 have hb':b∈frs (envOfC qual sc s.heap.objs.size f cd::outer):=hb
 rcases List.mem_filterMap.mp hb' with ⟨v,hv,hve⟩
 rcases List.mem_cons.mp hv with rfl | hv
 . right; cases hve; exact Nat.le_refl _
 . left; exact List.mem_filterMap.mpr ⟨v,hv,hve⟩
theorem O4 {K:FG} {mg:Str->Option Value} {base:Heap} {N:List Str} {qual:Str} {sc:Scope} {f:Addr} {cd:Value} {outer:List Env} {H:Hp} {E:XK}:
 oH (gM P w) (j8 (gM P w) P w K mg base N qual sc f cd A outer s H E) E:=fun pins σ H1 s1 x s' I h=>by
 obtain ⟨e,C,H2,G,rfl,os,bare,un,hok,hn,hb,hG,fl,hE⟩:=h
 obtain ⟨hh,g,d,t,os'⟩:=s'
 obtain rfl:os'=s1.os:=os
 have I2:=I.call (h':=hh) (g':=g) (d':=d) (t':=t) (ch:=[]) un hok bare (fun b z=>absurd z (by simp))
 exact Jb I2 (fun b o q=>by
  obtain ⟨o',q'⟩:=I.base.there b o q (by intro z; cases z)
  exact hn b o' q') hb hG fl hE
theorem dh.known {H:Hp} {h:Heap} {a:Addr} {o:HO} (x:dh P w H h a o):∃ ob,h.get? a=some ob:=by
 cases o with
 | lst xs=>obtain ⟨_,_,_,_,z⟩:=x; exact ⟨_,z⟩
 | tup xs=>obtain ⟨_,_,_,_,z,_⟩:=x; exact ⟨_,z⟩
 | dK kvs=>obtain ⟨_,_,_,_,_,_,_,z,_⟩:=x; exact ⟨_,z⟩
 | dT kvs=>obtain ⟨_,_,_,_,_,_,_,z,_⟩:=x; exact ⟨_,z⟩
 | set S n=>obtain ⟨_,_,_,_,z,_⟩:=x; exact ⟨_,z⟩
 | ins C dx fs=>obtain ⟨_,_,_,z,_⟩:=x; exact ⟨_,z⟩
 | own y=>obtain ⟨_,z⟩:=x; exact ⟨_,z⟩
 | xd fs=>obtain ⟨_,⟨_,_,_,z,_⟩,_⟩:=x; exact ⟨_,z⟩
 | rng lo hi=>obtain ⟨_,_,_,z⟩:=x; exact ⟨_,z⟩
 | frz ob u=>obtain ⟨z,_⟩:=x; exact ⟨_,z⟩
 | tbl ps=>exact ⟨_,(show h.get? a=some _ from x)⟩
 | met f y=>exact ⟨_,(show h.get? a=some _ from x)⟩
 | ext φ=>obtain ⟨_,⟨_,z⟩,_⟩:=x; exact ⟨_,z⟩
theorem O5 {K:FG} {mg:Str->Option Value} {base:Heap} {N:List Str} {qual:Str} {sc:Scope} {f:Addr} {cd:Value} {outer:List Env} {H:Hp} {E:XK}
 {pins:List (Addr×Obj)} {σ:St} {H1:Hp} {s1:Shared} {h':Heap} {e C:Addr} {args:List Value} (I:Inv (j8 (gM P w) P w K mg base N qual sc f cd A outer s H E) pins σ H1 s1)
 (hm:Heap.MadeExcOf s1.heap h' e (.ref C) args) (hE:E (.ref C) none H1):
 (j8 (gM P w) P w K mg base N qual sc f cd A outer s H E).xe (.ref e) { s1 with heap:=h' }:=by
 obtain ⟨t,ht,_,_⟩:=hm.there
 have I2:=I.call (h':=h') (g':=s1.gens) (d':=s1.drawn) (t':=s1.toks) (ch:=[]) (Un.kept hm.keeps) (I.hok.kept hm.keeps) I.bare (fun b z=>absurd z (by simp))
 refine Jb (G:=fun b=>∃ o,s1.heap.get? b=some o) I2 (fun b o q=>I.base.there b o q (by intro z; cases z)) (fun b o q=>?_) (fun b ⟨o,q⟩=>Heap.lt_size (hm.keeps b o q)) ⟨_,_,ht,⟨rfl,rfl⟩,rfl,(fun ⟨o,q⟩=>by rw [hm.new] at q; cases q),.inl rfl⟩ hE
 exact (I.hok b o q).known
noncomputable def bB (x:Str):Bool:=decide (x.length<=1000)&&x.cps.toList.all fun c=>decide (c<16 ^ 8)
noncomputable def Gv (K:FG) (H:Hp) (v:V):Prop:=(∃ x,v=.str x/\bB x=true)\/∃ (a:Addr) (xs:List Str),v=.ref a/\(bQ K H a (xs.map V.str)\/cG K H a (xs.map V.str))/\xs.length<=64/\xs.all bB=true
theorem yW {x:Str} (h:bB x=true):(reprText x).length<=10002:=by
 unfold bB at h
 rw [Bool.and_eq_true,decide_eq_true_eq,List.all_eq_true] at h
 have:=StrLaws.reprText_len x fun c hc=>by simpa using h.2 c hc
 omega
theorem rO {h:Heap}:∀ {xs:List Str} {us:List Value},Vals (xs.map V.str) us->ReadsAll h us (xs.map PyData.str) []
 | [],_,.nil=>.nil
 | x::xs,_,.cons r t=>by
  obtain ⟨tk,rfl⟩:=r
  exact ReadsAll.cons (as:=[]) (.str x tk) (rO t)
theorem wH:∀ xs:List Str,xs.all bB=true->PyData.showableAll (xs.map PyData.str)=true/\PyData.hasDictAll (xs.map PyData.str)=false/\PyData.depthAll (xs.map PyData.str)<=1/\(((PyData.shownAll (xs.map PyData.str)).map (·.length)).sum<=10002*xs.length)/\(PyData.shownAll (xs.map PyData.str)).length=xs.length
 | [],_=>⟨rfl,rfl,Nat.zero_le _,Nat.le_refl _,rfl⟩
 | x::xs,h=>by
  rw [List.all_cons,Bool.and_eq_true] at h
  obtain ⟨h1,h2,h3,h4,h5⟩:=wH xs h.2
  have:=yW h.1
  simp only [List.map_cons,PyData.showableAll,PyData.showable,PyData.hasDictAll,PyData.hasDict,PyData.depthAll,PyData.depth,PyData.shownAll,PyData.shown,List.sum_cons,List.length_cons,h1,h2,h5]
  refine ⟨rfl,rfl,by omega,by omega,trivial⟩
section
variable {X:Cx} {pins:List (Addr×Obj)} {σ:St} {H:Hp} {s:Shared}
theorem Lb {k:Nat} {v:V} {u:Value} {Q:Value->Shared->Prop} (hr:ie k X.A) (I:Inv X pins σ H s) (r:RelV v u) (h:Gv X.K H v) (q:∀ z tk s',z.length<=700000->Inv X pins σ H s'->Q (.str z tk) s'):wpAny (model X.prog X.w) X.A (pyReprObj u) Q E s:=by
 have un:=hr.units
 rcases h with ⟨x,rfl,hx⟩ | ⟨a,xs,rfl,hs,hl,hx⟩
 . obtain ⟨tk,rfl⟩:=r
   have:=yW hx
   exact wpAny_pyReprObj_str (q _ _ _ (by omega) (I.tok _)) (by rw [sizeLine_eq]; omega)
 . obtain rfl:u=Value.ref a:=r
   obtain ⟨h1,h2,h3,h4,h5⟩:=wH xs hx
   rcases hs with hs | hs
   . obtain ⟨its,rv,⟨o,n,e1,e2,_,e3⟩,_⟩:=I.list hs
     have hz:=listText_len_le (PyData.shownAll (xs.map PyData.str))
     rw [h5] at hz
     have hz':(PyData.list (xs.map PyData.str)).shown.length<=700000:=by show (listText _).length<=_; omega
     exact pyReprObj_of_reads (d:=.list (xs.map PyData.str)) (.list e1 e2 e3 (rO rv)) (by simpa [PyData.showable] using h1) (PyData.noDict_hsm (by simpa [PyData.hasDict] using h2)) hr.gd (by show X.A.units+(PyData.depthAll _+1)<_; omega) (fun _ _ z=>z) (fun h' u tk hk=>q _ _ _ hz' (I.kept hk)) (by rw [sizeLine_eq]; omega)
   . obtain ⟨its,rv,⟨o,e1,e2,n,e3⟩,_⟩:=I.tuple hs
     have hz:=tupleText_len_le (PyData.shownAll (xs.map PyData.str))
     rw [h5] at hz
     have hz':(PyData.tuple (xs.map PyData.str)).shown.length<=700000:=by show (tupleText _).length<=_; omega
     exact pyReprObj_of_reads (d:=.tuple (xs.map PyData.str)) (.tuple e1 e2 e3 (rO rv)) (by simpa [PyData.showable] using h1) (PyData.noDict_hsm (by simpa [PyData.hasDict] using h2)) hr.gd (by show X.A.units+(PyData.depthAll _+1)<_; omega) (fun _ _ z=>z) (fun h' u tk hk=>q _ _ _ hz' (I.kept hk)) (by rw [sizeLine_eq]; omega)
end
noncomputable abbrev TJ:=St->Hp->(Hp->Prop)->Prop
noncomputable def PJ (X:Cx) (es:List Expr) (n:Nat) (t:TJ):Prop:=∀ (pins:List (Addr×Obj)) (s:Shared) (σ:St) (H:Hp) (Q:Hp->Prop) (acc:Str),Inv X pins σ H s->acc.length+n<=sizeLine->t σ H Q->
 wpAny (model X.prog X.w) X.A (joinParts acc (evalEach es X.env)) (fun u s'=>∃ z tk H',u=.str z tk/\Inv X pins σ H' s'/\Q H') X.xe s
section
variable {X:Cx} {es:List Expr} {n:Nat} {t:TJ}
theorem Ry:PJ X [] 0 (fun _ H Q=>Q H):=fun pins s σ H Q acc I h q=>joinParts_nilE (joinParts_nil ⟨_,_,H,rfl,I.tok _,q⟩ h)
theorem Vj {c:Str} {j:Nat} {p:Pos} (hc:c.length<=100) (h:PJ X es n t):PJ X (.Constant (.str c) j p::es) (n+100) t:=fun pins s σ H Q acc I hl q=>by
 refine joinParts_cons (Calls.Constant_str ?_)
 have e:=strLen_append acc c
 exact ⟨by omega,h pins _ σ H Q _ (I.tok _) (by omega) q⟩
theorem Vk {k:Nat} {e:Expr} {p:Pos} {te:TE} (hr:ie k X.A) (he:PE X e te) (h:PJ X es n t):PJ X (.FormattedValue e 114 none p::es) (n+700000) (fun σ H Q=>te σ H fun v H'=>Gv X.K H' v/\t σ H' Q):=fun pins s σ H Q acc I hl q=>by
 refine joinParts_cons (wpAny_FormattedValue_repr (bu (he pins s σ H _ I q) fun u s1 ⟨v,H1,I1,r1,hs,q1⟩=>?_))
 refine Lb hr I1 r1 hs fun z tk s2 hz I2=>formatField_str (fun t' tk'=>?_) (by rw [sizeLine_eq]; omega)
 have e:=strLen_append acc z
 exact ⟨by omega,h pins _ σ H1 Q _ (I2.tok _) (by omega) q1⟩
theorem Jc {v1 v2:Expr} {p:Pos} (h:PJ X (v1::v2::es) n t) (hn:n<=sizeLine):PE X (.JoinedStr (v1::v2::es) p) (fun σ H Q=>t σ H fun H'=>∀ z,Q (.str z) H'):=fun pins s σ H Q I q=>by
 refine JoinedStr_many (bu (h pins s σ H _ Str.empty I (by show 0+n<=_; omega) q) fun u s' ⟨z,tk,H',e,I',q'⟩=>?_)
 subst e
 exact ⟨.str z,H',I',⟨tk,rfl⟩,q' z⟩
end
abbrev eX:List Value:=[.type "ValueError",.type "Exception",.type "BaseException",.type "object"]
abbrev eY:String := "ValueError.__new__"
noncomputable def Raises (X:Cx) (E:XK):Prop:=∀ (pins:List (Addr×Obj)) (σ:St) (H:Hp) (s:Shared) (h':Heap) (e C:Addr) (args:List Value),Inv X pins σ H s->Heap.MadeExcOf s.heap h' e (.ref C) args->E (.ref C) none H->X.xe (.ref e) { s with heap:=h' }
theorem qO {K:FG} {h:Heap} {C:Addr} {bmB:List Value} {newId:String} (X:K.In h) (q:W.excIn K C bmB newId=true):∃ bm N nm qn bs hdct sn sub ab col dd k0 k1 k2 k3 k5,∃ mN:Str->Option Value,h.get? C=some (excClassObj nm qn C N bs bm hdct sn sub ab col dd k0 k1 k2 k3 k5 newId)/\h.Ns N mN/\mN "__init__" = none/\OwnTail h bmB bm:=by
 unfold W.excIn at q
 split at q
 . rename_i dd cd sl ho
   split at q
   . rename_i C' bm k0 k1 k2 k3 n k5 hm hs
     simp only [Bool.and_eq_true,beq_iff_eq,Bool.not_eq_true'] at q
     obtain ⟨⟨⟨⟨⟨rfl,rfl⟩,hdel⟩,ht⟩,hok⟩,hni⟩:=q
     obtain ⟨nm,bs,mro,ns,qn,hd,sn,sub,ab,col,del⟩:=cd
     dsimp only at hm hdel hok hni
     subst hm hdel
     have hsl:sl=#[k0,k1,k2,k3,some (.builtin n),k5]:=by
      obtain ⟨l⟩:=sl
      simp only at hs
      rw [hs]
     subst hsl
     exact ⟨bm,ns,nm,qn,bs,hd,sn,sub,ab,col,dd,k0,k1,k2,k3,k5,_,X _ _ ho,.of_isNs (W.isNs_of_in X hok),W.nsMap_none_of_in X hok hni,W.tail_of_in X ht⟩
   . cases q
 . cases q
section
variable {X:Cx}
theorem Bc {x:Str} {C:Addr} {np cpos pos:Pos} {a:Expr} {t:TE} {E:XK} {k:Nat} (R:Raises X E) (hr:ie k X.A) (hg:Gl X x) (hm:X.mg x=some (.ref C)) (hx:W.excIn X.K C eX eY=true) (ha:PE X a t)
 (hdb:(x==("__debug__" : Str))=false:=by decide) (hst:starEach [a] X.env=[(false,eval a X.env)]:=by rfl) (hpl:(backTo cpos (starEach [a] X.env)).any (·.1)=false:=by rfl):
 PS X (.Raise (some (.Call (.Name x np) [a] [] cpos)) none pos) (fun _ σ H=>z9 t KD σ H fun vs H1=>vs.length=1/\E (.ref C) none H1):=fun pins s σ H D I q=>by
 obtain ⟨bm,N,nm,qn,bs,hdct,sn,sub,ab,col,dd,k0,k1,k2,k3,k5,mN,hC,hN,hni,T⟩:=qO I.mod.kin hx
 refine wpAny_Raise_call_subT (F:=F.excBase_ValueError) (C:=C) (mN:=mN) (nm:=nm) (q:=qn) (N:=N) (bs:=bs) (hdct:=hdct) (sn:=sn) (sub:=sub) (ab:=ab) (col:=col) (dd:=dd) (k0:=k0) (k1:=k1) (k2:=k2) (k3:=k3) (k5:=k5) (T.hasType (by decide +kernel)) (hr.hd rfl) hpl hni (nY I hg hm ⟨rfl,?_⟩ hdb)
 have ha':=cM ha jJ (hs:=hst)
 rw [hst]
 have hw:=ha' cpos pins s σ H _ I q
 rw [hst] at hw
 refine Calls.evalArgs_plain (bu hw fun us s1 ⟨vs,H1,I1,r1,q1⟩=>?_)
 refine ⟨rfl,by rw [← r1.length,q1.1]; decide,I1.bk _ _ hC,hN.keeps I1.bk,T.keeps I1.bk,fun h' e hm=>R pins σ H1 s1 h' e C us I1 hm q1.2⟩
end
theorem Left.refl {G:Addr->Prop} {fs:List Addr} {h:Heap}:Left G fs h h:=⟨Nat.le_refl _,fun b o hb q=>⟨fun _=>q,o.slots,q⟩,fun b o q nf=>⟨o,q,rfl⟩⟩
theorem O6 {M:Model} {e:Addr} {G:Addr->Prop} {Q:Unit->Shared->Prop} {cls:Value} {fs:List Addr} (hy:vq G e cls s.heap) (h:∀ h',Left G fs s.heap h'->vq G e cls h'->Q () { s with heap:=h' }):wpAny M A (setFlight (.ref e) none) Q E s:=by
 obtain ⟨oe,vs,he,hc,hd,hne,h1⟩:=id hy
 unfold setFlight
 rcases h1 with h1 | ⟨T,oT,ts,h1,hnT,hTe,hT,hdT,h3⟩
 . refine wpAny_bind (wpAny_field he hd h1 ?_)
   rw [if_neg (by decide)]
   exact wpAny_pure (h s.heap Left.refl hy)
 . refine wpAny_bind (wpAny_field he hd h1 ?_)
   rw [if_pos (show (Value.ref T != Value.none)=true from by simp)]
   have hz:=(Array.getElem?_eq_some_iff.mp h3).1
   have other:∀ b,b≠T->(s.heap.update T (Obj.mapFields (·.setIfInBounds 3 Value.none))).get? b=s.heap.get? b:=fun b hb=>Heap.get?_update_other _ _ (Ne.symm hb)
   refine wpAny_setField hT hdT hz (h _ ⟨by rw [Heap.size_update]; exact Nat.le_refl _,fun b o hb q=>?_,fun b o q nf=>⟨o,(other b fun z=>by rw [z,hT] at q; cases q; exact nf ts hdT).trans q,rfl⟩⟩ ⟨oe,vs,(other e (Ne.symm hTe)).trans he,hc,hd,hne,.inr ⟨T,_,_,h1,hnT,hTe,Heap.get?_update_self _ hT (Obj.isFreed_of_fields (Obj.data_mapFields hdT _)),Obj.data_mapFields hdT _,by simp [hz]⟩⟩)
   have z:=(other b (fun z=>hnT (z▸hb))).trans q
   exact ⟨fun _=>z,o.slots,z⟩
noncomputable def lG (X:Cx) (pins:List (Addr×Obj)) (σ:St) (H':Hp) (e C:Addr) (s':Shared):Prop:=
 ∃ (H:Hp) (s:Shared) (G:Addr->Prop),Inv X pins σ H s/\s'.os=s.os/\AllBare s'.gens/\Un (frs X.stack) [] H H' s.heap s'.heap/\eF X.prog X.w H' s'.heap/\(∀ b o,s.heap.get? b=some o->G b)/\(∀ b o,H' b=some o->G b)/\(∀ b,G b->b<s'.heap.objs.size)/\vq G e (.ref C) s'.heap
section
variable {X:Cx} {pins:List (Addr×Obj)} {σ:St} {H H':Hp} {s s':Shared} {e C:Addr}
theorem lG.of {E:XK} {x:Value} (I:Inv X pins σ H s) (h:gM X.prog X.w X.stack H s E x s'):∃ e C H',x=.ref e/\lG X pins σ H' e C s'/\E (.ref C) none H':=by
 obtain ⟨e,C,H',G,rfl,os,bare,un,hok,hn,hb,hG,fl,hE⟩:=h
 exact ⟨e,C,H',rfl,⟨H,s,G,I,os,bare,un,hok,hn,hb,hG,fl⟩,hE⟩
theorem lG.inv (h:lG X pins σ H' e C s'):Inv X pins σ H' s':=by
 obtain ⟨H,s,G,I,os,bare,un,hok,hn,hb,hG,fl⟩:=h
 exact I.call' os un hok bare (fun b z=>absurd z (by simp))
theorem lG.leave {M:Model} {Q:Unit->Shared->Prop} (h:lG X pins σ H' e C s') (hs:X.stack=X.env::X.outer) (hf:X.env.frame=some X.env.locals) (hA:A.frames=some X.stack)
 (k:∀ h',lG X pins σ H' e C { s' with heap:=h' }->Q () { s' with heap:=h' }):wpAny M A (noteFrame (.ref e) X.env) (fun _ s1=>wpAny M A (setFlight (.ref e) none) Q E s1) E s':=by
 have I':=h.inv
 obtain ⟨H,s,G,I,os,bare,un,hok,hn,hb,hG,fl⟩:=h
 have hst:=I'.stack
 rw [hs] at hst hA
 refine Ja hA hst hf hG fl fun h' y f=>k h' ⟨H,s,G,I,os,bare,un.left y hn fun b z=>.inl (by rw [hs]; exact z),hok.left y hb fun b z=>I'.stkFree b (by rw [hs]; exact z),hn,hb,fun b z=>Nat.lt_of_lt_of_le (hG b z) y.1,f⟩
theorem lG.flight {M:Model} {Q:Unit->Shared->Prop} (h:lG X pins σ H' e C s') (k:∀ h',lG X pins σ H' e C { s' with heap:=h' }->Q () { s' with heap:=h' }):wpAny M A (setFlight (.ref e) none) Q E s':=by
 have I':=h.inv
 obtain ⟨H,s,G,I,os,bare,un,hok,hn,hb,hG,fl⟩:=h
 exact O6 (fs:=frs X.stack) fl fun h' y f=>k h' ⟨H,s,G,I,os,bare,un.left y hn fun b z=>.inl z,hok.left y hb fun b z=>I'.stkFree b z,hn,hb,fun b z=>Nat.lt_of_lt_of_le (hG b z) y.1,f⟩
end
noncomputable abbrev Cx.hand (X:Cx) (e:Addr):Cx:={ X with A:=X.A.mark (some (.ref e)),calm:=false,xe:=fun _ _=>False }
section
variable {X:Cx} {pins:List (Addr×Obj)} {σ:St} {H:Hp} {s:Shared} {e:Addr}
theorem Inv.hand (I:Inv X pins σ H s) (e:Addr):Inv (X.hand e) pins σ H s:=
 ⟨⟨I.ok.mod,I.ok.kind,I.ok.glob,I.ok.blt,I.ok.above,I.ok.inj,I.ok.has,I.ok.cab,fun z=>absurd z (by simp),I.ok.frames,I.ok.stk,I.ok.exf,I.ok.bs,I.ok.bsz,I.ok.noex,I.ok.exfs,I.ok.funs,I.ok.frf⟩,I.os,I.bare,I.base,I.loc,I.cell,I.free,I.freeC,I.pin,I.hok,I.len⟩
theorem Inv.unhand (hd:X.calm=true->X.A.handled=none) (I:Inv (X.hand e) pins σ H s):Inv X pins σ H s:=
 ⟨⟨I.ok.mod,I.ok.kind,I.ok.glob,I.ok.blt,I.ok.above,I.ok.inj,I.ok.has,I.ok.cab,hd,I.ok.frames,I.ok.stk,I.ok.exf,I.ok.bs,I.ok.bsz,I.ok.noex,I.ok.exfs,I.ok.funs,I.ok.frf⟩,I.os,I.bare,I.base,I.loc,I.cell,I.free,I.freeC,I.pin,I.hok,I.len⟩
theorem SP.unhand {D:Ends} {f:Flow} {s':Shared} (hd:X.calm=true->X.A.handled=none) (h:SP (X.hand e) pins D f s'):SP X pins D f s':=by
 cases f with
 | next=>obtain ⟨σ',H',I,q⟩:=h; exact ⟨σ',H',I.unhand hd,q⟩
 | brk=>obtain ⟨σ',H',I,q⟩:=h; exact ⟨σ',H',I.unhand hd,q⟩
 | cont=>obtain ⟨σ',H',I,q⟩:=h; exact ⟨σ',H',I.unhand hd,q⟩
 | ret u=>obtain ⟨v,σ',H',I,r,q⟩:=h; exact ⟨v,σ',H',I.unhand hd,r,q⟩
end
noncomputable def mroIn (K:FG) (C d:Addr):Bool:=W.mroIn K C (.ref d)==some true
theorem rP {K:FG} {C d:Addr} {b:Bool} (h:W.mroIn K C (.ref d)=some b):mroIn K C d=b:=by
 unfold mroIn
 rw [h]
 cases b<;>rfl
theorem Jd {K:FG} {h:Heap} {C d:Addr} {bmB:List Value} {newId:String} (X:K.In h) (q:W.excIn K C bmB newId=true) {nm qn:Str} {N:Addr} {bs bm:List Value} {hdct:Bool} {sn:List Str} {sub:List Value} {ab:Bool} {col:Option Bool} {dd:Option Addr} {k0 k1 k2 k3 k5:Option Value}
 (hC:h.get? C=some (excClassObj nm qn C N bs bm hdct sn sub ab col dd k0 k1 k2 k3 k5 newId)):(Value.ref C::bm).contains (.ref d)=mroIn K C d:=by
 refine (rP ?_).symm
 unfold W.excIn at q
 unfold W.mroIn W.clsIn
 split at q
 . rename_i o ho
   have:=X _ _ ho
   rw [hC] at this
   cases this
   rw [ho]
   rfl
 . cases q
theorem Rz {M:Model} {nm q nm' q':Str} {C N D N':Addr} {bs bm bs' bm':List Value} {hdct hdct':Bool} {sn sn':List Str} {sub sub':List Value} {ab ab':Bool} {col col':Option Bool} {dd dd':Option Addr} {k0 k1 k2 k3 k5 j0 j1 j2 j3 j5:Option Value} {newId newId':String}
 {h:Heap} {g:Array GenState} {d:Drawn} {t:Nat} {os:OsState} {e:Addr} {oe:Obj} {Q:Bool->Shared->Prop}
 (hC:h.get? C=some (excClassObj nm q C N bs bm hdct sn sub ab col dd k0 k1 k2 k3 k5 newId)) (hD:h.get? D=some (excClassObj nm' q' D N' bs' bm' hdct' sn' sub' ab' col' dd' j0 j1 j2 j3 j5 newId')) (he:h.get? e=some oe) (hcls:oe.cls=.ref C) (hbase:bm'.contains (.type "BaseException")=true)
 (hq:Q ((Value.ref C::bm).contains (.ref D)) ⟨h,g,d,t,os⟩):wpAny M A (excMatches (.ref e) (.ref D)) Q E ⟨h,g,d,t,os⟩:=by
 have hcB:(Value.ref D::bm').contains (.type "BaseException")=true:=by rw [List.contains_cons,hbase,Bool.or_true]
 have f:=tc_notTuple
 unfold excMatches
 generalize hb:(Value.ref C::bm).contains (.ref D)=b at hq
 repeat (first | (with_reducible refine wpAny_loadPart_at he ?_; rw [hcls]) | with_reducible refine wpAny_loadPart_at hD ?_ | (with_reducible refine wpAny_isSubtype_exc hD ?_; rw [hcB]) | (with_reducible refine wpAny_isSubtype_exc hC ?_; rw [hb]) | wp_step)
 cases b<;>(wp_walk; exact hq)
noncomputable def PH (X:Cx) (hs:List ExceptHandler) (t:Addr->TS):Prop:=∀ (pins:List (Addr×Obj)) (s:Shared) (σ:St) (H:Hp) (D:Ends) (e C:Addr),lG X pins σ H e C s->W.excIn X.K C eX eY=true->t C D σ H->wpAny (model X.prog X.w) X.A (handleBy (.ref e) X.env hs) (SP X pins D) X.xe s
noncomputable def Gw (K:FG) (d:Addr) (ts:TS) (tr:Addr->TS):Addr->TS:=fun C D σ H=>if mroIn K C d=true then ts D σ H else tr C D σ H
section
variable {X:Cx}
theorem RB {hs:List ExceptHandler}:PH X hs (fun _ _ _ _=>False):=fun _ _ _ _ _ _ _ _ _ z=>z.elim
theorem O7 {x:Str} {d:Addr} {b₀:Stmt} {suite:List Stmt} {pos np:Pos} {rest:List ExceptHandler} {ts:TS} {tr:Addr->TS} (hg:Gl X x) (hm:X.mg x=some (.ref d)) (hx:W.excIn X.K d eX eY=true) (hs:∀ e,dg (X.hand e) (b₀::suite) ts) (hr:PH X rest tr) (hdb:(x==("__debug__" : Str))=false:=by decide):
 PH X (.ExceptHandler (some (.Name x np)) none (b₀::suite) pos::rest) (Gw X.K d ts tr):=fun pins s σ H D e C h hc q=>by
 have I:=h.inv
 refine wpAny_handleBy_cons (codeAny_handlers_test (nY (I.hand e) hg hm ?_ hdb)) (by intro q; cases q)
 obtain ⟨bm,N,nm,qn,bs,hdct,sn,sub,ab,col,dd,k0,k1,k2,k3,k5,mN,hC,hN,hni,T⟩:=qO I.kIn hc
 obtain ⟨bm',N',nm',qn',bs',hdct',sn',sub',ab',col',dd',j0,j1,j2,j3,j5,mN',hD,hN',hni',T'⟩:=qO I.kIn hx
 have e1:=Jd (d:=d) I.kIn hc hC
 obtain ⟨_,_,_,_,_,_,_,_,_,_,_,oe,_,he,hcls,_⟩:=id h
 obtain ⟨hp,g,dr,tk,os⟩:=s
 refine Rz hC hD he hcls.1 (T'.hasType (by decide +kernel)) ?_
 rw [e1]
 unfold Gw at q
 cases hb:mroIn X.K C d with
 | true=>
  rw [if_pos hb] at q
  refine codeAny_handlers_suite (h.flight fun h' h2=>?_)
  exact wpAny_mono (hs e pins _ σ H D (h2.inv.hand e) q) (fun f s1 q1=>q1.unhand I.ok.hd) fun _ _ z=>False.elim z
 | false=>
  rw [if_neg (by rw [hb]; decide)] at q
  exact hr pins _ σ H D e C h hc q
noncomputable def yX (X:Cx) (pins:List (Addr×Obj)) (σ:St) (e:Expr) (t:TE):Prop:=∀ (s:Shared) (H:Hp) (Q:VK),Inv X pins σ H s->t σ H Q->wpAny (model X.prog X.w) X.A (eval e X.env) (EP X pins σ Q) X.xe s
noncomputable def yZ (X:Cx) (pins:List (Addr×Obj)) (σ:St) (b:List Stmt) (t:TS):Prop:=∀ (s:Shared) (H:Hp) (D:Ends),Inv X pins σ H s->t D σ H->wpAny (model X.prog X.w) X.A (execs b X.env) (SP X pins D) X.xe s
noncomputable def Aa (X:Cx) (pins:List (Addr×Obj)) (σ:St) (E:XK):Prop:=∀ H s e s',Inv X pins σ H s->gM X.prog X.w X.stack H s E e s'->X.xe e s'
section
variable {pins:List (Addr×Obj)} {σ:St} {E:XK} {k:Nat} {f C:Addr} {fd:FuncData} {ps:List Str} {sp:Sp} {x:Str} {p pos:Pos} {e:Expr} {es:List Expr} {t:TA} {te:TE}
theorem Ld (M:Mk X.K C f) (F:lF X.prog X.w X.K X.mg X.base (gM X.prog X.w) k f fd ps sp) (hr:ie (k+1) X.A) (hg:Gl X x) (hm:X.mg x=some (.ref C)) (hb:Binds X.K fd ps []) (hx:Aa X pins σ E)
 (ha:PA X (e::es) t) (hdb:(x==("__debug__" : Str))=false:=by decide) (he:starEach (e::es) X.env=(false,eval e X.env)::starEach es X.env:=by rfl) (hpl:(backTo pos (starEach es X.env)).any (·.1)=false:=by rfl):
 yX X pins σ (.Call (.Name x p) (e::es) [] pos) (M7 C sp [] E t):=by
 intro s H Q I h
 refine wpAny_Call_Name_kw (nY I hg hm ?_ hdb)
 refine W.callWith_K (h₀:=X.base) I.ok.mod.kin M.kp (bu (ha pos pins s σ H _ I h) fun us s1 ⟨vs,H1,I1,r,q⟩=>⟨I1.kIn,?_⟩) he hpl
 exact KH M F hr hb .nil hx I1 r q
theorem Le (he:yX X pins σ e te) (hs:swapsWith e none pos.line X.env=pure false:=by rfl):yZ X pins σ [.Expr e pos] (zZ te):=fun s H D I h=>
 wpAny_execs_cons (wpAny_Expr_any (bu (he s H _ I h) fun v s1 ⟨x,H1,I1,r1,q1⟩=>wpAny_execs_nil ⟨σ,H1,I1,q1⟩) I.quiet hs)
end
noncomputable def Vl (K:FG) (tb:XK->TS) (th:Addr->TS):TS:=fun D σ H=>∃ E:XK,tb E D σ H/\∀ C H',E (.ref C) none H'->W.excIn K C eX eY=true/\th C D σ H'
theorem RC {body:List Stmt} {h₀:ExceptHandler} {hs:List ExceptHandler} {pos:Pos} {tb:XK->TS} {th:Addr->TS} (hst:X.stack=X.env::X.outer) (hf:X.env.frame=some X.env.locals)
 (hb:∀ pins σ xe E,Aa (X.wish xe) pins σ E->yZ (X.wish xe) pins σ body (tb E)) (hh:PH X (h₀::hs) th):PS X (.Try body (h₀::hs) [] [] pos) (Vl X.K tb th):=fun pins s σ H D I ⟨E,q,k⟩=>by
 refine wpAny_Try_except (wpAny_mono (hb pins σ (fun x s'=>∃ H s,Inv X pins σ H s/\gM X.prog X.w X.stack H s E x s') E (fun H s e s' I h=>⟨H,s,I.unwish,h⟩) s H D (I.wish _) q) (fun f s1 h1=>?_) fun x s1 h1=>?_)
 . have h2:=SP.unwish h1
   cases f with
   | next=>exact wpAny_execs_nil h2
   | ret u=>exact h2
   | brk=>exact h2
   | cont=>exact h2
 . obtain ⟨Hh,s0,I0,cx⟩:=h1
   obtain ⟨e,C,H',rfl,hh',hE⟩:=lG.of I0 cx
   obtain ⟨hc,hq⟩:=k C H' hE
   exact hh'.leave hst hf I0.ok.frames fun h' h2=>hh pins _ σ H' D e C h2 hc hq
end
end L2
namespace L2
open PySem PySem.Spec PyProof.Rows PySem.W
section
variable {prog:Program} {w:World} {A:Around} {E:Value->Shared->Prop} {s:Shared} {K:FG} {e C:Addr} {oe:Obj}
structure mQ (K:FG) (C:Addr):Prop where
 ga:W.findIn K (.ref C) "__getattribute__" = some (some (.builtin "BaseException.__getattribute__"))
 gt:W.findIn K (.ref C) "__getattr__" = some none
 me:W.mroIn K C (.type "BaseException")=some true
 mo:W.mroIn K C (.type "object")=some true
 ic:(W.clsIn K C).isSome=true
 ca:W.findIn K (.ref C) "__class__" = some (some (.builtin "object.__class__"))
 cg:W.specialIn K (.builtin "object.__class__") "__get__" = some (some (.builtin "getset_descriptor.__get__"))
 tk:W.takesIn K (.builtin "object.__class__")=some true
theorem zM {K:FG} {C:Addr} {name:Str} {a g:Value} (hc:(W.clsIn K C).isSome=true) (ha:W.findIn K (.ref C) name=some (some a)) (hg:W.specialIn K a "__get__" = some (some g)) (ht:W.takesIn K a=some true):W.findObj K C none name=some (.bind g a):=by
 obtain ⟨cd,hc⟩:=Option.isSome_iff_exists.mp hc
 unfold W.findObj
 rw [hc,Option.bind_some,ha,Option.bind_some]
 simp [hg,ht]
theorem Je {nameV:Value} {Q:Unit->Shared->Prop} {M:Model} (X:K.In s.heap) (I:W.InstAt s.heap e oe C none) (T:mQ K C) (hq:Q () s):wpAny M A (checkBuiltinCall "BaseException.__getattribute__" ⟨[.ref e,nameV],[]⟩) Q E s:=by
 obtain ⟨hh,g,d,t,os⟩:=s
 have hk:builtinKind "BaseException.__getattribute__" = some .slot:=by decide +kernel
 have hsplit:splitId "BaseException.__getattribute__" = some ("BaseException", "__getattribute__"):=by decide +kernel
 have L0:=I.type (M:=M)
 have L1:=W.looks_mroIn (M:=M) X T.me
 have ha:=F.args_bexc_ga (.ref e) nameV
 simp only [checkBuiltinCall,hk,hsplit]
 refine wpAny_bind ?_
 unfold isInstance
 refine wpAny_bind (L0.at (L1.at ?_))
 repeat (any_goals (first | assumption | wp_step))
theorem Jf {tk:Tok} {Q:Fin->Shared->Prop} (X:K.In s.heap) (I:W.InstAt s.heap e oe C none) (T:mQ K C) (hq:Q (.done (.ret (.ref C))) s):wpAny (model prog w) A (Builtin.«object.__getattribute__» ⟨[.ref e,.str "__class__" tk],[]⟩) Q E s:=by
 have L0:=I.type (M:=model prog w)
 have L4:=W.looks_find (M:=model prog w) X I (zM T.ic T.ca T.cg T.tk)
 unfold Builtin.«object.__getattribute__»
 repeat (any_goals (first | assumption | (with_reducible refine L0.at ?_) | (with_reducible refine L4.at ?_) | wp_step))
 refine W.class_get (od:=none) X I T.mo ?_
 repeat (any_goals (first | assumption | wp_step))
theorem Jg {Q:Option Value->Shared->Prop} (X:K.In s.heap) (I:W.InstAt s.heap e oe C none) (T:mQ K C) (hq:Q (some (.ref C)) { s with toks:=s.toks+1 }):wpAny (model prog w) A (getAttr? (.ref e) "__class__") Q E s:=by
 obtain ⟨hh,g,d,t,os⟩:=s
 have L0:=I.type (M:=model prog w)
 have L1:=W.looks_findIn (M:=model prog w) X T.ga
 have L2:=W.looks_findIn (M:=model prog w) X T.gt
 have hx2:(Value.builtin "BaseException.__getattribute__" == Value.builtin "object.__getattribute__")=false:=by decide +kernel
 have f3:=F.excAttr_ValueError.ga.bind (.ref e)
 have pl:=F.excAttr_ValueError.ga.plain
 unfold getAttr? getAttrBy? getAttrBy
 refine wpAny_bind (wpAny_mkText (wpAny_bind (wpAny_attempt (wpAny_holding (wpAny_bind (L0.at (wpAny_bind (L1.at ?_))))))))
 show wpAny _ _ (if (onTheHeap (Value.ref C)&&Value.builtin "BaseException.__getattribute__" == Value.builtin "object.__getattribute__")=true then _ else _) _ _ _
 rw [hx2,Bool.and_false,if_neg (by decide)]
 unfold getAttrByItsOwn hookBefore
 refine wpAny_bind ?_
 rw [if_pos (show onTheHeap (Value.ref C)=true from rfl)]
 refine L2.at (wpAny_bind (wpAny_attempt (wpAny_holding ?_)))
 unfold callGetattribute
 rw [Bool.false_and,if_neg (by decide)]
 unfold boundAndCalled
 refine wpAny_bind ?_
 rw [f3]
 refine wpAny_pure (wpAny_call ?_)
 refine codeAny_call_builtin pl F.entry_bexc_ga (Je (s:=⟨hh,g,d,t+1,os⟩) X I T (Jf (s:=⟨hh,g,d,t+1,os⟩) X I T ?_))
 repeat (any_goals (first | assumption | wp_step))
theorem Lf (T:mQ K C):W.KitX K (.ref e) (.ref C) (fun h=>W.InstAt h e oe C none) where
 ty:=fun _ _ _ I=>I.type
 it:=fun _ _ X _=>by
  obtain ⟨cdD,hcD⟩:=Option.isSome_iff_exists.mp T.ic
  unfold W.clsIn at hcD
  split at hcD
  . rename_i c' d' cd' sl' ho
    intro A' Q' E' s' k q
    unfold isType loadHead
    exact wpAny_bind (wpAny_loadPart (k _ _ (X _ _ ho)) (wpAny_pure q))
  . cases hcD
 ne:=fun h tp dd its n sl X htp=>by
  obtain ⟨cdD,hcD⟩:=Option.isSome_iff_exists.mp T.ic
  refine Bool.eq_false_iff.mpr fun q=>?_
  have e:C=tp:=Value.ref.inj (beq_iff_eq.mp q)
  subst e
  unfold W.clsIn at hcD
  split at hcD
  . rename_i c' d' cd' sl' ho
    have z:=(X _ _ ho).symm.trans htp
    cases z
  . cases hcD
 ca:=fun X I k=>Jg X I T k
end
theorem Ub {H:Hp} {h:Heap} {a c:Addr} (p:rN a c h):dh P w H h a (.ext (rN a c)):=by
 obtain ⟨o,q⟩:=id p
 refine ⟨p,⟨o,q.at_⟩,fun h1 h2 ⟨o1,q1⟩ k=>⟨o1,k _ q1.at_,q1.cls,q1.no,?_⟩⟩
 have:=q1.dict
 cases e:o1.dict with
 | none=>rw [e] at this; trivial
 | some d=>rw [e] at this; exact this.elim
section
variable {X:Cx} {pins:List (Addr×Obj)} {σ:St} {H H':Hp} {s s':Shared} {e C:Addr}
theorem lG.take (h:lG X pins σ H' e C s'):H' e=none/\Inv X pins σ (upd H' e (.ext (rN e C))) s':=by
 obtain ⟨H,s,G,I,os,bare,un,hok,hn,hb,hG,oe,vs,he,⟨hc,hdi⟩,hd,hne,_⟩:=h
 have e0:H' e=none:=by
  cases q:H' e with
  | none=>rfl
  | some o=>exact absurd (hb e o q) hne
 have ne:∀ b o,H' b=some o->b≠e:=fun b o q z=>by rw [z,e0] at q; cases q
 have nh:∀ b o,s.heap.get? b=some o->b≠e:=fun b o q z=>hne (z▸hn b o q)
 refine ⟨e0,I.call' os ⟨un.keep,un.slot,fun b o q n x=>by rw [aO (nh b o q)]; exact un.free b o q n x,un.there,fun b xs q=>?_,fun b o u q=>?_,fun b ps q=>?_⟩ (fun a o q=>?_) bare (fun b z=>absurd z (by simp))⟩
 . have:=un.tups b xs q
   rw [aO (ne _ _ this)]; exact this
 . have:=un.frzs b o u q
   rw [aO (ne _ _ this)]; exact this
 . obtain ⟨more,q⟩:=un.tbls b ps q
   exact ⟨more,by rw [aO (ne _ _ q)]; exact q⟩
 . by_cases z:a=e
   . subst z
     rw [bh] at q
     cases q
     refine Ub ⟨oe,he,hc,?_,?_⟩
     . unfold W.notCls; rw [hd]
     . rw [hdi]; trivial
   . rw [aO z] at q
     exact (hok a o q).stay (fun _ _ _ q=>q) (fun b q=>by rw [aO (ne _ _ q)]; exact q) fun b xs q=>by rw [aO (ne _ _ q)]; exact q
theorem nG {M:Model} {i:Nat} {x:Str} {pos:Pos} {Q:Unit->Shared->Prop} (I:Inv X pins σ H s) (hN:X.N.Nodup) (hi:X.N[i]?=some x) (hk:X.env.scope.names.lookup x=some .local)
 (h:∀ s',Inv X pins (σ.set i none) H s'->Q () s'):wpAny M A (do bindName X.env x .none; unbindBehindTheSuite X.env x pos) Q E s:=by
 refine wpAny_bind (wpAny_bindName (rJ (v:=.non) I hN hi (.inl hk) rfl (fun s1 I1=>?_) (.inr hk)))
 obtain ⟨m,hn,hl⟩:=id I1.loc
 have hcls:(X.env.scope.kind==.class||(X.env.scope.kind==.module&&X.env.locals != X.env.globals))=false:=by rw [I.ok.kind]; rfl
 have hiσ:i<σ.length:=by rw [I.len]; exact (List.getElem?_eq_some_iff.mp hi).1
 obtain ⟨u,_,lk⟩:=hl i x .non hi (by rw [List.getElem?_set_self hiσ]) (.inl hk)
 have hk':X.env.kindOf x=some .local:=hk
 have hv:m x=some u:=by
  rcases lk with ⟨_,q⟩ | ⟨q,_⟩
  . exact q
  . rw [hk'] at q; rcases q with q | q<;>cases q
 have cne:=I1.cne
 unfold unbindBehindTheSuite
 refine wpAny_onRaise (wpAny_unbindName_local hk' hn hv hcls fun h' u' hn' hs=>h _ ?_)
 obtain ⟨oL,_,_,hoL,_⟩:=id hn
 have hok:eF X.prog X.w H h':=fun b ob e=>by
  refine (I1.hok b ob e).stay (fun c w' hc q=>(hs.2 c ?_).trans q) (fun _ q=>q) fun _ _ q=>q
  rintro rfl
  rcases hc with rfl | hc
  . rw [I1.free] at e; cases e
  . rw [I1.free] at hc; cases hc
 refine ⟨I1.ok,I1.os,I1.bare,⟨fun b o e n hb hx=>?_,fun b o e n hb hx=>?_,I1.base.free,fun b o e hx=>?_,I1.base.tups,I1.base.frzs,I1.base.tbls⟩,⟨_,hn',fun j y v' e1 e2 e3=>?_⟩,fun y c e=>?_,I1.free,I1.freeC,fun p hp=>?_,hok,by simpa using I.len⟩
 . exact (hs.2 b (Nat.ne_of_lt (Nat.lt_of_lt_of_le (Heap.lt_size e) I1.ok.above))).trans (I1.base.keep b o e n hb hx)
 . obtain ⟨sl,e1⟩:=I1.base.slot b o e n hb hx
   exact ⟨sl,(hs.2 b (Nat.ne_of_lt (Nat.lt_of_lt_of_le (Heap.lt_size e) I1.ok.above))).trans e1⟩
 . obtain ⟨o',e1⟩:=I1.base.there b o e hx
   exact ⟨o',(hs.2 b (Nat.ne_of_lt (Nat.lt_of_lt_of_le (Heap.lt_size e) I1.ok.above))).trans e1⟩
 . by_cases hj:j=i
   . subst hj
     rw [List.getElem?_set_self hiσ] at e2
     cases e2
   . rw [List.getElem?_set_ne (Ne.symm hj)] at e2
     obtain ⟨u',r',q⟩:=hl j y v' e1 (by rw [List.getElem?_set_ne (Ne.symm hj)]; exact e2) e3
     refine ⟨u',r',?_⟩
     rcases q with ⟨k,e⟩ | ⟨k,c,e,z⟩
     . refine .inl ⟨k,?_⟩
       have:y≠x:=fun e=>hj (vA hN e1 (e▸hi))
       simp [this,e]
     . exact .inr ⟨k,c,e,z.sameBut hs (cne y c e)⟩
 . obtain ⟨w',z⟩:=I1.cell y c e
   exact ⟨w',z.sameBut hs (cne y c e)⟩
 . obtain ⟨e,n,ne,nf,d⟩:=I1.pin p hp
   exact ⟨(hs.2 p.1 ne).trans e,n,ne,nf,d⟩
end
noncomputable def Ends.un (i:Nat) (D:Ends):Ends:={ nx:=fun σ H=>D.nx (σ.set i none) H,rt:=D.rt,bk:=fun σ H=>D.bk (σ.set i none) H,ct:=fun σ H=>D.ct (σ.set i none) H }
noncomputable def Bd (K:FG) (d:Addr) (i:Nat) (ts:TS) (tr:Addr->TS):Addr->TS:=fun C D σ H=>if L2.mroIn K C d=true then ∀ e,H e=none->ts (D.un i) (σ.set i (some (.ref e))) (upd H e (.ext (rN e C))) else tr C D σ H
theorem cU.mark {b:Bool} {k:Nat} (r:cU b k A) (v:Option Value):cU false k (A.mark v):=⟨fun z=>(by cases z),r.dp,r.un,r.gd⟩
section
variable {X:Cx}
theorem Uc {x n:Str} {i:Nat} {d:Addr} {b₀:Stmt} {suite:List Stmt} {pos np:Pos} {rest:List ExceptHandler} {ts:TS} {tr:Addr->TS} (hg:Gl X x) (hm:X.mg x=some (.ref d)) (hx:W.excIn X.K d eX eY=true) (hN:X.N.Nodup) (hi:X.N[i]?=some n) (hk:X.env.scope.names.lookup n=some .local)
 (hs:∀ e,dg (X.hand e) (b₀::suite) ts) (hr:PH X rest tr) (hdb:(x==("__debug__" : Str))=false:=by decide):
 PH X (.ExceptHandler (some (.Name x np)) (some n) (b₀::suite) pos::rest) (Bd X.K d i ts tr):=fun pins s σ H D e C h hc q=>by
 have I:=h.inv
 refine wpAny_handleBy_cons (codeAny_handlers_test (nY (I.hand e) hg hm ?_ hdb)) (by intro q; cases q)
 obtain ⟨bm,N,nm,qn,bs,hdct,sn,sub,ab,col,dd,k0,k1,k2,k3,k5,mN,hC,hN',hni,T⟩:=qO I.kIn hc
 obtain ⟨bm',N',nm',qn',bs',hdct',sn',sub',ab',col',dd',j0,j1,j2,j3,j5,mN',hD,hN'',hni',T'⟩:=qO I.kIn hx
 have e1:=Jd (d:=d) I.kIn hc hC
 obtain ⟨_,_,_,_,_,_,_,_,_,_,_,oe,_,he,hcls,_⟩:=id h
 obtain ⟨hp,g,dr,tk,os⟩:=s
 refine Rz hC hD he hcls.1 (T'.hasType (by decide +kernel)) ?_
 rw [e1]
 unfold Bd at q
 cases hb:L2.mroIn X.K C d with
 | true=>
  rw [if_pos hb] at q
  refine codeAny_handlers_suite_as (h.flight fun h' h2=>?_)
  obtain ⟨e0,I2⟩:=h2.take
  refine rJ (X:=X.hand e) (v:=.ref e) (I2.hand e) hN hi (.inl hk) rfl (fun s3 I3=>?_) (.inr hk)
  refine wpAny_mono (hs e pins _ _ _ _ I3 (q e e0)) (fun f s1 q1=>?_) fun _ _ z=>False.elim z
  cases f with
  | next=>obtain ⟨σ',H',J,q2⟩:=q1; exact nG (J.unhand I.ok.hd) hN hi hk fun s' I'=>⟨_,H',I',q2⟩
  | brk=>obtain ⟨σ',H',J,q2⟩:=q1; exact nG (J.unhand I.ok.hd) hN hi hk fun s' I'=>⟨_,H',I',q2⟩
  | cont=>obtain ⟨σ',H',J,q2⟩:=q1; exact nG (J.unhand I.ok.hd) hN hi hk fun s' I'=>⟨_,H',I',q2⟩
  | ret u=>obtain ⟨v,σ',H',J,r,q2⟩:=q1; exact nG (J.unhand I.ok.hd) hN hi hk fun s' I'=>⟨v,_,H',I',r,q2⟩
 | false=>
  rw [if_neg (by rw [hb]; decide)] at q
  exact hr pins _ σ H D e C h hc q
noncomputable def RD (K:FG) (cv:V):List V->Hp->VK->Prop:=fun xs H Q=>∃ e c u b,xs=[.ref e,cv]/\RelV cv u/\H e=some (.ext (rN e c))/\mQ K c/\W.kitOne K (.ref c) u=some b/\Q (.bl b) H
theorem jd {cv:V} (h1:∀ u u',RelV cv u->RelV cv u'->u=u'):nA X (.builtin "isinstance") (RD X.K cv):=by
 intro pins s σ H xs us Q I r h
 obtain ⟨e,c,u,b,rfl,ru,he,T,hb,q⟩:=h
 obtain ⟨u1,w',rfl,r1,r2⟩:=vals2 r
 cases r1
 have:=h1 _ _ r2 ru
 subst this
 obtain ⟨⟨o,p⟩,_⟩:=I.hok e _ he
 exact W.kia_one (Lf T) I.kIn p hb (by intro z; cases z) fun tk=>⟨.bl b,H,I.tok tk,rfl,q⟩
end
end L2
namespace PL
open PySem PySem.Spec PyProof.Rows L2
inductive PV where
 | non
 | bl (b:Bool)
 | int (i:Int)
 | str (x:Str)
 | tup (ps:List PV)
 | lst (ps:List PV)
 | dk (ks:List Key) (ps:List PV)
 | dt (ks:List (List Key)) (ps:List PV)
 | obj (C:Str) (ks:List Str) (ps:List PV)
 | df (ks:List Key) (ps:List PV)
 | dtf (ks:List (List Key)) (ps:List PV)
 | dx (hk:List t7->Int) (ks:List (List t7)) (ps:List PV)
 | exc (C:Str)
 | ptr (n:Nat)
structure ZG where
 z:Hp
 g:List Addr
noncomputable def gD (Z Z':ZG):Prop:=cC Z.z Z'.z/\Z.g <+: Z'.g
theorem gD.refl (Z:ZG):gD Z Z:=⟨cC.refl _,List.prefix_refl _⟩
theorem gD.trans {Z Z1 Z2:ZG} (a:gD Z Z1) (b:gD Z1 Z2):gD Z Z2:=⟨a.1.trans b.1,a.2.trans b.2⟩
theorem O8 {α:Type} {l r:List α} {n:Nat} {a:α} (h:l <+: r) (e:l[n]?=some a):r[n]?=some a:=by
 obtain ⟨t,rfl⟩:=h
 rw [List.getElem?_append_left (List.getElem?_eq_some_iff.mp e).1]; exact e
noncomputable def CN (K:FG) (C:Str) (c:Addr):Prop:=W.nsIn K mainGlobals C=some (some (.ref c))
mutual
noncomputable def Rep (K:FG) (Z:ZG):PV->V->Prop
 | .non,v=>v=.non
 | .bl b,v=>v=.bl b
 | .int i,v=>v=.int i
 | .str x,v=>v=.str x
 | .tup ps,v=>∃ a vs,v=.ref a/\cG K Z.z a vs/\aH K Z ps vs
 | .lst ps,v=>∃ a vs,v=.ref a/\bQ K Z.z a vs/\aH K Z ps vs
 | .dk ks ps,v=>∃ a kvs,v=.ref a/\Z.z a=some (.dK kvs)/\kvs.map (·.1)=ks/\aH K Z ps (kvs.map (·.2))
 | .dt ks ps,v=>∃ a kvs,v=.ref a/\Z.z a=some (.dT kvs)/\kvs.map (·.1)=ks/\aH K Z ps (kvs.map (·.2))
 | .obj C ks ps,v=>∃ a c dx fs,v=.ref a/\CN K C c/\Z.z a=some (.ins c dx fs)/\fs.map (·.1)=ks/\aH K Z ps (fs.map (·.2))
 | .df ks ps,v=>∃ a o kvs,v=.ref a/\Z.z a=some (.frz o (.dK kvs))/\kvs.map (·.1)=ks/\aH K Z ps (kvs.map (·.2))
 | .dtf ks ps,v=>∃ a o kvs,v=.ref a/\Z.z a=some (.frz o (.dT kvs))/\kvs.map (·.1)=ks/\aH K Z ps (kvs.map (·.2))
 | .dx hk ks ps,v=>∃ a xs,v=.ref a/\Z.z a=some (.ext (Uw hk a xs))/\xs.map (·.1)=ks/\(∀ x∈xs,cG K Z.z x.2.1 (x.1.map Uv))/\aH K Z ps (xs.map (·.2.2))
 | .exc C,v=>∃ a c,v=.ref a/\CN K C c/\Z.z a=some (.ext (rN a c))
 | .ptr n,v=>∃ a,v=.ref a/\Z.g[n]?=some a
noncomputable def aH (K:FG) (Z:ZG):List PV->List V->Prop
 | [],vs=>vs=[]
 | p::ps,vs=>∃ v r,vs=v::r/\Rep K Z p v/\aH K Z ps r
end
theorem bQ.same {K:FG} {Z Z':Hp} {a:Addr} {vs:List V} (s:cC Z Z') (h:bQ K Z a vs):bQ K Z' a vs:=s.seq h
theorem cG.same {K:FG} {Z Z':Hp} {a:Addr} {vs:List V} (s:cC Z Z') (h:cG K Z a vs):cG K Z' a vs:=by
 rcases h with (h | ⟨o,h⟩) | h
 . exact .inl (.inl (s _ _ h))
 . exact .inl (.inr ⟨o,s _ _ h⟩)
 . exact .inr h
mutual
theorem Rep.mono {K:FG} {Z Z':ZG} (s:gD Z Z'):∀ {p:PV} {v:V},Rep K Z p v->Rep K Z' p v
 | .non,v,h=>h
 | .bl _,v,h=>h
 | .int _,v,h=>h
 | .str _,v,h=>h
 | .tup ps,v,h=>by
  unfold Rep at h ⊢
  obtain ⟨a,vs,e,h1,h2⟩:=h
  exact ⟨a,vs,e,cG.same s.1 h1,aH.mono s h2⟩
 | .lst ps,v,h=>by
  unfold Rep at h ⊢
  obtain ⟨a,vs,e,h1,h2⟩:=h
  exact ⟨a,vs,e,bQ.same s.1 h1,aH.mono s h2⟩
 | .dk ks ps,v,h=>by
  unfold Rep at h ⊢
  obtain ⟨a,kvs,e,h1,h2,h3⟩:=h
  exact ⟨a,kvs,e,s.1 _ _ h1,h2,aH.mono s h3⟩
 | .dt ks ps,v,h=>by
  unfold Rep at h ⊢
  obtain ⟨a,kvs,e,h1,h2,h3⟩:=h
  exact ⟨a,kvs,e,s.1 _ _ h1,h2,aH.mono s h3⟩
 | .obj C ks ps,v,h=>by
  unfold Rep at h ⊢
  obtain ⟨a,c,dx,fs,e,cn,h1,h2,h3⟩:=h
  exact ⟨a,c,dx,fs,e,cn,s.1 _ _ h1,h2,aH.mono s h3⟩
 | .df ks ps,v,h=>by
  unfold Rep at h ⊢
  obtain ⟨a,o,kvs,e,h1,h2,h3⟩:=h
  exact ⟨a,o,kvs,e,s.1 _ _ h1,h2,aH.mono s h3⟩
 | .dtf ks ps,v,h=>by
  unfold Rep at h ⊢
  obtain ⟨a,o,kvs,e,h1,h2,h3⟩:=h
  exact ⟨a,o,kvs,e,s.1 _ _ h1,h2,aH.mono s h3⟩
 | .dx hk ks ps,v,h=>by
  unfold Rep at h ⊢
  obtain ⟨a,xs,e,h1,h2,h4,h3⟩:=h
  exact ⟨a,xs,e,s.1 _ _ h1,h2,fun x hx=>cG.same s.1 (h4 x hx),aH.mono s h3⟩
 | .exc C,v,h=>by
  unfold Rep at h ⊢
  obtain ⟨a,c,e,cn,h1⟩:=h
  exact ⟨a,c,e,cn,s.1 _ _ h1⟩
 | .ptr n,v,h=>by
  unfold Rep at h ⊢
  obtain ⟨a,e,h1⟩:=h
  exact ⟨a,e,O8 s.2 h1⟩
theorem aH.mono {K:FG} {Z Z':ZG} (s:gD Z Z'):∀ {ps:List PV} {vs:List V},aH K Z ps vs->aH K Z' ps vs
 | [],vs,h=>by unfold aH at h ⊢; exact h
 | p::ps,vs,h=>by
  unfold aH at h ⊢
  obtain ⟨v,r,e,h1,h2⟩:=h
  exact ⟨v,r,e,Rep.mono s h1,aH.mono s h2⟩
end
section
variable {K:FG} {Z:ZG}
theorem aH.length:∀ {ps:List PV} {vs:List V},aH K Z ps vs->vs.length=ps.length
 | [],vs,h=>by unfold aH at h; subst h; rfl
 | p::ps,vs,h=>by
  unfold aH at h
  obtain ⟨v,r,rfl,_,h2⟩:=h
  simp [aH.length h2]
theorem aH.nil:aH K Z [] []:=by unfold aH; rfl
theorem aH.cons {p:PV} {ps:List PV} {v:V} {vs:List V} (h:Rep K Z p v) (t:aH K Z ps vs):aH K Z (p::ps) (v::vs):=by unfold aH; exact ⟨v,vs,rfl,h,t⟩
theorem aH.inv {p:PV} {ps:List PV} {vs:List V} (h:aH K Z (p::ps) vs):∃ v r,vs=v::r/\Rep K Z p v/\aH K Z ps r:=by unfold aH at h; exact h
theorem aH.inv0 {vs:List V} (h:aH K Z [] vs):vs=[]:=by unfold aH at h; exact h
theorem aH.append:∀ {ps qs:List PV} {vs ws:List V},aH K Z ps vs->aH K Z qs ws->aH K Z (ps++qs) (vs++ws)
 | [],qs,vs,ws,h,g=>by have:=h.inv0; subst this; exact g
 | p::ps,qs,vs,ws,h,g=>by
  obtain ⟨v,r,rfl,h1,h2⟩:=h.inv
  exact aH.cons h1 (aH.append h2 g)
theorem aH.get:∀ {ps:List PV} {vs:List V} {i:Nat} {p:PV},aH K Z ps vs->ps[i]?=some p->∃ v,vs[i]?=some v/\Rep K Z p v
 | [],vs,i,p,h,e=>by simp at e
 | q::ps,vs,0,p,h,e=>by
  obtain ⟨v,r,rfl,h1,h2⟩:=h.inv
  simp at e; subst e
  exact ⟨v,rfl,h1⟩
 | q::ps,vs,i+1,p,h,e=>by
  obtain ⟨v,r,rfl,h1,h2⟩:=h.inv
  obtain ⟨u,h3,h4⟩:=aH.get (i:=i) (p:=p) h2 (by simpa using e)
  exact ⟨u,by simpa using h3,h4⟩
theorem aH.getV {ps:List PV} {vs:List V} {i:Nat} {v:V} (h:aH K Z ps vs) (e:vs[i]?=some v):∃ p,ps[i]?=some p/\Rep K Z p v:=by
 have hi:i<ps.length:=by rw [← h.length]; exact (List.getElem?_eq_some_iff.mp e).1
 obtain ⟨u,h1,h2⟩:=h.get (i:=i) (p:=ps[i]) (List.getElem?_eq_getElem hi)
 rw [e] at h1; cases h1
 exact ⟨_,List.getElem?_eq_getElem hi,h2⟩
theorem aH.set {q:PV} {u:V} (hq:Rep K Z q u):∀ {ps:List PV} {vs:List V} (i:Nat),aH K Z ps vs->aH K Z (ps.set i q) (vs.set i u)
 | [],vs,i,h=>by have:=h.inv0; subst this; exact h
 | p::ps,vs,0,h=>by
  obtain ⟨v,r,rfl,h1,h2⟩:=h.inv
  exact aH.cons hq h2
 | p::ps,vs,i+1,h=>by
  obtain ⟨v,r,rfl,h1,h2⟩:=h.inv
  exact aH.cons h1 (aH.set hq i h2)
theorem aH.take:∀ {ps:List PV} {vs:List V} (n:Nat),aH K Z ps vs->aH K Z (ps.take n) (vs.take n)
 | [],vs,n,h=>by have:=h.inv0; subst this; simp; exact .nil
 | p::ps,vs,0,h=>by simp; exact .nil
 | p::ps,vs,n+1,h=>by
  obtain ⟨v,r,rfl,h1,h2⟩:=h.inv
  exact aH.cons h1 (aH.take n h2)
theorem aH.drop:∀ {ps:List PV} {vs:List V} (n:Nat),aH K Z ps vs->aH K Z (ps.drop n) (vs.drop n)
 | [],vs,n,h=>by have:=h.inv0; subst this; simp; exact .nil
 | p::ps,vs,0,h=>h
 | p::ps,vs,n+1,h=>by
  obtain ⟨v,r,rfl,h1,h2⟩:=h.inv
  exact aH.drop n h2
end
inductive Lc where
 | sh (p:PV)
 | own (p:PV)
noncomputable def Lc.pv:Lc->PV
 | .sh p=>p
 | .own p=>p
noncomputable abbrev Mu:=List (Option PV)
structure Ev where
 vs:List (Option Lc)
 mu:Mu
noncomputable abbrev Pd:=List (V×Lc)
noncomputable def oR (K:FG) (Z:ZG) (H:Hp) (a:Addr):PV->Prop
 | .lst ps=>∃ vs,H a=some (.lst vs)/\aH K Z ps vs
 | .dk ks ps=>∃ kvs,H a=some (.dK kvs)/\kvs.map (·.1)=ks/\aH K Z ps (kvs.map (·.2))
 | .dt ks ps=>∃ kvs,H a=some (.dT kvs)/\kvs.map (·.1)=ks/\aH K Z ps (kvs.map (·.2))
 | .dx hk ks ps=>∃ xs,H a=some (.ext (Uw hk a xs))/\xs.map (·.1)=ks/\(∀ x∈xs,cG K Z.z x.2.1 (x.1.map Uv))/\aH K Z ps (xs.map (·.2.2))
 | .exc C=>∃ c,CN K C c/\H a=some (.ext (rN a c))
 | .obj C ks ps=>∃ c dx fs,CN K C c/\H a=some (.ins c dx fs)/\fs.map (·.1)=ks/\aH K Z ps (fs.map (·.2))
 | _=>False
noncomputable def VR (K:FG) (H0:Hp) (Z:ZG) (H:Hp) (v:Option V):Option Lc->Prop
 | none=>True
 | some (.sh p)=>∃ x,v=some x/\Rep K Z p x
 | some (.own p)=>∃ a,v=some (.ref a)/\oR K Z H a p/\Z.z a=none/\H0 a=none
noncomputable def jA:Option V×Option Lc->Option Addr
 | (some (.ref a),some (.own _))=>some a
 | _=>none
noncomputable abbrev Sl:=List (Option V×Option Lc)
noncomputable def Slots (K:FG) (H0:Hp) (Z:ZG) (H:Hp) (L:Sl):Prop:=(∀ e∈L,VR K H0 Z H e.1 e.2)/\(L.filterMap jA).Nodup
noncomputable def cel (g:List Addr) (mu:Mu):Sl:=(g.map fun a=>some (V.ref a)).zip (mu.map fun o=>o.map Lc.own)
noncomputable def kJ (g:List Addr) (mu:Mu):List Addr:=(cel g mu).filterMap jA
noncomputable def sl (g:List Addr) (σ:L2.St) (ρ:Ev) (pd:Pd):Sl:=cel g ρ.mu++(σ.zip ρ.vs++pd.map fun e=>(some e.1,some e.2))
noncomputable def Ab:HO->Prop
 | .tup _=>True
 | .frz _ _=>True
 | _=>False
structure jB (H0:Hp) (Z0 Z:ZG) (H:Hp):Prop where
 zh:cC Z.z H
 h0:cC H0 H
 z0:gD Z0 Z
 new:∀ b o,Z.z b=some o->Z0.z b=some o\/H0 b=none\/Ab o
noncomputable def SR (K:FG) (H0:Hp) (Z0:ZG) (σ:L2.St) (H:Hp) (ρ:Ev) (pd:Pd):Prop:=σ.length=ρ.vs.length/\∃ Z,ρ.mu.length=Z.g.length/\jB H0 Z0 Z H/\Slots K H0 Z H (sl Z.g σ ρ pd)
section
variable {K:FG} {H0 H H':Hp} {Z0 Z Z':ZG} {L L':Sl} {σ:L2.St} {ρ:Ev} {pd:Pd}
theorem Slots.sub (h:Slots K H0 Z H L) (s:List.Sublist L' L):Slots K H0 Z H L':=⟨fun e he=>h.1 e (s.subset he),h.2.sublist (s.filterMap jA)⟩
theorem Slots.perm (h:Slots K H0 Z H L) (s:List.Perm L' L):Slots K H0 Z H L':=⟨fun e he=>h.1 e (s.subset he),(s.filterMap jA).nodup_iff.mpr h.2⟩
theorem oR.keep {a:Addr} {p:PV} (h:oR K Z H a p) (z:gD Z Z') (e:H' a=H a):oR K Z' H' a p:=by
 cases p with
 | lst ps=>obtain ⟨vs,h1,h2⟩:=h; exact ⟨vs,by rw [e]; exact h1,h2.mono z⟩
 | dk ks ps=>obtain ⟨vs,h1,h2,h3⟩:=h; exact ⟨vs,by rw [e]; exact h1,h2,h3.mono z⟩
 | dt ks ps=>obtain ⟨vs,h1,h2,h3⟩:=h; exact ⟨vs,by rw [e]; exact h1,h2,h3.mono z⟩
 | dx hk ks ps=>obtain ⟨vs,h1,h2,h4,h3⟩:=h; exact ⟨vs,by rw [e]; exact h1,h2,fun x hx=>cG.same z.1 (h4 x hx),h3.mono z⟩
 | exc C=>obtain ⟨c,cn,h1⟩:=h; exact ⟨c,cn,by rw [e]; exact h1⟩
 | obj C ks ps=>obtain ⟨c,dx,fs,cn,h1,h2,h3⟩:=h; exact ⟨c,dx,fs,cn,by rw [e]; exact h1,h2,h3.mono z⟩
 | _=>exact h
theorem oR.some {a:Addr} {p:PV} (h:oR K Z H a p):∃ o,H a=some o/\¬ Ab o:=by
 cases p with
 | lst ps=>obtain ⟨vs,h1,h2⟩:=h; exact ⟨_,h1,fun z=>z⟩
 | dk ks ps=>obtain ⟨vs,h1,h2,h3⟩:=h; exact ⟨_,h1,fun z=>z⟩
 | dt ks ps=>obtain ⟨vs,h1,h2,h3⟩:=h; exact ⟨_,h1,fun z=>z⟩
 | dx hk ks ps=>obtain ⟨vs,h1,h2,h3⟩:=h; exact ⟨_,h1,fun z=>z⟩
 | exc C=>obtain ⟨c,cn,h1⟩:=h; exact ⟨_,h1,fun z=>z⟩
 | obj C ks ps=>obtain ⟨c,dx,fs,cn,h1,h2,h3⟩:=h; exact ⟨_,h1,fun z=>z⟩
 | _=>exact h.elim
theorem oR.rep {a:Addr} {p:PV} (h:oR K Z H a p) (z:gD Z Z') (e:Z'.z a=H a):Rep K Z' p (.ref a):=by
 cases p with
 | lst ps=>obtain ⟨vs,h1,h2⟩:=h; unfold Rep; exact ⟨a,vs,rfl,bQ.of (by rw [e]; exact h1),h2.mono z⟩
 | dk ks ps=>obtain ⟨vs,h1,h2,h3⟩:=h; unfold Rep; exact ⟨a,vs,rfl,by rw [e]; exact h1,h2,h3.mono z⟩
 | dt ks ps=>obtain ⟨vs,h1,h2,h3⟩:=h; unfold Rep; exact ⟨a,vs,rfl,by rw [e]; exact h1,h2,h3.mono z⟩
 | dx hk ks ps=>obtain ⟨vs,h1,h2,h4,h3⟩:=h; unfold Rep; exact ⟨a,vs,rfl,by rw [e]; exact h1,h2,fun x hx=>cG.same z.1 (h4 x hx),h3.mono z⟩
 | exc C=>obtain ⟨c,cn,h1⟩:=h; unfold Rep; exact ⟨a,c,rfl,cn,by rw [e]; exact h1⟩
 | obj C ks ps=>obtain ⟨c,dx,fs,cn,h1,h2,h3⟩:=h; unfold Rep; exact ⟨a,c,dx,fs,rfl,cn,by rw [e]; exact h1,h2,h3.mono z⟩
 | _=>exact h.elim
theorem Slots.step (h:Slots K H0 Z H L) (z:gD Z Z') (hk:∀ e∈L,∀ a,jA e=some a->H' a=H a/\Z'.z a=none):Slots K H0 Z' H' L:=by
 refine ⟨fun e he=>?_,h.2⟩
 have q:=h.1 e he
 obtain ⟨v,l⟩:=e
 cases l with
 | none=>trivial
 | some l=>
  cases l with
  | sh p=>obtain ⟨x,e1,e2⟩:=q; exact ⟨x,e1,e2.mono z⟩
  | own p=>
   obtain ⟨a,e1,e2,e3,e4⟩:=q
   have e1':v=some (.ref a):=e1
   subst e1'
   obtain ⟨k1,k2⟩:=hk _ he a rfl
   exact ⟨a,rfl,e2.keep z k1,k2,e4⟩
theorem gj (h:Slots K H0 Z H L) {e:Option V×Option Lc} (he:e∈L) {a:Addr} (ha:jA e=some a):Z.z a=none/\H0 a=none/\∃ o,H a=some o/\¬ Ab o:=by
 obtain ⟨v,l⟩:=e
 have q:=h.1 _ he
 cases l with
 | none=>cases v with
  | none=>cases ha
  | some x=>cases x<;>cases ha
 | some l=>
  cases l with
  | sh p=>cases v with
   | none=>cases ha
   | some x=>cases x<;>cases ha
  | own p=>
   obtain ⟨b,e1,e2,e3,e4⟩:=q
   have e1':v=some (.ref b):=e1
   subst e1'
   cases ha
   exact ⟨e3,e4,e2.some⟩
theorem Slots.new (h:Slots K H0 Z H L) (zo:jB H0 Z0 Z H) {a:Addr} {o:HO} {p:PV} (ha:H a=none) (hp:oR K Z (upd H a o) a p):jB H0 Z0 Z (upd H a o)/\Slots K H0 Z (upd H a o) ((some (.ref a),some (.own p))::L):=by
 have hz:Z.z a=none:=zo.zh.free ha
 have h0:H0 a=none:=zo.h0.free ha
 refine ⟨⟨fun b u e=>by rw [aO (bM e hz)]; exact zo.zh b u e,fun b u e=>by rw [aO (bM e h0)]; exact zo.h0 b u e,zo.z0,zo.new⟩,?_⟩
 have hne:∀ e∈L,∀ b,jA e=some b->b≠a:=fun e he b hb=>by
  obtain ⟨_,_,o',h3,_⟩:=gj h he hb
  exact bM h3 ha
 have st:=h.step (Z':=Z) (H':=upd H a o) (gD.refl Z) fun e he b hb=>⟨aO (hne e he b hb),(gj h he hb).1⟩
 refine ⟨fun e he=>?_,?_⟩
 . rcases List.mem_cons.mp he with rfl | he
   . exact ⟨a,rfl,hp,hz,h0⟩
   . exact st.1 e he
 . show (a::L.filterMap jA).Nodup
   refine List.nodup_cons.mpr ⟨fun hm=>?_,st.2⟩
   obtain ⟨e,he,hb⟩:=List.mem_filterMap.mp hm
   exact hne e he a hb rfl
noncomputable abbrev ZG.put (Z:ZG) (a:Addr) (o:HO):ZG:=⟨upd Z.z a o,Z.g⟩
theorem Slots.newF (h:Slots K H0 Z H L) (zo:jB H0 Z0 Z H) {a:Addr} {o:HO} (ha:H a=none):jB H0 Z0 (Z.put a o) (upd H a o)/\gD Z (Z.put a o)/\Slots K H0 (Z.put a o) (upd H a o) L:=by
 have hz:Z.z a=none:=zo.zh.free ha
 have h0:H0 a=none:=zo.h0.free ha
 have sz:cC Z.z (upd Z.z a o):=fun b u e=>by rw [aO (bM e hz)]; exact e
 have lz:gD Z (Z.put a o):=⟨sz,List.prefix_refl _⟩
 refine ⟨⟨fun b u e=>?_,fun b u e=>by rw [aO (bM e h0)]; exact zo.h0 b u e,zo.z0.trans lz,fun b u e=>?_⟩,lz,?_⟩
 . have e:upd Z.z a o b=some u:=e
   unfold upd at e ⊢
   split
   . rename_i q; rw [if_pos q] at e; exact e
   . rename_i q; rw [if_neg q] at e; exact zo.zh b u e
 . have e:upd Z.z a o b=some u:=e
   unfold upd at e
   split at e
   . rename_i q; rw [q]; exact .inr (.inl h0)
   . exact zo.new b u e
 . refine h.step lz fun e he b hb=>?_
   obtain ⟨h1,h2,o',h3,_⟩:=gj h he hb
   have hba:=bM h3 ha
   exact ⟨aO hba,by show upd Z.z a o b=none; rw [aO hba]; exact h1⟩
theorem Slots.freeze {v:Option V} {p:PV} (h:Slots K H0 Z H ((v,some (.own p))::L)) (zo:jB H0 Z0 Z H):∃ Z',gD Z Z'/\Z'.g=Z.g/\jB H0 Z0 Z' H/\Slots K H0 Z' H ((v,some (.sh p))::L):=by
 obtain ⟨a,e1,e2,e3,e4⟩:=h.1 _ List.mem_cons_self
 have e1':v=some (.ref a):=e1
 subst e1'
 obtain ⟨o,ho,_⟩:=e2.some
 have sz:cC Z.z (upd Z.z a o):=fun b u e=>by rw [aO (bM e e3)]; exact e
 have lz:gD Z (Z.put a o):=⟨sz,List.prefix_refl _⟩
 have nd:(a::L.filterMap jA).Nodup:=h.2
 have hL:Slots K H0 Z H L:=h.sub (List.sublist_cons_self _ _)
 refine ⟨Z.put a o,lz,rfl,⟨fun b u e=>?_,zo.h0,zo.z0.trans lz,fun b u e=>?_⟩,fun e he=>?_,(List.nodup_cons.mp nd).2⟩
 . have e:upd Z.z a o b=some u:=e
   unfold upd at e
   split at e
   . rename_i q; cases e; rw [q]; exact ho
   . exact zo.zh b u e
 . have e:upd Z.z a o b=some u:=e
   unfold upd at e
   split at e
   . rename_i q; rw [q]; exact .inr (.inl e4)
   . exact zo.new b u e
 . rcases List.mem_cons.mp he with rfl | he
   . exact ⟨.ref a,rfl,e2.rep lz (by show upd Z.z a o a=_; rw [bh,ho])⟩
   . refine (hL.step (Z':=Z.put a o) (H':=H) lz fun e' he' b hb=>⟨rfl,?_⟩).1 e he
     have:b≠a:=fun q=>by
      rw [q] at hb
      exact (List.nodup_cons.mp nd).1 (List.mem_filterMap.mpr ⟨e',he',hb⟩)
     show upd Z.z a o b=none
     rw [aO this]
     exact (gj hL he' hb).1
theorem Slots.write {a:Addr} {p q:PV} {o:HO} (h:Slots K H0 Z H ((some (.ref a),some (.own p))::L)) (zo:jB H0 Z0 Z H) (hq:oR K Z (upd H a o) a q):jB H0 Z0 Z (upd H a o)/\Slots K H0 Z (upd H a o) ((some (.ref a),some (.own q))::L):=by
 obtain ⟨b,e1,e2,e3,e4⟩:=h.1 _ List.mem_cons_self
 cases e1
 have nd:(a::L.filterMap jA).Nodup:=h.2
 have hL:Slots K H0 Z H L:=h.sub (List.sublist_cons_self _ _)
 refine ⟨⟨fun b u e=>by rw [aO (bM e e3)]; exact zo.zh b u e,fun b u e=>by rw [aO (bM e e4)]; exact zo.h0 b u e,zo.z0,zo.new⟩,fun e he=>?_,nd⟩
 rcases List.mem_cons.mp he with rfl | he
 . exact ⟨a,rfl,hq,e3,e4⟩
 . refine (hL.step (Z':=Z) (H':=upd H a o) (gD.refl Z) fun e' he' b hb=>⟨aO fun q=>?_,(gj hL he' hb).1⟩).1 e he
   rw [q] at hb
   exact (List.nodup_cons.mp nd).1 (List.mem_filterMap.mpr ⟨e',he',hb⟩)
end
variable {K:FG} {H0 H:Hp} {Z0:ZG} {σ:L2.St} {ρ:Ev} {pd:Pd}
theorem t8 {α:Type}:∀ {l:List α} {i:Nat} {a:α},l[i]?=some a->∃ R,List.Perm l (a::R)/\∀ b,List.Perm (l.set i b) (b::R)
 | [],i,a,h=>by simp at h
 | x::r,0,a,h=>by
  simp at h; subst h
  exact ⟨r,List.Perm.refl _,fun b=>List.Perm.refl _⟩
 | x::r,i+1,a,h=>by
  obtain ⟨R,h1,h2⟩:=t8 (l:=r) (i:=i) (a:=a) (by simpa using h)
  refine ⟨x::R,(h1.cons x).trans (List.Perm.swap _ _ _),fun b=>?_⟩
  simp only [List.set_cons_succ]
  exact ((h2 b).cons x).trans (List.Perm.swap _ _ _)
theorem yc {α β:Type}:∀ (l:List α) (r:List β) (i:Nat) (a:α) (b:β),(l.set i a).zip (r.set i b)=(l.zip r).set i (a,b)
 | [],r,i,a,b=>by simp
 | x::l,[],i,a,b=>by simp
 | x::l,y::r,0,a,b=>by simp
 | x::l,y::r,i+1,a,b=>by simp [yc l r i a b]
theorem zip_get {α β:Type}:∀ {l:List α} {r:List β} {i:Nat} {a:α} {b:β},l[i]?=some a->r[i]?=some b->(l.zip r)[i]?=some (a,b)
 | [],r,i,a,b,h,g=>by simp at h
 | x::l,[],i,a,b,h,g=>by simp at g
 | x::l,y::r,0,a,b,h,g=>by simp at h g; simp [h,g]
 | x::l,y::r,i+1,a,b,h,g=>by
  have:=zip_get (l:=l) (r:=r) (i:=i) (by simpa using h) (by simpa using g)
  simpa using this
theorem set_same {α:Type}:∀ {l:List α} {i:Nat} {a:α},l[i]?=some a->l.set i a=l
 | [],i,a,h=>by simp at h
 | x::r,0,a,h=>by simp at h; subst h; simp
 | x::r,i+1,a,h=>by simp [set_same (l:=r) (i:=i) (a:=a) (by simpa using h)]
noncomputable def Ev.set (ρ:Ev) (i:Nat) (x:Option Lc):Ev:=⟨ρ.vs.set i x,ρ.mu⟩
section
variable {K:FG} {H0 H H':Hp} {Z0 Z:ZG} {σ:L2.St} {ρ:Ev} {pd pd':Pd} {v w:V} {l:Lc} {p:PV} {L:Sl} {g:List Addr}
theorem cF:List.Perm (sl g σ ρ ((v,l)::pd)) ((some v,some l)::sl g σ ρ pd):=by
 unfold sl
 exact (List.perm_middle.append_left _).trans List.perm_middle
theorem SR.top (h:SR K H0 Z0 σ H ρ ((v,l)::pd)):σ.length=ρ.vs.length/\∃ Z,ρ.mu.length=Z.g.length/\jB H0 Z0 Z H/\Slots K H0 Z H ((some v,some l)::sl Z.g σ ρ pd):=
 let ⟨e,Z,hg,z,s⟩:=h
 ⟨e,Z,hg,z,s.perm cF.symm⟩
theorem SR.mk (e:σ.length=ρ.vs.length) (hg:ρ.mu.length=Z.g.length) (z:jB H0 Z0 Z H) (s:Slots K H0 Z H ((some v,some l)::sl Z.g σ ρ pd)):SR K H0 Z0 σ H ρ ((v,l)::pd):=⟨e,Z,hg,z,s.perm cF⟩
theorem SR.pop (h:SR K H0 Z0 σ H ρ ((v,l)::pd)):SR K H0 Z0 σ H ρ pd:=
 let ⟨e,Z,hg,z,s⟩:=h.top
 ⟨e,Z,hg,z,s.sub (List.sublist_cons_self _ _)⟩
theorem SR.perm (h:SR K H0 Z0 σ H ρ pd) (q:List.Perm pd' pd):SR K H0 Z0 σ H ρ pd':=
 let ⟨e,Z,hg,z,s⟩:=h
 ⟨e,Z,hg,z,s.perm (((q.map _).append_left _).append_left _)⟩
theorem SR.swap {l2:Lc} (h:SR K H0 Z0 σ H ρ ((v,l)::(w,l2)::pd)):SR K H0 Z0 σ H ρ ((w,l2)::(v,l)::pd):=h.perm (List.Perm.swap _ _ _)
theorem SR.freeze (h:SR K H0 Z0 σ H ρ ((v,l)::pd)):SR K H0 Z0 σ H ρ ((v,.sh l.pv)::pd):=by
 cases l with
 | sh p=>exact h
 | own p=>
  obtain ⟨e,Z,hg,z,s⟩:=h.top
  obtain ⟨Z',_,eg,z',s'⟩:=s.freeze z
  refine .mk (Z:=Z') e (by rw [eg]; exact hg) z' ?_
  rw [eg]; exact s'
theorem SR.sh (h:SR K H0 Z0 σ H ρ ((v,.sh p)::pd)):σ.length=ρ.vs.length/\∃ Z,ρ.mu.length=Z.g.length/\jB H0 Z0 Z H/\Rep K Z p v/\Slots K H0 Z H (sl Z.g σ ρ pd):=by
 obtain ⟨e,Z,hg,z,s⟩:=h.top
 obtain ⟨x,e1,e2⟩:=s.1 _ List.mem_cons_self
 cases e1
 exact ⟨e,Z,hg,z,e2,s.sub (List.sublist_cons_self _ _)⟩
theorem SR.rep (h:SR K H0 Z0 σ H ρ ((v,.sh p)::pd)):∃ Z:ZG,cC Z.z H/\Rep K Z p v:=let ⟨_,Z,_,z,r,_⟩:=h.sh; ⟨Z,z.zh,r⟩
theorem SR.repH (h:SR K H0 Z0 σ H ρ ((v,.sh p)::pd)):∃ g,Rep K ⟨H,g⟩ p v:=let ⟨_,Z,_,z,r,_⟩:=h.sh; ⟨Z.g,r.mono (Z':=⟨H,Z.g⟩) ⟨z.zh,List.prefix_refl _⟩⟩
theorem Slots.consS (s:Slots K H0 Z H L) (r:Rep K Z p v):Slots K H0 Z H ((some v,some (.sh p))::L):=by
 refine ⟨fun e he=>?_,?_⟩
 . rcases List.mem_cons.mp he with rfl | he
   . exact ⟨v,rfl,r⟩
   . exact s.1 e he
 . have:jA (some v,some (Lc.sh p))=none:=by cases v<;>rfl
   rw [List.filterMap_cons_none this]
   exact s.2
theorem SR.scal (h:SR K H0 Z0 σ H ρ pd) (r:∀ Z,Rep K Z p v):SR K H0 Z0 σ H ρ ((v,.sh p)::pd):=
 let ⟨e,Z,hg,z,s⟩:=h
 .mk e hg z (s.consS (r Z))
theorem wI {i:Nat} {o:Option Lc} (el:σ.length=ρ.vs.length) (e:ρ.vs[i]?=some o):∃ R:Sl,∃ x,σ[i]?=some x/\(∀ g pd,List.Perm (sl g σ ρ pd) ((x,o)::(cel g ρ.mu++(R++pd.map fun e=>(some e.1,some e.2)))))/\
 ∀ g pd y o',List.Perm (sl g (σ.set i y) (ρ.set i o') pd) ((y,o')::(cel g ρ.mu++(R++pd.map fun e=>(some e.1,some e.2)))):=by
 have hi:i<σ.length:=by rw [el]; exact (List.getElem?_eq_some_iff.mp e).1
 have hσ:σ[i]?=some σ[i]:=List.getElem?_eq_getElem hi
 obtain ⟨R,h1,h2⟩:=t8 (zip_get hσ e)
 refine ⟨R,σ[i],hσ,fun g pd=>?_,fun g pd y o'=>?_⟩
 . unfold sl
   exact ((h1.append_right _).append_left _).trans List.perm_middle
 . unfold sl
   show List.Perm (cel g ρ.mu++((σ.set i y).zip (ρ.vs.set i o')++_)) _
   rw [yc]
   exact (((h2 _).append_right _).append_left _).trans List.perm_middle
theorem Ev.set_mu {i:Nat} {x:Option Lc}:(ρ.set i x).mu=ρ.mu:=rfl
theorem Ev.set_len {i:Nat} {x:Option Lc}:(ρ.set i x).vs.length=ρ.vs.length:=by show (ρ.vs.set i x).length=_; rw [List.length_set]
theorem SR.var {i:Nat} (h:SR K H0 Z0 σ H ρ pd) (e:ρ.vs[i]?=some (some l)):∃ v,σ[i]?=some (some v)/\SR K H0 Z0 σ H (ρ.set i (some (.sh l.pv))) ((v,.sh l.pv)::pd):=by
 obtain ⟨el,Z,hg,z,s⟩:=h
 obtain ⟨R,x,hσ,h1,h2⟩:=wI el e
 have s1:=s.perm (h1 Z.g pd).symm
 have el':σ.length=(ρ.set i (some (.sh l.pv))).vs.length:=by rw [Ev.set_len]; exact el
 have fin:∀ {Z':ZG} {v:V},Z'.g=Z.g->jB H0 Z0 Z' H->x=some v->Slots K H0 Z' H ((x,some (.sh l.pv))::(cel Z.g ρ.mu++(R++pd.map fun e=>(some e.1,some e.2))))->Rep K Z' l.pv v->SR K H0 Z0 σ H (ρ.set i (some (.sh l.pv))) ((v,.sh l.pv)::pd):=
  fun {Z' v} eg z ev s2 r=>by
   have p2:=h2 Z.g pd x (some (.sh l.pv))
   rw [set_same hσ] at p2
   refine .mk (Z:=Z') el' (by rw [eg,Ev.set_mu]; exact hg) z ?_
   rw [eg]
   exact (s2.perm p2).consS r
 cases l with
 | sh p=>
  obtain ⟨v,e1,e2⟩:=s1.1 _ List.mem_cons_self
  exact ⟨v,hσ.trans (congrArg some e1),fin rfl z e1 s1 e2⟩
 | own p=>
  obtain ⟨Z',sz,eg,z',s'⟩:=s1.freeze z
  obtain ⟨v,e1,e2⟩:=s'.1 _ List.mem_cons_self
  exact ⟨v,hσ.trans (congrArg some e1),fin eg z' e1 s' e2⟩
theorem SR.store {i:Nat} (h:SR K H0 Z0 σ H ρ ((v,l)::pd)) (hi:i<ρ.vs.length):SR K H0 Z0 (σ.set i (some v)) H (ρ.set i (some l)) pd:=by
 obtain ⟨el,Z,hg,z,s⟩:=h.top
 have hρ:ρ.vs[i]?=some ρ.vs[i]:=List.getElem?_eq_getElem hi
 obtain ⟨R,x,hσ,h1,h2⟩:=wI el hρ
 refine ⟨by rw [List.length_set,Ev.set_len]; exact el,Z,hg,z,?_⟩
 refine (Slots.sub (L:=(some v,some l)::((x,ρ.vs[i])::(cel Z.g ρ.mu++(R++pd.map fun e=>(some e.1,some e.2))))) (s.perm ((h1 Z.g pd).symm.cons _)) ?_).perm (h2 Z.g pd (some v) (some l))
 exact (List.sublist_cons_self _ _).cons_cons _
theorem SR.take {i:Nat} (h:SR K H0 Z0 σ H ρ pd) (e:ρ.vs[i]?=some (some l)):∃ v,σ[i]?=some (some v)/\SR K H0 Z0 σ H (ρ.set i none) ((v,l)::pd):=by
 obtain ⟨el,Z,hg,z,s⟩:=h
 obtain ⟨R,x,hσ,h1,h2⟩:=wI el e
 have s1:=s.perm (h1 Z.g pd).symm
 obtain ⟨v,hv⟩:∃ v,x=some v:=by
  have q:=s1.1 _ List.mem_cons_self
  cases l with
  | sh p=>obtain ⟨x,e1,_⟩:=q; exact ⟨x,e1⟩
  | own p=>obtain ⟨a,e1,_⟩:=q; exact ⟨_,e1⟩
 subst hv
 refine ⟨v,hσ,.mk (Z:=Z) (by rw [Ev.set_len]; exact el) hg z ?_⟩
 have p2:=h2 Z.g pd (some v) none
 rw [set_same hσ] at p2
 refine Slots.perm ?_ (p2.cons _)
 have ht:Slots K H0 Z H ((some v,none)::(some v,some l)::(cel Z.g ρ.mu++(R++pd.map fun e=>(some e.1,some e.2)))):=by
  refine ⟨fun e he=>?_,?_⟩
  . rcases List.mem_cons.mp he with rfl | he
    . trivial
    . exact s1.1 e he
  . have:jA (some v,none)=none:=by cases v<;>rfl
    rw [List.filterMap_cons_none this]
    exact s1.2
 exact ht.perm (List.Perm.swap _ _ _)
theorem SR.put {i:Nat} (h:SR K H0 Z0 σ H ρ ((v,l)::pd)) (e:σ[i]?=some (some v)):SR K H0 Z0 σ H (ρ.set i (some l)) pd:=by
 have hi:i<ρ.vs.length:=by rw [← h.1]; exact (List.getElem?_eq_some_iff.mp e).1
 have:=h.store hi
 rw [set_same e] at this
 exact this
end
noncomputable abbrev EF:=Ev->Option (Lc×Ev)
noncomputable abbrev TF:=Ev->Option (Bool×Ev)
noncomputable abbrev AF:=Ev->Option (List Lc×Ev)
inductive Fl where
 | nx (ρ:Ev)
 | rt (r:Lc) (ρ:Ev)
 | bk (ρ:Ev)
 | ct (ρ:Ev)
noncomputable abbrev SF:=Ev->Option Fl
noncomputable def tP (K:FG) (f:EF):TE:=fun σ H Q=>∃ H0 Z0 ρ pd r ρ',SR K H0 Z0 σ H ρ pd/\f ρ=some (r,ρ')/\∀ v H',SR K H0 Z0 σ H' ρ' ((v,r)::pd)->Q v H'
noncomputable def eZ (K:FG) (f:TF):TT:=fun σ H Q=>∃ H0 Z0 ρ pd b ρ',SR K H0 Z0 σ H ρ pd/\f ρ=some (b,ρ')/\∀ H',SR K H0 Z0 σ H' ρ' pd->Q b H'
noncomputable def jC (K:FG) (f:AF):TA:=fun σ H Q=>∃ H0 Z0 ρ pd ls ρ',SR K H0 Z0 σ H ρ pd/\f ρ=some (ls,ρ')/\∀ vs H',vs.length=ls.length->SR K H0 Z0 σ H' ρ' (vs.zip ls++pd)->Q vs H'
noncomputable def lW (K:FG) (H0:Hp) (Z0:ZG) (pd:Pd) (D:Ends):Fl->Prop
 | .nx ρ'=>∀ σ' H',SR K H0 Z0 σ' H' ρ' pd->D.nx σ' H'
 | .rt r ρ'=>∀ v σ' H',SR K H0 Z0 σ' H' ρ' ((v,r)::pd)->D.rt v H'
 | .bk ρ'=>∀ σ' H',SR K H0 Z0 σ' H' ρ' pd->D.bk σ' H'
 | .ct ρ'=>∀ σ' H',SR K H0 Z0 σ' H' ρ' pd->D.ct σ' H'
noncomputable def dI (K:FG) (g:SF):TS:=fun D σ H=>∃ H0 Z0 ρ pd fl,SR K H0 Z0 σ H ρ pd/\g ρ=some fl/\lW K H0 Z0 pd D fl
section
variable {X:Cx} {e:Expr} {es:List Expr} {st:Stmt} {sts:List Stmt}
theorem PE.imp {t t':TE} (h:PE X e t) (i:∀ σ H Q,t' σ H Q->t σ H Q):PE X e t':=fun pins s σ H Q I q=>h pins s σ H Q I (i σ H Q q)
theorem PT.imp {t t':TT} (h:PT X e t) (i:∀ σ H Q,t' σ H Q->t σ H Q):PT X e t':=fun pins s σ H Q I q=>h pins s σ H Q I (i σ H Q q)
theorem PW.imp {t t':TT} (h:PW X e t) (i:∀ σ H Q,t' σ H Q->t σ H Q):PW X e t':=fun wh pins s σ H Q I q=>h wh pins s σ H Q I (i σ H Q q)
theorem PA.imp {t t':TA} (h:PA X es t) (i:∀ σ H Q,t' σ H Q->t σ H Q):PA X es t':=fun pos pins s σ H Q I q=>h pos pins s σ H Q I (i σ H Q q)
theorem PS.imp {t t':TS} (h:PS X st t) (i:∀ D σ H,t' D σ H->t D σ H):PS X st t':=fun pins s σ H D I q=>h pins s σ H D I (i D σ H q)
theorem dg.imp {t t':TS} (h:dg X sts t) (i:∀ D σ H,t' D σ H->t D σ H):dg X sts t':=fun pins s σ H D I q=>h pins s σ H D I (i D σ H q)
noncomputable def aa (i:Nat):EF:=fun ρ=>match ρ.vs[i]? with
 | some (some l)=>some (.sh l.pv,ρ.set i (some (.sh l.pv)))
 | _=>none
noncomputable def eC (p:PV):EF:=fun ρ=>some (.sh p,ρ)
theorem qv {i:Nat} (h:PE X e (qp i)):PE X e (tP X.K (aa i)):=PE.imp h fun σ H Q q=>by
 obtain ⟨H0,Z0,ρ,pd,r,ρ',s,f,k⟩:=q
 unfold aa at f
 split at f
 . rename_i l e1
   cases f
   obtain ⟨v,h1,h2⟩:=s.var e1
   exact ⟨v,h1,k v H h2⟩
 . cases f
theorem qc {p:PV} {v:V} (h:PE X e (tC v)) (r:∀ Z,Rep X.K Z p v):PE X e (tP X.K (eC p)):=PE.imp h fun σ H Q q=>by
 obtain ⟨H0,Z0,ρ,pd,l,ρ',s,f,k⟩:=q
 cases f
 exact k v H (s.scal r)
theorem dD {i:Int}:∀ Z,Rep K Z (.int i) (.int i):=fun Z=>by unfold Rep; rfl
theorem kO {i:Str}:∀ Z,Rep K Z (.str i) (.str i):=fun Z=>by unfold Rep; rfl
theorem dG {i:Bool}:∀ Z,Rep K Z (.bl i) (.bl i):=fun Z=>by unfold Rep; rfl
theorem uP:∀ Z,Rep K Z .non .non:=fun Z=>by unfold Rep; rfl
noncomputable def gO (K:FG) (r:R2) (g:PV->PV->Option Lc):Prop:=∀ H0 Z0 σ ρ pd H v w x y l Q,SR K H0 Z0 σ H ρ ((w,.sh y)::(v,.sh x)::pd)->g x y=some l->(∀ u H',SR K H0 Z0 σ H' ρ ((u,l)::pd)->Q u H')->r v w H Q
noncomputable def aq (g:PV->PV->Option Lc) (fa fb:EF):EF:=fun ρ=>(fa ρ).bind fun x=>(fb x.2).bind fun y=>(g x.1.pv y.1.pv).map fun l=>(l,y.2)
theorem Lg {g:PV->PV->Option Lc} {fa fb:EF} {ρ ρ':Ev} {l:Lc} (h:aq g fa fb ρ=some (l,ρ')):∃ x ρ1 y,fa ρ=some (x,ρ1)/\fb ρ1=some (y,ρ')/\g x.pv y.pv=some l:=by
 unfold aq at h
 cases h1:fa ρ with
 | none=>rw [h1] at h; cases h
 | some x=>
  rw [h1,Option.bind_some] at h
  cases h2:fb x.2 with
  | none=>rw [h2] at h; cases h
  | some y=>
   rw [h2,Option.bind_some] at h
   cases h3:g x.1.pv y.1.pv with
   | none=>rw [h3] at h; cases h
   | some z=>
    rw [h3] at h
    cases h
    exact ⟨x.1,x.2,y.1,rfl,h2,h3⟩
theorem Be {r:R2} {g:PV->PV->Option Lc} (hs:gO X.K r g) {fa fb:EF}:∀ σ H Q,tP X.K (aq g fa fb) σ H Q->HY r (tP X.K fa) (tP X.K fb) σ H Q:=fun σ H Q q=>by
 obtain ⟨H0,Z0,ρ,pd,l,ρ',s,f,k⟩:=q
 obtain ⟨x,ρ1,y,h1,h2,h3⟩:=Lg f
 refine ⟨H0,Z0,ρ,pd,x,ρ1,s,h1,fun v H1 s1=>⟨H0,Z0,ρ1,_,y,ρ',s1,h2,fun w H2 s2=>?_⟩⟩
 exact hs H0 Z0 σ ρ' pd H2 v w x.pv y.pv l Q (s2.freeze.swap.freeze.swap) h3 fun u H' s3=>k u H' s3
theorem bV {op:Operator} {a b:Expr} {pos:Pos} {r:R2} {g:PV->PV->Option Lc} {fa fb:EF} (ho:du X (binaryOp op) r) (hs:gO X.K r g) (ha:PE X a (tP X.K fa)) (hb:PE X b (tP X.K fb)):PE X (.BinOp a op b pos) (tP X.K (aq g fa fb)):=
 PE.imp (M4 ho ha hb) (Be hs)
theorem Lh {op:CmpOp} {a b:Expr} {pos:Pos} {r:R2} {g:PV->PV->Option Lc} {fa fb:EF} (ho:du X (compareOp op) r) (hs:gO X.K r g) (ha:PE X a (tP X.K fa)) (hb:PE X b (tP X.K fb)) (hm:behindInMarks op b=false):PE X (.Compare a [op] [b] pos) (tP X.K (aq g fa fb)):=
 PE.imp (Og ho ha hb hm) (Be hs)
noncomputable def uc (C:Int->Int->Bool) (g:Int->Int->PV):PV->PV->Option Lc
 | .int i,.int j=>if C i j=true then some (.sh (g i j)) else none
 | _,_=>none
theorem Bf {C:Int->Int->Bool} {g:Int->Int->PV} {x y:PV} {l:Lc} (h:uc C g x y=some l):∃ i j,x=.int i/\y=.int j/\C i j=true/\l=.sh (g i j):=by
 cases x with
 | int i=>
  cases y with
  | int j=>
   have h':(if C i j=true then some (Lc.sh (g i j)) else none)=some l:=h
   split at h'
   . rename_i c; cases h'; exact ⟨i,j,rfl,rfl,c,rfl⟩
   . cases h'
  | _=>cases h
 | _=>cases h
theorem bz {Z:ZG} {i:Int} {v:V} (h:Rep K Z (.int i) v):v=.int i:=by unfold Rep at h; exact h
theorem bW {Z:ZG} {i:Str} {v:V} (h:Rep K Z (.str i) v):v=.str i:=by unfold Rep at h; exact h
theorem dY {Z:ZG} {i:Bool} {v:V} (h:Rep K Z (.bl i) v):v=.bl i:=by unfold Rep at h; exact h
theorem ik {Z:ZG} {v:V} (h:Rep K Z .non v):v=.non:=by unfold Rep at h; exact h
theorem Gx {C':Int->Int->Prop} {C:Int->Int->Bool} {gV:Int->Int->V} {g:Int->Int->PV} (hc:∀ i j,C i j=true->C' i j) (hg:∀ i j Z,Rep K Z (g i j) (gV i j)):gO K (rI C' gV) (uc C g):=by
 intro H0 Z0 σ ρ pd H v w x y l Q s e k
 obtain ⟨i,j,rfl,rfl,c,rfl⟩:=Bf e
 obtain ⟨_,rw'⟩:=s.repH
 obtain ⟨_,rv'⟩:=s.pop.repH
 have hw:=bz rw'
 have hv:=bz rv'
 exact ⟨i,j,hv,hw,hc i j c,k _ H (s.pop.pop.scal (hg i j))⟩
theorem wJ {gV:Int->Int->V} {g:Int->Int->PV} (hg:∀ i j Z,Rep K Z (g i j) (gV i j)):gO K (qJ gV) (uc (fun _ _=>true) g):=by
 intro H0 Z0 σ ρ pd H v w x y l Q s e k
 obtain ⟨i,j,rfl,rfl,c,rfl⟩:=Bf e
 obtain ⟨_,rw'⟩:=s.repH
 obtain ⟨_,rv'⟩:=s.pop.repH
 exact ⟨i,j,bz rv',bz rw',k _ H (s.pop.pop.scal (hg i j))⟩
end
section
variable {X:Cx}
section
variable {K:FG} {H0 H H':Hp} {Z0 Z:ZG} {σ:L2.St} {ρ:Ev} {pd pd':Pd} {v w:V} {l:Lc} {p:PV} {g:List Addr}
theorem SR.newO (h:SR K H0 Z0 σ H ρ pd) {a:Addr} {o:HO} (ha:H a=none) (hp:∀ Z,jB H0 Z0 Z H->Slots K H0 Z H (sl Z.g σ ρ pd)->oR K Z (upd H a o) a p):SR K H0 Z0 σ (upd H a o) ρ ((.ref a,.own p)::pd):=by
 obtain ⟨e,Z,hg,z,s⟩:=h
 obtain ⟨z',s'⟩:=s.new z ha (hp Z z s)
 exact .mk e hg z' s'
theorem Ac {α:Type} (A B C:List α):List.Perm (A++(B++C)) (B++(A++C)):=by
 rw [← List.append_assoc A B C,← List.append_assoc B A C]
 exact List.perm_append_comm.append_right _
theorem Jh {pe:Pd}:List.Perm (sl g σ ρ (pe++pd)) (pe.map (fun e=>((some e.1:Option V),(some e.2:Option Lc)))++sl g σ ρ pd):=by
 unfold sl
 rw [List.map_append]
 exact ((Ac _ _ _).append_left _).trans (Ac _ _ _)
theorem SR.freezeAll:∀ {vs:List V} {ls:List Lc} {pd:Pd},SR K H0 Z0 σ H ρ (vs.zip ls++pd)->SR K H0 Z0 σ H ρ (vs.zip (ls.map fun l=>.sh l.pv)++pd)
 | [],ls,pd,h=>by simpa using h
 | v::vs,[],pd,h=>by simpa using h
 | v::vs,l::ls,pd,h=>by
  have h1:SR K H0 Z0 σ H ρ ((v,l)::(vs.zip ls++pd)):=h
  have h2:=h1.freeze.perm (pd':=vs.zip ls++((v,.sh l.pv)::pd)) List.perm_middle
  have h3:=SR.freezeAll h2
  exact h3.perm (pd':=(v,.sh l.pv)::(vs.zip (ls.map fun l=>.sh l.pv)++pd)) List.perm_middle.symm
theorem Slots.repl {L:Sl}:∀ {vs:List V} {ps:List PV},vs.length=ps.length->Slots K H0 Z H ((vs.zip (ps.map fun p=>Lc.sh p)).map (fun e=>(some e.1,some e.2))++L)->aH K Z ps vs
 | [],[],_,_=>.nil
 | v::vs,p::ps,e,h=>by
  have h1:Slots K H0 Z H ((some v,some (.sh p))::((vs.zip (ps.map fun p=>Lc.sh p)).map (fun e=>(some e.1,some e.2))++L)):=h
  obtain ⟨x,e1,e2⟩:=h1.1 _ List.mem_cons_self
  cases e1
  exact aH.cons e2 (Slots.repl (by simpa using e) (h1.sub (List.sublist_cons_self _ _)))
 | [],p::ps,e,_=>by simp at e
 | v::vs,[],e,_=>by simp at e
theorem SR.repl {vs:List V} {ls:List Lc} (h:SR K H0 Z0 σ H ρ (vs.zip ls++pd)) (e:vs.length=ls.length):σ.length=ρ.vs.length/\∃ Z,ρ.mu.length=Z.g.length/\jB H0 Z0 Z H/\aH K Z (ls.map Lc.pv) vs/\Slots K H0 Z H (sl Z.g σ ρ pd):=by
 obtain ⟨el,Z,hg,z,s⟩:=h.freezeAll
 have hm:(ls.map fun l=>Lc.sh l.pv)=(ls.map Lc.pv).map fun p=>Lc.sh p:=by rw [List.map_map]; rfl
 rw [hm] at s
 have pm:List.Perm (sl Z.g σ ρ (vs.zip ((ls.map Lc.pv).map fun p=>Lc.sh p)++pd)) ((vs.zip ((ls.map Lc.pv).map fun p=>Lc.sh p)).map (fun e=>(some e.1,some e.2))++sl Z.g σ ρ pd):=Jh
 have s':=s.perm pm.symm
 exact ⟨el,Z,hg,z,Slots.repl (by simpa using e) s',s'.sub (List.sublist_append_right _ _)⟩
end
theorem qP {α:Type} {l:List α} (h:l.length=1):∃ a,l=[a]:=List.length_eq_one_iff.mp h
theorem ln2 {α:Type} {l:List α} (h:l.length=2):∃ a b,l=[a,b]:=by
 cases l with
 | nil=>cases h
 | cons a l=>obtain ⟨b,rfl⟩:=qP (Nat.succ.inj h); exact ⟨a,b,rfl⟩
theorem Ji {α:Type} {l:List α} (h:l.length=3):∃ a b c,l=[a,b,c]:=by
 cases l with
 | nil=>cases h
 | cons a l=>obtain ⟨b,c,rfl⟩:=ln2 (Nat.succ.inj h); exact ⟨a,b,c,rfl⟩
theorem VL {α:Type} {l:List α} (h:l.length=4):∃ a b c d,l=[a,b,c,d]:=by
 cases l with
 | nil=>cases h
 | cons a l=>obtain ⟨b,c,d,rfl⟩:=Ji (Nat.succ.inj h); exact ⟨a,b,c,d,rfl⟩
noncomputable def ao:AF:=fun ρ=>some ([],ρ)
noncomputable def aj (f:EF) (g:AF):AF:=fun ρ=>(f ρ).bind fun x=>(g x.2).map fun y=>(x.1::y.1,y.2)
theorem aC:PA X [] (jC X.K ao):=PA.imp jJ fun σ H Q q=>by
 obtain ⟨H0,Z0,ρ,pd,l,ρ',s,f,k⟩:=q
 cases f
 exact k [] H rfl s
theorem ak {e:Expr} {es:List Expr} {f:EF} {g:AF} (ha:PE X e (tP X.K f)) (hr:PA X es (jC X.K g)) (hs:starEach (e::es) X.env=(false,eval e X.env)::starEach es X.env:=by rfl):PA X (e::es) (jC X.K (aj f g)):=PA.imp (cM ha hr hs) fun σ H Q q=>by
 obtain ⟨H0,Z0,ρ,pd,l,ρ',s,h,k⟩:=q
 unfold aj at h
 cases h1:f ρ with
 | none=>rw [h1] at h; cases h
 | some x=>
  rw [h1,Option.bind_some] at h
  cases h2:g x.2 with
  | none=>rw [h2] at h; cases h
  | some y=>
   rw [h2] at h
   cases h
   refine ⟨H0,Z0,ρ,pd,x.1,x.2,s,h1,fun v H1 s1=>⟨H0,Z0,x.2,_,y.1,y.2,s1,h2,fun vs H2 e2 s2=>?_⟩⟩
   refine k (v::vs) H2 (by simp [e2]) (s2.perm (pd':=(v,x.1)::(vs.zip y.1++pd)) List.perm_middle.symm)
noncomputable def gk (g:AF):EF:=fun ρ=>(g ρ).bind fun y=>if y.1.length<=1000 then some (.own (.lst (y.1.map Lc.pv)),y.2) else none
noncomputable def cz (g:AF):EF:=fun ρ=>(g ρ).bind fun y=>if y.1.length<=1000 then some (.sh (.tup (y.1.map Lc.pv)),y.2) else none
theorem small {n:Nat} (h:n<=100000):n<=sizeLine:=by rw [sizeLine_eq]; omega
theorem oU {es:List Expr} {g:AF} {pos:Pos} (h:PA X es (jC X.K g)):PE X (.List es pos) (tP X.K (gk g)):=PE.imp (Q6 h) fun σ H Q q=>by
 obtain ⟨H0,Z0,ρ,pd,l,ρ',s,f,k⟩:=q
 unfold gk at f
 cases h2:g ρ with
 | none=>rw [h2] at f; cases f
 | some y=>
  rw [h2,Option.bind_some] at f
  split at f
  . rename_i hl
    cases f
    refine ⟨H0,Z0,ρ,pd,y.1,y.2,s,h2,fun vs H2 e2 s2=>⟨small (by omega),fun p hp=>k _ _ ?_⟩⟩
    obtain ⟨el,Z,hg,z,r,sl'⟩:=s2.repl e2
    obtain ⟨z',s'⟩:=sl'.new (o:=.lst vs) (p:=.lst (y.1.map Lc.pv)) z hp ⟨vs,bh,r⟩
    exact .mk el hg z' s'
  . cases f
theorem jx {es:List Expr} {g:AF} {x1} {pos:Pos} (h:PA X es (jC X.K g)):PE X (.Tuple es x1 pos) (tP X.K (cz g)):=PE.imp (Ih h) fun σ H Q q=>by
 obtain ⟨H0,Z0,ρ,pd,l,ρ',s,f,k⟩:=q
 unfold cz at f
 cases h2:g ρ with
 | none=>rw [h2] at f; cases f
 | some y=>
  rw [h2,Option.bind_some] at f
  split at f
  . rename_i hl
    cases f
    refine ⟨H0,Z0,ρ,pd,y.1,y.2,s,h2,fun vs H2 e2 s2=>⟨small (by omega),fun p hp=>k _ _ ?_⟩⟩
    obtain ⟨el,Z,hg,z,r,sl'⟩:=s2.repl e2
    obtain ⟨z',sz,s'⟩:=sl'.newF (o:=.tup vs) z hp
    refine .mk (Z:=Z.put p (.tup vs)) el hg z' (s'.consS ?_)
    unfold Rep
    exact ⟨p,vs,rfl,cG.of bh,r.mono sz⟩
  . cases f
noncomputable def tT (f:EF) (tr:PV->Option Bool):TF:=fun ρ=>(f ρ).bind fun x=>(tr x.1.pv).map fun b=>(b,x.2)
noncomputable def bY:PV->Option Bool
 | .non=>some false
 | .bl b=>some b
 | .int i=>some (i != 0)
 | .str x=>if x.length<=100000 then some ((x.length:Int) != 0) else none
 | .tup ps=>some (!ps.isEmpty)
 | .lst ps=>some (!ps.isEmpty)
 | .dk ks ps=>some (!ps.isEmpty)
 | _=>none
theorem Vm {H:Hp} {g:List Addr} {p:PV} {v:V} {b:Bool} (r:Rep K ⟨H,g⟩ p v) (h:bY p=some b):Kv K v H b:=by
 cases p with
 | non=>have:=ik r; subst this; cases h; exact rfl
 | bl c=>have:=dY r; subst this; cases h; exact rfl
 | int i=>have:=bz r; subst this; cases h; exact rfl
 | str x=>
  have:=bW r; subst this
  have h:(if x.length<=100000 then some ((x.length:Int) != 0) else none)=some b:=h
  split at h
  . rename_i hl; cases h; exact ⟨small hl,rfl⟩
  . cases h
 | tup ps=>
  unfold Rep at r
  obtain ⟨a,vs,rfl,h1,h2⟩:=r
  cases h
  refine .inr (.inl ⟨vs,h1,?_⟩)
  have:=h2.length
  cases ps<;>cases vs<;>simp at this<;>rfl
 | lst ps=>
  unfold Rep at r
  obtain ⟨a,vs,rfl,h1,h2⟩:=r
  cases h
  refine .inl ⟨vs,h1,?_⟩
  have:=h2.length
  cases ps<;>cases vs<;>simp at this<;>rfl
 | dk ks ps=>
  unfold Rep at r
  obtain ⟨a,kvs,rfl,h1,h3,h2⟩:=r
  cases h
  refine .inr (.inr ⟨kvs,h1,?_⟩)
  have:=h2.length
  cases ps<;>cases kvs<;>simp at this<;>rfl
 | _=>cases h
theorem Dt {f:EF} {tr:PV->Option Bool} {ρ ρ':Ev} {b:Bool} (h:tT f tr ρ=some (b,ρ')):∃ x,f ρ=some (x,ρ')/\tr x.pv=some b:=by
 unfold tT at h
 cases h1:f ρ with
 | none=>rw [h1] at h; cases h
 | some x=>
  rw [h1,Option.bind_some] at h
  cases h2:tr x.1.pv with
  | none=>rw [h2] at h; cases h
  | some y=>rw [h2] at h; cases h; exact ⟨x.1,rfl,h2⟩
theorem fQ {a:Expr} {f:EF} (ha:PE X a (tP X.K f)) (he:∀ whole,isTrue a X.env whole=(do let v ← whole; standAt a.pos; holding [v] (truthy v))):PT X a (eZ X.K (tT f bY)):=PT.imp (Kw ha he) fun σ H Q q=>by
 obtain ⟨H0,Z0,ρ,pd,b,ρ',s,f',k⟩:=q
 obtain ⟨x,h1,h2⟩:=Dt f'
 refine ⟨H0,Z0,ρ,pd,x,ρ',s,h1,fun v H1 s1=>⟨b,Vm s1.freeze.repH.choose_spec h2,k H1 s1.pop⟩⟩
noncomputable def aN:PV->Option Bool
 | .bl b=>some b
 | _=>none
theorem Nk {a:Expr} {f:EF} (ha:PT X a (FP (tP X.K f))):PT X a (eZ X.K (tT f aN)):=PT.imp ha fun σ H Q q=>by
 obtain ⟨H0,Z0,ρ,pd,b,ρ',s,f',k⟩:=q
 obtain ⟨x,h1,h2⟩:=Dt f'
 refine ⟨H0,Z0,ρ,pd,x,ρ',s,h1,fun v H1 s1=>⟨b,?_,k H1 s1.pop⟩⟩
 obtain ⟨_,r⟩:=s1.freeze.repH
 cases e:x.pv with
 | bl c=>rw [e] at h2 r; cases h2; exact dY r
 | _=>rw [e] at h2; cases h2
theorem bI {op:CmpOp} {a b:Expr} {pos:Pos} {r:R2} {g:PV->PV->Option Lc} {fa fb:EF} (ho:du X (compareOp op) r) (hs:gO X.K r g) (ha:PE X a (tP X.K fa)) (hb:PE X b (tP X.K fb)) (hm:behindInMarks op b=false):PT X (.Compare a [op] [b] pos) (eZ X.K (tT (aq g fa fb) aN)):=
 Nk (PT.imp (Oh ho ha hb hm) fun σ H Q q=>Be hs σ H _ q)
noncomputable def dO (f g:TF):TF:=fun ρ=>(f ρ).bind fun x=>if x.1=true then g x.2 else some (false,x.2)
noncomputable def je (f g:TF):TF:=fun ρ=>(f ρ).bind fun x=>if x.1=true then some (true,x.2) else g x.2
noncomputable def jf (f:TF):TF:=fun ρ=>(f ρ).map fun x=>(!x.1,x.2)
theorem O9 {f g:TF}:∀ σ H Q,eZ X.K (dO f g) σ H Q->QC (eZ X.K f) (eZ X.K g) σ H Q:=fun σ H Q q=>by
 obtain ⟨H0,Z0,ρ,pd,b,ρ',s,h,k⟩:=q
 unfold dO at h
 cases h1:f ρ with
 | none=>rw [h1] at h; cases h
 | some x=>
  rw [h1,Option.bind_some] at h
  refine ⟨H0,Z0,ρ,pd,x.1,x.2,s,h1,fun H1 s1=>?_⟩
  dsimp only
  split
  . rename_i c; rw [if_pos c] at h; exact ⟨H0,Z0,x.2,pd,b,ρ',s1,h,k⟩
  . rename_i c; rw [if_neg c] at h; cases h; exact k H1 s1
theorem RG {f g:TF}:∀ σ H Q,eZ X.K (je f g) σ H Q->Ut (eZ X.K f) (eZ X.K g) σ H Q:=fun σ H Q q=>by
 obtain ⟨H0,Z0,ρ,pd,b,ρ',s,h,k⟩:=q
 unfold je at h
 cases h1:f ρ with
 | none=>rw [h1] at h; cases h
 | some x=>
  rw [h1,Option.bind_some] at h
  refine ⟨H0,Z0,ρ,pd,x.1,x.2,s,h1,fun H1 s1=>?_⟩
  dsimp only
  split
  . rename_i c; rw [if_pos c] at h; cases h; exact k H1 s1
  . rename_i c; rw [if_neg c] at h; exact ⟨H0,Z0,x.2,pd,b,ρ',s1,h,k⟩
theorem qQ {a:Expr} {f:TF} {pos:Pos} (ha:PT X a (eZ X.K f)):PW X (.BoolOp .And [a] pos) (eZ X.K f):=Oe ha
theorem ud {a:Expr} {f:TF} {pos:Pos} (ha:PT X a (eZ X.K f)):PW X (.BoolOp .Or [a] pos) (eZ X.K f):=QD ha
theorem qR {a b:Expr} {rest:List Expr} {f g:TF} {pos:Pos} (ha:PT X a (eZ X.K f)) (hb:PW X (.BoolOp .And (b::rest) pos) (eZ X.K g)):PW X (.BoolOp .And (a::b::rest) pos) (eZ X.K (dO f g)):=PW.imp (QF ha hb) O9
theorem pW {a b:Expr} {rest:List Expr} {f g:TF} {pos:Pos} (ha:PT X a (eZ X.K f)) (hb:PW X (.BoolOp .Or (b::rest) pos) (eZ X.K g)):PW X (.BoolOp .Or (a::b::rest) pos) (eZ X.K (je f g)):=PW.imp (Tz ha hb) RG
theorem ue {a:Expr} {f:TF} {pos:Pos} (ha:PT X a (eZ X.K f)):PT X (.UnaryOp .Not a pos) (eZ X.K (jf f)):=PT.imp (QG ha) fun σ H Q q=>by
 obtain ⟨H0,Z0,ρ,pd,b,ρ',s,h,k⟩:=q
 unfold jf at h
 cases h1:f ρ with
 | none=>rw [h1] at h; cases h
 | some x=>
  rw [h1] at h
  cases h
  exact ⟨H0,Z0,ρ,pd,x.1,x.2,s,h1,fun H1 s1=>k H1 s1⟩
noncomputable def Bg (f g:EF):EF:=fun ρ=>(f ρ).bind fun x=>match x.1.pv with
 | .bl true=>g x.2
 | .bl false=>some (.sh (.bl false),x.2)
 | _=>none
theorem Vn {op} {a:Expr} {f:EF} {pos:Pos} (h:PE X a (tP X.K f)):PE X (.BoolOp op [a] pos) (tP X.K f):=QH h
theorem Vo {a b:Expr} {rest:List Expr} {f g:EF} {pos:Pos} (ha:PE X a (tP X.K f)) (hb:PE X (.BoolOp .And (b::rest) pos) (tP X.K g)):PE X (.BoolOp .And (a::b::rest) pos) (tP X.K (Bg f g)):=PE.imp (QJ ha hb) fun σ H Q q=>by
 obtain ⟨H0,Z0,ρ,pd,b,ρ',s,h,k⟩:=q
 unfold Bg at h
 cases h1:f ρ with
 | none=>rw [h1] at h; cases h
 | some x=>
  rw [h1,Option.bind_some] at h
  refine ⟨H0,Z0,ρ,pd,x.1,x.2,s,h1,fun v H1 s1=>?_⟩
  obtain ⟨_,r⟩:=s1.freeze.repH
  split at h
  . rename_i e
    rw [e] at r
    refine ⟨true,dY r,?_⟩
    rw [if_pos rfl]
    exact ⟨H0,Z0,x.2,pd,b,ρ',s1.pop,h,k⟩
  . rename_i e
    rw [e] at r
    refine ⟨false,dY r,?_⟩
    rw [if_neg Bool.false_ne_true]
    cases h
    exact k _ H1 (s1.pop.scal dG)
  . cases h
noncomputable def oV (c:TF) (f g:EF):EF:=fun ρ=>(c ρ).bind fun x=>if x.1=true then f x.2 else g x.2
theorem RJ {c a b:Expr} {fc:TF} {f g:EF} {pos:Pos} (hc:PT X c (eZ X.K fc)) (ha:PE X a (tP X.K f)) (hb:PE X b (tP X.K g)):PE X (.IfExp c a b pos) (tP X.K (oV fc f g)):=PE.imp (Kl hc ha hb) fun σ H Q q=>by
 obtain ⟨H0,Z0,ρ,pd,b,ρ',s,h,k⟩:=q
 unfold oV at h
 cases h1:fc ρ with
 | none=>rw [h1] at h; cases h
 | some x=>
  rw [h1,Option.bind_some] at h
  refine ⟨H0,Z0,ρ,pd,x.1,x.2,s,h1,fun H1 s1=>?_⟩
  dsimp only
  split
  . rename_i c; rw [if_pos c] at h; exact ⟨H0,Z0,x.2,pd,b,ρ',s1,h,k⟩
  . rename_i c; rw [if_neg c] at h; exact ⟨H0,Z0,x.2,pd,b,ρ',s1,h,k⟩
noncomputable def bR:SF:=fun ρ=>some (.nx ρ)
noncomputable def aL (f g:SF):SF:=fun ρ=>(f ρ).bind fun x=>match x with
 | .nx ρ'=>g ρ'
 | y=>some y
theorem b7:dg X [] (dI X.K bR):=dg.imp Dk fun D σ H q=>by
 obtain ⟨H0,Z0,ρ,pd,fl,s,h,k⟩:=q
 cases h
 exact k σ H s
theorem aB {st:Stmt} {rest:List Stmt} {f g:SF} (h1:PS X st (dI X.K f)) (h2:dg X rest (dI X.K g)):dg X (st::rest) (dI X.K (aL f g)):=dg.imp (Am h1 h2) fun D σ H q=>by
 obtain ⟨H0,Z0,ρ,pd,fl,s,h,k⟩:=q
 unfold aL at h
 cases e:f ρ with
 | none=>rw [e] at h; cases h
 | some x=>
  rw [e,Option.bind_some] at h
  refine ⟨H0,Z0,ρ,pd,x,s,e,?_⟩
  cases x with
  | nx ρ'=>exact fun σ' H' s'=>⟨H0,Z0,ρ',pd,fl,s',h,k⟩
  | rt r ρ'=>cases h; exact k
  | bk ρ'=>cases h; exact k
  | ct ρ'=>cases h; exact k
theorem aJ {st:Stmt} {f:SF} (h1:PS X st (dI X.K f)):dg X [st] (dI X.K f):=Dl h1
theorem map_some {α β:Type} {o:Option α} {f:α->β} {b:β} (h:o.map f=some b):∃ a,o=some a/\f a=b:=by
 cases o with
 | none=>cases h
 | some a=>exact ⟨a,rfl,Option.some.inj h⟩
theorem bind_some {α β:Type} {o:Option α} {f:α->Option β} {b:β} (h:o.bind f=some b):∃ a,o=some a/\f a=some b:=by
 cases o with
 | none=>cases h
 | some a=>exact ⟨a,rfl,h⟩
noncomputable def dq (f:EF):SF:=fun ρ=>(f ρ).map fun x=>.rt x.1 x.2
theorem b8 {e:Expr} {pos:Pos} {f:EF} (he:PE X e (tP X.K f)):PS X (.Return (some e) pos) (dI X.K (dq f)):=PS.imp (HJ he) fun D σ H q=>by
 obtain ⟨H0,Z0,ρ,pd,fl,s,h,k⟩:=q
 obtain ⟨x,h1,rfl⟩:=map_some h
 exact ⟨H0,Z0,ρ,pd,x.1,x.2,s,h1,fun v H' s'=>k v σ H' s'⟩
noncomputable def gB (i:Nat):SF:=fun ρ=>match ρ.vs[i]? with
 | some (some l)=>some (.rt l (ρ.set i none))
 | _=>none
theorem iD {i:Nat} {e:Expr} {pos:Pos} (he:PE X e (qp i)):PS X (.Return (some e) pos) (dI X.K (gB i)):=PS.imp (HJ he) fun D σ H q=>by
 obtain ⟨H0,Z0,ρ,pd,fl,s,h,k⟩:=q
 unfold gB at h
 split at h
 . rename_i l e1
   cases h
   obtain ⟨v,h1,h2⟩:=s.take e1
   exact ⟨v,h1,k v σ H h2⟩
 . cases h
noncomputable def dw (c:TF) (f g:SF):SF:=fun ρ=>(c ρ).bind fun x=>if x.1=true then f x.2 else g x.2
theorem dz {c:Expr} {a b:List Stmt} {fc:TF} {f g:SF} {pos:Pos} (hc:PT X c (eZ X.K fc)) (ha:dg X a (dI X.K f)) (hb:dg X b (dI X.K g)):PS X (.If c a b pos) (dI X.K (dw fc f g)):=PS.imp (MK hc ha hb) fun D σ H q=>by
 obtain ⟨H0,Z0,ρ,pd,fl,s,h,k⟩:=q
 obtain ⟨x,h1,h2⟩:=bind_some h
 refine ⟨H0,Z0,ρ,pd,x.1,x.2,s,h1,fun H1 s1=>?_⟩
 dsimp only
 split
 . rename_i c; rw [if_pos c] at h2; exact ⟨H0,Z0,x.2,pd,fl,s1,h2,k⟩
 . rename_i c; rw [if_neg c] at h2; exact ⟨H0,Z0,x.2,pd,fl,s1,h2,k⟩
noncomputable def aK (i:Nat) (f:EF):SF:=fun ρ=>(f ρ).bind fun x=>if i<x.2.vs.length then some (.nx (x.2.set i (some x.1))) else none
theorem Du {i:Nat} {f:EF} {t:TS} (h:∀ D σ H,(tP X.K f σ H fun v H1=>D.nx (σ.set i (some v)) H1)->t D σ H):∀ D σ H,dI X.K (aK i f) D σ H->t D σ H:=fun D σ H q=>by
 obtain ⟨H0,Z0,ρ,pd,fl,s,h',k⟩:=q
 obtain ⟨x,h1,h2⟩:=bind_some h'
 split at h2
 . rename_i hl
   cases h2
   exact h D σ H ⟨H0,Z0,ρ,pd,x.1,x.2,s,h1,fun v H1 s1=>k _ _ (s1.store hl)⟩
 . cases h2
theorem mR {i:Nat} {x:Str} {e:Expr} {pos pos':Pos} {f:EF} (hN:X.N.Nodup) (hi:X.N[i]?=some x) (hx:L2.Loc X.env.scope x) (he:PE X e (tP X.K f)) (hs:swapsWith e (some (.Name x pos')) pos.line X.env=pure false:=by rfl) (hf:X.fn x=true\/X.env.scope.names.lookup x=some .local:=by first | exact .inl rfl | exact .inr rfl | assumption):
 PS X (.Assign [.Name x pos'] e pos) (dI X.K (aK i f)):=PS.imp (QM hN hi hx he hs hf) (Du fun D σ H q=>q)
noncomputable abbrev GF:=List PV->Mu->Option (Lc×Mu)
noncomputable def jg (H:Hp) (g:List Addr):Hp:=fun b=>if b∈g then none else H b
theorem Pa {H:Hp} {g:List Addr} {b:Addr} {o:HO} (h:jg H g b=some o):H b=some o/\b∉g:=by
 unfold jg at h
 split at h
 . cases h
 . rename_i q; exact ⟨h,q⟩
theorem Li {H:Hp} {g:List Addr} {b:Addr} (h:b∈g):jg H g b=none:=by unfold jg; rw [if_pos h]
theorem Bh {H:Hp} {g:List Addr} {b:Addr} (h:b∉g):jg H g b=H b:=by unfold jg; rw [if_neg h]
noncomputable def Bj (K:FG) (H:Hp) (Z:ZG) (g:List Addr) (H':Hp) (mu':Mu) (v:V) (r:Lc):Prop:=∃ Z',mu'.length=Z'.g.length/\jB (jg H g) Z Z' H'/\Slots K (jg H g) Z' H' ((some v,some r)::cel Z'.g mu')
noncomputable def cN (K:FG) (n:Nat) (g:GF):Sp:=fun vs H Q _=>∃ (Z:ZG) (ps:List PV) (mu:Mu) (r:Lc) (mu':Mu),vs.length=n/\mu.length=Z.g.length/\cC Z.z H/\aH K Z ps vs/\Slots K (jg H (kJ Z.g mu)) Z H (cel Z.g mu)/\g ps mu=some (r,mu')/\∀ v H',Bj K H Z (kJ Z.g mu) H' mu' v r->Q v H'
noncomputable def aG (g:GF) (a:AF):EF:=fun ρ=>(a ρ).bind fun y=>(g (y.1.map Lc.pv) y.2.mu).map fun r=>(r.1,⟨y.2.vs,r.2⟩)
theorem Pb {g:List Addr} {mu:Mu} {e:Option V×Option Lc} (he:e∈cel g mu):∃ a,e.1=some (.ref a)/\(e.2=none\/∃ p,e.2=some (.own p)):=by
 unfold cel at he
 obtain ⟨v,l⟩:=e
 obtain ⟨h1,h2⟩:=List.of_mem_zip he
 obtain ⟨a,_,e1⟩:=List.mem_map.mp h1
 obtain ⟨o,_,e2⟩:=List.mem_map.mp h2
 refine ⟨a,e1.symm,?_⟩
 cases o with
 | none=>exact .inl e2.symm
 | some p=>exact .inr ⟨p,e2.symm⟩
theorem Slots.cells {Z:ZG} (hg:ρ.mu.length=Z.g.length) (s:Slots K H0 Z H (sl Z.g σ ρ pd)):Slots K (jg H (kJ Z.g ρ.mu)) Z H (cel Z.g ρ.mu):=by
 have s1:Slots K H0 Z H (cel Z.g ρ.mu):=s.sub (List.sublist_append_left _ _)
 refine ⟨fun e he=>?_,s1.2⟩
 obtain ⟨a,h1,h2⟩:=Pb he
 obtain ⟨v,l⟩:=e
 have h1':v=some (.ref a):=h1
 subst h1'
 rcases h2 with h2 | ⟨p,h2⟩
 . have h2':l=none:=h2
   subst h2'; trivial
 . have h2':l=some (.own p):=h2
   subst h2'
   obtain ⟨b,e1,e2,e3,e4⟩:=s1.1 _ he
   cases e1
   exact ⟨a,rfl,e2,e3,Li (List.mem_filterMap.mpr ⟨_,he,rfl⟩)⟩
theorem SR.called {H0 H H':Hp} {Z0 Z:ZG} {v:V} {r:Lc} {mu':Mu} (el:σ.length=ρ.vs.length) (hg:ρ.mu.length=Z.g.length) (z:jB H0 Z0 Z H) (s:Slots K H0 Z H (sl Z.g σ ρ pd)) (h:Bj K H Z (kJ Z.g ρ.mu) H' mu' v r):SR K H0 Z0 σ H' ⟨ρ.vs,mu'⟩ ((v,r)::pd):=by
 obtain ⟨Z',hg',z',q⟩:=h
 have s1:Slots K H0 Z H (cel Z.g ρ.mu):=s.sub (List.sublist_append_left _ _)
 have s0:Slots K H0 Z H (σ.zip ρ.vs++pd.map fun e=>(some e.1,some e.2)):=s.sub (List.sublist_append_right _ _)
 have nd:(kJ Z.g ρ.mu++(σ.zip ρ.vs++pd.map fun e=>(some e.1,some e.2)).filterMap jA).Nodup:=by
  have:=s.2
  unfold sl at this
  rw [List.filterMap_append] at this
  exact this
 have hc0:∀ a∈kJ Z.g ρ.mu,H0 a=none:=fun a ha=>by
  obtain ⟨e,he,hb⟩:=List.mem_filterMap.mp ha
  exact (gj s1 he hb).2.1
 have h0:cC H0 (jg H (kJ Z.g ρ.mu)):=fun b o e=>by
  rw [Bh fun hm=>by rw [hc0 b hm] at e; cases e]
  exact z.h0 b o e
 have z2:jB H0 Z0 Z' H':=⟨z'.zh,h0.trans z'.h0,z.z0.trans z'.z0,fun b o e=>by
  rcases z'.new b o e with e | e | e
  . exact z.new b o e
  . exact .inr (.inl (h0.free e))
  . exact .inr (.inr e)⟩
 have nog:∀ e∈(σ.zip ρ.vs++pd.map fun e=>((some e.1:Option V),(some e.2:Option Lc))),∀ a,jA e=some a->a∉kJ Z.g ρ.mu/\jg H (kJ Z.g ρ.mu) a=H a:=fun e he a ha=>by
  have hn:a∉kJ Z.g ρ.mu:=fun hm=>(List.nodup_append.mp nd).2.2 a hm a (List.mem_filterMap.mpr ⟨e,he,ha⟩) rfl
  exact ⟨hn,Bh hn⟩
 have hk:∀ e∈(σ.zip ρ.vs++pd.map fun e=>((some e.1:Option V),(some e.2:Option Lc))),∀ a,jA e=some a->H' a=H a/\Z'.z a=none:=fun e he a ha=>by
  obtain ⟨h1,h2,o,h3,h4⟩:=gj s0 he ha
  obtain ⟨hn,ho⟩:=nog e he a ha
  have h5:=z'.h0 a o (by rw [ho]; exact h3)
  refine ⟨by rw [h3]; exact h5,?_⟩
  cases q:Z'.z a with
  | none=>rfl
  | some u=>
   rcases z'.new a u q with e | e | e
   . rw [h1] at e; cases e
   . rw [ho,h3] at e; cases e
   . have:=z'.zh a u q
     rw [h5] at this; cases this
     exact (h4 e).elim
 have s2:=s0.step z'.z0 hk
 have q':Slots K H0 Z' H' ((some v,some r)::cel Z'.g mu'):=by
  refine ⟨fun e he=>?_,q.2⟩
  have:=q.1 e he
  obtain ⟨w,l⟩:=e
  cases l with
  | none=>trivial
  | some l=>
   cases l with
   | sh p=>exact this
   | own p=>obtain ⟨a,e1,e2,e3,e4⟩:=this; exact ⟨a,e1,e2,e3,h0.free e4⟩
 have dis:∀ e∈((some v,some r)::cel Z'.g mu'),∀ a,jA e=some a->∀ e'∈(σ.zip ρ.vs++pd.map fun e=>((some e.1:Option V),(some e.2:Option Lc))),jA e'≠some a:=fun e he a ha e' he' ha'=>by
  obtain ⟨_,h2,_⟩:=gj q he ha
  obtain ⟨_,_,o,h3,_⟩:=gj s0 he' ha'
  rw [(nog e' he' a ha').2,h3] at h2; cases h2
 refine .mk (Z:=Z') el hg' z2 ?_
 refine ⟨fun e he=>?_,?_⟩
 . rcases List.mem_cons.mp he with rfl | he
   . exact q'.1 _ List.mem_cons_self
   . rcases List.mem_append.mp he with he | he
     . exact q'.1 _ (List.mem_cons_of_mem _ he)
     . exact s2.1 e he
 . show (((some v,some r)::(cel Z'.g mu'++(σ.zip ρ.vs++pd.map fun e=>(some e.1,some e.2)))).filterMap jA).Nodup
   rw [← List.cons_append,List.filterMap_append]
   refine List.nodup_append.mpr ⟨q'.2,s2.2,fun a ha b hb e=>?_⟩
   subst e
   obtain ⟨e1,he1,h1⟩:=List.mem_filterMap.mp ha
   obtain ⟨e2,he2,h2⟩:=List.mem_filterMap.mp hb
   exact dis e1 he1 a h1 e2 he2 h2
theorem Lj {n:Nat} {g:GF} {a:AF} {E:XK}:∀ σ H Q,(∃ H0 Z0 ρ pd r ρ',SR X.K H0 Z0 σ H ρ pd/\aG g a ρ=some (r,ρ')/\(∀ ls ρ1,a ρ=some (ls,ρ1)->ls.length=n)/\∀ v H',SR X.K H0 Z0 σ H' ρ' ((v,r)::pd)->Q v H')->Ge (cN X.K n g) [] E (jC X.K a) σ H Q:=fun σ H Q q=>by
 obtain ⟨H0,Z0,ρ,pd,r,ρ',s,h,hn,k⟩:=q
 obtain ⟨y,h1,h2⟩:=bind_some h
 obtain ⟨r',h3,h4⟩:=map_some h2
 cases h4
 refine ⟨H0,Z0,ρ,pd,y.1,y.2,s,h1,fun vs H2 e2 s2=>?_⟩
 obtain ⟨el,Z,hg,z,rl,sl'⟩:=s2.repl e2
 refine ⟨Z,y.1.map Lc.pv,y.2.mu,_,_,?_,hg,z.zh,?_,sl'.cells hg,h3,fun v H' rr=>k v H' (SR.called el hg z sl' rr)⟩
 . rw [List.append_nil,e2]; exact hn _ _ h1
 . rw [List.append_nil]; exact rl
end
section
variable {P:Program} {w:World} {K:FG} {mg:Str->Option Value} {base:Heap}
noncomputable def aW (K:FG) (mg:Str->Option Value) (x:Str) (st:Stmt) (ps:List Str):Prop:=∃ f fd,oJ K x x st f fd/\mg x=some (.ref f)/\Binds K fd ps []
noncomputable def uf (b:Bool) (P:Program) (w:World) (K:FG) (mg:Str->Option Value) (base:Heap) (x:Str) (k:Nat) (ps:List Str) (sp:Sp):Prop:=∃ f fd,nC b P w K mg base qN k f fd ps sp/\mg x=some (.ref f)/\W.keepIn K (.ref f)=true/\Binds K fd ps []
noncomputable abbrev bJ:=uf true
noncomputable def env0 (n:Nat) (ps:List PV) (mu:Mu):Ev:=⟨ps.map (fun p=>some (Lc.sh p))++List.replicate (n-ps.length) none,mu⟩
noncomputable def fj (n:Nat) (g:SF):GF:=fun ps mu=>(g (env0 n ps mu)).bind fun x=>match x with
 | .rt r ρ=>some (r,ρ.mu)
 | .nx ρ=>some (.sh .non,ρ.mu)
 | _=>none
theorem Dv {Z:ZG} {L:Sl} (s:Slots K H0 Z H L):∀ {ps:List PV} {vs:List V},aH K Z ps vs->Slots K H0 Z H ((vs.map some).zip (ps.map fun p=>some (Lc.sh p))++L)
 | [],vs,h=>by have:=h.inv0; subst this; simpa using s
 | p::ps,vs,h=>by
  obtain ⟨v,r,rfl,h1,h2⟩:=h.inv
  exact (Dv s h2).consS h1
theorem nones {Z:ZG} {L:Sl} (s:Slots K H0 Z H L):∀ n:Nat,Slots K H0 Z H ((List.replicate n (none:Option V)).zip (List.replicate n (none:Option Lc))++L)
 | 0=>s
 | n+1=>by
  rw [List.replicate_succ,List.replicate_succ,List.zip_cons_cons,List.cons_append]
  have ih:=nones s n
  refine ⟨fun e he=>?_,?_⟩
  . rcases List.mem_cons.mp he with rfl | he
    . trivial
    . exact ih.1 e he
  . rw [List.filterMap_cons_none rfl]; exact ih.2
theorem vI {H:Hp} {Z:ZG} {ps:List PV} {mu:Mu} {vs:List V} {N:List Str} (hg:mu.length=Z.g.length) (z:cC Z.z H) (r:aH K Z ps vs) (c:Slots K (jg H (kJ Z.g mu)) Z H (cel Z.g mu)):SR K (jg H (kJ Z.g mu)) Z (L2.start N vs) H (env0 N.length ps mu) []:=by
 have hl:=r.length
 refine ⟨by simp [L2.start,env0,hl],Z,hg,⟨z,fun b o e=>(Pa e).1,gD.refl _,fun b o e=>.inl e⟩,?_⟩
 unfold sl L2.start env0
 rw [List.zip_append (by simp [hl]),List.map_nil,List.append_nil,hl]
 exact (Dv (nones c _) r).perm ((List.perm_append_comm).trans (by rw [List.append_assoc]))
theorem aW.ok {b:Bool} {x:Str} {st:Stmt} {N ps:List Str} {k:Nat} {g:GF} (F:aW K mg x st ps) (S:bw N ps (az st))
 (h:∀ (f:Addr) (cdv:Value) (A:Around) (outer:List PySem.Env) (s:Shared) (H:Hp) (E:XK),cU b k (A.deeper (envOfC x (az st) s.heap.objs.size f cdv))->
   ∃ g':SF,(∀ a mu,g a mu=fj N.length g' a mu)/\dg (pQ b qN P w K mg base N x (az st) f cdv A outer s H E).nox (aU st) (dI K g')):uf b P w K mg base x (k+1) ps (cN K ps.length g):=by
 obtain ⟨f,fd,F,hm,hb⟩:=F
 refine ⟨f,fd,F.ok S (fun vs H Q E q=>?_) (fun cdv A outer s H vs Q E hr q=>?_),hm,F.kp,hb⟩
 . obtain ⟨Z,qs,mu,r,mu',e,_⟩:=q; exact e
 . obtain ⟨g',eg,b⟩:=h f cdv A outer s H E hr
   obtain ⟨Z,qs,mu,r,mu',e,hg,z,rl,c,hr',kk⟩:=q
   rw [eg] at hr'
   obtain ⟨fl,h1,h2⟩:=bind_some hr'
   refine ⟨_,b,jg H (kJ Z.g mu),Z,_,[],fl,vI hg z rl c,h1,?_⟩
   cases fl with
   | rt r' ρ'=>
    cases h2
    intro v σ' H' s'
    obtain ⟨el,Z',hg',z',s''⟩:=s'.top
    refine kk v H' ⟨Z',hg',z',s''.sub ?_⟩
    exact (List.sublist_append_left _ _).cons_cons _
   | nx ρ'=>
    cases h2
    intro σ' H' s'
    obtain ⟨el,Z',hg',z',s''⟩:=s'
    exact kk .non H' ⟨Z',hg',z',(s''.sub (List.sublist_append_left _ _)).consS (uP _)⟩
   | bk ρ'=>cases h2
   | ct ρ'=>cases h2
end
section
variable {X:Cx}
theorem bK {b:Bool} {x:Str} {k:Nat} {ps:List Str} {g:GF} {e:Expr} {es:List Expr} {a:AF} {p pos:Pos} (D:uf b X.prog X.w X.K X.mg X.base x k ps (cN X.K ps.length g)) (hr:cU b k X.A) (hg:Gl X x)
 (ha:PA X (e::es) (jC X.K a)) (hn:∀ ρ ls ρ1,a ρ=some (ls,ρ1)->ls.length=ps.length) (hdb:(x==("__debug__" : Str))=false:=by decide) (he:starEach (e::es) X.env=(false,eval e X.env)::starEach es X.env:=by rfl) (hpl:(backTo pos (starEach es X.env)).any (·.1)=false:=by rfl):PE X (.Call (.Name x p) (e::es) [] pos) (tP X.K (aG g a)):=by
 obtain ⟨f,fd,F,hm,hk,hb⟩:=D
 refine PE.imp (Do (E:=E0) F hr hg hm hk hb .nil T5 ha hdb he hpl) fun σ H Q q=>?_
 obtain ⟨H0,Z0,ρ,pd,r,ρ',s,h,kk⟩:=q
 exact Lj σ H Q ⟨H0,Z0,ρ,pd,r,ρ',s,h,fun ls ρ1 e=>hn ρ ls ρ1 e,kk⟩
section
variable {K:FG} {H0 H H':Hp} {Z0 Z:ZG} {σ:L2.St} {ρ:Ev} {pd pd':Pd} {v w:V} {l:Lc} {p:PV}
theorem SR.sub (h:SR K H0 Z0 σ H ρ pd') (q:List.Sublist pd pd'):SR K H0 Z0 σ H ρ pd:=
 let ⟨e,Z,hg,z,s⟩:=h
 ⟨e,Z,hg,z,s.sub ((List.Sublist.refl _).append ((List.Sublist.refl _).append (q.map _)))⟩
theorem SR.dup (h:SR K H0 Z0 σ H ρ ((v,.sh p)::pd)):SR K H0 Z0 σ H ρ ((v,.sh p)::(v,.sh p)::pd):=by
 obtain ⟨e,Z,hg,z,s⟩:=h.top
 obtain ⟨x,e1,e2⟩:=s.1 _ List.mem_cons_self
 cases e1
 exact .mk e hg z ((s.perm cF).consS e2)
theorem SR.part {u:V} {q:PV} (h:SR K H0 Z0 σ H ρ ((v,.sh p)::pd)) (k:∀ Z:ZG,cC Z.z H->Rep K Z p v->Rep K Z q u):SR K H0 Z0 σ H ρ ((u,.sh q)::(v,.sh p)::pd):=by
 obtain ⟨e,Z,hg,z,s⟩:=h.top
 obtain ⟨x,e1,e2⟩:=s.1 _ List.mem_cons_self
 cases e1
 exact .mk e hg z ((s.perm cF).consS (k Z z.zh e2))
end
noncomputable abbrev BF:=PV->Ev->Option Ev
noncomputable def GS (K:FG) (g:TG) (b:BF):Prop:=∀ H0 Z0 σ H ρ pd v p ρ' Q,SR K H0 Z0 σ H ρ ((v,.sh p)::pd)->b p ρ=some ρ'->(∀ σ',SR K H0 Z0 σ' H ρ' pd->Q σ' H)->g v σ H Q
noncomputable abbrev Bk:=List PV->Ev->Option Ev
noncomputable def Nm (K:FG) (g:tB) (b:Bk):Prop:=∀ H0 Z0 σ H ρ pd vs ps ρ' Q,vs.length=ps.length->SR K H0 Z0 σ H ρ (vs.zip (ps.map Lc.sh)++pd)->b ps ρ=some ρ'->(∀ σ',SR K H0 Z0 σ' H ρ' pd->Q σ' H)->g vs σ H Q
noncomputable def aA (i:Nat):BF:=fun p ρ=>if i<ρ.vs.length then some (ρ.set i (some (.sh p))) else none
theorem bc {i:Nat}:GS K (z8 i) (aA i):=by
 intro H0 Z0 σ H ρ pd v p ρ' Q s h k
 unfold aA at h
 split at h
 . rename_i hl; cases h; exact k _ (s.store hl)
 . cases h
noncomputable def fu:Bk:=fun ps ρ=>match ps with
 | []=>some ρ
 | _=>none
noncomputable def aZ (b:BF) (bs:Bk):Bk:=fun ps ρ=>match ps with
 | p::r=>(b p ρ).bind fun ρ1=>bs r ρ1
 | []=>none
theorem oW:Nm K QK fu:=by
 intro H0 Z0 σ H ρ pd vs ps ρ' Q e s h k
 cases ps with
 | nil=>
  cases h
  have:vs=[]:=List.eq_nil_of_length_eq_zero (by simpa using e)
  subst this
  exact ⟨rfl,k σ s⟩
 | cons p r=>cases h
theorem fH {t:TG} {u:tB} {b:BF} {bs:Bk} (h1:GS K t b) (h2:Nm K u bs):Nm K (MN t u) (aZ b bs):=by
 intro H0 Z0 σ H ρ pd vs ps ρ' Q e s h k
 cases ps with
 | nil=>cases h
 | cons p r=>
  cases vs with
  | nil=>simp at e
  | cons v ws=>
   obtain ⟨ρ1,e1,e2⟩:=bind_some h
   refine ⟨v,ws,rfl,h1 H0 Z0 σ H ρ _ v p ρ1 _ s e1 fun σ' s'=>?_⟩
   exact h2 H0 Z0 σ' H ρ1 pd ws r ρ' Q (by simpa using e) s' e2 k
theorem Jj {Z:ZG} {L:Sl} (s:Slots K H0 Z H L):∀ {ps:List PV} {vs:List V},aH K Z ps vs->Slots K H0 Z H ((vs.zip (ps.map Lc.sh)).map (fun e=>(some e.1,some e.2))++L)
 | [],vs,h=>by have:=h.inv0; subst this; simpa using s
 | p::ps,vs,h=>by
  obtain ⟨v,r,rfl,h1,h2⟩:=h.inv
  exact (Jj s h2).consS h1
theorem SR.items {Z0 Z:ZG} {vs:List V} {ps:List PV} (e:σ.length=ρ.vs.length) (hg:ρ.mu.length=Z.g.length) (z:jB H0 Z0 Z H) (r:aH K Z ps vs) (s:Slots K H0 Z H (sl Z.g σ ρ pd)):SR K H0 Z0 σ H ρ (vs.zip (ps.map Lc.sh)++pd):=
 ⟨e,Z,hg,z,(Jj s r).perm Jh⟩
noncomputable def ug (f:EF) (b:BF):SF:=fun ρ=>(f ρ).bind fun x=>(b x.1.pv x.2).map Fl.nx
theorem Jk {tg e:Expr} {f:EF} {g:TG} {b:BF} {pos:Pos} (he:PE X e (tP X.K f)) (hg:PG X tg g) (hb:GS X.K g b) (hs:swapsWithSole [tg] e pos.line X.env=pure false:=by rfl) (hw:swappedStores [tg] e X.env=pure none:=by rfl)
 (h1:(assignEach [tg] X.env).map (·.2)=[assign tg X.env]:=by rfl):PS X (.Assign [tg] e pos) (dI X.K (ug f b)):=PS.imp (tO he hg hs hw h1) fun D σ H q=>by
 obtain ⟨H0,Z0,ρ,pd,fl,s,h,k⟩:=q
 obtain ⟨x,h1,h2⟩:=bind_some h
 obtain ⟨ρ',h3,rfl⟩:=map_some h2
 exact ⟨H0,Z0,ρ,pd,x.1,x.2,s,h1,fun v H1 s1=>hb H0 Z0 σ H1 x.2 pd v _ ρ' D.nx s1.freeze h3 fun σ' s'=>k σ' H1 s'⟩
noncomputable def V1 (i j:Nat) (a:AF):SF:=fun ρ=>(a ρ).bind fun y=>match y.1 with
 | [l,m]=>if i<y.2.vs.length/\j<y.2.vs.length then some (.nx ((y.2.set i (some l)).set j (some m))) else none
 | _=>none
noncomputable def kj (K:FG) (H0:Hp) (Z0:ZG) (pd:Pd) (J:It) (xs:List PV):Prop:=∀ σ H ρ (i:Nat),SR K H0 Z0 σ H ρ pd->
 (∀ x,xs[i]?=some x->J.go i H/\∀ v H',J.yld i H v H'->SR K H0 Z0 σ H' ρ ((v,.sh x)::pd))/\(i=xs.length->J.stop i H)
noncomputable abbrev IF:=Ev->Option (List PV×Ev)
noncomputable def wK (K:FG) (f:IF):TI:=fun σ H R=>∃ H0 Z0 ρ pd xs ρ',SR K H0 Z0 σ H ρ pd/\f ρ=some (xs,ρ')/\∀ J H' pd',SR K H0 Z0 σ H' ρ' pd'->kj K H0 Z0 pd' J xs->List.Sublist pd pd'->R J H'
theorem PI.imp {tg iter:Expr} {t t':TI} (h:PI X tg iter t) (i:∀ σ H R,t' σ H R->t σ H R):PI X tg iter t':=fun pins s σ H R I q=>h pins s σ H R I (i σ H R q)
noncomputable def dB (f:EF) (g:PV->Option (List PV)):IF:=fun ρ=>(f ρ).bind fun x=>(g x.1.pv).map fun xs=>(xs,x.2)
theorem Jl {H0:Hp} {a:Addr} {ps:List PV}:kj K H0 Z0 ((.ref a,.sh (.lst ps))::pd) (MP K a) ps:=by
 intro σ H ρ i s
 obtain ⟨Z,z,r⟩:=s.rep
 unfold Rep at r
 obtain ⟨b,vs,e,h1,h2⟩:=r
 cases e
 have hq:=bQ.same z h1
 refine ⟨fun x hx=>?_,fun hl=>⟨vs,hq,by rw [h2.length]; omega⟩⟩
 obtain ⟨v,hv,rv⟩:=h2.get hx
 refine ⟨⟨vs,v,hq,hv⟩,fun v' H' y=>?_⟩
 obtain ⟨e',y⟩:=y
 subst e'
 have:=y vs hq
 rw [hv] at this; cases this
 refine s.part fun Z' z' r'=>?_
 unfold Rep at r'
 obtain ⟨b',vs',e',h1',h2'⟩:=r'
 cases e'
 have:vs'[i]?=some v:=y vs' (bQ.same z' h1')
 obtain ⟨p',hp',rp'⟩:=h2'.getV this
 rw [hx] at hp'; cases hp'
 exact rp'
theorem Lk {H0:Hp} {a:Addr} {ps:List PV}:kj K H0 Z0 ((.ref a,.sh (.tup ps))::pd) (MT K a) ps:=by
 intro σ H ρ i s
 obtain ⟨Z,z,r⟩:=s.rep
 unfold Rep at r
 obtain ⟨b,vs,e,h1,h2⟩:=r
 cases e
 have hq:=cG.same z h1
 refine ⟨fun x hx=>?_,fun hl=>⟨vs,hq,by rw [h2.length]; omega⟩⟩
 obtain ⟨v,hv,rv⟩:=h2.get hx
 refine ⟨⟨vs,v,hq,hv⟩,fun v' H' y=>?_⟩
 obtain ⟨e',y⟩:=y
 subst e'
 have:=y vs hq
 rw [hv] at this; cases this
 refine s.part fun Z' z' r'=>?_
 unfold Rep at r'
 obtain ⟨b',vs',e',h1',h2'⟩:=r'
 cases e'
 have:vs'[i]?=some v:=y vs' (cG.same z' h1')
 obtain ⟨p',hp',rp'⟩:=h2'.getV this
 rw [hx] at hp'; cases hp'
 exact rp'
noncomputable def gm (lo:Int) (n:Nat):List PV:=(List.range n).map fun i=>.int (lo+(i:Nat))
noncomputable def iG (a:AF):IF:=fun ρ=>(a ρ).bind fun y=>match y.1.map Lc.pv with
 | [.int j]=>if -(2 ^ 62)<=j/\j<2 ^ 62 then some (gm 0 j.toNat,y.2) else none
 | _=>none
noncomputable def uQ (a:AF):IF:=fun ρ=>(a ρ).bind fun y=>match y.1.map Lc.pv with
 | [.int i,.int j]=>if -(2 ^ 62)<=i/\i<2 ^ 62/\-(2 ^ 62)<=j/\j<2 ^ 62 then some (gm i (j-i).toNat,y.2) else none
 | _=>none
theorem Bl {H0:Hp} {lo:Int} {n:Nat}:kj K H0 Z0 pd (HQ lo n) (gm lo n):=by
 intro σ H ρ i s
 refine ⟨fun x hx=>?_,fun hl=>?_⟩
 . have hi:i<n:=by
    have:=(List.getElem?_eq_some_iff.mp hx).1
    simpa [gm] using this
   refine ⟨hi,fun v H' y=>?_⟩
   obtain ⟨rfl,rfl⟩:=y
   unfold gm at hx
   rw [List.getElem?_map,List.getElem?_range hi] at hx
   cases hx
   exact s.scal dD
 . show n<=i
   simp [gm] at hl
   omega
theorem SR.ints {vs:List V} {ls:List Lc} {ns:List Int} (s:SR K H0 Z0 σ H ρ (vs.zip ls++pd)) (e:vs.length=ls.length) (h:ls.map Lc.pv=ns.map PV.int):vs=ns.map V.int/\SR K H0 Z0 σ H ρ pd:=by
 obtain ⟨el,Z,hg,z,r,sl'⟩:=s.repl e
 refine ⟨?_,el,Z,hg,z,sl'⟩
 rw [h] at r
 clear h e s sl'
 induction ns generalizing vs with
 | nil=>exact r.inv0
 | cons n ns ih=>
  obtain ⟨v,w,rfl,h1,h2⟩:=r.inv
  rw [bz h1,ih h2]
  rfl
theorem pX {tg a:Expr} {f:AF} {p pos:Pos} (hg:Gl X "range") (hm:X.mg "range" = none) (ha:PA X [a] (jC X.K f)) (hs:starEach [a] X.env=[(false,eval a X.env)]:=by rfl):PI X tg (.Call (.Name "range" p) [a] [] pos) (wK X.K (iG f)):=PI.imp (HS hg hm ha hs) fun σ H R q=>by
 obtain ⟨H0,Z0,ρ,pd,xs,ρ',s,h,k⟩:=q
 obtain ⟨y,h1,h2⟩:=bind_some h
 refine ⟨H0,Z0,ρ,pd,y.1,y.2,s,h1,fun vs H1 e1 s1=>?_⟩
 split at h2
 . rename_i j e
   split at h2
   . rename_i hj
     cases h2
     obtain ⟨rfl,s2⟩:=s1.ints (ns:=[j]) e1 e
     exact ⟨j,rfl,hj.1,hj.2,k _ _ _ s2 Bl (List.Sublist.refl _)⟩
   . cases h2
 . cases h2
theorem Jm {tg a b:Expr} {f:AF} {p pos:Pos} (hi:PI X tg (.Call (.Name "range" p) [a,b] [] pos) (M3 (jC X.K f))):PI X tg (.Call (.Name "range" p) [a,b] [] pos) (wK X.K (uQ f)):=PI.imp hi fun σ H R q=>by
 obtain ⟨H0,Z0,ρ,pd,xs,ρ',s,h,k⟩:=q
 obtain ⟨y,h1,h2⟩:=bind_some h
 refine ⟨H0,Z0,ρ,pd,y.1,y.2,s,h1,fun vs H1 e1 s1=>?_⟩
 split at h2
 . rename_i i j e
   split at h2
   . rename_i hj
     cases h2
     obtain ⟨rfl,s2⟩:=s1.ints (ns:=[i,j]) e1 e
     exact ⟨i,j,rfl,hj,k _ _ _ s2 Bl (List.Sublist.refl _)⟩
   . cases h2
 . cases h2
noncomputable def dU (b:BF) (body:SF):List PV->SF
 | [],ρ=>some (.nx ρ)
 | x::xs,ρ=>(b x ρ).bind fun ρ1=>(body ρ1).bind fun fl=>match fl with
  | .nx ρ'=>dU b body xs ρ'
  | .ct ρ'=>dU b body xs ρ'
  | .bk ρ'=>some (.nx ρ')
  | .rt r ρ'=>some (.rt r ρ')
noncomputable def jh (f:IF) (b:BF) (body:SF):SF:=fun ρ=>(f ρ).bind fun y=>dU b body y.1 y.2
theorem qu {P:Prop} (h:∀ G:Prop,(P->G)->G):P:=h P id
noncomputable def FW (K:FG) (H0:Hp) (Z0:ZG) (pd:Pd) (b:BF) (fb:SF) (xs:List PV) (fl:Fl) (i m:Nat) (σ:L2.St) (H:Hp):Prop:=m=xs.length-i/\i<=xs.length/\∃ ρ,SR K H0 Z0 σ H ρ pd/\dU b fb (xs.drop i) ρ=some fl
theorem vJ {g:TG} {b:BF} {fb:SF} (hb:GS K g b) {J:It} {xs:List PV} {fl:Fl} {D:Ends} (it:kj K H0 Z0 pd J xs) (k:lW K H0 Z0 pd D fl) (s:SR K H0 Z0 σ H ρ pd) (h:dU b fb xs ρ=some fl):
 ∃ W:Nat->Nat->L2.St->Hp->Prop,(∃ m,W 0 m σ H)/\∀ i m σ H,W i m σ H->
  (J.stop i H/\D.nx σ H)\/(J.go i H/\∃ N:L2.St->Hp->Prop,(∀ σ' H',N σ' H'->∃ m',m'<m/\W (i+1) m' σ' H')/\∀ x H',J.yld i H x H'->g x σ H' fun σ2 H2=>dI K fb { D with nx:=N,ct:=N,bk:=D.nx } σ2 H2):=by
 refine ⟨FW K H0 Z0 pd b fb xs fl,⟨_,rfl,Nat.zero_le _,ρ,s,h⟩,fun i m σ' H' w=>?_⟩
 refine qu fun G kG=>?_
 obtain ⟨rfl,hi,ρ',s',h'⟩:=w
 obtain ⟨i1,i2⟩:=it σ' H' ρ' i s'
 by_cases hlt:i<xs.length
 . obtain ⟨go,yl⟩:=i1 _ (List.getElem?_eq_getElem hlt)
   rw [List.drop_eq_getElem_cons hlt] at h'
   obtain ⟨ρ1,e1,e2⟩:=bind_some h'
   obtain ⟨fl1,e3,e4⟩:=bind_some e2
   refine kG (.inr ⟨go,fun σ'' H''=>FW K H0 Z0 pd b fb xs fl (i+1) (xs.length-(i+1)) σ'' H'',fun σ'' H'' w=>⟨_,by omega,w⟩,fun x H2 hy=>hb H0 Z0 σ' H2 ρ' pd x _ ρ1 _ (yl x H2 hy) e1 fun σ2 s2=>⟨H0,Z0,ρ1,pd,fl1,s2,e3,?_⟩⟩)
   cases fl1 with
   | nx ρ2=>exact fun σ3 H3 s3=>⟨rfl,hlt,ρ2,s3,e4⟩
   | ct ρ2=>exact fun σ3 H3 s3=>⟨rfl,hlt,ρ2,s3,e4⟩
   | bk ρ2=>cases e4; exact k
   | rt r ρ2=>cases e4; exact k
 . have e:i=xs.length:=Nat.le_antisymm hi (Nat.le_of_not_lt hlt)
   subst e
   rw [List.drop_length] at h'
   cases h'
   exact kG (.inl ⟨i2 rfl,k σ' H' s'⟩)
theorem lW.imp {H0:Hp} {Z0 Z₁:ZG} {pd pd':Pd} {D:Ends} {fl:Fl} (k:lW K H0 Z0 pd D fl) (w:∀ {τ:L2.St} {J:Hp} {q:Ev},SR K H0 Z₁ τ J q pd'->SR K H0 Z0 τ J q pd) (w':∀ {τ:L2.St} {J:Hp} {q:Ev} {e:V×Lc},SR K H0 Z₁ τ J q (e::pd')->SR K H0 Z0 τ J q (e::pd)):lW K H0 Z₁ pd' D fl:=by
 cases fl with
 | rt r ρ=>exact fun v σ H s=>k v σ H (w' s)
 | _=>exact fun σ H s=>k σ H (w s)
theorem mU {tg iter:Expr} {body:List Stmt} {f:IF} {g:TG} {b:BF} {fb:SF} {pos:Pos} (hp:PassesOwn (model X.prog X.w) X.A X.env X.xe) (hc:X.calm=true) (hi:PI X tg iter (wK X.K f)) (hg:PG X tg g) (hb':GS X.K g b) (hb:dg X body (dI X.K fb))
 (hs:∀ x,foldedSetIterable iter X.env x=pure x:=by intro _; rfl):PS X (.For tg iter body [] pos) (dI X.K (jh f b fb)):=PS.imp (wj hp hc hi hg hb hs) fun D σ H q=>by
 refine qu fun G kG=>?_
 obtain ⟨H0,Z0,ρ,pd,fl,s,h,k⟩:=q
 obtain ⟨y,h1,h2⟩:=bind_some h
 exact kG ⟨H0,Z0,ρ,pd,y.1,y.2,s,h1,fun J H1 pd' s1 it sub=>vJ hb' it (k.imp (fun s=>s.sub sub) fun s=>s.sub (sub.cons_cons _)) s1 h2⟩
noncomputable def jY (c:TF) (body:SF):Nat->SF
 | 0,_=>none
 | n+1,ρ=>(c ρ).bind fun x=>if x.1=true then (body x.2).bind fun fl=>match fl with
  | .nx ρ'=>jY c body n ρ'
  | .ct ρ'=>jY c body n ρ'
  | .bk ρ'=>some (.nx ρ')
  | .rt r ρ'=>some (.rt r ρ') else some (.nx x.2)
noncomputable def wM (n:Nat) (c:TF) (body:SF):SF:=jY c body n
theorem vK (n:Nat) {c:Expr} {body:List Stmt} {fc:TF} {fb:SF} {pos:Pos} (hp:PassesOwn (model X.prog X.w) X.A X.env X.xe) (hc:PT X c (eZ X.K fc)) (hb:dg X body (dI X.K fb)):PS X (.While c body [] pos) (dI X.K (wM n fc fb)):=PS.imp (Kp hp hc hb) fun D σ H q=>by
 obtain ⟨H0,Z0,ρ,pd,fl,s,h,k⟩:=q
 refine ⟨fun m σ' H'=>∃ ρ',SR X.K H0 Z0 σ' H' ρ' pd/\jY fc fb m ρ'=some fl,⟨n,ρ,s,h⟩,?_⟩
 rintro m σ' H' ⟨ρ',s',h'⟩
 cases m with
 | zero=>cases h'
 | succ m=>
  obtain ⟨x,e1,e2⟩:=bind_some h'
  refine ⟨H0,Z0,ρ',pd,x.1,x.2,s',e1,fun H1 s1=>?_⟩
  dsimp only
  split
  . rename_i hx
    rw [if_pos hx] at e2
    obtain ⟨fl1,e3,e4⟩:=bind_some e2
    refine ⟨fun σ'' H''=>∃ ρ'',SR X.K H0 Z0 σ'' H'' ρ'' pd/\jY fc fb m ρ''=some fl,fun σ'' H'' q=>⟨m,Nat.lt_succ_self _,q⟩,H0,Z0,x.2,pd,fl1,s1,e3,?_⟩
    cases fl1 with
    | nx ρ2=>exact fun σ3 H3 s3=>⟨ρ2,s3,e4⟩
    | ct ρ2=>exact fun σ3 H3 s3=>⟨ρ2,s3,e4⟩
    | bk ρ2=>cases e4; exact fun σ3 H3 s3=>k σ3 H3 s3
    | rt r ρ2=>cases e4; exact fun v σ3 H3 s3=>k v σ3 H3 s3
  . rename_i hx
    rw [if_neg hx] at e2
    cases e2
    exact k σ' H1 s1
end
section
variable {K:FG} {H0 H H':Hp} {Z0 Z:ZG} {σ:L2.St} {ρ:Ev} {pd pe:Pd} {v w:V} {l:Lc} {p:PV} {g:List Addr}
noncomputable def Ev.app (ρ:Ev) (pe:Pd):Ev:=⟨ρ.vs++pe.map (fun x=>some x.2),ρ.mu⟩
theorem Bm (e:σ.length=ρ.vs.length):sl g (σ++pe.map fun x=>some x.1) (ρ.app pe) pd=sl g σ ρ (pe++pd):=by
 unfold sl Ev.app
 rw [List.zip_append e,List.map_append,List.append_assoc]
 congr 3
 induction pe with
 | nil=>rfl
 | cons a r ih=>simp [ih]
theorem SR.shift (h:SR K H0 Z0 σ H ρ (pe++pd)):SR K H0 Z0 (σ++pe.map fun x=>some x.1) H (ρ.app pe) pd:=by
 obtain ⟨e,Z,hg,z,s⟩:=h
 refine ⟨by simp [Ev.app,e],Z,hg,z,?_⟩
 rw [Bm e]
 exact s
theorem SR.unshift (e:σ.length=ρ.vs.length) (h:SR K H0 Z0 (σ++pe.map fun x=>some x.1) H (ρ.app pe) pd):SR K H0 Z0 σ H ρ (pe++pd):=by
 obtain ⟨_,Z,hg,z,s⟩:=h
 refine ⟨e,Z,hg,z,?_⟩
 rw [Bm e] at s
 exact s
theorem kj.more {J:It} {xs:List PV} (h:kj K H0 Z0 pd J xs):kj K H0 Z0 (pe++pd) J xs:=by
 intro σ H ρ i s
 obtain ⟨h1,h2⟩:=h _ H _ i s.shift
 refine ⟨fun x hx=>?_,h2⟩
 obtain ⟨g,y⟩:=h1 x hx
 refine ⟨g,fun v H' q=>?_⟩
 have s':=y v H' q
 have e:σ.length=ρ.vs.length:=s.1
 have s2:SR K H0 Z0 (σ++pe.map fun x=>some x.1) H' (ρ.app pe) ((v,.sh x)::pd):=s'
 exact (SR.unshift e s2).perm (pd':=(v,.sh x)::(pe++pd)) List.perm_middle.symm
noncomputable def m9 (σ:L2.St) (ρ:Ev):Pd:=(σ.zip ρ.vs).filterMap fun e=>match e with
 | (some v,some l)=>some (v,l)
 | _=>none
theorem rQ:∀ {L:Sl},(∀ e∈L,e.2=none\/∃ v l,e=(some v,some l))->∀ {T:Sl},
 (Slots K H0 Z H (L++T) ↔ Slots K H0 Z H ((L.filterMap fun e=>match e with | (some v,some l)=>some (v,l) | _=>none).map (fun e=>((some e.1:Option V),(some e.2:Option Lc)))++T))
 | [],_,T=>by simp
 | (v,l)::L,h,T=>by
  have h':∀ e∈L,e.2=none\/∃ v l,e=(some v,some l):=fun e he=>h e (List.mem_cons_of_mem _ he)
  rcases h (v,l) List.mem_cons_self with e | ⟨v',l',e⟩
  . have e':l=none:=e
    subst e'
    have e1:((v,(none:Option Lc))::L).filterMap (fun e=>match e with | (some v,some l)=>some (v,l) | _=>none)=L.filterMap (fun e=>match e with | (some v,some l)=>some (v,l) | _=>none):=by
     rw [List.filterMap_cons_none]
     cases v<;>rfl
    rw [e1,← rQ h' (T:=T)]
    have o1:jA (v,none)=none:=by
     cases v with
     | none=>rfl
     | some x=>cases x<;>rfl
    constructor
    . exact fun s=>s.sub (List.sublist_cons_self _ _)
    . intro s
      refine ⟨fun e he=>?_,?_⟩
      . rcases List.mem_cons.mp he with rfl | he
        . trivial
        . exact s.1 e he
      . rw [List.cons_append,List.filterMap_cons_none o1]
        exact s.2
  . cases e
    have e1:((some v',some l')::L).filterMap (fun e=>match e with | (some v,some l)=>some (v,l) | _=>none)=(v',l')::L.filterMap (fun e=>match e with | (some v,some l)=>some (v,l) | _=>none):=by
     rfl
    rw [e1]
    have ih1:=rQ h' (T:=T++[(some v',some l')])
    have perm1:∀ A:Sl,List.Perm ((some v',some l')::(A++T)) (A++(T++[(some v',some l')])):=fun A=>by
     rw [← List.append_assoc]
     exact (List.perm_append_singleton _ _).symm
    constructor
    . intro s
      exact (ih1.mp (s.perm (perm1 L).symm)).perm (perm1 _)
    . intro s
      exact (ih1.mpr (s.perm (perm1 _).symm)).perm (perm1 L)
theorem SR.both (s:SR K H0 Z0 σ H ρ pd):∀ e∈σ.zip ρ.vs,e.2=none\/∃ v l,e=(some v,some l):=by
 obtain ⟨_,Z,_,z,s⟩:=s
 intro e he
 have q:=s.1 e (List.mem_append_right _ (List.mem_append_left _ he))
 obtain ⟨v,l⟩:=e
 cases l with
 | none=>exact .inl rfl
 | some l=>
  cases l with
  | sh p=>obtain ⟨x,e1,_⟩:=q; have e1':v=some x:=e1; subst e1'; exact .inr ⟨_,_,rfl⟩
  | own p=>obtain ⟨x,e1,_⟩:=q; have e1':v=some (.ref x):=e1; subst e1'; exact .inr ⟨_,_,rfl⟩
theorem za (hb:∀ e∈σ.zip ρ.vs,e.2=none\/∃ v l,e=(some v,some l)):Slots K H0 Z H (sl g σ ρ pd) ↔ Slots K H0 Z H (cel g ρ.mu++(m9 σ ρ++pd).map fun e=>(some e.1,some e.2)):=by
 have h1:=rQ (K:=K) (H0:=H0) (Z:=Z) (H:=H) hb (T:=(pd.map fun e=>(some e.1,some e.2))++cel g ρ.mu)
 have c1:List.Perm (sl g σ ρ pd) (σ.zip ρ.vs++((pd.map fun e=>(some e.1,some e.2))++cel g ρ.mu)):=by
  unfold sl
  rw [← List.append_assoc (σ.zip ρ.vs)]
  exact List.perm_append_comm
 have c2:List.Perm (cel g ρ.mu++(m9 σ ρ++pd).map fun e=>((some e.1:Option V),(some e.2:Option Lc))) ((m9 σ ρ).map (fun e=>(some e.1,some e.2))++((pd.map fun e=>(some e.1,some e.2))++cel g ρ.mu)):=by
  rw [List.map_append,← List.append_assoc ((m9 σ ρ).map _)]
  exact List.perm_append_comm
 exact ⟨fun s=>(h1.mp (s.perm c1.symm)).perm c2,fun s=>(h1.mpr (s.perm c2.symm)).perm c1⟩
theorem SR.back {σ':L2.St} {ρ':Ev} (el:σ.length=ρ.vs.length) (hb:∀ e∈σ.zip ρ.vs,e.2=none\/∃ v l,e=(some v,some l)) (s:SR K H0 Z0 σ' H ρ' (m9 σ ρ++pd)):SR K H0 Z0 σ H ⟨ρ.vs,ρ'.mu⟩ pd:=by
 obtain ⟨_,Z,hg,z,s⟩:=s
 refine ⟨el,Z,hg,z,(za (ρ:=⟨ρ.vs,ρ'.mu⟩) hb).mpr ?_⟩
 exact s.sub ((List.Sublist.refl _).append (List.sublist_append_right _ _))
noncomputable def iz (ixs:List Nat) (ρ:Ev):Ev:=ixs.foldl (fun ρ i=>match ρ.vs[i]? with
 | some (some l)=>ρ.set i (some (.sh l.pv))
 | _=>ρ) ρ
theorem SR.frz:∀ {ixs:List Nat} {ρ:Ev},SR K H0 Z0 σ H ρ pd->SR K H0 Z0 σ H (iz ixs ρ) pd
 | [],ρ,s=>s
 | i::r,ρ,s=>by
  unfold iz
  rw [List.foldl_cons]
  refine SR.frz (ixs:=r) ?_
  split
  . rename_i l e
    obtain ⟨v,_,h2⟩:=s.var e
    exact h2.pop
  . exact s
noncomputable def vL:Option Lc->Bool
 | some (.own _)=>false
 | _=>true
theorem Bo {j:Nat}:∀ {ixs:List Nat} {ρ:Ev},vL (ρ.vs[j]?).join=true->vL ((iz ixs ρ).vs[j]?).join=true
 | [],ρ,h=>h
 | i::r,ρ,h=>by
  unfold iz
  rw [List.foldl_cons]
  refine Bo (ixs:=r) ?_
  split
  . rename_i l e
    by_cases hij:i=j
    . subst hij
      have hi:=(List.getElem?_eq_some_iff.mp e).1
      show vL ((ρ.vs.set i _)[i]?).join=true
      rw [List.getElem?_set_self hi]
      rfl
    . show vL ((ρ.vs.set i _)[j]?).join=true
      rw [List.getElem?_set_ne hij]; exact h
  . exact h
theorem Jo {j:Nat}:∀ {ixs:List Nat} {ρ:Ev},j∈ixs->vL ((iz ixs ρ).vs[j]?).join=true
 | [],ρ,h=>by cases h
 | i::r,ρ,h=>by
  unfold iz
  rw [List.foldl_cons]
  rcases List.mem_cons.mp h with e | h
  . subst e
    refine Bo (ixs:=r) ?_
    split
    . rename_i l e
      have hi:=(List.getElem?_eq_some_iff.mp e).1
      show vL ((ρ.vs.set j _)[j]?).join=true
      rw [List.getElem?_set_self hi]
      rfl
    . rename_i hn
      cases q:ρ.vs[j]? with
      | none=>rfl
      | some o=>
       cases o with
       | none=>rfl
       | some l=>exact (hn l q).elim
  . exact Jo h
noncomputable def oX (m:Nat) (ixs:List Nat) (ρ:Ev):Ev:=⟨List.replicate m none++ixs.map fun i=>(ρ.vs[i]?).join,ρ.mu⟩
theorem SR.block {m:Nat} {ixs:List Nat} (s:SR K H0 Z0 σ H ρ pd) (hs:∀ j∈ixs,vL (ρ.vs[j]?).join=true):SR K H0 Z0 (t6 m ixs σ) H (oX m ixs ρ) (m9 σ ρ++pd):=by
 have hb:=s.both
 obtain ⟨el,Z,hg,z,so⟩:=s
 refine ⟨by simp [t6,oX],Z,hg,z,?_⟩
 have s3:=(za hb).mp so
 have fin:Slots K H0 Z H ((ixs.map fun i=>(σ[i]?).join).zip (ixs.map fun i=>(ρ.vs[i]?).join)++(cel Z.g ρ.mu++(m9 σ ρ++pd).map fun e=>(some e.1,some e.2)))->Slots K H0 Z H (sl Z.g (t6 m ixs σ) (oX m ixs ρ) (m9 σ ρ++pd)):=fun h=>by
  unfold sl t6 oX
  rw [List.zip_append (by simp),List.append_assoc]
  refine (nones h m).perm ?_
  exact (Ac _ _ _).trans ((Ac _ _ _).append_left _)
 refine fin ?_
 clear fin
 induction ixs with
 | nil=>simpa using s3
 | cons i r ih=>
  have ih':=ih fun j hj=>hs j (List.mem_cons_of_mem _ hj)
  rw [List.map_cons,List.map_cons,List.zip_cons_cons,List.cons_append]
  have h1:=hs i List.mem_cons_self
  cases q:ρ.vs[i]? with
  | none=>
   refine ⟨fun e he=>?_,?_⟩
   . rcases List.mem_cons.mp he with rfl | he
     . trivial
     . exact ih'.1 e he
   . rw [List.filterMap_cons_none]
     . exact ih'.2
     . cases (σ[i]?).join with
       | none=>rfl
       | some x=>cases x<;>rfl
  | some o=>
   cases o with
   | none=>
    refine ⟨fun e he=>?_,?_⟩
    . rcases List.mem_cons.mp he with rfl | he
      . trivial
      . exact ih'.1 e he
    . rw [List.filterMap_cons_none]
      . exact ih'.2
      . cases (σ[i]?).join with
        | none=>rfl
        | some x=>cases x<;>rfl
   | some l=>
    rw [q] at h1
    cases l with
    | own p=>cases h1
    | sh p=>
     have hi:i<σ.length:=by rw [el]; exact (List.getElem?_eq_some_iff.mp q).1
     have hσ:σ[i]?=some σ[i]:=List.getElem?_eq_getElem hi
     have hm:=List.mem_of_getElem? (zip_get hσ q)
     obtain ⟨x,e1,e2⟩:=so.1 _ (List.mem_append_right _ (List.mem_append_left _ hm))
     have e1':σ[i]=some x:=e1
     have ej:(σ[i]?).join=some x:=by rw [hσ,e1']; rfl
     rw [ej]
     exact ih'.consS e2
end
theorem SR.pushO {v:V} {l:Lc} {a:Addr} {ws:List PV} (s:SR K H0 Z0 σ H ρ ((v,l)::(.ref a,.own (.lst ws))::pd)):
 ∃ us,H a=some (.lst us)/\us.length=ws.length/\SR K H0 Z0 σ (upd H a (.lst (us++[v]))) ρ ((.ref a,.own (.lst (ws++[l.pv])))::pd):=by
 obtain ⟨el,Z,hg,z,r,so⟩:=s.freeze.sh
 have so2:=so.perm cF.symm
 obtain ⟨b,eb,⟨us,hu,hr⟩,_⟩:=so2.1 _ List.mem_cons_self
 cases eb
 refine ⟨us,hu,hr.length,?_⟩
 obtain ⟨z',s'⟩:=so2.write (o:=.lst (us++[v])) (q:=.lst (ws++[l.pv])) z ⟨us++[v],bh,hr.append (aH.cons r .nil)⟩
 exact .mk el hg z' s'
noncomputable def gP (b:BF) (tc:TF) (te:EF):List PV->Ev->List PV->Option (List PV×Mu)
 | [],ρ,acc=>some (acc,ρ.mu)
 | x::xs,ρ,acc=>(b x ρ).bind fun ρ1=>(tc ρ1).bind fun c=>if c.1=true then (te c.2).bind fun v=>if acc.length<100000 then gP b tc te xs v.2 (acc++[v.1.pv]) else none else gP b tc te xs c.2 acc
noncomputable def bO (f:IF) (m:Nat) (ixs:List Nat) (b:BF) (tc:TF) (te:EF):EF:=fun ρ=>(f ρ).bind fun y=>(gP b tc te y.1 (oX m ixs (iz ixs y.2)) []).map fun ys=>(.own (.lst ys.1),⟨(iz ixs y.2).vs,ys.2⟩)
noncomputable def CW (K:FG) (H0:Hp) (Z0:ZG) (b:BF) (tc:TF) (te:EF) (p:Addr) (PD:Pd) (xs:List PV) (zs:List PV×Mu) (i n:Nat) (σ':L2.St) (H':Hp):Prop:=
 n=xs.length-i/\i<=xs.length/\∃ ρi ws,SR K H0 Z0 σ' H' ρi ((.ref p,.own (.lst ws))::PD)/\gP b tc te (xs.drop i) ρi ws=some zs
theorem Jp {g:TG} {b:BF} {tc:TF} {te:EF} (hb:GS K g b) {H0:Hp} {p:Addr} {PD:Pd} {J:It} {xs:List PV} {zs:List PV×Mu} {Q:VK}
 (it:∀ ws,kj K H0 Z0 ((.ref p,.own (.lst ws))::PD) J xs) (fin:∀ σ' H' ρi ws,SR K H0 Z0 σ' H' ρi ((.ref p,.own (.lst ws))::PD)->gP b tc te [] ρi ws=some zs->Q (.ref p) H') (i n:Nat) (σ':L2.St) (H':Hp) (w:CW K H0 Z0 b tc te p PD xs zs i n σ' H'):
 (J.stop i H'/\Q (.ref p) H')\/(J.go i H'/\∀ x H2,J.yld i H' x H2->g x σ' H2 fun σ3 H3=>eZ K tc σ3 H3 fun b' H4=>
   if b'=true then tP K te σ3 H4 fun v H5=>∃ ys,H5 p=some (.lst ys)/\ys.length<sizeLine/\∃ n',n'<n/\CW K H0 Z0 b tc te p PD xs zs (i+1) n' σ3 (upd H5 p (.lst (ys++[v])))
   else ∃ n',n'<n/\CW K H0 Z0 b tc te p PD xs zs (i+1) n' σ3 H4):=by
 refine qu fun G kG=>?_
 obtain ⟨rfl,hi,ρi,ws,s',h'⟩:=w
 obtain ⟨i1,i2⟩:=it ws σ' H' ρi i s'
 by_cases hlt:i<xs.length
 . obtain ⟨go,yl⟩:=i1 _ (List.getElem?_eq_getElem hlt)
   rw [List.drop_eq_getElem_cons hlt] at h'
   obtain ⟨ρ1,e1,e2⟩:=bind_some h'
   obtain ⟨c,e3,e4⟩:=bind_some e2
   have hn:xs.length-(i+1)<xs.length-i:=by omega
   refine kG (.inr ⟨go,fun x H2 hy=>hb H0 Z0 σ' H2 ρi _ x _ ρ1 _ (yl x H2 hy) e1 fun σ2 s5=>⟨H0,Z0,ρ1,_,c.1,c.2,s5,e3,fun H4 s6=>?_⟩⟩)
   dsimp only
   split
   . rename_i hc
     refine qu fun G kG=>?_
     rw [if_pos hc] at e4
     obtain ⟨v,e5,e6⟩:=bind_some e4
     split at e6
     . rename_i hz
       refine kG ⟨H0,Z0,c.2,_,v.1,v.2,s6,e5,fun vv H5 s7=>?_⟩
       refine qu fun G kG=>?_
       obtain ⟨us,hu,hl,s8⟩:=s7.pushO
       exact kG ⟨us,hu,by rw [hl,sizeLine_eq]; omega,_,hn,rfl,hlt,v.2,_,s8,e6⟩
     . cases e6
   . rename_i hc
     rw [if_neg hc] at e4
     exact ⟨_,hn,rfl,hlt,c.2,ws,s6,e4⟩
 . have e:i=xs.length:=Nat.le_antisymm hi (Nat.le_of_not_lt hlt)
   subst e
   rw [List.drop_length] at h'
   exact kG (.inl ⟨i2 rfl,fin _ _ _ _ s' h'⟩)
theorem Bp {f:IF} {m:Nat} {ixs:List Nat} {g:TG} {b:BF} {tc:TF} {te:EF} (hb:GS K g b):∀ σ H Q,tP K (bO f m ixs b tc te) σ H Q->Gk (wK K f) m ixs g (eZ K tc) (tP K te) σ H Q:=fun σ H Q q=>by
 refine qu fun G kG=>?_
 obtain ⟨H0,Z0,ρ,pd,r,ρ',s,h,k⟩:=q
 obtain ⟨y,h1,h2⟩:=bind_some h
 obtain ⟨zs,h3,h4⟩:=map_some h2
 cases h4
 refine kG ⟨H0,Z0,ρ,pd,y.1,y.2,s,h1,fun J H1 pd' s1 it sub p hp=>?_⟩
 have s2:SR K H0 Z0 σ H1 (iz ixs y.2) pd':=s1.frz
 have s3:=s2.block (m:=m) (ixs:=ixs) fun j hj=>Jo hj
 have s4:SR K H0 Z0 (t6 m ixs σ) (upd H1 p (.lst [])) (oX m ixs (iz ixs y.2)) ((.ref p,.own (.lst []))::(m9 σ (iz ixs y.2)++pd')):=s3.newO hp fun Z _ _=>⟨[],bh,.nil⟩
 refine ⟨CW K H0 Z0 b tc te p (m9 σ (iz ixs y.2)++pd') y.1 zs,⟨_,rfl,Nat.zero_le _,_,[],s4,h3⟩,Jp hb (fun ws=>kj.more (pe:=(.ref p,.own (.lst ws))::m9 σ (iz ixs y.2)) it) fun σ' H' ρi ws s' h'=>?_⟩
 cases h'
 have s5:SR K H0 Z0 σ' H' ρi (m9 σ (iz ixs y.2)++((.ref p,.own (.lst ws))::pd')):=s'.perm List.perm_middle
 exact k _ _ ((SR.back s2.1 s2.both s5).sub (sub.cons_cons _))
section
variable {X:Cx}
theorem nH (M F:List Str) (ixs:List Nat) {sc:Scope} {tg iter elt:Expr} {ifs:List Expr} {f:IF} {g:TG} {b:BF} {tc:TF} {te:EF} {pos:Pos} (hcalm:X.calm=true) (c:gh X M F ixs sc) (hi:PI X tg iter (wK X.K f))
 (hg:∀ C fp s H,PG (dN X M F sc C fp s H) tg g) (hb:GS X.K g b) (hc:∀ C fp s H,qt (dN X M F sc C fp s H) ifs (eZ X.K tc)) (he:∀ C fp s H,PE (dN X M F sc C fp s H) elt (tP X.K te))
 (hs:∀ x,foldedSetIterable iter X.env x=pure x:=by intro _; rfl):PE X (.ListComp elt [⟨tg,iter,ifs,0⟩] sc pos) (tP X.K (bO f M.length ixs b tc te)):=PE.imp (Oz M F ixs hcalm c hi hg hc he hs) (Bp hb)
theorem qT {i:Nat} (M F:List Str) (ixs:List Nat) {x:Str} {sc:Scope} {tg iter elt:Expr} {ifs:List Expr} {f:IF} {g:TG} {b:BF} {tc:TF} {te:EF} {pos pos' pos2:Pos} (hN:X.N.Nodup) (hix:X.N[i]?=some x) (hx:X.env.scope.names.lookup x=some .local)
 (hcalm:X.calm=true) (c:gh X M F ixs sc) (hi:PI X tg iter (wK X.K f))
 (hg:∀ C fp s H,PG (dN X M F sc C fp s H) tg g) (hb:GS X.K g b) (hc:∀ C fp s H,qt (dN X M F sc C fp s H) ifs (eZ X.K tc)) (he:∀ C fp s H,PE (dN X M F sc C fp s H) elt (tP X.K te))
 (hsw:swapsWith (.ListComp elt [⟨tg,iter,ifs,0⟩] sc pos) (some (.Name x pos')) pos2.line X.env=pure true:=by rfl)
 (hs:∀ x,foldedSetIterable iter X.env x=pure x:=by intro _; rfl):PS X (.Assign [.Name x pos'] (.ListComp elt [⟨tg,iter,ifs,0⟩] sc pos) pos2) (dI X.K (aK i (bO f M.length ixs b tc te))):=
 PS.imp (OD M F ixs hN hix hx hcalm c hi hg hc he hsw hs) (Du fun D σ H q=>Bp hb σ H _ q)
noncomputable def cV:TF:=fun ρ=>some (true,ρ)
theorem km:qt X [] (eZ X.K cV):=fun pins s σ H Q I q=>K5 pins s σ H Q I (by
 obtain ⟨H0,Z0,ρ,pd,b,ρ',s,h,k⟩:=q
 cases h
 exact k H s)
theorem kE {c:Expr} {f:TF} (h:PT X c (eZ X.K f)):qt X [c] (eZ X.K f):=K6 h
end
noncomputable def lH (f:PV->PV->Option Bool):List PV->List PV->Option Bool
 | p::ps,q::qs=>(f p q).bind fun b=>(lH f ps qs).map fun c=>b&&c
 | _,_=>some true
noncomputable def bA:Nat->PV->PV->Option Bool
 | 0,_,_=>none
 | n+1,p,q=>match p,q with
  | .tup ps,.tup qs=>(lH (bA n) ps qs).map fun b=>b&&(ps.length==qs.length)
  | .lst ps,.lst qs=>if ps.length=qs.length then lH (bA n) ps qs else some false
  | .non,.non=>some true
  | .bl a,.bl b=>some (a==b)
  | .int a,.int b=>some (a==b)
  | .str a,.str b=>some (a==b)
  | .bl a,.int b=>some ((if a then 1 else 0)==b)
  | .int a,.bl b=>some (a==(if b then 1 else 0))
  | .non,.bl _=>some false
  | .non,.int _=>some false
  | .non,.str _=>some false
  | .non,.tup _=>some false
  | .non,.lst _=>some false
  | .bl _,.non=>some false
  | .bl _,.str _=>some false
  | .bl _,.tup _=>some false
  | .bl _,.lst _=>some false
  | .int _,.non=>some false
  | .int _,.str _=>some false
  | .int _,.tup _=>some false
  | .int _,.lst _=>some false
  | .str _,.non=>some false
  | .str _,.bl _=>some false
  | .str _,.int _=>some false
  | .str _,.tup _=>some false
  | .str _,.lst _=>some false
  | .tup _,.non=>some false
  | .tup _,.bl _=>some false
  | .tup _,.int _=>some false
  | .tup _,.str _=>some false
  | .tup _,.lst _=>some false
  | .lst _,.non=>some false
  | .lst _,.bl _=>some false
  | .lst _,.int _=>some false
  | .lst _,.str _=>some false
  | .lst _,.tup _=>some false
  | _,_=>none
theorem uR {f:PV->PV->Option Bool}:∀ {ps qs:List PV} {b:Bool},lH f ps qs=some b->(∀ (j:Nat) p q,ps[j]?=some p->qs[j]?=some q->f p q=some ((f (ps.getD j .non) (qs.getD j .non)).getD false))/\
 b=(List.range (min ps.length qs.length)).all fun j=>(f (ps.getD j .non) (qs.getD j .non)).getD false
 | [],qs,b,h=>by
  cases h
  exact ⟨fun j p q e=>by simp at e,by simp⟩
 | p::ps,[],b,h=>by
  cases h
  exact ⟨fun j p q _ e=>by simp at e,by simp⟩
 | p::ps,q::qs,b,h=>by
  obtain ⟨c,h1,h2⟩:=bind_some h
  obtain ⟨d,h3,rfl⟩:=map_some h2
  obtain ⟨i1,i2⟩:=uR h3
  refine ⟨fun j p' q' e1 e2=>?_,?_⟩
  . cases j with
    | zero=>
     simp at e1 e2
     subst e1 e2
     simp [h1]
    | succ j=>
     have:=i1 j p' q' (by simpa using e1) (by simpa using e2)
     simpa using this
  . have e:min (p::ps).length (q::qs).length=min ps.length qs.length+1:=by simp only [List.length_cons]; omega
    rw [e,List.range_succ_eq_map,List.all_cons,List.all_map]
    have e0:(f ((p::ps).getD 0 .non) ((q::qs).getD 0 .non)).getD false=c:=by simp [h1]
    rw [e0,i2]
    rfl
theorem elts {Z:ZG} {ps:List PV} {vs:List V} {its:List Value} (r:aH K Z ps vs) (rv:Vals vs its) {j:Nat} (h:j<its.length):∃ p v,ps[j]?=some p/\Rep K Z p v/\RelV v its[j]:=by
 have hl:=rv.length
 have hv:vs[j]?=some vs[j]:=List.getElem?_eq_getElem (by omega)
 obtain ⟨u,e1,e2⟩:=rv.get hv
 rw [List.getElem?_eq_getElem h] at e1
 cases e1
 obtain ⟨p,e3,e4⟩:=r.getV hv
 exact ⟨p,vs[j],e3,e4,e2⟩
section
open PySem.SeqAt
variable {X:Cx} {pins:List (Addr×Obj)} {σ:L2.St} {H:Hp} {s:Shared} {g:List Addr}
theorem uh (I:Inv X pins σ H s) {ps:List PV} {v:V} {u:Value} (r:Rep X.K ⟨H,g⟩ (.tup ps) v) (ru:RelV v u):∃ a vs its,u=.ref a/\cG X.K H a vs/\aH X.K ⟨H,g⟩ ps vs/\Vals vs its/\s.heap.IsTuple a its.toArray:=by
 unfold Rep at r
 obtain ⟨a,vs,rfl,h1,h2⟩:=r
 obtain ⟨its,r1,t1,_⟩:=I.tuple h1
 exact ⟨a,vs,its,ru,h1,h2,r1,t1⟩
theorem oY (I:Inv X pins σ H s) {ps:List PV} {v:V} {u:Value} (r:Rep X.K ⟨H,g⟩ (.lst ps) v) (ru:RelV v u):∃ a vs its,u=.ref a/\bQ X.K H a vs/\aH X.K ⟨H,g⟩ ps vs/\Vals vs its/\s.heap.IsList a its.toArray:=by
 unfold Rep at r
 obtain ⟨a,vs,rfl,h1,h2⟩:=r
 obtain ⟨its,r1,t1,_⟩:=I.list h1
 exact ⟨a,vs,its,ru,h1,h2,r1,t1.isList⟩
noncomputable def kn:PV->Nat
 | .non=>0 | .bl _=>1 | .int _=>2 | .str _=>3 | .tup _=>4 | .lst _=>5 | _=>6
theorem Ux {p:PV} (h:kn p=4):∃ ps,p=.tup ps:=by cases p<;>first | exact ⟨_,rfl⟩ | cases h
theorem Uy {p:PV} (h:kn p=5):∃ ps,p=.lst ps:=by cases p<;>first | exact ⟨_,rfl⟩ | cases h
theorem wN {n:Nat} {p q:PV} {b:Bool} (h:bA (n+1) p q=some b):kn p<6:=by
 cases p<;>first | cases h; done | exact Nat.le.step (Nat.le.step (Nat.le.step (Nat.le.step (Nat.le.step .refl)))) | exact Nat.le.step (Nat.le.step (Nat.le.step (Nat.le.step .refl))) | exact Nat.le.step (Nat.le.step (Nat.le.step .refl)) | exact Nat.le.step (Nat.le.step .refl) | exact Nat.le.step .refl | exact Nat.le.refl
theorem Np {n:Nat} {p q:PV} {b:Bool} (h:bA (n+1) p q=some b):kn q<6:=by
 have no:bA (n+1) p q=none->kn q<6:=fun e=>absurd (h.symm.trans e) (Option.some_ne_none b)
 cases q with
 | dk _ _=>exact no (by cases p<;>rfl)
 | dt _ _=>exact no (by cases p<;>rfl)
 | obj _ _ _=>exact no (by cases p<;>rfl)
 | df _ _=>exact no (by cases p<;>rfl)
 | dtf _ _=>exact no (by cases p<;>rfl)
 | dx _ _ _=>exact no (by cases p<;>rfl)
 | exc _=>exact no (by cases p<;>rfl)
 | ptr _=>exact no (by cases p<;>rfl)
 | _=>first | exact Nat.le.step (Nat.le.step (Nat.le.step (Nat.le.step (Nat.le.step .refl)))) | exact Nat.le.step (Nat.le.step (Nat.le.step (Nat.le.step .refl))) | exact Nat.le.step (Nat.le.step (Nat.le.step .refl)) | exact Nat.le.step (Nat.le.step .refl) | exact Nat.le.step .refl | exact Nat.le.refl
noncomputable def back:V->Option PV
 | .non=>some .non | .bl b=>some (.bl b) | .int i=>some (.int i) | .str x=>some (.str x) | _=>none
inductive Sh (K:FG) (Z:ZG) (v:V):PV->Prop
 | at {p:PV}:back v=some p->Sh K Z v p
 | tup {a:Addr} {ps:List PV} {vs:List V}:v=.ref a->cG K Z.z a vs->aH K Z ps vs->Sh K Z v (.tup ps)
 | lst {a:Addr} {ps:List PV} {vs:List V}:v=.ref a->bQ K Z.z a vs->aH K Z ps vs->Sh K Z v (.lst ps)
theorem Ad {Z:ZG} {v:V} {p:PV} (r:Rep K Z p v) (h:kn p<6):Sh K Z v p:=by
 cases p with
 | non=>exact .at (congrArg back (ik r))
 | bl b=>exact .at (congrArg back (dY r))
 | int b=>exact .at (congrArg back (bz r))
 | str b=>exact .at (congrArg back (bW r))
 | tup ps=>unfold Rep at r; obtain ⟨a,vs,e,h1,h2⟩:=r; exact .tup e h1 h2
 | lst ps=>unfold Rep at r; obtain ⟨a,vs,e,h1,h2⟩:=r; exact .lst e h1 h2
 | _=>exact absurd h (Nat.lt_irrefl 6)
inductive Tw (K:FG) (Z:ZG):PV->PV->Prop
 | at {v:V} {p:PV}:back v=some p->Tw K Z p p
 | tup {ps qs:List PV} {vs:List V}:aH K Z ps vs->aH K Z qs vs->Tw K Z (.tup ps) (.tup qs)
 | lst {ps qs:List PV} {vs:List V}:aH K Z ps vs->aH K Z qs vs->Tw K Z (.lst ps) (.lst qs)
theorem Nq (I:Inv X pins σ H s) {a:Addr} {vs ws:List V} (h1:cG X.K H a vs) (h3:bQ X.K H a ws):False:=by
 obtain ⟨its,r1,⟨o1,n1,g1,c1,_⟩,_⟩:=I.list h3
 obtain ⟨its2,r2,⟨o2,g2,c2,_⟩,_⟩:=I.tuple h1
 rw [g1] at g2
 cases g2
 rw [c1] at c2
 exact absurd c2 (by decide)
theorem rR {v:V} {a:Addr} {p:PV} (e:v=.ref a) (h:back v=some p):False:=by subst e; cases h
theorem Sh.two (I:Inv X pins σ H s) {p q:PV} {v:V} (h1:Sh X.K ⟨H,g⟩ v p) (h2:Sh X.K ⟨H,g⟩ v q):Tw X.K ⟨H,g⟩ p q:=by
 cases h1 with
 | «at» e=>
  cases h2 with
  | «at» e'=>exact (Option.some.inj (e.symm.trans e'))▸.at e
  | tup e'=>exact (rR e' e).elim
  | lst e'=>exact (rR e' e).elim
 | tup e k1 k2=>
  cases h2 with
  | «at» e'=>exact (rR e e').elim
  | tup e' m1 m2=>exact .tup k2 (I.tuple_inj k1 (V.ref.inj (e'.symm.trans e)▸m1)▸m2)
  | lst e' m1=>exact (Nq I k1 (V.ref.inj (e'.symm.trans e)▸m1)).elim
 | lst e k1 k2=>
  cases h2 with
  | «at» e'=>exact (rR e e').elim
  | tup e' m1=>exact (Nq I m1 (V.ref.inj (e.symm.trans e')▸k1)).elim
  | lst e' m1 m2=>exact .lst k2 (I.list_inj k1 (V.ref.inj (e'.symm.trans e)▸m1)▸m2)
theorem RK {n:Nat} {v:V} {p:PV} {b:Bool} (e:back v=some p) (h:bA (n+1) p p=some b):b=true:=by
 cases v with
 | non=>cases e; cases h; rfl
 | bl z=>cases e; cases h; exact beq_self_eq_true z
 | int z=>cases e; cases h; exact beq_self_eq_true z
 | str z=>cases e; cases h; exact beq_self_eq_true z
 | _=>cases e
theorem ul {f:PV->PV->Option Bool} {Z:ZG} (ih:∀ (p q:PV) (v:V) (b:Bool),Rep K Z p v->Rep K Z q v->f p q=some b->b=true):∀ {ps qs:List PV} {vs:List V} {c:Bool},aH K Z ps vs->aH K Z qs vs->lH f ps qs=some c->c=true
 | [],qs,vs,c,a,b,h=>by cases h; rfl
 | p::ps,[],vs,c,a,b,h=>by cases h; rfl
 | p::ps,q::qs,vs,c,a,b,h=>by
  obtain ⟨w1,r1,e1,e2,e3⟩:=a.inv
  obtain ⟨w2,r2,f1,f2,f3⟩:=b.inv
  obtain ⟨g1,g2⟩:=List.cons.inj (e1.symm.trans f1)
  subst g1 g2
  obtain ⟨c,h1,h2⟩:=bind_some h
  obtain ⟨d,h3,rfl⟩:=map_some h2
  rw [ih _ _ _ _ e2 f2 h1,ul ih e3 f3 h3]
  rfl
theorem rT {f:PV->PV->Option Bool} {Z:ZG} (ih:∀ (p q r:PV) (v:V) (b c:Bool),Rep K Z p v->Rep K Z q v->f p r=some b->f q r=some c->b=c):∀ {ps qs rs:List PV} {vs:List V} {b c:Bool},aH K Z ps vs->aH K Z qs vs->lH f ps rs=some b->lH f qs rs=some c->b=c
 | [],[],rs,vs,b,c,_,_,h,k=>Option.some.inj (h.symm.trans k)
 | [],q::qs,rs,vs,b,c,a,b',h,k=>by
  obtain ⟨_,_,e,_⟩:=b'.inv
  exact absurd (a.inv0.symm.trans e) (by simp)
 | p::ps,[],rs,vs,b,c,a,b',h,k=>by
  obtain ⟨_,_,e,_⟩:=a.inv
  exact absurd (b'.inv0.symm.trans e) (by simp)
 | p::ps,q::qs,[],vs,b,c,a,b',h,k=>Option.some.inj (h.symm.trans k)
 | p::ps,q::qs,r::rs,vs,b,c,a,b',h,k=>by
  obtain ⟨w1,r1,e1,e2,e3⟩:=a.inv
  obtain ⟨w2,r2,f1,f2,f3⟩:=b'.inv
  obtain ⟨g1,g2⟩:=List.cons.inj (e1.symm.trans f1)
  subst g1 g2
  obtain ⟨x1,h1,h2⟩:=bind_some h
  obtain ⟨d1,h3,rfl⟩:=map_some h2
  obtain ⟨x2,k1,k2⟩:=bind_some k
  obtain ⟨d2,k3,rfl⟩:=map_some k2
  rw [ih _ _ _ _ _ _ e2 f2 h1 k1,rT ih e3 f3 h3 k3]
theorem eq_self (I:Inv X pins σ H s):∀ (n:Nat) {p q:PV} {v:V} {b:Bool},Rep X.K ⟨H,g⟩ p v->Rep X.K ⟨H,g⟩ q v->bA n p q=some b->b=true
 | 0,p,q,v,b,_,_,h=>by cases h
 | n+1,p,q,v,b,rp,rq,h=>by
  cases Sh.two I (Ad rp (wN h)) (Ad rq (Np h)) with
  | «at» e=>exact RK e h
  | tup h2 h4=>
   obtain ⟨c,h5,rfl⟩:=map_some h
   rw [ul (fun _ _ _ _=>eq_self I n) h2 h4 h5,h2.length.symm.trans h4.length,beq_self_eq_true]
   rfl
  | lst h2 h4=>exact ul (fun _ _ _ _=>eq_self I n) h2 h4 ((if_pos (h2.length.symm.trans h4.length)).symm.trans h)
inductive U (s:Shared):PV->Value->Prop
 | non:U s .non .none
 | bl {b:Bool}:U s (.bl b) (.bool b)
 | int {i:Int} {t}:U s (.int i) (.int i t)
 | str {x:Str} {t}:U s (.str x) (.str x t)
 | tup {ps:List PV} {a:Addr} {its}:s.heap.IsTuple a its->U s (.tup ps) (.ref a)
 | lst {ps:List PV} {a:Addr} {its}:s.heap.IsList a its->U s (.lst ps) (.ref a)
theorem RL (I:Inv X pins σ H s) {p:PV} {v:V} {u:Value} (r:Rep X.K ⟨H,g⟩ p v) (ru:RelV v u) (h:kn p<6):U s p u:=by
 cases p with
 | non=>cases ik r; cases ru; exact .non
 | bl b=>cases dY r; cases ru; exact .bl
 | int b=>cases bz r; obtain ⟨t,rfl⟩:=ru; exact .int
 | str b=>cases bW r; obtain ⟨t,rfl⟩:=ru; exact .str
 | tup ps=>obtain ⟨a,vs,its,rfl,_,_,_,x⟩:=uh I r ru; exact .tup x
 | lst ps=>obtain ⟨a,vs,its,rfl,_,_,_,x⟩:=oY I r ru; exact .lst x
 | _=>exact absurd h (Nat.lt_irrefl 6)
noncomputable def E3 (A:Around) (s:Shared) (x y:Value) (b:Bool):Prop:=EqAt A s x y b/\RcAt A s x y b/\RcNeAt A s x y (!b)
theorem E3.of {A:Around} {s:Shared} {x y:Value} {b c:Bool} (h:some c=some b) (e:EqAt A s x y c) (r:RcAt A s x y c) (q:RcNeAt A s x y (!c)):E3 A s x y b:=Option.some.inj h▸⟨e,r,q⟩
noncomputable def two (p q:PV):Bool:=kn p==kn q&&Nat.ble 4 (kn p)
theorem Pg {A:Around} {p q:PV} {u1 u2:Value} {n:Nat} {b:Bool} (hu:A.units<cLine) (h1:U s p u1) (h2:U s q u2) (e:two p q=false) (h:bA (n+1) p q=some b):E3 A s u1 u2 b:=by
 cases h1 with
 | non=>
  cases h2 with
  | non=>exact E3.of h (EqAt.same .none) RcAt.none_none RcNeAt.none_none
  | bl=>exact E3.of h (EqAt.none_bool _) (RcAt.none_bool _) (RcNeAt.none_bool _)
  | int=>exact E3.of h (EqAt.none_int _ _) (RcAt.none_int _ _) (RcNeAt.none_int _ _)
  | str=>exact E3.of h (EqAt.none_str _ _) (RcAt.none_str _ _) (RcNeAt.none_str _ _)
  | tup x2=>exact E3.of h (EqAt.none_tuple x2 hu) (RcAt.none_tuple x2 hu) (RcNeAt.none_tuple x2 hu)
  | lst x2=>exact E3.of h (EqAt.none_list x2 hu) (RcAt.none_list x2 hu) (RcNeAt.none_list x2 hu)
 | bl=>
  cases h2 with
  | non=>exact E3.of h (EqAt.bool_none _) (RcAt.bool_none _) (RcNeAt.bool_none _)
  | bl=>exact E3.of h (EqAt.bool_bool _ _) (RcAt.bool_bool _ _) (RcNeAt.bool_bool _ _)
  | int=>exact E3.of h (EqAt.bool_int _ _ _) (RcAt.bool_int _ _ _) (RcNeAt.bool_int _ _ _)
  | str=>exact E3.of h (EqAt.bool_str _ _ _) (RcAt.bool_str _ _ _) (RcNeAt.bool_str _ _ _)
  | tup x2=>exact E3.of h (EqAt.bool_tuple _ x2 hu) (RcAt.bool_tuple _ x2 hu) (RcNeAt.bool_tuple _ x2 hu)
  | lst x2=>exact E3.of h (EqAt.bool_list _ x2 hu) (RcAt.bool_list _ x2 hu) (RcNeAt.bool_list _ x2 hu)
 | int=>
  cases h2 with
  | non=>exact E3.of h (EqAt.int_none _ _) (RcAt.int_none _ _) (RcNeAt.int_none _ _)
  | bl=>exact E3.of h (EqAt.int_bool _ _ _) (RcAt.int_bool _ _ _) (RcNeAt.int_bool _ _ _)
  | int=>exact E3.of h (EqAt.int_int _ _ _ _) (RcAt.int_int _ _ _ _) (RcNeAt.int_int _ _ _ _)
  | str=>exact E3.of h (EqAt.int_str _ _ _ _) (RcAt.int_str _ _ _ _) (RcNeAt.int_str _ _ _ _)
  | tup x2=>exact E3.of h (EqAt.int_tuple _ _ x2 hu) (RcAt.int_tuple _ _ x2 hu) (RcNeAt.int_tuple _ _ x2 hu)
  | lst x2=>exact E3.of h (EqAt.int_list _ _ x2 hu) (RcAt.int_list _ _ x2 hu) (RcNeAt.int_list _ _ x2 hu)
 | str=>
  cases h2 with
  | non=>exact E3.of h (EqAt.str_none _ _) (RcAt.str_none _ _) (RcNeAt.str_none _ _)
  | bl=>exact E3.of h (EqAt.str_bool _ _ _) (RcAt.str_bool _ _ _) (RcNeAt.str_bool _ _ _)
  | int=>exact E3.of h (EqAt.str_int _ _ _ _) (RcAt.str_int _ _ _ _) (RcNeAt.str_int _ _ _ _)
  | str=>exact E3.of h (EqAt.str_str _ _ _ _) (RcAt.str_str _ _ _ _) (RcNeAt.str_str _ _ _ _)
  | tup x2=>exact E3.of h (EqAt.str_tuple _ _ x2 hu) (RcAt.str_tuple _ _ x2 hu) (RcNeAt.str_tuple _ _ x2 hu)
  | lst x2=>exact E3.of h (EqAt.str_list _ _ x2 hu) (RcAt.str_list _ _ x2 hu) (RcNeAt.str_list _ _ x2 hu)
 | tup x1=>
  cases h2 with
  | non=>exact E3.of h (EqAt.tuple_none x1 hu) (RcAt.tuple_none x1 hu) (RcNeAt.tuple_none x1 hu)
  | bl=>exact E3.of h (EqAt.tuple_bool _ x1 hu) (RcAt.tuple_bool _ x1 hu) (RcNeAt.tuple_bool _ x1 hu)
  | int=>exact E3.of h (EqAt.tuple_int _ _ x1 hu) (RcAt.tuple_int _ _ x1 hu) (RcNeAt.tuple_int _ _ x1 hu)
  | str=>exact E3.of h (EqAt.tuple_str _ _ x1 hu) (RcAt.tuple_str _ _ x1 hu) (RcNeAt.tuple_str _ _ x1 hu)
  | tup x2=>cases e
  | lst x2=>exact E3.of h (EqAt.tuple_list x1 x2 hu) (RcAt.tuple_list x1 x2 hu) (RcNeAt.tuple_list x1 x2 hu)
 | lst x1=>
  cases h2 with
  | non=>exact E3.of h (EqAt.list_none x1 hu) (RcAt.list_none x1 hu) (RcNeAt.list_none x1 hu)
  | bl=>exact E3.of h (EqAt.list_bool _ x1 hu) (RcAt.list_bool _ x1 hu) (RcNeAt.list_bool _ x1 hu)
  | int=>exact E3.of h (EqAt.list_int _ _ x1 hu) (RcAt.list_int _ _ x1 hu) (RcNeAt.list_int _ _ x1 hu)
  | str=>exact E3.of h (EqAt.list_str _ _ x1 hu) (RcAt.list_str _ _ x1 hu) (RcNeAt.list_str _ _ x1 hu)
  | tup x2=>exact E3.of h (EqAt.list_tuple x1 x2 hu) (RcAt.list_tuple x1 x2 hu) (RcNeAt.list_tuple x1 x2 hu)
  | lst x2=>cases e
theorem rW {v:V} {a:Addr} (r:RelV v (.ref a)):v=.ref a:=by
 cases v with
 | ref b=>cases r; rfl
 | non=>cases r
 | bl _=>cases r
 | ty _=>cases r
 | _=>obtain ⟨t,e⟩:=r; cases e
theorem Bq (I:Inv X pins σ H s) {n:Nat} {p q:PV} {a1 a2:Addr} {b:Bool} {A:Around} (rp:Rep X.K ⟨H,g⟩ p (.ref a1)) (rq:Rep X.K ⟨H,g⟩ q (.ref a2)) (h:bA n p q=some b) (rc:RcAt A s (.ref a1) (.ref a2) b):EqAt A s (.ref a1) (.ref a2) b:=by
 by_cases ea:a1=a2
 . subst ea
   exact eq_self I n rp rq h▸EqAt.same _
 . exact EqAt.of_refs ea rc
theorem wO (I:Inv X pins σ H s):∀ (n:Nat) {p q:PV} {v w:V} {u1 u2:Value} {b:Bool},Rep X.K ⟨H,g⟩ p v->Rep X.K ⟨H,g⟩ q w->RelV v u1->RelV w u2->bA n p q=some b->∀ A:Around,A.units+n<cLine->
 EqAt A s u1 u2 b/\RcAt A s u1 u2 b/\RcNeAt A s u1 u2 (!b)
 | 0,p,q,v,w,u1,u2,b,_,_,_,_,h,_,_=>by cases h
 | n+1,p,q,v,w,u1,u2,b,rp,rq,r1,r2,h,A,hA=>by
  have hu:A.units<cLine:=Nat.lt_of_le_of_lt (Nat.le_add_right _ _) hA
  have hin:A.in1.units+n<cLine:=by show A.units+1+n<cLine; omega
  have item:∀ {ps qs:List PV} {vs ws:List V} {its its2:List Value} {c:Bool},aH X.K ⟨H,g⟩ ps vs->Vals vs its->aH X.K ⟨H,g⟩ qs ws->Vals ws its2->lH (bA n) ps qs=some c->
   ∀ j (h1:j<its.toArray.size) (h2:j<its2.toArray.size),EqAt A.in1 s its.toArray[j] its2.toArray[j] ((bA n (ps.getD j .non) (qs.getD j .non)).getD false):=fun {ps qs vs ws its its2 c} a b c' d e j h1 h2=>by
   obtain ⟨p,v,e1,e2,e3⟩:=elts a b (j:=j) (by simpa using h1)
   obtain ⟨q,w,f1,f2,f3⟩:=elts c' d (j:=j) (by simpa using h2)
   have:=(uR e).1 j p q e1 f1
   exact (wO I n e2 f2 e3 f3 this A.in1 hin).1
  cases e:two p q with
  | false=>exact Pg hu (RL I rp r1 (wN h)) (RL I rq r2 (Np h)) e h
  | true=>
   have e':kn p=kn q/\4<=kn p:=by unfold two at e; simpa using e
   have hk:=wN h
   rcases (by omega:kn p=4\/kn p=5) with hp | hp
   . obtain ⟨ps,rfl⟩:=Ux hp
     obtain ⟨qs,rfl⟩:=Ux (e'.1.symm.trans hp)
     clear e e' hk hp
     obtain ⟨a1,vs1,its1,rfl,q1,l1,rv1,x1⟩:=uh I rp r1
     obtain ⟨a2,vs2,its2,rfl,q2,l2,rv2,x2⟩:=uh I rq r2
     have e1:=rW r1
     have e2:=rW r2
     subst e1 e2
     obtain ⟨c,h5,rfl⟩:=map_some h
     have it:=item l1 rv1 l2 rv2 h5
     have z1:its1.toArray.size=ps.length:=by rw [List.size_toArray,← rv1.length,l1.length]
     have z2:its2.toArray.size=qs.length:=by rw [List.size_toArray,← rv2.length,l2.length]
     have rc:=RcAt.tuples x1 x2 hu it
     have rn:=RcNeAt.tuples x1 x2 hu it
     rw [z1,z2,← (uR h5).2] at rc rn
     exact ⟨Bq I rp rq h rc,rc,rn⟩
   . obtain ⟨ps,rfl⟩:=Uy hp
     obtain ⟨qs,rfl⟩:=Uy (e'.1.symm.trans hp)
     clear e e' hk hp
     obtain ⟨a1,vs1,its1,rfl,q1,l1,rv1,x1⟩:=oY I rp r1
     obtain ⟨a2,vs2,its2,rfl,q2,l2,rv2,x2⟩:=oY I rq r2
     have e1:=rW r1
     have e2:=rW r2
     subst e1 e2
     have z1:its1.toArray.size=ps.length:=by rw [List.size_toArray,← rv1.length,l1.length]
     have z2:its2.toArray.size=qs.length:=by rw [List.size_toArray,← rv2.length,l2.length]
     by_cases hl:ps.length=qs.length
     . have h':=(if_pos hl).symm.trans h
       have it:=item l1 rv1 l2 rv2 h'
       have hz:=(z1.trans hl).trans z2.symm
       have rc:=RcAt.lists x1 x2 hz hu it
       have rn:=RcNeAt.lists x1 x2 hz hu it
       rw [z1,← (show min ps.length qs.length=ps.length by rw [← hl,Nat.min_self]),← (uR h').2] at rc rn
       exact ⟨Bq I rp rq h rc,rc,rn⟩
     . have h':=Option.some.inj ((if_neg hl).symm.trans h)
       subst h'
       have hz:(its1.toArray.size != its2.toArray.size)=true:=by rw [z1,z2]; exact bne_iff_ne.mpr hl
       have rc:=RcAt.lists_lengths x1 x2 hz hu
       exact ⟨Bq I rp rq h rc,rc,RcNeAt.lists_lengths x1 x2 hz hu⟩
end
section
open PySem.SeqAt
variable {X:Cx} {pins:List (Addr×Obj)} {σ:L2.St} {H:Hp} {s:Shared} {g:List Addr}
theorem Dw {n:Nat} {ps:List PV} {r:PV} {b:Bool} (h:bA (n+1) (.tup ps) r=some b):b=false\/∃ rs,r=.tup rs:=by
 cases r with
 | tup rs=>exact .inr ⟨rs,rfl⟩
 | _=>cases h<;>exact .inl rfl
theorem Dy {n:Nat} {ps:List PV} {r:PV} {b:Bool} (h:bA (n+1) (.lst ps) r=some b):b=false\/∃ rs,r=.lst rs:=by
 cases r with
 | lst rs=>exact .inr ⟨rs,rfl⟩
 | _=>cases h<;>exact .inl rfl
theorem wQ (I:Inv X pins σ H s):∀ (n:Nat) {p q r:PV} {v:V} {b c:Bool},Rep X.K ⟨H,g⟩ p v->Rep X.K ⟨H,g⟩ q v->bA n p r=some b->bA n q r=some c->b=c
 | 0,p,q,r,v,b,c,_,_,h,_=>by cases h
 | n+1,p,q,r,v,b,c,rp,rq,h,k=>by
  cases Sh.two I (Ad rp (wN h)) (Ad rq (wN k)) with
  | «at» e=>exact Option.some.inj (h.symm.trans k)
  | @tup ps qs _ h2 h4=>
   have el:ps.length=qs.length:=h2.length.symm.trans h4.length
   rcases Dw h with rfl | ⟨rs,rfl⟩
   . rcases Dw k with rfl | ⟨rs,rfl⟩
     . rfl
     . obtain ⟨c1,h5,e1⟩:=map_some h
       obtain ⟨c2,k5,rfl⟩:=map_some k
       rw [← rT (f:=bA n) (fun _ _ _ _ _ _=>wQ I n) h2 h4 h5 k5,← el,e1]
   . obtain ⟨c1,h5,rfl⟩:=map_some h
     obtain ⟨c2,k5,rfl⟩:=map_some k
     rw [rT (f:=bA n) (fun _ _ _ _ _ _=>wQ I n) h2 h4 h5 k5,el]
  | @lst ps qs _ h2 h4=>
   have el:ps.length=qs.length:=h2.length.symm.trans h4.length
   have main:∀ rs,r=.lst rs->b=c:=fun rs e=>by
    subst e
    by_cases hl:qs.length=rs.length
    . exact rT (f:=bA n) (fun _ _ _ _ _ _=>wQ I n) h2 h4 ((if_pos (el.trans hl)).symm.trans h) ((if_pos hl).symm.trans k)
    . exact Option.some.inj ((((if_neg fun e=>hl (el.symm.trans e)).symm.trans h).symm.trans ((if_neg hl).symm.trans k)))
   rcases Dy h with e1 | ⟨rs,e⟩
   . rcases Dy k with e2 | ⟨rs,e⟩
     . exact e1.trans e2.symm
     . exact main rs e
   . exact main rs e
noncomputable def jy (f:PV->PV->Option Bool) (x:PV):List PV->Option Bool
 | []=>some false
 | q::qs=>(f q x).bind fun b=>(jy f x qs).map fun c=>b||c
theorem qU {f:PV->PV->Option Bool} {x:PV}:∀ {qs:List PV} {b:Bool},jy f x qs=some b->(∀ q∈qs,∃ c,f q x=some c)/\b=qs.any fun q=>(f q x).getD false
 | [],b,h=>by cases h; exact ⟨fun q hq=>by simp at hq,rfl⟩
 | q::qs,b,h=>by
  obtain ⟨c,h1,h2⟩:=bind_some h
  obtain ⟨d,h3,rfl⟩:=map_some h2
  obtain ⟨i1,i2⟩:=qU h3
  refine ⟨fun q' hq=>?_,?_⟩
  . rcases List.mem_cons.mp hq with rfl | hq
    . exact ⟨c,h1⟩
    . exact i1 q' hq
  . rw [List.any_cons,h1,Option.getD_some,← i2]
open Classical in
noncomputable def worth (K:FG) (Z:ZG) (x:PV) (qs:List PV) (vs:List V) (its:List Value) (u:Value):Bool:=
 if h:∃ (j:Nat) (q:PV),qs[j]?=some q/\its[j]?=some u then (bA 150 h.choose_spec.choose x).getD false else false
theorem rY (I:Inv X pins σ H s) {x:PV} {xv:V} {xu:Value} {qs:List PV} {vs:List V} {its:List Value} (r:aH X.K ⟨H,g⟩ qs vs) (rv:Vals vs its) (hx:∀ q∈qs,∃ c,bA 150 q x=some c) {j:Nat} {q:PV} {u:Value} (e1:qs[j]?=some q) (e2:its[j]?=some u):
 worth X.K ⟨H,g⟩ x qs vs its u=(bA 150 q x).getD false:=by
 have h:∃ (j:Nat) (q:PV),qs[j]?=some q/\its[j]?=some u:=⟨j,q,e1,e2⟩
 unfold worth
 rw [dif_pos h]
 obtain ⟨f1,f2⟩:=h.choose_spec.choose_spec
 generalize h.choose_spec.choose=q' at f1 f2
 generalize h.choose=j' at f1 f2
 obtain ⟨v1,g1,g2⟩:=r.get e1
 obtain ⟨v2,k1,k2⟩:=r.get f1
 obtain ⟨u1,m1,m2⟩:=rv.get g1
 obtain ⟨u2,n1,n2⟩:=rv.get k1
 rw [e2] at m1; cases m1
 rw [f2] at n1; cases n1
 have ev:=RelV.inj m2 n2
 subst ev
 obtain ⟨c1,h1⟩:=hx q (List.mem_of_getElem? e1)
 obtain ⟨c2,h2⟩:=hx q' (List.mem_of_getElem? f1)
 rw [h1,h2,wQ I 150 k2 g2 h2 h1]
theorem lX (I:Inv X pins σ H s) {x:PV} {xv:V} {xu:Value} {qs:List PV} {vs:List V} {its:List Value} (rx:Rep X.K ⟨H,g⟩ x xv) (ru:RelV xv xu) (r:aH X.K ⟨H,g⟩ qs vs) (rv:Vals vs its) (hx:∀ q∈qs,∃ c,bA 150 q x=some c) {A:Around} (hA:A.units+150<cLine):
 ∀ u,u∈its.toArray->EqAt A s u xu (worth X.K ⟨H,g⟩ x qs vs its u):=fun u hu=>by
 have hu':u∈its:=by simpa using hu
 obtain ⟨j,hj,e⟩:=List.getElem_of_mem hu'
 have e2:its[j]?=some u:=by rw [List.getElem?_eq_getElem hj,e]
 have hl:=rv.length
 have hlr:=r.length
 have e1:qs[j]?=some (qs[j]'(by omega)):=List.getElem?_eq_getElem _
 rw [rY (xv:=xv) (xu:=xu) I r rv hx e1 e2]
 obtain ⟨v1,g1,g2⟩:=r.get e1
 obtain ⟨u1,m1,m2⟩:=rv.get g1
 rw [e2] at m1; cases m1
 obtain ⟨c1,h1⟩:=hx _ (List.mem_of_getElem? e1)
 rw [h1]
 exact (wO I 150 g2 rx m2 ru h1 A hA).1
theorem pY (I:Inv X pins σ H s) {x:PV} {xv:V} {xu:Value} {qs:List PV} {vs:List V} {its:List Value} (r:aH X.K ⟨H,g⟩ qs vs) (rv:Vals vs its) (hx:∀ q∈qs,∃ c,bA 150 q x=some c):
 its.toArray.any (worth X.K ⟨H,g⟩ x qs vs its)=qs.any fun q=>(bA 150 q x).getD false:=by
 have hl:its.length=qs.length:=by rw [← rv.length,r.length]
 have key:its.map (worth X.K ⟨H,g⟩ x qs vs its)=qs.map fun q=>(bA 150 q x).getD false:=by
  apply List.ext_getElem?
  intro j
  rw [List.getElem?_map,List.getElem?_map]
  by_cases hj:j<its.length
  . have e2:=List.getElem?_eq_getElem hj
    have e1:qs[j]?=some (qs[j]'(by omega)):=List.getElem?_eq_getElem _
    rw [e2,e1,Option.map_some,Option.map_some,rY (xv:=xv) (xu:=xu) I r rv hx e1 e2]
  . rw [List.getElem?_eq_none (by omega),List.getElem?_eq_none (by omega)]
    rfl
 rw [show its.toArray.any (worth X.K ⟨H,g⟩ x qs vs its)=its.any (worth X.K ⟨H,g⟩ x qs vs its) by simp]
 have a1:its.any (worth X.K ⟨H,g⟩ x qs vs its)=(its.map (worth X.K ⟨H,g⟩ x qs vs its)).any id:=by simp [List.any_map]
 have a2:(qs.any fun q=>(bA 150 q x).getD false)=(qs.map fun q=>(bA 150 q x).getD false).any id:=by simp [List.any_map]
 rw [a1,a2,key]
end
section
variable {X:Cx}
theorem SR.rep2 {v w:V} {p q:PV} (h:SR K H0 Z0 σ H ρ ((w,.sh q)::(v,.sh p)::pd)):∃ Z:ZG,cC Z.z H/\Rep K Z p v/\Rep K Z q w:=by
 obtain ⟨_,Z,_,z,r,s⟩:=h.sh
 obtain ⟨x,e1,e2⟩:=(s.perm cF.symm).1 _ List.mem_cons_self
 cases e1
 exact ⟨Z,z.zh,e2,r⟩
theorem SR.rep2H {v w:V} {p q:PV} (h:SR K H0 Z0 σ H ρ ((w,.sh q)::(v,.sh p)::pd)):∃ g,Rep K ⟨H,g⟩ p v/\Rep K ⟨H,g⟩ q w:=by
 obtain ⟨Z,z,a,b⟩:=h.rep2
 exact ⟨Z.g,a.mono (Z':=⟨H,Z.g⟩) ⟨z,List.prefix_refl _⟩,b.mono (Z':=⟨H,Z.g⟩) ⟨z,List.prefix_refl _⟩⟩
noncomputable def Br (K:FG) (neg:Bool):R2:=fun x y H Q=>∃ g p q b,Rep K ⟨H,g⟩ p x/\Rep K ⟨H,g⟩ q y/\bA 150 p q=some b/\Q (.bl (if neg then !b else b)) H
theorem gQ {b:Bool} {k:Nat} (hr:cU b k X.A):du X (compareOp .Eq) (Br X.K false):=by
 intro pins s σ H x y v u Q I rx ry h
 obtain ⟨g,p,q,b,rp,rq,e,k'⟩:=h
 have hA:X.A.units+150<cLine:=by have:=hr.un; omega
 obtain ⟨_,rc,_⟩:=wO I 150 rp rq rx ry e X.A hA
 exact rc _ _ _ _ ⟨.bl b,H,I,rfl,k'⟩
theorem qW {b:Bool} {k:Nat} (hr:cU b k X.A):du X (compareOp .NotEq) (Br X.K true):=by
 intro pins s σ H x y v u Q I rx ry h
 obtain ⟨g,p,q,b,rp,rq,e,k'⟩:=h
 have hA:X.A.units+150<cLine:=by have:=hr.un; omega
 obtain ⟨_,_,rn⟩:=wO I 150 rp rq rx ry e X.A hA
 exact rn _ _ _ _ ⟨.bl (!b),H,I,rfl,k'⟩
noncomputable def eqP (p q:PV):Option Lc:=(bA 150 p q).map fun b=>.sh (.bl b)
noncomputable def jM (p q:PV):Option Lc:=(bA 150 p q).map fun b=>.sh (.bl (!b))
theorem gR:gO K (Br K false) eqP:=by
 intro H0 Z0 σ ρ pd H v w x y l Q s e k
 obtain ⟨b,e1,rfl⟩:=map_some e
 obtain ⟨g,r1,r2⟩:=s.rep2H
 exact ⟨g,x,y,b,r1,r2,e1,k _ H (s.pop.pop.scal dG)⟩
theorem qX:gO K (Br K true) jM:=by
 intro H0 Z0 σ ρ pd H v w x y l Q s e k
 obtain ⟨b,e1,rfl⟩:=map_some e
 obtain ⟨g,r1,r2⟩:=s.rep2H
 exact ⟨g,x,y,b,r1,r2,e1,k _ H (s.pop.pop.scal dG)⟩
noncomputable def Bs (K:FG) (neg:Bool):R2:=fun x y H Q=>(∃ g p qs b,Rep K ⟨H,g⟩ p x/\(Rep K ⟨H,g⟩ (.lst qs) y\/Rep K ⟨H,g⟩ (.tup qs) y)/\jy (bA 150) p qs=some b/\Q (.bl (if neg then !b else b)) H)\/
 ∃ i j,x=.str i/\y=.str j/\Q (.bl (if neg then (Builtin.Str.occurrences j i 0 j.length 1).isEmpty else !(Builtin.Str.occurrences j i 0 j.length 1).isEmpty)) H
theorem oZ {b:Bool} {k:Nat} (hr:cU b k X.A):du X (compareOp .In) (Bs X.K false):=by
 intro pins s σ H x y v u Q I rx ry h
 have hA:X.A.in1.units+150<cLine:=by have:=hr.un; show X.A.units+1+150<cLine; omega
 rcases h with ⟨g,p,qs,b,rp,rq,e,k'⟩ | ⟨i,j,rfl,rfl,k'⟩
 . obtain ⟨i1,i2⟩:=qU e
   rcases rq with rq | rq
   . obtain ⟨a,vs,its,rfl,q1,l1,rv1,t1⟩:=oY I rq ry
     refine SeqAt.in_listAt (worth X.K ⟨H,g⟩ p qs vs its) t1 (lX I rp rx l1 rv1 i1 hA) ⟨.bl b,H,I,?_,k'⟩
     rw [pY (xv:=x) (xu:=v) I l1 rv1 i1,← i2]
     rfl
   . obtain ⟨a,vs,its,rfl,q1,l1,rv1,t1⟩:=uh I rq ry
     refine SeqAt.in_tupleAt (worth X.K ⟨H,g⟩ p qs vs its) t1 (lX I rp rx l1 rv1 i1 hA) ⟨.bl b,H,I,?_,k'⟩
     rw [pY (xv:=x) (xu:=v) I l1 rv1 i1,← i2]
     rfl
 . exact Ib pins s σ H (.str i) (.str j) v u Q I rx ry ⟨i,j,rfl,rfl,k'⟩
theorem kW {k:Nat} (hr:ie k X.A):du X (compareOp .NotIn) (Bs X.K true):=by
 intro pins s σ H x y v u Q I rx ry h
 have hA:X.A.in1.units+150<cLine:=by have:=hr.un; show X.A.units+1+150<cLine; omega
 rcases h with ⟨g,p,qs,b,rp,rq,e,k'⟩ | ⟨i,j,rfl,rfl,k'⟩
 . obtain ⟨i1,i2⟩:=qU e
   rcases rq with rq | rq
   . obtain ⟨a,vs,its,rfl,q1,l1,rv1,t1⟩:=oY I rq ry
     refine SeqAt.notIn_listAt (worth X.K ⟨H,g⟩ p qs vs its) t1 (lX I rp rx l1 rv1 i1 hA) ⟨.bl (!b),H,I,?_,k'⟩
     rw [pY (xv:=x) (xu:=v) I l1 rv1 i1,← i2]
     rfl
   . obtain ⟨a,vs,its,rfl,q1,l1,rv1,t1⟩:=uh I rq ry
     refine SeqAt.notIn_tupleAt (worth X.K ⟨H,g⟩ p qs vs its) t1 (lX I rp rx l1 rv1 i1 hA) ⟨.bl (!b),H,I,?_,k'⟩
     rw [pY (xv:=x) (xu:=v) I l1 rv1 i1,← i2]
     rfl
 . exact Aq pins s σ H (.str i) (.str j) v u Q I rx ry ⟨i,j,rfl,rfl,by simpa using k'⟩
noncomputable def isIn (x y:PV):Option Bool:=match y with
 | .lst qs=>jy (bA 150) x qs
 | .tup qs=>jy (bA 150) x qs
 | .str j=>match x with
  | .str i=>some (!(Builtin.Str.occurrences j i 0 j.length 1).isEmpty)
  | _=>none
 | _=>none
noncomputable def gn (p q:PV):Option Lc:=(isIn p q).map fun b=>.sh (.bl b)
noncomputable def ji (p q:PV):Option Lc:=(isIn p q).map fun b=>.sh (.bl (!b))
theorem Jq {neg:Bool}:gO K (Bs K neg) (fun p q=>(isIn p q).map fun b=>.sh (.bl (if neg then !b else b))):=by
 intro H0 Z0 σ ρ pd H v w x y l Q s e k
 obtain ⟨b,e1,rfl⟩:=map_some e
 obtain ⟨g,r1,r2⟩:=s.rep2H
 cases y with
 | lst qs=>exact .inl ⟨g,x,qs,b,r1,.inl r2,e1,k _ H (s.pop.pop.scal dG)⟩
 | tup qs=>exact .inl ⟨g,x,qs,b,r1,.inr r2,e1,k _ H (s.pop.pop.scal dG)⟩
 | str j=>
  cases x with
  | str i=>
   have e1':=Option.some.inj e1
   subst e1'
   refine .inr ⟨i,j,bW r1,bW r2,?_⟩
   have:=k (.bl (if neg then (Builtin.Str.occurrences j i 0 j.length 1).isEmpty else !(Builtin.Str.occurrences j i 0 j.length 1).isEmpty)) H
   refine this (s.pop.pop.scal fun Z=>?_)
   cases neg<;>simp [Rep]
  | _=>cases e1
 | _=>cases e1
theorem lY:gO K (Bs K false) gn:=Jq
theorem n6:gO K (Bs K true) ji:=Jq
noncomputable def rZ:PV->Bool
 | .non=>true
 | _=>false
noncomputable def Gy (p q:PV):Option Lc:=match q with
 | .non=>some (.sh (.bl (rZ p)))
 | _=>none
noncomputable def uT (p q:PV):Option Lc:=match q with
 | .non=>some (.sh (.bl (!rZ p)))
 | _=>none
theorem Dz {Z:ZG} {p:PV} {v:V} (r:Rep K Z p v):decide (v=.non)=rZ p:=by
 cases p with
 | non=>have:=ik r; subst this; rfl
 | bl b=>have:=dY r; subst this; rfl
 | int b=>have:=bz r; subst this; rfl
 | str b=>have:=bW r; subst this; rfl
 | tup ps=>unfold Rep at r; obtain ⟨a,vs,rfl,_⟩:=r; rfl
 | lst ps=>unfold Rep at r; obtain ⟨a,vs,rfl,_⟩:=r; rfl
 | dk ks ps=>unfold Rep at r; obtain ⟨a,vs,rfl,_⟩:=r; rfl
 | dt ks ps=>unfold Rep at r; obtain ⟨a,vs,rfl,_⟩:=r; rfl
 | obj c ks ps=>unfold Rep at r; obtain ⟨a,c,dx,fs,rfl,_⟩:=r; rfl
 | df ks ps=>unfold Rep at r; obtain ⟨a,o,kvs,rfl,_⟩:=r; rfl
 | dtf ks ps=>unfold Rep at r; obtain ⟨a,o,kvs,rfl,_⟩:=r; rfl
 | dx hk ks ps=>unfold Rep at r; obtain ⟨a,xs,rfl,_⟩:=r; rfl
 | exc n=>unfold Rep at r; obtain ⟨a,c,rfl,_⟩:=r; rfl
 | ptr n=>unfold Rep at r; obtain ⟨a,rfl,_⟩:=r; rfl
theorem Ph:gO K (fun x y H Q=>y=.non/\Q (.bl (decide (x=.non))) H) Gy:=by
 intro H0 Z0 σ ρ pd H v w x y l Q s e k
 obtain ⟨g,r1,r2⟩:=s.rep2H
 cases y with
 | non=>
  have e':=Option.some.inj e
  subst e'
  refine ⟨ik r2,?_⟩
  rw [Dz r1]
  exact k _ H (s.pop.pop.scal dG)
 | _=>cases e
theorem su:gO K (fun x y H Q=>y=.non/\Q (.bl (!decide (x=.non))) H) uT:=by
 intro H0 Z0 σ ρ pd H v w x y l Q s e k
 obtain ⟨g,r1,r2⟩:=s.rep2H
 cases y with
 | non=>
  have e':=Option.some.inj e
  subst e'
  refine ⟨ik r2,?_⟩
  rw [Dz r1]
  exact k _ H (s.pop.pop.scal dG)
 | _=>cases e
noncomputable def iu:=uc (fun _ _=>true) fun i j=>.bl (decide (i<j))
noncomputable def zc:=uc (fun _ _=>true) fun i j=>.bl (decide (i<=j))
noncomputable def Bt:=uc (fun _ _=>true) fun i j=>.bl (decide (j<i))
theorem mV:gO K (qJ fun i j=>.bl (decide (i<j))) iu:=wJ fun _ _ _=>dG _
theorem Jr:gO K (qJ fun i j=>.bl (decide (i<=j))) zc:=wJ fun _ _ _=>dG _
theorem Js:gO K (qJ fun i j=>.bl (decide (j<i))) Bt:=wJ fun _ _ _=>dG _
noncomputable def lZ:=uc (fun _ _=>true) fun i j=>.int (i-j)
noncomputable def bF:=uc (fun _ j=>decide (0<j)) fun i j=>.int (i%j)
noncomputable def cA:=uc (fun _ j=>decide (0<j/\j<1073741824)) fun i j=>.int (i/j)
noncomputable def sy:=uc (fun i j=>decide ((-(2 ^ 64)<i/\i<2 ^ 64)\/(-(2 ^ 64)<j/\j<2 ^ 64))) fun i j=>.int (i*j)
theorem uU:gO K (qJ fun i j=>.int (i-j)) lZ:=wJ fun _ _ _=>dD _
theorem cP:gO K (rI (fun _ j=>0<j) fun i j=>.int (i%j)) bF:=Gx (fun _ _ h=>of_decide_eq_true h) fun _ _ _=>dD _
theorem fM:gO K (rI QV fun i j=>.int (i/j)) cA:=Gx (fun i j h=>(of_decide_eq_true h:0<j/\j<1073741824)) fun _ _ _=>dD _
theorem DG:gO K (rI FN fun i j=>.int (i*j)) sy:=Gx (fun i j h=>(of_decide_eq_true h:(-(2 ^ 64)<i/\i<2 ^ 64)\/(-(2 ^ 64)<j/\j<2 ^ 64))) fun _ _ _=>dD _
noncomputable def KC (K:FG):R2:=fun x y H Q=>qJ (fun i j=>.int (i+j)) x y H Q\/(∃ i j,x=.str i/\y=.str j/\i.length+j.length<=sizeLine/\Q (.str (i++j)) H)\/
 (∃ a b xs ys,x=.ref a/\y=.ref b/\bQ K H a xs/\bQ K H b ys/\xs.length+ys.length<=sizeLine/\∀ p,H p=none->Q (.ref p) (upd H p (.lst (xs++ys))))\/M9 K x y H Q
theorem cQ:du X (binaryOp .Add) (KC X.K):=QW.or (FT.or (OJ.or Ot))
noncomputable def bj:PV->PV->Option Lc
 | .int i,.int j=>some (.sh (.int (i+j)))
 | .str i,.str j=>if i.length+j.length<=100000 then some (.sh (.str (i++j))) else none
 | .lst ps,.lst qs=>if ps.length+qs.length<=100000 then some (.own (.lst (ps++qs))) else none
 | .tup (p::ps),.tup qs=>if ps.length+qs.length<=10000 then some (.sh (.tup (p::ps++qs))) else none
 | _,_=>none
theorem vM {α:Type} {c:Prop} [Decidable c] {a b:α} (e:(if c then some a else none)=some b):c/\a=b:=by
 split at e
 . rename_i h
   exact ⟨h,Option.some.inj e⟩
 . cases e
theorem Pj {x y:PV} {l:Lc} (e:bj x y=some l):(∃ i j,x=.int i/\y=.int j/\l=.sh (.int (i+j)))\/(∃ i j,x=.str i/\y=.str j/\i.length+j.length<=100000/\l=.sh (.str (i++j)))
 \/ (∃ ps qs,x=.lst ps/\y=.lst qs/\ps.length+qs.length<=100000/\l=.own (.lst (ps++qs)))\/∃ p ps qs,x=.tup (p::ps)/\y=.tup qs/\ps.length+qs.length<=10000/\l=.sh (.tup (p::ps++qs)):=by
 unfold bj at e
 split at e
 . cases e
   exact .inl ⟨_,_,rfl,rfl,rfl⟩
 . obtain ⟨h,e⟩:=vM e
   exact .inr (.inl ⟨_,_,rfl,rfl,h,e.symm⟩)
 . obtain ⟨h,e⟩:=vM e
   exact .inr (.inr (.inl ⟨_,_,rfl,rfl,h,e.symm⟩))
 . obtain ⟨h,e⟩:=vM e
   exact .inr (.inr (.inr ⟨_,_,_,rfl,rfl,h,e.symm⟩))
 . cases e
theorem cR:gO K (KC K) bj:=by
 intro H0 Z0 σ ρ pd H v w x y l Q s e k
 obtain ⟨g,r1,r2⟩:=s.rep2H
 rcases Pj e with ⟨i,j,rfl,rfl,rfl⟩ | ⟨i,j,rfl,rfl,hl,rfl⟩ | ⟨ps,qs,rfl,rfl,hl,rfl⟩ | ⟨p,ps,qs,rfl,rfl,hl,rfl⟩
 . exact .inl ⟨i,j,bz r1,bz r2,k _ H (s.pop.pop.scal dD)⟩
 . exact .inr (.inl ⟨i,j,bW r1,bW r2,small hl,k _ H (s.pop.pop.scal kO)⟩)
 . obtain ⟨el,Z,hg,z,rq,s1⟩:=s.sh
   have s2:=s1.perm cF.symm
   obtain ⟨_,e1,rp⟩:=s2.1 _ List.mem_cons_self
   cases e1
   unfold Rep at rp rq
   obtain ⟨a,xs,rfl,h1,h2⟩:=rp
   obtain ⟨b,ys,rfl,h3,h4⟩:=rq
   refine .inr (.inr (.inl ⟨a,b,xs,ys,rfl,rfl,bQ.same z.zh h1,bQ.same z.zh h3,by rw [h2.length,h4.length]; exact small hl,fun p hp=>k _ _ ?_⟩))
   obtain ⟨z',s'⟩:=(s2.sub (List.sublist_cons_self _ _)).new (o:=.lst (xs++ys)) (p:=.lst (ps++qs)) z hp ⟨xs++ys,bh,h2.append h4⟩
   exact .mk el hg z' s'
 . obtain ⟨el,Z,hg,z,rq,s1⟩:=s.sh
   have s2:=s1.perm cF.symm
   obtain ⟨_,e1,rp⟩:=s2.1 _ List.mem_cons_self
   cases e1
   unfold Rep at rp rq
   obtain ⟨a,xs,rfl,h1,h2⟩:=rp
   obtain ⟨b,ys,rfl,h3,h4⟩:=rq
   have hx:xs≠[]:=fun h=>by have:=h2.length; rw [h] at this; simp at this
   have hz:=h2.length
   have hz':=h4.length
   rw [List.length_cons] at hz
   refine .inr (.inr (.inr ⟨a,b,xs,ys,rfl,rfl,cG.same z.zh h1,cG.same z.zh h3,hx,small (by omega),fun h=>?_,fun h q hq=>?_⟩))
   . subst h
     have:qs=[]:=List.eq_nil_of_length_eq_zero hz'.symm
     subst this
     rw [List.append_nil] at k
     exact k _ H s.pop
   . have s3:=s2.sub (List.sublist_cons_self _ _)
     obtain ⟨z',sz,s'⟩:=s3.newF (o:=.tup (xs++ys)) z hq
     refine k _ _ (.mk (Z:=Z.put q (.tup (xs++ys))) el hg z' (s'.consS ?_))
     unfold Rep
     exact ⟨q,xs++ys,rfl,cG.of bh,(h2.append h4).mono sz⟩
noncomputable def o9:PV->PV->Option Lc
 | .lst ps,.int i=>(fW ps i).map .sh
 | .tup ps,.int i=>(fW ps i).map .sh
 | .str x,.int i=>if x.length<=100000 then (fW x.cps.toList i).map fun c=>.sh (.str ⟨#[c]⟩) else none
 | _,_=>none
theorem uV {α β:Type} {l:List α} {r:List β} {i:Int} {x:α} (h:fW l i=some x) (e:r.length=l.length):∃ (j:Nat),l[j]?=some x/\∀ y,r[j]?=some y->fW r i=some y:=by
 unfold fW at h
 obtain ⟨j,h1,h2⟩:=bind_some h
 refine ⟨j,h2,fun y hy=>?_⟩
 unfold fW
 rw [e,h1]
 exact hy
theorem RM {x y:PV} {l:Lc} (e:o9 x y=some l):∃ i,y=.int i/\((∃ ps,(x=.lst ps\/x=.tup ps)/\(fW ps i).map Lc.sh=some l)\/∃ t c,x=.str t/\t.length<=100000/\fW t.cps.toList i=some c/\l=.sh (.str ⟨#[c]⟩)):=by
 unfold o9 at e
 split at e
 . exact ⟨_,rfl,.inl ⟨_,.inl rfl,e⟩⟩
 . exact ⟨_,rfl,.inl ⟨_,.inr rfl,e⟩⟩
 . split at e
   . rename_i h
     obtain ⟨c,h1,rfl⟩:=map_some e
     exact ⟨_,rfl,.inr ⟨_,c,rfl,h,h1,rfl⟩⟩
   . cases e
 . cases e
theorem Jt:gO K (Rf K) o9:=by
 intro H0 Z0 σ ρ pd H v w x y l Q s e k
 obtain ⟨i,rfl,hx⟩:=RM e
 obtain ⟨el,Z,hg,z,r2,s1⟩:=s.sh
 have s2:=s1.perm cF.symm
 obtain ⟨_,e1,r1⟩:=s2.1 _ List.mem_cons_self
 cases e1
 have s3:=s2.sub (List.sublist_cons_self _ _)
 have ew:=bz r2
 rcases hx with ⟨ps,hx,h0⟩ | ⟨x,c,rfl,hl,h1,rfl⟩
 . obtain ⟨p,h1,rfl⟩:=map_some h0
   rcases hx with rfl | rfl
   . unfold Rep at r1
     obtain ⟨a,vs,rfl,h2,h3⟩:=r1
     obtain ⟨j,e1,e2⟩:=uV h1 h3.length
     obtain ⟨u,e3,e4⟩:=h3.get e1
     exact .inl ⟨a,vs,i,u,rfl,ew,bQ.same z.zh h2,e2 u e3,k _ H (.mk el hg z (s3.consS e4))⟩
   . unfold Rep at r1
     obtain ⟨a,vs,rfl,h2,h3⟩:=r1
     obtain ⟨j,e1,e2⟩:=uV h1 h3.length
     obtain ⟨u,e3,e4⟩:=h3.get e1
     exact .inr (.inl ⟨a,vs,i,u,rfl,ew,cG.same z.zh h2,e2 u e3,k _ H (.mk el hg z (s3.consS e4))⟩)
 . exact .inr (.inr ⟨x,i,c,bW r1,ew,small hl,h1,k _ H (s.pop.pop.scal kO)⟩)
noncomputable def ni (ps:List PV) (lo hi:Option Int):List PV:=(ps.drop (HT.sIx ps.length 0 lo)).take (HT.sIx ps.length ps.length hi-HT.sIx ps.length 0 lo)
noncomputable abbrev OF:=Ev->Option (Option Int×Ev)
noncomputable def Nr (K:FG) (f:OF):TO:=fun σ H Q=>∃ H0 Z0 ρ pd r ρ',SR K H0 Z0 σ H ρ pd/\f ρ=some (r,ρ')/\∀ H',SR K H0 Z0 σ H' ρ' pd->Q r H'
theorem PO.imp {e:Option Expr} {t t':TO} (h:PO X e t) (i:∀ σ H Q,t' σ H Q->t σ H Q):PO X e t':=fun pins s σ H Q I q=>h pins s σ H Q I (i σ H Q q)
noncomputable def mH:OF:=fun ρ=>some (none,ρ)
noncomputable def fV (f:EF):OF:=fun ρ=>(f ρ).bind fun x=>match x.1.pv with
 | .int i=>some (some i,x.2)
 | _=>none
theorem yd:PO X none (Nr X.K mH):=PO.imp Oo fun σ H Q q=>by
 obtain ⟨H0,Z0,ρ,pd,r,ρ',s,h,k⟩:=q
 cases h
 exact k H s
theorem qY {e:Expr} {f:EF} (h:PE X e (tP X.K f)):PO X (some e) (Nr X.K (fV f)):=PO.imp (Oq h) fun σ H Q q=>by
 obtain ⟨H0,Z0,ρ,pd,r,ρ',s,h,k⟩:=q
 obtain ⟨x,h1,h2⟩:=bind_some h
 refine ⟨H0,Z0,ρ,pd,x.1,x.2,s,h1,fun v H1 s1=>?_⟩
 obtain ⟨_,r1⟩:=s1.freeze.repH
 cases e:x.1.pv with
 | int i=>
  rw [e] at h2 r1
  cases h2
  exact ⟨i,bz r1,k H1 s1.pop⟩
 | _=>rw [e] at h2; cases h2
theorem aH.cut {Z:ZG} {ps:List PV} {vs:List V} {lo hi:Option Int} (h:aH K Z ps vs):aH K Z (ni ps lo hi) (vC vs lo hi):=by
 unfold ni vC
 rw [h.length]
 exact (h.drop _).take _
noncomputable def jD (K:FG) (r:List V->Hp->VK->Prop) (g:List PV->Option Lc):Prop:=∀ H0 Z0 σ ρ pd H vs ps l Q,vs.length=ps.length->SR K H0 Z0 σ H ρ (vs.zip (ps.map Lc.sh)++pd)->g ps=some l->(∀ u H',SR K H0 Z0 σ H' ρ ((u,l)::pd)->Q u H')->r vs H Q
noncomputable def eB (g:List PV->Option Lc) (a:AF):EF:=fun ρ=>(a ρ).bind fun y=>(g (y.1.map Lc.pv)).map fun l=>(l,y.2)
theorem ph {r:List V->Hp->VK->Prop} {g:List PV->Option Lc} (hs:jD X.K r g) {a:AF}:∀ σ H Q,tP X.K (eB g a) σ H Q->Ax r (jC X.K a) σ H Q:=fun σ H Q q=>by
 obtain ⟨H0,Z0,ρ,pd,l,ρ',s,f,k⟩:=q
 obtain ⟨y,h1,h2⟩:=bind_some f
 obtain ⟨l',h3,h4⟩:=map_some h2
 cases h4
 refine ⟨H0,Z0,ρ,pd,y.1,y.2,s,h1,fun vs H2 e2 s2=>?_⟩
 have s3:=s2.freezeAll
 have hm:(y.1.map fun l=>Lc.sh l.pv)=(y.1.map Lc.pv).map Lc.sh:=by rw [List.map_map]; rfl
 rw [hm] at s3
 exact hs H0 Z0 σ y.2 pd H2 vs (y.1.map Lc.pv) _ Q (by simpa using e2) s3 h3 k
theorem wR {x:Str} {id:String} {r:List V->Hp->VK->Prop} {g:List PV->Option Lc} {e:Expr} {es:List Expr} {a:AF} {p pos:Pos} (hc:nA X (.builtin id) r) (hs:jD X.K r g) (h:PE X (.Call (.Name x p) (e::es) [] pos) (Ax r (jC X.K a))):PE X (.Call (.Name x p) (e::es) [] pos) (tP X.K (eB g a)):=PE.imp h (ph hs)
theorem jD.one {r:List V->Hp->VK->Prop} {g:PV->Option Lc} (h:∀ H0 Z0 σ ρ pd H v p l Q,SR K H0 Z0 σ H ρ ((v,.sh p)::pd)->g p=some l->(∀ u H',SR K H0 Z0 σ H' ρ ((u,l)::pd)->Q u H')->r [v] H Q):
 jD K r (fun ps=>match ps with | [p]=>g p | _=>none):=by
 intro H0 Z0 σ ρ pd H vs ps l Q e s hg k
 match ps,vs,e,s,hg with
 | [p],[v],_,s,hg=>exact h H0 Z0 σ ρ pd H v p l Q s hg k
 | [p],[],e,_,_=>simp at e
 | [p],_::_::_,e,_,_=>simp at e
 | [],_,_,_,hg=>cases hg
 | _::_::_,_,_,_,hg=>cases hg
noncomputable def Ln:PV->Option Lc
 | .str x=>if x.length<=100000 then some (.sh (.int x.length)) else none
 | .lst ps=>some (.sh (.int ps.length))
 | .tup ps=>some (.sh (.int ps.length))
 | _=>none
noncomputable abbrev cH:List PV->Option Lc:=fun ps=>match ps with | [p]=>Ln p | _=>none
theorem Ju:jD K (fun xs H Q=>∃ x n,xs=[x]/\Ky K x H n/\Q (.int n) H) cH:=jD.one fun H0 Z0 σ ρ pd H v p l Q s e k=>by
 obtain ⟨_,r⟩:=s.repH
 cases p with
 | str x=>
  have e':(if x.length<=100000 then some (Lc.sh (.int x.length)) else none)=some l:=e
  split at e'
  . rename_i hl
    cases e'
    have:=bW r
    subst this
    exact ⟨_,x.length,rfl,⟨small hl,rfl⟩,k _ H (s.pop.scal dD)⟩
  . cases e'
 | lst ps=>
  cases e
  unfold Rep at r
  obtain ⟨a,vs,rfl,h1,h2⟩:=r
  exact ⟨_,ps.length,rfl,.inl ⟨vs,h1,h2.length.symm⟩,k _ H (s.pop.scal dD)⟩
 | tup ps=>
  cases e
  unfold Rep at r
  obtain ⟨a,vs,rfl,h1,h2⟩:=r
  exact ⟨_,ps.length,rfl,.inr ⟨vs,h1,h2.length.symm⟩,k _ H (s.pop.scal dD)⟩
 | _=>cases e
noncomputable def Ud:PV->Option Lc
 | .lst ps=>some (.own (.lst ps))
 | .tup ps=>some (.own (.lst ps))
 | _=>none
noncomputable abbrev list1:List PV->Option Lc:=fun ps=>match ps with | [p]=>Ud p | _=>none
theorem n8:jD K (fun xs H Q=>∃ p ys,xs=[.ref p]/\(bQ K H p ys\/cG K H p ys)/\∀ l,H l=none->Q (.ref l) (upd H l (.lst ys))) list1:=jD.one fun H0 Z0 σ ρ pd H v p l Q s e k=>by
 obtain ⟨el,Z,hg,z,r,s1⟩:=s.sh
 cases p with
 | lst ps=>
  cases e
  unfold Rep at r
  obtain ⟨a,vs,rfl,h1,h2⟩:=r
  refine ⟨a,vs,rfl,.inl (bQ.same z.zh h1),fun q hq=>k _ _ ?_⟩
  obtain ⟨z',s'⟩:=s1.new (o:=.lst vs) (p:=.lst ps) z hq ⟨_,bh,h2⟩
  exact .mk el hg z' s'
 | tup ps=>
  cases e
  unfold Rep at r
  obtain ⟨a,vs,rfl,h1,h2⟩:=r
  refine ⟨a,vs,rfl,.inr (cG.same z.zh h1),fun q hq=>k _ _ ?_⟩
  obtain ⟨z',s'⟩:=s1.new (o:=.lst vs) (p:=.lst ps) z hq ⟨_,bh,h2⟩
  exact .mk el hg z' s'
 | _=>cases e
theorem Ev.set_set {i:Nat} {x y:Option Lc}:(ρ.set i x).set i y=ρ.set i y:=by
 show Ev.mk ((ρ.vs.set i x).set i y) ρ.mu=_
 rw [List.set_set]
 rfl
theorem SR.takeO {i:Nat} {ws:List PV} (s:SR K H0 Z0 σ H ρ pd) (e:ρ.vs[i]?=some (some (.own (.lst ws)))):
 ∃ a,σ[i]?=some (some (.ref a))/\(∃ us,H a=some (.lst us))/\SR K H0 Z0 σ H (ρ.set i none) ((.ref a,.own (.lst ws))::pd):=by
 obtain ⟨v,e1,s1⟩:=s.take e
 obtain ⟨_,Z,_,z,so⟩:=s1.top
 obtain ⟨a,ea,⟨us,hu,_⟩,_⟩:=so.1 _ List.mem_cons_self
 have ea':v=.ref a:=Option.some.inj ea
 subst ea'
 exact ⟨a,e1,⟨us,hu⟩,s1⟩
noncomputable def gG (i:Nat) (f:EF):SF:=fun ρ=>match ρ.vs[i]? with
 | some (some (.own (.lst _)))=>(f ρ).bind fun y=>match y.2.vs[i]? with
  | some (some (.own (.lst ws)))=>if ws.length<100000 then some (.nx (y.2.set i (some (.own (.lst (ws++[y.1.pv])))))) else none
  | _=>none
 | _=>none
theorem RN {i:Nat} {o e:Expr} {f:EF} {apos cpos pos:Pos} (h:PS X (.Expr (.Call (.Attribute o "append" apos) [e] [] cpos) pos) (zZ (Dq X.K "list" Dr (qp i) (jC X.K (aj f ao))))):
 PS X (.Expr (.Call (.Attribute o "append" apos) [e] [] cpos) pos) (dI X.K (gG i f)):=PS.imp h fun D σ H q=>by
 obtain ⟨H0,Z0,ρ,pd,fl,s,h,k⟩:=q
 unfold gG at h
 split at h
 . rename_i ws0 e0
   obtain ⟨y,h1,h2⟩:=bind_some h
   obtain ⟨a,ea,⟨us,hu⟩,_⟩:=s.takeO e0
   refine ⟨.ref a,ea,.inl ⟨rfl,us,bQ.of hu⟩,H0,Z0,ρ,pd,[y.1],y.2,s,?_,fun vs H2 e2 s2=>?_⟩
   . unfold aj ao
     rw [h1]
     rfl
   . obtain ⟨v1,rfl⟩:=qP e2
     split at h2
     . rename_i ws e3
       split at h2
       . rename_i hz
         cases h2
         obtain ⟨a',ea',_,s3⟩:=SR.takeO s2 e3
         rw [ea] at ea'; cases ea'
         have s4:SR X.K H0 Z0 σ H2 (y.2.set i none) ((v1,y.1)::(.ref a,.own (.lst ws))::pd):=s3.swap
         obtain ⟨us2,hu2,hl,s5⟩:=s4.pushO
         refine ⟨a,us2,v1,rfl,rfl,hu2,by rw [hl,sizeLine_eq]; omega,k σ _ ?_⟩
         have s6:=s5.put ea
         rw [Ev.set_set] at s6
         exact s6
       . cases h2
     . cases h2
 . cases h
theorem SR.setO {v:V} {p:PV} {a:Addr} {ws:List PV} {j:Nat} (s:SR K H0 Z0 σ H ρ ((v,.sh p)::(.ref a,.own (.lst ws))::pd)):
 ∃ us,H a=some (.lst us)/\us.length=ws.length/\SR K H0 Z0 σ (upd H a (.lst (us.set j v))) ρ ((.ref a,.own (.lst (ws.set j p)))::pd):=by
 obtain ⟨el,Z,hg,z,r,so⟩:=s.sh
 have so2:=so.perm cF.symm
 obtain ⟨_,eb,⟨us,hu,hr⟩,_⟩:=so2.1 _ List.mem_cons_self
 cases eb
 refine ⟨us,hu,hr.length,?_⟩
 obtain ⟨z',s'⟩:=so2.write (o:=.lst (us.set j v)) (q:=.lst (ws.set j p)) z ⟨us.set j v,bh,hr.set r j⟩
 exact .mk el hg z' s'
noncomputable def pZ (i:Nat) (fi fv:EF):SF:=fun ρ=>(fv ρ).bind fun x=>match x.2.vs[i]? with
 | some (some (.own (.lst _)))=>(fi x.2).bind fun y=>match y.1.pv,y.2.vs[i]? with
  | .int k,some (some (.own (.lst ws)))=>(pR ws.length k).map fun j=>.nx (y.2.set i (some (.own (.lst (ws.set j x.1.pv)))))
  | _,_=>none
 | _=>none
theorem DK {i:Nat} {o ix e:Expr} {fi fv:EF} {tpos pos:Pos} (h:PS X (.Assign [.Subscript o ix tpos] e pos) (An (tP X.K fv) (Fy (qp i) (tP X.K fi) Ng))):PS X (.Assign [.Subscript o ix tpos] e pos) (dI X.K (pZ i fi fv)):=PS.imp h fun D σ H q=>by
 obtain ⟨H0,Z0,ρ,pd,fl,s,h,k⟩:=q
 obtain ⟨x,h1,h2⟩:=bind_some h
 refine ⟨H0,Z0,ρ,pd,x.1,x.2,s,h1,fun v H1 s1=>?_⟩
 split at h2
 . rename_i ws0 e0
   obtain ⟨y,h3,h4⟩:=bind_some h2
   obtain ⟨a,ea,_,_⟩:=s1.takeO e0
   refine ⟨.ref a,ea,H0,Z0,x.2,_,y.1,y.2,s1.freeze,h3,fun w H2 s2=>?_⟩
   split at h4
   . rename_i kk ws ek e3
     obtain ⟨j,h5,rfl⟩:=map_some h4
     obtain ⟨_,rw'⟩:=s2.freeze.repH
     rw [ek] at rw'
     have ew:=bz rw'
     obtain ⟨a',ea',_,s3⟩:=s2.pop.takeO e3
     rw [ea] at ea'; cases ea'
     obtain ⟨us,hu,hl,s4⟩:=s3.swap.setO (j:=j)
     refine ⟨a,us,kk,j,rfl,ew,hu,by rw [hl]; exact h5,k σ _ ?_⟩
     have s5:=s4.put ea
     rw [Ev.set_set] at s5
     exact s5
   . cases h4
 . cases h2
theorem zf {g:List Addr} {mu:Mu} {n:Nat} {a:Addr} {o:Option PV} (hg:g[n]?=some a) (hm:mu[n]?=some o):∃ R:Sl,List.Perm (cel g mu) ((some (.ref a),o.map Lc.own)::R)/\∀ o',List.Perm (cel g (mu.set n o')) ((some (.ref a),o'.map Lc.own)::R):=by
 have h1:(g.map fun a=>some (V.ref a))[n]?=some (some (.ref a)):=by rw [List.getElem?_map,hg]; rfl
 have h2:(mu.map fun o=>o.map Lc.own)[n]?=some (o.map Lc.own):=by rw [List.getElem?_map,hm]; rfl
 obtain ⟨R,p1,p2⟩:=t8 (zip_get h1 h2)
 refine ⟨R,p1,fun o'=>?_⟩
 have:=p2 (some (.ref a),o'.map Lc.own)
 rw [← yc,set_same h1] at this
 unfold cel
 rw [List.map_set]
 exact this
theorem SR.cellO {v:V} {n:Nat} {p:PV} (s:SR K H0 Z0 σ H ρ ((v,.sh (.ptr n))::pd)) (hm:ρ.mu[n]?=some (some p)):
 ∃ a,v=.ref a/\SR K H0 Z0 σ H ⟨ρ.vs,ρ.mu.set n none⟩ ((.ref a,.own p)::(.ref a,.sh (.ptr n))::pd):=by
 obtain ⟨el,Z,hg,z,r,so⟩:=s.sh
 have r0:=r
 unfold Rep at r
 obtain ⟨a,rfl,ha⟩:=r
 obtain ⟨R,p1,p2⟩:=zf ha hm
 refine ⟨a,rfl,.mk (Z:=Z) el (by simpa using hg) z ?_⟩
 have so2:Slots K H0 Z H ((some (.ref a),some (.own p))::(R++(σ.zip ρ.vs++pd.map fun e=>(some e.1,some e.2)))):=so.perm (p1.append_right _).symm
 have so3:Slots K H0 Z H ((some (.ref a),none)::(some (.ref a),some (.own p))::(R++(σ.zip ρ.vs++pd.map fun e=>(some e.1,some e.2)))):=by
  refine ⟨fun e he=>?_,?_⟩
  . rcases List.mem_cons.mp he with rfl | he
    . trivial
    . exact so2.1 e he
  . rw [List.filterMap_cons_none rfl]; exact so2.2
 have so4:Slots K H0 Z H ((some (.ref a),some (.own p))::sl Z.g σ ⟨ρ.vs,ρ.mu.set n none⟩ pd):=(so3.perm (List.Perm.swap _ _ _)).perm (List.Perm.cons _ ((p2 none).append_right _))
 exact ((so4.consS r0).perm (List.Perm.swap _ _ _)).perm (List.Perm.cons _ cF)
theorem SR.cellP {a:Addr} {n:Nat} {q:PV} (s:SR K H0 Z0 σ H ρ ((.ref a,.own q)::(.ref a,.sh (.ptr n))::pd)) (hm:ρ.mu[n]?=some none):SR K H0 Z0 σ H ⟨ρ.vs,ρ.mu.set n (some q)⟩ pd:=by
 obtain ⟨el,Z,hg,z,r,so⟩:=s.swap.sh
 unfold Rep at r
 obtain ⟨b,eb,ha⟩:=r
 cases eb
 obtain ⟨R,p1,p2⟩:=zf ha hm
 have so2:=so.perm cF.symm
 refine ⟨el,Z,by simpa using hg,z,?_⟩
 have p3:List.Perm (sl Z.g σ ρ pd) ((some (.ref a),none)::(R++(σ.zip ρ.vs++pd.map fun e=>(some e.1,some e.2)))):=p1.append_right _
 have so3:=so2.perm (p3.symm.cons _)
 have so4:=so3.sub (L':=(some (.ref a),some (.own q))::(R++(σ.zip ρ.vs++pd.map fun e=>(some e.1,some e.2)))) ((List.sublist_cons_self _ _).cons_cons _)
 exact so4.perm ((p2 (some q)).append_right _)
noncomputable def VN (fo fi fv:EF):SF:=fun ρ=>(fv ρ).bind fun x=>(fo x.2).bind fun o=>(fi o.2).bind fun y=>match o.1.pv,y.1.pv with
 | .ptr n,.int k=>match y.2.mu[n]? with
  | some (some (.lst ws))=>(pR ws.length k).map fun j=>.nx ⟨y.2.vs,y.2.mu.set n (some (.lst (ws.set j x.1.pv)))⟩
  | _=>none
 | _,_=>none
noncomputable def aX (fa fb:EF):EF:=fun ρ=>(fa ρ).bind fun x=>(fb x.2).bind fun y=>match x.1.pv,y.1.pv with
 | .ptr n,.int k=>match y.2.mu[n]? with
  | some (some (.lst ws))=>(fW ws k).map fun p=>(.sh p,y.2)
  | _=>none
 | p,q=>(o9 p q).map fun l=>(l,y.2)
theorem jj {a b:Expr} {pos:Pos} {fa fb:EF} (ha:PE X a (tP X.K fa)) (hb:PE X b (tP X.K fb)) (hm:xY b):PE X (.Subscript a b pos) (tP X.K (aX fa fb)):=PE.imp (Nf Ij ha hb hm) fun σ H Q q=>by
 obtain ⟨H0,Z0,ρ,pd,l,ρ',s,f,k⟩:=q
 obtain ⟨x,h1,h2⟩:=bind_some f
 obtain ⟨y,h3,h4⟩:=bind_some h2
 refine ⟨H0,Z0,ρ,pd,x.1,x.2,s,h1,fun v H1 s1=>⟨H0,Z0,x.2,_,y.1,y.2,s1,h3,fun w H2 s2=>?_⟩⟩
 have s3:=s2.freeze.swap.freeze.swap
 split at h4
 . rename_i n kk en ek
   split at h4
   . rename_i ws em
     obtain ⟨p,h5,h6⟩:=map_some h4
     cases h6
     rw [en,ek] at s3
     obtain ⟨_,rw'⟩:=s3.repH
     have ew:=bz rw'
     obtain ⟨a,rfl,s5⟩:=s3.pop.cellO em
     obtain ⟨el,Z,hg,z,so⟩:=s5.top
     obtain ⟨_,ea,⟨us,hu,hr⟩,_⟩:=so.1 _ List.mem_cons_self
     cases ea
     obtain ⟨j,e1,e2⟩:=uV h5 hr.length
     obtain ⟨u,e3,e4⟩:=hr.get e1
     refine .inl ⟨a,us,kk,u,rfl,ew,bQ.of hu,e2 u e3,k u H2 ?_⟩
     have s6:SR X.K H0 Z0 σ H2 ⟨y.2.vs,y.2.mu.set n none⟩ ((u,.sh p)::(.ref a,.own (.lst ws))::(.ref a,.sh (.ptr n))::pd):=.mk (Z:=Z) el hg z ((so.perm cF).consS e4)
     have hn:n<y.2.mu.length:=(List.getElem?_eq_some_iff.mp em).1
     have s7:SR X.K H0 Z0 σ H2 ⟨y.2.vs,y.2.mu.set n none⟩ ((.ref a,.own (.lst ws))::(.ref a,.sh (.ptr n))::(u,.sh p)::pd):=s6.perm (((List.Perm.swap _ _ _).cons _).trans (List.Perm.swap _ _ _))
     have s8:=s7.cellP (by show (y.2.mu.set n none)[n]?=_; rw [List.getElem?_set_self hn])
     have e8:(y.2.mu.set n none).set n (some (.lst ws))=y.2.mu:=by rw [List.set_set]; exact set_same em
     have s9:SR X.K H0 Z0 σ H2 ⟨y.2.vs,(y.2.mu.set n none).set n (some (.lst ws))⟩ ((u,.sh p)::pd):=s8
     rw [e8] at s9
     exact s9
   . cases h4
 . obtain ⟨l',h5,h6⟩:=map_some h4
   cases h6
   exact Jt H0 Z0 σ y.2 pd H2 v w x.1.pv y.1.pv _ Q s3 h5 k
mutual
noncomputable def jV:PV->Bool
 | .non=>true
 | .bl _=>true
 | .int _=>true
 | .str _=>true
 | .tup ps=>pq ps
 | _=>false
noncomputable def pq:List PV->Bool
 | []=>true
 | p::ps=>jV p&&pq ps
end
noncomputable def wU:Lc->Bool
 | .sh p=>jV p
 | .own (.lst ps)=>pq ps
 | _=>false
noncomputable def Nt:Option Lc->Option Lc
 | some l=>some (.sh l.pv)
 | none=>none
noncomputable def Ev.peek (ρ:Ev):Ev:=⟨ρ.vs.map Nt,ρ.mu.map fun _=>none⟩
noncomputable def dR (f:EF):EF:=fun ρ=>(f ρ.peek).bind fun x=>if wU x.1=true then some (x.1,ρ) else none
noncomputable def nJ (f:TF):TF:=fun ρ=>(f ρ.peek).map fun x=>(x.1,ρ)
noncomputable def zb:Option HO->Option HO->Option HO->Option HO
 | some (.tup vs),_,_=>some (.tup vs)
 | some (.frz o u),_,_=>some (.frz o u)
 | some _,z,_=>z
 | none,_,z=>z
noncomputable def nM (H:Hp) (Z Z':ZG):ZG:=⟨fun b=>zb (H b) (Z.z b) (Z'.z b),Z.g⟩
theorem Jv {H H':Hp} {Z Z':ZG} (hh:cC H H') (zh:cC Z'.z H') {a:Addr} {vs:List V} (h:cG K Z'.z a vs):cG K (nM H Z Z').z a vs:=by
 rcases h with (h | ⟨o,h⟩) | h
 . refine .inl (.inl ?_)
   show zb (H a) (Z.z a) (Z'.z a)=_
   cases q:H a with
   | none=>exact h
   | some o=>
    have e1:=hh a o q
    rw [zh a _ h] at e1
    cases e1
    rfl
 . refine .inl (.inr ⟨o,?_⟩)
   show zb (H a) (Z.z a) (Z'.z a)=_
   cases q:H a with
   | none=>exact h
   | some o'=>
    have e1:=hh a o' q
    rw [zh a _ h] at e1
    cases e1
    rfl
 . exact .inr h
mutual
theorem Bu {H H':Hp} {Z Z':ZG} (hh:cC H H') (zh:cC Z'.z H'):∀ {p:PV} {v:V},jV p=true->Rep K Z' p v->Rep K (nM H Z Z') p v
 | .non,v,_,h=>by unfold Rep at h ⊢; exact h
 | .bl _,v,_,h=>by unfold Rep at h ⊢; exact h
 | .int _,v,_,h=>by unfold Rep at h ⊢; exact h
 | .str _,v,_,h=>by unfold Rep at h ⊢; exact h
 | .tup ps,v,f,h=>by
  unfold Rep at h ⊢
  obtain ⟨a,vs,e,h1,h2⟩:=h
  unfold jV at f
  exact ⟨a,vs,e,Jv hh zh h1,um hh zh f h2⟩
 | .lst _,v,f,_=>by unfold jV at f; cases f
 | .dk _ _,v,f,_=>by unfold jV at f; cases f
 | .dt _ _,v,f,_=>by unfold jV at f; cases f
 | .obj _ _ _,v,f,_=>by unfold jV at f; cases f
 | .df _ _,v,f,_=>by unfold jV at f; cases f
 | .dtf _ _,v,f,_=>by unfold jV at f; cases f
 | .dx _ _ _,v,f,_=>by unfold jV at f; cases f
 | .exc _,v,f,_=>by unfold jV at f; cases f
 | .ptr _,v,f,_=>by unfold jV at f; cases f
theorem um {H H':Hp} {Z Z':ZG} (hh:cC H H') (zh:cC Z'.z H'):∀ {ps:List PV} {vs:List V},pq ps=true->aH K Z' ps vs->aH K (nM H Z Z') ps vs
 | [],vs,_,h=>by unfold aH at h ⊢; exact h
 | p::ps,vs,f,h=>by
  obtain ⟨v,r,rfl,h1,h2⟩:=h.inv
  unfold pq at f
  rw [Bool.and_eq_true] at f
  exact aH.cons (Bu hh zh f.1 h1) (um hh zh f.2 h2)
end
theorem SR.lookB (s:SR K H0 Z0 σ H ρ pd):
 ∃ Z,(σ.length=ρ.vs.length/\ρ.mu.length=Z.g.length/\gD Z ⟨H,Z.g⟩/\Slots K H0 Z H (sl Z.g σ ρ pd))/\(∀ H' v r ρ1,SR K H ⟨H,Z.g⟩ σ H' ρ1 [(v,r)]->wU r=true->SR K H0 Z0 σ H' ρ ((v,r)::pd))/\∀ H' ρ1,SR K H ⟨H,Z.g⟩ σ H' ρ1 []->SR K H0 Z0 σ H' ρ pd:=by
 obtain ⟨el,Z,hg,z,so⟩:=s
 have lz:gD Z ⟨H,Z.g⟩:=⟨z.zh,List.prefix_refl _⟩
 have back:∀ {H':Hp} {Z':ZG},jB H ⟨H,Z.g⟩ Z' H'->jB H0 Z0 (nM H Z Z') H'/\Slots K H0 (nM H Z Z') H' (sl Z.g σ ρ pd):=fun {H' Z'} z'=>by
  have zz:gD Z (nM H Z Z'):=⟨fun b o e=>by
   show zb (H b) (Z.z b) (Z'.z b)=_
   have hb:=z.zh b o e
   rw [hb]
   cases o<;>first | rfl | exact e,List.prefix_refl _⟩
  have cas:∀ b o,(nM H Z Z').z b=some o->(∃ u,H b=some u/\((Ab u/\o=u)\/Z.z b=some o))\/(H b=none/\Z'.z b=some o):=fun b o e=>by
   have e:zb (H b) (Z.z b) (Z'.z b)=some o:=e
   cases q:H b with
   | none=>rw [q] at e; exact .inr ⟨rfl,e⟩
   | some u=>
    rw [q] at e
    refine .inl ⟨u,rfl,?_⟩
    cases u with
    | tup vs=>cases e; exact .inl ⟨trivial,rfl⟩
    | frz o' u=>cases e; exact .inl ⟨trivial,rfl⟩
    | _=>exact .inr e
  refine ⟨⟨fun b o e=>?_,z.h0.trans z'.h0,z.z0.trans zz,fun b o e=>?_⟩,?_⟩
  . rcases cas b o e with ⟨u,hu,⟨_,rfl⟩ | hz⟩ | ⟨_,hz⟩
    . exact z'.h0 b _ hu
    . exact z'.h0 b o (z.zh b o hz)
    . exact z'.zh b o hz
  . rcases cas b o e with ⟨u,hu,⟨hi,rfl⟩ | hz⟩ | ⟨hn,hz⟩
    . exact .inr (.inr hi)
    . exact z.new b o hz
    . exact .inr (.inl (z.h0.free hn))
  . refine so.step zz fun e he a ha=>?_
    obtain ⟨h1,h2,o,h3,h4⟩:=gj so he ha
    refine ⟨by rw [h3]; exact z'.h0 a o h3,?_⟩
    show zb (H a) (Z.z a) (Z'.z a)=_
    rw [h3]
    cases o with
    | tup vs=>exact (h4 trivial).elim
    | frz o u=>exact (h4 trivial).elim
    | _=>exact h1
 refine ⟨Z,⟨el,hg,lz,so⟩,fun H' v r ρ1 s1 hf=>?_,fun H' ρ1 s1=>?_⟩
 . obtain ⟨_,Z',hg',z',s2⟩:=s1.top
   obtain ⟨zo,ss⟩:=back z'
   have q:=s2.1 _ List.mem_cons_self
   refine .mk (Z:=nM H Z Z') el hg zo ?_
   cases r with
   | sh p=>
    obtain ⟨x,e1,e2⟩:=q
    cases e1
    exact ss.consS (Bu z'.h0 z'.zh hf e2)
   | own p=>
    obtain ⟨a,e1,e2,e3,e4⟩:=q
    have e1':v=.ref a:=Option.some.inj e1
    subst e1'
    cases p with
    | lst ps=>
     obtain ⟨vs,g1,g2⟩:=e2
     refine ⟨fun e he=>?_,?_⟩
     . rcases List.mem_cons.mp he with rfl | he
       . refine ⟨a,rfl,⟨vs,g1,um z'.h0 z'.zh hf g2⟩,?_,z.h0.free e4⟩
         show zb (H a) (Z.z a) (Z'.z a)=_
         rw [e4]
         exact e3
       . exact ss.1 e he
     . show (a::(sl Z.g σ ρ pd).filterMap jA).Nodup
       refine List.nodup_cons.mpr ⟨fun hm=>?_,ss.2⟩
       obtain ⟨e,he,hb⟩:=List.mem_filterMap.mp hm
       obtain ⟨_,_,o,h3,_⟩:=gj so he hb
       rw [h3] at e4; cases e4
    | _=>cases hf
 . obtain ⟨_,Z',hg',z',s2⟩:=s1
   obtain ⟨zo,ss⟩:=back z'
   exact ⟨el,nM H Z Z',hg,zo,ss⟩
theorem SR.peeked {H:Hp} {Z:ZG} {pk:Option Lc->Option Lc} (el:σ.length=ρ.vs.length) (hg:ρ.mu.length=Z.g.length)
 (hs:∀ v o,(v,o)∈σ.zip ρ.vs->pk o=none\/∃ x p,pk o=some (.sh p)/\v=some x/\Rep K ⟨H,Z.g⟩ p x):SR K H ⟨H,Z.g⟩ σ H ⟨ρ.vs.map pk,ρ.mu.map fun _=>none⟩ []:=by
 have key:∀ v l,(v,l)∈sl Z.g σ ⟨ρ.vs.map pk,ρ.mu.map fun _=>none⟩ []->l=none\/∃ x p,l=some (.sh p)/\v=some x/\Rep K ⟨H,Z.g⟩ p x:=fun v l he=>by
  rcases List.mem_append.mp he with he | he
  . obtain ⟨_,h2⟩:=List.of_mem_zip he
    obtain ⟨o,ho,e2⟩:=List.mem_map.mp h2
    obtain ⟨o',_,e3⟩:=List.mem_map.mp ho
    subst e3
    exact .inl e2.symm
  . rw [List.map_nil,List.append_nil] at he
    have he:(v,l)∈σ.zip (ρ.vs.map pk):=he
    rw [List.zip_map_right] at he
    obtain ⟨e,he2,e1⟩:=List.mem_map.mp he
    cases e1
    exact hs _ _ he2
 refine ⟨by simp [el],⟨H,Z.g⟩,by simp [hg],⟨cC.refl _,cC.refl _,gD.refl _,fun b o e=>.inl e⟩,fun e he=>?_,?_⟩
 . obtain ⟨v,l⟩:=e
   rcases key v l he with rfl | ⟨x,p,rfl,rfl,r⟩
   . trivial
   . exact ⟨x,rfl,r⟩
 . have:(sl Z.g σ ⟨ρ.vs.map pk,ρ.mu.map fun _=>none⟩ []).filterMap jA=[]:=by
    rw [List.filterMap_eq_nil_iff]
    intro e he
    obtain ⟨v,l⟩:=e
    rcases key v l he with rfl | ⟨x,p,rfl,rfl,_⟩
    . cases v with
      | none=>rfl
      | some x=>cases x<;>rfl
    . cases x<;>rfl
   show ((sl Z.g σ ⟨ρ.vs.map pk,ρ.mu.map fun _=>none⟩ []).filterMap jA).Nodup
   rw [this]
   exact List.nodup_nil
theorem SR.look (s:SR K H0 Z0 σ H ρ pd):
 ∃ Zt,SR K H Zt σ H ρ.peek []/\(∀ H' v r ρ1,SR K H Zt σ H' ρ1 [(v,r)]->wU r=true->SR K H0 Z0 σ H' ρ ((v,r)::pd))/\∀ H' ρ1,SR K H Zt σ H' ρ1 []->SR K H0 Z0 σ H' ρ pd:=by
 obtain ⟨Z,⟨el,hg,lz,so⟩,b1,b2⟩:=s.lookB
 refine ⟨_,SR.peeked (pk:=Nt) el hg fun v o he=>?_,b1,b2⟩
 have q:=so.1 _ (List.mem_append_right _ (List.mem_append_left _ he))
 match o,q with
 | none,_=>exact .inl rfl
 | some (.sh p),⟨x,e1,e2⟩=>exact .inr ⟨x,p,rfl,e1,e2.mono lz⟩
 | some (.own p),⟨a,e1,e2,_,_⟩=>exact .inr ⟨.ref a,p,rfl,e1,e2.rep lz rfl⟩
noncomputable def Vp (mu:Mu):PV->PV
 | .ptr n=>match mu[n]? with
  | some (some p)=>p
  | _=>.ptr n
 | p=>p
noncomputable def peekC (mu:Mu):Option Lc->Option Lc
 | some l=>some (.sh (Vp mu l.pv))
 | none=>none
noncomputable def Ev.peekC (ρ:Ev):Ev:=⟨ρ.vs.map (PL.peekC ρ.mu),ρ.mu.map fun _=>none⟩
theorem Lp {f:EF}:∀ σ H Q,tP K (dR f) σ H Q->tP K f σ H Q:=fun σ H Q q=>by
 obtain ⟨H0,Z0,ρ,pd,r,ρ',s,h,k⟩:=q
 obtain ⟨x,h1,h2⟩:=bind_some h
 obtain ⟨Zt,s1,b1,_⟩:=s.look
 split at h2
 . rename_i hf
   cases h2
   exact ⟨H,Zt,ρ.peek,[],x.1,x.2,s1,h1,fun v H' s2=>k v H' (b1 H' v x.1 x.2 s2 hf)⟩
 . cases h2
theorem nO {e:Expr} {f:EF} (h:PE X e (tP X.K f)):PE X e (tP X.K (dR f)):=PE.imp h Lp
theorem Jw {e:Expr} {f:TF} (h:PT X e (eZ X.K f)):PT X e (eZ X.K (nJ f)):=PT.imp h fun σ H Q q=>by
 obtain ⟨H0,Z0,ρ,pd,r,ρ',s,h,k⟩:=q
 obtain ⟨x,h1,h2⟩:=map_some h
 cases h2
 obtain ⟨Zt,s1,_,b2⟩:=s.look
 exact ⟨H,Zt,ρ.peek,[],x.1,x.2,s1,h1,fun H' s2=>k H' (b2 H' x.2 s2)⟩
end
noncomputable def sE (x:Str):It:=⟨fun i _=>i<x.cps.size,fun i H v H'=>H'=H/\∃ c,x.cps[i]?=some c/\v=.str ⟨#[c]⟩,fun i _=>i=x.cps.size⟩
theorem Bv {P:Program} {w:World} {tg:Expr} (it:Addr) (x:Str) {St:Nat->Heap->Prop} (W:∀ A':Around,A'.handled=none->Walks P w A' it [it] [it] x.cps.size (SignAt x) St)
 (hob:∀ i h,St i h->∃ o,h.get? it=some o/\∀ v,o.data≠.cell v) (slf:∀ (A:Around) (i:Nat) (s:Shared) (Q:Value->Shared->Prop) (E:Value->Shared->Prop),St i s.heap->Q (.ref it) s->wpAny (model P w) A (pyIter (.ref it)) Q E s):Turn P w K tg (sE x) [it] it St where
 mem:=by simp
 obj:=fun i h st b hb=>by
  have e:b=it:=by simpa using hb
  subst e
  exact hob i h st
 keep:=fun i h h' st k=>(W {} rfl).frame i h h' st k
 item:=by
  intro X hP hw hK hc i pins s σ H E I hf st hg
  subst hP hw hK
  obtain ⟨f0,f1,f2,f3,f4,f5⟩:=hf it (by simp)
  refine (W X.A (I.ok.hd hc)).item i s _ E hg st fun v h' tk hv st' hk=>?_
  obtain ⟨c,u,e1,rfl⟩:=hv
  have I1:Inv X pins σ H { s with heap:=h',toks:=tk }:=I.turned (fun b o hb e=>hk b o (by simpa using hb) e) f0 f1 f3 f4 f5
  refine ⟨_,rfl,?_⟩
  have fin:∃ x_1 H',Inv X pins σ H' { s with heap:=h',toks:=tk }/\RelV x_1 (.str ⟨#[c]⟩ u)/\(sE x).yld i H x_1 H'/\St (i+1) h'/\∀ b∈[it],H' b=none:=⟨.str ⟨#[c]⟩,H,I1,⟨u,rfl⟩,⟨rfl,c,e1,rfl⟩,st',fun b hb=>(hf b hb).1⟩
  unfold letOwnedTupleGo
  cases tg<;>exact wpAny_pure fin
 done:=by
  intro X hP hw hK hc i pins s σ H E I hf st hg
  subst hP hw hK
  obtain ⟨f0,f1,f2,f3,f4,f5⟩:=hf it (by simp)
  have hg:i=x.cps.size:=hg
  subst hg
  exact (W X.A (I.ok.hd hc)).done s _ E st fun h' tk hk=>⟨rfl,I.turned (fun b o hb e=>hk b o (by simpa using hb) e) f0 f1 f3 f4 f5⟩
 self:=fun A i s Q E st h=>slf A i s Q E st h
section
variable {X:Cx}
noncomputable def signs (x:Str):List PV:=x.cps.toList.map fun c=>.str ⟨#[c]⟩
noncomputable def V2:PV->Option (List PV)
 | .str x=>some (signs x)
 | _=>none
theorem Lr {H0:Hp} {x:Str}:kj K H0 Z0 pd (sE x) (signs x):=by
 intro σ H ρ i s
 refine ⟨fun p hp=>?_,fun hl=>?_⟩
 . unfold signs at hp
   rw [List.getElem?_map] at hp
   obtain ⟨c,hc,rfl⟩:=map_some hp
   have hi:=(List.getElem?_eq_some_iff.mp hc).1
   refine ⟨(show i<x.cps.size by simpa using hi),fun v H' y=>?_⟩
   obtain ⟨rfl,c',hc',rfl⟩:=y
   have:c'=c:=by
    rw [Array.getElem?_toList] at hc
    rw [hc] at hc'
    exact (Option.some.inj hc').symm
   subst this
   exact s.scal kO
 . show i=x.cps.size
   simpa [signs] using hl
theorem Dg {P:Program} {w:World} {A:Around} {ys:List V} {its:List Value} {bs:List Bool} (rv:Vals ys its) (e:ys=bs.map V.bl):TruthOf P w A (fun i v=>its.toArray[i]?=some v) (fun i=>bs.getD i false):=by
 intro i v s Q E hv q
 have hv':its[i]?=some v:=by simpa using hv
 have hi:=(List.getElem?_eq_some_iff.mp hv').1
 have hl:=rv.length
 have hb:i<bs.length:=by rw [e,List.length_map] at hl; omega
 obtain ⟨u,h1,h2⟩:=rv.get (i:=i) (x:=.bl bs[i]) (by rw [e,List.getElem?_map,List.getElem?_eq_getElem hb]; rfl)
 rw [hv'] at h1; cases h1
 cases h2
 have:bs.getD i false=bs[i]:=by simp [hb]
 have q':Q (bs.getD i false) s:=q
 rw [this] at q'
 exact wpAny_truthy_bool q'
theorem range_all {bs:List Bool}:((List.range bs.length).all fun i=>bs.getD i false)=bs.all id:=by
 induction bs with
 | nil=>rfl
 | cons b r ih=>
  rw [List.length_cons,List.range_succ_eq_map,List.all_cons,List.all_map,List.all_cons]
  have:((List.range r.length).all ((fun i=>(b::r).getD i false) ∘ Nat.succ))=(List.range r.length).all fun i=>r.getD i false:=rfl
  rw [this,ih]
  rfl
theorem sG (hc:X.calm=true):nA X (.builtin "all") (fun xs H Q=>∃ (p:Addr) (bs:List Bool),xs=[.ref p]/\bQ X.K H p (bs.map V.bl)/\Q (.bl (bs.all id)) H):=by
 intro pins s σ H xs us Q I r h
 obtain ⟨p,bs,rfl,hq,q⟩:=h
 obtain ⟨u,rfl,ru⟩:=vals1 r
 cases ru
 obtain ⟨its,rv,pl,_⟩:=I.list hq
 have hlt:p<s.heap.objs.size:=by obtain ⟨o,n,g1,_⟩:=pl; exact Heap.lt_size g1
 refine call_all_walk (wpAny_pyIter_list pl.isList ?_)
 have old:∀ b o,s.heap.get? b=some o->(s.heap.push { cls:=.type "list_iterator",data:=.fields #[.ref p,.int 0 0] }).get? b=some o:=fun b o e=>Heap.get?_push_of_some _ e
 have hl:its.toArray.size=bs.length:=by rw [List.size_toArray,← rv.length,List.length_map]
 refine ⟨s.heap.objs.size,_,_,_,_,_,fun i=>bs.getD i false,rfl,Walks.list (A:=X.A.in1) (show X.A.in1.handled=none from I.ok.hd hc) _ p (Nat.ne_of_lt hlt) its.toArray,⟨⟨_,Heap.get?_push_size _ rfl,rfl,rfl⟩,?_⟩,Dg rv rfl,fun h' tk hk=>?_⟩
 . obtain ⟨o,g1,g2⟩:=pl.isList
   exact ⟨o,old _ _ g1,g2⟩
 . rw [hl,range_all]
   refine ⟨.bl _,H,I.kept (t':=tk) fun b o e=>hk b o ?_ (old b o e),rfl,q⟩
   have:=Heap.lt_size e
   simp
   exact Nat.ne_of_lt this
noncomputable def boolsOf:List PV->Option (List Bool)
 | []=>some []
 | .bl b::r=>(boolsOf r).map (b::·)
 | _=>none
theorem zg {Z:ZG}:∀ {ps:List PV} {bs:List Bool} {vs:List V},boolsOf ps=some bs->aH K Z ps vs->vs=bs.map V.bl
 | [],bs,vs,h,r=>by cases h; exact r.inv0
 | p::ps,bs,vs,h,r=>by
  cases p with
  | bl b=>
   obtain ⟨cs,h1,rfl⟩:=map_some h
   obtain ⟨v,w,rfl,r1,r2⟩:=r.inv
   rw [dY r1,zg h1 r2]
   rfl
  | _=>cases h
noncomputable def RP:PV->Option Lc
 | .lst ps=>(boolsOf ps).map fun bs=>.sh (.bl (bs.all id))
 | _=>none
noncomputable abbrev all1:List PV->Option Lc:=fun ps=>match ps with | [p]=>RP p | _=>none
theorem Jx:jD K (fun xs H Q=>∃ (p:Addr) (bs:List Bool),xs=[.ref p]/\bQ K H p (bs.map V.bl)/\Q (.bl (bs.all id)) H) all1:=jD.one fun H0 Z0 σ ρ pd H v p l Q s e k=>by
 obtain ⟨_,r⟩:=s.repH
 cases p with
 | lst ps=>
  obtain ⟨bs,h1,rfl⟩:=map_some (show (boolsOf ps).map (fun bs=>Lc.sh (.bl (bs.all id)))=some l from e)
  unfold Rep at r
  obtain ⟨a,vs,rfl,h2,h3⟩:=r
  have:=zg h1 h3
  subst this
  exact ⟨a,bs,rfl,h2,k _ H (s.pop.scal dG)⟩
 | _=>cases e
noncomputable def strsOf:List PV->Option (List Str)
 | []=>some []
 | .str x::r=>(strsOf r).map (x::·)
 | _=>none
theorem sH {Z:ZG}:∀ {ps:List PV} {xs:List Str} {vs:List V},strsOf ps=some xs->aH K Z ps vs->vs=xs.map V.str
 | [],xs,vs,h,r=>by cases h; exact r.inv0
 | p::ps,xs,vs,h,r=>by
  cases p with
  | str b=>
   obtain ⟨cs,h1,rfl⟩:=map_some h
   obtain ⟨v,w,rfl,r1,r2⟩:=r.inv
   rw [bW r1,sH h1 r2]
   rfl
  | _=>cases h
theorem wV:∀ {xs:List Str} {its:List Value},Vals (xs.map V.str) its->StrsAre its xs
 | [],_,.nil=>.nil
 | x::xs,_,.cons r t=>by
  obtain ⟨tk,rfl⟩:=r
  exact .cons _ _ (wV t)
theorem DN:Ri X "str.join" (fun x xs H Q=>∃ (z:Str) (p:Addr) (ys:List Str),x=.str z/\xs=[.ref p]/\bQ X.K H p (ys.map V.str)/\(ys.map (·.length)).sum+ys.length*z.length<=16777216/\Q (.str (Txt.join z ys)) H):=by
 intro pins s σ H x vs v us Q I rx rv h
 obtain ⟨z,p,ys,rfl,rfl,hq,hz,q⟩:=h
 obtain ⟨t,rfl⟩:=rx
 obtain ⟨u,rfl,ru⟩:=rv.one
 cases ru
 obtain ⟨its,rvs,pl,_⟩:=I.list hq
 exact join_list pl.isList (by simpa using wV rvs) hz fun t' k=>⟨.str _,H,I.tok k,⟨t',rfl⟩,q⟩
noncomputable def mJ (f:EF) (a:AF):EF:=fun ρ=>(f ρ).bind fun x=>(a x.2).bind fun y=>match x.1.pv,y.1.map Lc.pv with
 | .str z,[.lst ps]=>(strsOf ps).bind fun xs=>if (xs.map (·.length)).sum+xs.length*z.length<=100000 then some (.sh (.str (Txt.join z xs)),y.2) else none
 | _,_=>none
theorem Nu {o e:Expr} {f:EF} {a:AF} {apos cpos:Pos} (h:PE X (.Call (.Attribute o "join" apos) [e] [] cpos) (Dq X.K "str" (fun x xs H Q=>∃ (z:Str) (p:Addr) (ys:List Str),x=.str z/\xs=[.ref p]/\bQ X.K H p (ys.map V.str)/\(ys.map (·.length)).sum+ys.length*z.length<=16777216/\Q (.str (Txt.join z ys)) H) (tP X.K f) (jC X.K a))):
 PE X (.Call (.Attribute o "join" apos) [e] [] cpos) (tP X.K (mJ f a)):=PE.imp h fun σ H Q q=>by
 obtain ⟨H0,Z0,ρ,pd,r,ρ',s,h,k⟩:=q
 obtain ⟨x,h1,h2⟩:=bind_some h
 obtain ⟨y,h3,h4⟩:=bind_some h2
 refine ⟨H0,Z0,ρ,pd,x.1,x.2,s,h1,fun v H1 s1=>?_⟩
 split at h4
 . rename_i z ps ez ep
   obtain ⟨xs,h5,h6⟩:=bind_some h4
   split at h6
   . rename_i hz
     cases h6
     obtain ⟨_,rz⟩:=s1.freeze.repH
     rw [ez] at rz
     have:=bW rz
     subst this
     refine ⟨rfl,H0,Z0,x.2,pd,y.1,y.2,s1.pop,h3,fun vs H2 e2 s2=>?_⟩
     obtain ⟨el,Z,hg,zz,rl,ss⟩:=s2.repl e2
     rw [ep] at rl
     obtain ⟨w,rr,rfl,r1,r2⟩:=rl.inv
     have:=r2.inv0
     subst this
     unfold Rep at r1
     obtain ⟨b,ws,rfl,g1,g2⟩:=r1
     have:=sH h5 g2
     subst this
     exact ⟨z,b,xs,rfl,rfl,bQ.same zz.zh g1,by omega,k _ H2 (.mk (Z:=Z) el hg zz (ss.consS (kO _)))⟩
   . cases h6
 . cases h4
end
section
variable {prog:Program} {w:World} {A:Around} {E:Value->Shared->Prop} {s:Shared}
theorem zj {it t:Addr} {items:Array Value} (hne:t≠it):∀ (n i:Nat) (s:Shared) (Q:List Value->Shared->Prop),s.heap.IsListIter it t i->s.heap.IsList t items->i+n<=items.size->
 (∀ h',h'.IsListIter it t (i+n)->Heap.SameBut it s.heap h'->Q ((items.toList.drop i).take n) { s with heap:=h' })->wpAny (model prog w) A (draw (.ref it) n) Q E s
 | 0,i,s,Q,hit,_,_,hQ=>by
  show wpAny _ _ (pure []) Q E s
  exact wpAny_pure (by simpa using hQ s.heap hit (Heap.SameBut.refl ..))
 | n+1,i,s,Q,hit,ht,hle,hQ=>by
  have hlt:i<items.size:=by omega
  show wpAny _ _ (pyNext (.ref it) >>= _) Q E s
  refine wpAny_bind (wpAny_pyNext_list_item hit ht (x:=items[i]) (by simp [hlt]) fun h₁ hit₁ hs₁=>?_)
  refine wpAny_bind (wpAny_holding (zj hne n (i+1) _ _ hit₁ (ht.extBut hs₁.extBut hne) (by omega) fun h₂ hit₂ hs₂=>wpAny_pure ?_))
  have hd:items.toList.drop i=items[i]::items.toList.drop (i+1):=by simp [List.drop_eq_getElem_cons,hlt]
  have:=hQ h₂ (by rw [show i+(n+1)=i+1+n by omega]; exact hit₂) (hs₁.trans hs₂)
  rw [hd,List.take_succ_cons] at this
  exact this
theorem vN {t:Addr} {items:Array Value} {Q:List Value->Shared->Prop} (hh:A.handled=none) (ht:s.heap.IsList t items)
 (hQ:∀ h',Heap.ExtBut s.heap.objs.size s.heap h'->Q items.toList { s with heap:=h' }):wpAny (model prog w) A (unpackItems (.ref t) items.size none) Q E s:=by
 have hlt:t≠s.heap.objs.size:=by obtain ⟨o,ho,_⟩:=ht; exact Nat.ne_of_lt (Heap.lt_size ho)
 unfold unpackItems
 refine wpAny_bind ?_
 . unfold notIterableAtAll
   refine wpAny_bind (wpAny_specialOf ht.typeIs slot_list_iter.lookup ?_)
   refine wpAny_pure ?_
   simp only [Bool.false_eq_true,if_false]
   refine wpAny_bind (wpAny_holding (wpAny_pyIter_list ht ?_))
   refine wpAny_bind (wpAny_holding (zj hlt items.size 0 _ _ ⟨_,Heap.get?_push_size _ rfl,rfl,rfl⟩ (by obtain ⟨o,g1,g2⟩:=ht; exact ⟨o,Heap.get?_push_of_some _ g1,g2⟩) (by omega) fun h₁ hit₁ hs₁=>?_))
   have hall:List.take items.size (List.drop 0 items.toList)=items.toList:=by
    rw [List.drop_zero]; exact List.take_of_length_le (by simp)
   rw [hall]
   rw [if_neg (by simp)]
   have ht₁:h₁.IsList t items:=Heap.IsList.extBut (by obtain ⟨o,g1,g2⟩:=ht; exact ⟨o,Heap.get?_push_of_some _ g1,g2⟩) hs₁.extBut hlt
   refine wpAny_bind (wpAny_holding (wpAny_pyNext_list_end hh hit₁ ht₁ (by simp) fun h₂ he₂=>?_))
   simp only [Option.isSome_none,Bool.false_eq_true,if_false]
   refine wpAny_pure (hQ h₂ fun b o hb e=>he₂ b o hb (hs₁.extBut b o hb (Heap.get?_push_of_some _ e)))
end
section
variable {X:Cx} {pos:Pos}
noncomputable def RQ (K:FG) (n:Nat) (t:tB):TG:=fun v σ H Q=>∃ a xs,v=.ref a/\(cG K H a xs\/bQ K H a xs)/\xs.length=n/\t xs σ H Q
theorem pA {es:List Expr} {k:Nat} {t:tB} {n:Nat} (hc:X.calm=true) (h:HN X es t)
 (hn:(assignEach es X.env).length=n:=by rfl) (hst:(assignEach es X.env).findIdx? (·.1)=none:=by rfl):PG X (.Tuple es k pos) (RQ X.K n t):=by
 intro pins s σ H v u Q I r hw
 obtain ⟨a,xs,e1,hq,hl,hw⟩:=hw
 rcases hq with hq | hq
 . exact QL hc h hn hst pins s σ H v u Q I r ⟨a,xs,e1,hq,hl,hw⟩
 . subst e1
   cases r
   obtain ⟨its,rv,ht,hz⟩:=I.list hq
   rw [assign_Tuple]
   refine wpAny_bind (wpAny_standAt ?_)
   unfold unpack
   have hsz:(assignEach es X.env).length=its.toArray.size:=by simp [hn,← hl,rv.length]
   rw [hsz,hst]
   refine wpAny_bind (wpAny_holding (vN (I.ok.hd hc) ht.isList fun h' hx=>?_))
   have I1:Inv X pins σ H { s with heap:=h' }:=I.kept (t':=s.toks) fun b o e=>hx b o (Nat.ne_of_lt (Heap.lt_size e)) e
   exact h pins _ σ H xs _ Q I1 (by simpa using rv) hw
noncomputable def eN (n:Nat) (bs:Bk):BF:=fun p ρ=>match p with
 | .tup ps=>if ps.length=n then bs ps ρ else none
 | .lst ps=>if ps.length=n then bs ps ρ else none
 | _=>none
theorem pB {n:Nat} {t:tB} {bs:Bk} (h1:Nm K t bs):GS K (RQ K n t) (eN n bs):=by
 intro H0 Z0 σ H ρ pd v p ρ' Q s h k
 cases p with
 | tup ps=>
  have h':(if ps.length=n then bs ps ρ else none)=some ρ':=h
  split at h'
  . rename_i hn
    obtain ⟨e,Z,hg,z,r,sl'⟩:=s.sh
    unfold Rep at r
    obtain ⟨a,vs,rfl,h2,h3⟩:=r
    exact ⟨a,vs,rfl,.inl (cG.same z.zh h2),by rw [h3.length]; exact hn,h1 H0 Z0 σ H ρ pd vs ps ρ' Q h3.length (SR.items e hg z h3 sl') h' k⟩
  . cases h'
 | lst ps=>
  have h':(if ps.length=n then bs ps ρ else none)=some ρ':=h
  split at h'
  . rename_i hn
    obtain ⟨e,Z,hg,z,r,sl'⟩:=s.sh
    unfold Rep at r
    obtain ⟨a,vs,rfl,h2,h3⟩:=r
    exact ⟨a,vs,rfl,.inr (bQ.same z.zh h2),by rw [h3.length]; exact hn,h1 H0 Z0 σ H ρ pd vs ps ρ' Q h3.length (SR.items e hg z h3 sl') h' k⟩
  . cases h'
 | _=>cases h
noncomputable def Vq (K:FG) (tl:TE):TI:=fun σ H R=>tl σ H fun x H1=>(∃ a,x=.ref a/\(∃ xs,bQ K H1 a xs)/\R (MP K a) H1)\/(∃ a,x=.ref a/\(∃ xs,cG K H1 a xs)/\R (MT K a) H1)\/∃ z,x=.str z/\R (sE z) H1
theorem RT {tg l:Expr} {tl:TE} (hl:PE X l tl):PI X tg l (Vq X.K tl):=by
 intro pins s σ H R I h
 have at':∀ (v:Value) (s1:Shared) (x:V) (H1:Hp),Inv X pins σ H1 s1->RelV x v->((∃ a,x=.ref a/\(∃ xs,bQ X.K H1 a xs)/\R (MP X.K a) H1)\/(∃ a,x=.ref a/\(∃ xs,cG X.K H1 a xs)/\R (MT X.K a) H1)\/∃ z,x=.str z/\R (sE z) H1)->
  wpAny (model X.prog X.w) X.A (pyIter v) (PIE X pins σ tg R) X.xe s1:=fun v s1 x H1 I1 r1 q=>by
  have fp:∀ b,b∈[s1.heap.objs.size]->lE X pins H1 b:=fun b hb=>by
   have e:b=s1.heap.objs.size:=by simpa using hb
   subst e
   exact I1.fpOk (Nat.le_refl _) (I1.hok.fresh (Nat.le_refl _))
  rcases q with ⟨a,rfl,⟨xs,hq⟩,q⟩ | ⟨a,rfl,⟨xs,hq⟩,q⟩ | ⟨z,rfl,q⟩
  . cases r1
    obtain ⟨its,rv,p,hz⟩:=I1.list hq
    exact wpAny_pyIter_list p.isList ⟨s1.heap.objs.size,[s1.heap.objs.size],_,_,H1,rfl,I1.kept (t':=s1.toks) fun b o e=>Heap.get?_push_of_some _ e,HR a _,⟨_,Heap.get?_push_size _ rfl,rfl,rfl⟩,fp,q⟩
  . cases r1
    obtain ⟨its,rv,p,hz⟩:=I1.tuple hq
    exact wpAny_pyIter_tuple p ⟨s1.heap.objs.size,[s1.heap.objs.size],_,_,H1,rfl,I1.kept (t':=s1.toks) fun b o e=>Heap.get?_push_of_some _ e,Fz a _,⟨_,Heap.get?_push_size _ rfl,rfl,rfl⟩,fp,q⟩
  . obtain ⟨t,rfl⟩:=r1
    have kp:∀ (o:Obj),Inv X pins σ H1 { s1 with heap:=s1.heap.push o }:=fun o=>I1.kept (t':=s1.toks) fun b u e=>Heap.get?_push_of_some _ e
    have ob:∀ {n:String} (i:Nat) (h:Heap),h.IsStrIter s1.heap.objs.size n z t i->∃ o,h.get? s1.heap.objs.size=some o/\∀ v,o.data≠.cell v:=fun i h st=>by
     obtain ⟨o,ho,_,hd⟩:=st
     exact ⟨o,ho,fun v e=>by rw [hd] at e; cases e⟩
    cases ha:z.cps.all (·<128)
    . exact wpAny_pyIter_wide ha ⟨s1.heap.objs.size,[s1.heap.objs.size],_,sE z,H1,rfl,kp _,Bv _ z (fun A' hA=>Walks.strWide hA _ z t) ob (fun A i s Q E st h=>wpAny_pyIter_striter_wide st h),⟨_,Heap.get?_push_size _ rfl,rfl,rfl⟩,fp,q⟩
    . exact wpAny_pyIter_ascii ha ⟨s1.heap.objs.size,[s1.heap.objs.size],_,sE z,H1,rfl,kp _,Bv _ z (fun A' hA=>Walks.strAscii hA _ z t) ob (fun A i s Q E st h=>wpAny_pyIter_striter_ascii st h),⟨_,Heap.get?_push_size _ rfl,rfl,rfl⟩,fp,q⟩
 exact bu (hl pins s σ H _ I h) fun v s1 ⟨x,H1,I1,r1,q⟩=>at' v s1 x H1 I1 r1 q
noncomputable def bG:PV->Option (List PV)
 | .lst ps=>some ps
 | .tup ps=>some ps
 | .str x=>some (signs x)
 | _=>none
theorem eG {tg l:Expr} {f:EF} (hl:PE X l (tP X.K f)):PI X tg l (wK X.K (dB f bG)):=PI.imp (RT hl) fun σ H R q=>by
 obtain ⟨H0,Z0,ρ,pd,xs,ρ',s,h,k⟩:=q
 obtain ⟨x,h1,h2⟩:=bind_some h
 obtain ⟨ys,h3,h4⟩:=map_some h2
 cases h4
 refine ⟨H0,Z0,ρ,pd,x.1,x.2,s,h1,fun v H1 s1=>?_⟩
 have s2:=s1.freeze
 cases e:x.1.pv with
 | lst ps=>
  rw [e] at h3 s2
  cases h3
  obtain ⟨Z,z,r⟩:=s2.rep
  unfold Rep at r
  obtain ⟨b,vs,rfl,h1',h2'⟩:=r
  exact .inl ⟨b,rfl,⟨vs,bQ.same z h1'⟩,k _ _ _ s2 Jl (List.sublist_cons_self _ _)⟩
 | tup ps=>
  rw [e] at h3 s2
  cases h3
  obtain ⟨Z,z,r⟩:=s2.rep
  unfold Rep at r
  obtain ⟨b,vs,rfl,h1',h2'⟩:=r
  exact .inr (.inl ⟨b,rfl,⟨vs,cG.same z h1'⟩,k _ _ _ s2 Lk (List.sublist_cons_self _ _)⟩)
 | str z=>
  rw [e] at h3 s2
  cases h3
  obtain ⟨_,r⟩:=s2.repH
  exact .inr (.inr ⟨z,bW r,k _ _ _ s2.pop Lr (List.Sublist.refl _)⟩)
 | _=>rw [e] at h3; cases h3
noncomputable def dZ (g g':PV->PV->Option Lc) (fa fb fc:EF):EF:=fun ρ=>(fa ρ).bind fun x=>(fb x.2).bind fun y=>(g x.1.pv y.1.pv).bind fun z=>match z.pv with
 | .bl true=>(fc y.2).bind fun w=>(g' y.1.pv w.1.pv).map fun l=>(l,w.2)
 | .bl false=>some (.sh (.bl false),y.2)
 | _=>none
theorem zm {r r':R2} {g g':PV->PV->Option Lc} (hs:gO X.K r g) (hs':gO X.K r' g') {fa fb fc:EF}:∀ σ H Q,tP X.K (dZ g g' fa fb fc) σ H Q->Ar r r' (tP X.K fa) (tP X.K fb) (tP X.K fc) σ H Q:=fun σ H Q q=>by
 obtain ⟨H0,Z0,ρ,pd,l,ρ',s,f,k⟩:=q
 obtain ⟨x,h1,h2⟩:=bind_some f
 obtain ⟨y,h3,h4⟩:=bind_some h2
 obtain ⟨z,h5,h6⟩:=bind_some h4
 refine ⟨H0,Z0,ρ,pd,x.1,x.2,s,h1,fun v H1 s1=>⟨H0,Z0,x.2,_,y.1,y.2,s1,h3,fun w H2 s2=>?_⟩⟩
 have s3:=s2.freeze.swap.freeze.swap
 have s4:SR X.K H0 Z0 σ H2 y.2 ((w,.sh y.1.pv)::(v,.sh x.1.pv)::(w,.sh y.1.pv)::pd):=s3.dup.perm ((List.Perm.swap _ _ _).cons _)
 refine hs H0 Z0 σ y.2 _ H2 v w x.1.pv y.1.pv z _ s4 h5 fun u H3 s5=>?_
 obtain ⟨_,ru⟩:=s5.freeze.repH
 split at h6
 . rename_i e
   rw [e] at ru
   refine ⟨true,dY ru,?_⟩
   rw [if_pos rfl]
   obtain ⟨t,h7,h8⟩:=bind_some h6
   obtain ⟨l',h9,h10⟩:=map_some h8
   cases h10
   refine ⟨H0,Z0,y.2,_,t.1,t.2,s5.pop,h7,fun b H4 s6=>?_⟩
   exact hs' H0 Z0 σ t.2 pd H4 w b y.1.pv t.1.pv _ Q s6.freeze h9 k
 . rename_i e
   rw [e] at ru
   refine ⟨false,dY ru,?_⟩
   rw [if_neg Bool.false_ne_true]
   cases h6
   exact k _ H3 (s5.pop.pop.scal dG)
 . cases h6
theorem RV {op op':CmpOp} {a b c:Expr} {r r':R2} {g g':PV->PV->Option Lc} {fa fb fc:EF} (ho:du X (compareOp op) r) (ho':du X (compareOp op') r') (hs:gO X.K r g) (hs':gO X.K r' g') (ha:PE X a (tP X.K fa)) (hb:PE X b (tP X.K fb)) (hc:PE X c (tP X.K fc))
 (hm:lastMarks [op,op'] [b,c]=false:=by with_unfolding_all rfl):PE X (.Compare a [op,op'] [b,c] pos) (tP X.K (dZ g g' fa fb fc)):=PE.imp (Ks ho ho' ha hb hc hm) (zm hs hs')
theorem ye {op op':CmpOp} {a b c:Expr} {r r':R2} {g g':PV->PV->Option Lc} {fa fb fc:EF} (ho:du X (compareOp op) r) (ho':du X (compareOp op') r') (hs:gO X.K r g) (hs':gO X.K r' g') (ha:PE X a (tP X.K fa)) (hb:PE X b (tP X.K fb)) (hc:PE X c (tP X.K fc))
 (hm:lastMarks [op,op'] [b,c]=false:=by with_unfolding_all rfl):PT X (.Compare a [op,op'] [b,c] pos) (eZ X.K (tT (dZ g g' fa fb fc) aN)):=Nk (PT.imp (Ku ho ho' ha hb hc hm) fun σ H Q q=>zm hs hs' σ H _ q)
end
section
variable {P:Program} {w:World} {K:FG} {mg:Str->Option Value} {base:Heap}
noncomputable def RW (mg:Str->Option Value) (L:List Str):Prop:=∀ x∈L,mg x=none
noncomputable def Ae (K:FG):Sp:=fun vs H Q _=>∃ (a:Addr) (ns:List Int),vs=[.ref a]/\bQ K H a (ns.map V.int)/\ns.length<=63/\∀ H',Q (.bl true) H'
theorem RX {f:Addr} {fd:FuncData} {k:Nat} {g:GF} (F:lF P w K mg base qN k f fd ["_law_script"] (cN K 1 g)) (h:∀ ns:List Int,ns.length<=63->∃ mu',g [.lst (ns.map PV.int)] []=some (.sh (.bl true),mu')):lF P w K mg base qN k f fd ["_law_script"] (Ae K):=
 F.imp fun vs H Q E q=>by
  obtain ⟨a,ns,rfl,hs,hl,k⟩:=q
  obtain ⟨mu',e⟩:=h ns hl
  refine ⟨⟨H,[]⟩,[.lst (ns.map PV.int)],[],_,mu',rfl,rfl,cC.refl _,aH.cons ?_ .nil,⟨fun e he=>(by cases he),List.nodup_nil⟩,e,fun v H' r=>?_⟩
  . unfold Rep
    refine ⟨a,ns.map V.int,rfl,hs,?_⟩
    clear hs e hl
    induction ns with
    | nil=>exact .nil
    | cons n r ih=>exact aH.cons (dD _) ih
  . obtain ⟨Z',_,_,s⟩:=r
    obtain ⟨x,e1,e2⟩:=s.1 _ List.mem_cons_self
    cases e1
    rw [dY e2]
    exact k H'
end
theorem aV:∀ ρ ls ρ1,ao ρ=some (ls,ρ1)->ls.length=0:=fun ρ ls ρ1 h=>by cases h; rfl
theorem aD {f:EF} {g:AF} {n:Nat} (h:∀ ρ ls ρ1,g ρ=some (ls,ρ1)->ls.length=n):∀ ρ ls ρ1,aj f g ρ=some (ls,ρ1)->ls.length=n+1:=fun ρ ls ρ1 e=>by
 obtain ⟨x,h1,h2⟩:=bind_some e
 obtain ⟨y,h3,h4⟩:=map_some h2
 cases h4
 rw [List.length_cons,h _ _ _ h3]
theorem Nv {X:Cx} {M F:List Str} {ixs:List Nat} {sc:Scope} (S:Scope) (hS:X.env.scope=S) (kind:sc.kind=.function) (locs:∀ y∈sc.names,y.2=.local->sc.names.lookup y.1=some .local) (cel:∀ y∈sc.names,y.2=.cell->sc.names.lookup y.1=some .cell)
 (own:∀ p∈sc.names,p.2=.free->S.names.lookup p.1=some .cell\/S.names.lookup p.1=some .free) (frs:∀ x∈F,sc.names.lookup x=some .free) (ix:ixs.map (fun i=>X.N[i]?)=F.map some):gh X M F ixs sc:=by
 refine ⟨kind,locs,cel,fun p hp e=>by rw [hS]; exact own p hp e,frs,?_,fun j i h=>?_⟩
 . have:=congrArg List.length ix
   simpa using this
 . have h2:(ixs.map (fun i=>X.N[i]?))[j]?=some X.N[i]?:=by rw [List.getElem?_map,h]; rfl
   rw [ix,List.getElem?_map] at h2
   cases q:F[j]? with
   | none=>rw [q] at h2; cases h2
   | some x=>rw [q] at h2; exact (Option.some.inj h2).symm
theorem csn {X:Cx} {M F:List Str} {ixs:List Nat} {sc:Scope} (kind:sc.kind=.function:=by rfl) (locs:∀ y∈sc.names,y.2=.local->sc.names.lookup y.1=some .local:=by decide +kernel) (cel:∀ y∈sc.names,y.2=.cell->sc.names.lookup y.1=some .cell:=by decide +kernel)
 (own:(sc.names.all fun p=>p.2 != .free||(X.env.scope.names.lookup p.1==some .cell||X.env.scope.names.lookup p.1==some .free))=true:=by rfl) (frs:∀ x∈F,sc.names.lookup x=some .free:=by decide +kernel) (ix:ixs.map (fun i=>X.N[i]?)=F.map some:=by rfl):gh X M F ixs sc:=
 Nv X.env.scope rfl kind locs cel (fun p hp e=>by
  have:=List.all_eq_true.mp own p hp
  rw [e] at this
  simpa using this) frs ix
section
variable {P:Program} {w:World} {K:FG} {mg:Str->Option Value} {base:Heap}
theorem oJ.okP {x:Str} {st:Stmt} {N ps:List Str} {k:Nat} {g:GF} {f:Addr} {fd:FuncData} (F:oJ K x x st f fd) (S:bw N ps (az st))
 (h:∀ (cdv:Value) (A:Around) (outer:List PySem.Env) (s:Shared) (H:Hp) (E:XK),ie k (A.deeper (envOfC x (az st) s.heap.objs.size f cdv))->
   ∃ g':SF,(∀ a mu,g a mu=fj N.length g' a mu)/\dg (j8 qN P w K mg base N x (az st) f cdv A outer s H E).nox (aU st) (dI K g')):lF P w K mg base qN (k+1) f fd ps (cN K ps.length g):=by
 refine F.ok S (fun vs H Q E q=>?_) (fun cdv A outer s H vs Q E hr q=>?_)
 . obtain ⟨Z,qs,mu,r,mu',e,_⟩:=q; exact e
 . obtain ⟨g',eg,b⟩:=h cdv A outer s H E hr
   obtain ⟨Z,qs,mu,r,mu',e,hg,z,rl,c,hr',kk⟩:=q
   rw [eg] at hr'
   obtain ⟨fl,h1,h2⟩:=bind_some hr'
   refine ⟨_,b,jg H (kJ Z.g mu),Z,_,[],fl,vI hg z rl c,h1,?_⟩
   cases fl with
   | rt r' ρ'=>
    cases h2
    intro v σ' H' s'
    obtain ⟨el,Z',hg',z',s''⟩:=s'.top
    refine kk v H' ⟨Z',hg',z',s''.sub ?_⟩
    exact (List.sublist_append_left _ _).cons_cons _
   | nx ρ'=>
    cases h2
    intro σ' H' s'
    obtain ⟨el,Z',hg',z',s''⟩:=s'
    exact kk .non H' ⟨Z',hg',z',(s''.sub (List.sublist_append_left _ _)).consS (uP _)⟩
   | bk ρ'=>cases h2
   | ct ρ'=>cases h2
end
section
variable {X:Cx}
noncomputable def Vr:PV->Option PV
 | .int i=>some (.int (-i))
 | _=>none
noncomputable def uo (f:EF):EF:=fun ρ=>(f ρ).bind fun x=>(Vr x.1.pv).map fun p=>(.sh p,x.2)
theorem Ls {a:Expr} {f:EF} {pos:Pos} (ha:PE X a (tP X.K f)):PE X (.UnaryOp .USub a pos) (tP X.K (uo f)):=PE.imp (T3 QX ha) fun σ H Q q=>by
 obtain ⟨H0,Z0,ρ,pd,r,ρ',s,h,k⟩:=q
 obtain ⟨x,h1,h2⟩:=bind_some h
 obtain ⟨p,h3,h4⟩:=map_some h2
 cases h4
 refine ⟨H0,Z0,ρ,pd,x.1,x.2,s,h1,fun v H1 s1=>?_⟩
 obtain ⟨_,r1⟩:=s1.freeze.repH
 cases e:x.1.pv with
 | int i=>
  rw [e] at h3 r1
  cases h3
  exact ⟨i,bz r1,k _ H1 (s1.pop.scal dD)⟩
 | _=>rw [e] at h3; cases h3
end
theorem uW {b:BF} {body:SF} {xs:List PV} (I:Nat->Ev->Prop) (h0:I 0 ρ) (hs:∀ (i:Nat) x ρ,xs[i]?=some x->I i ρ->∃ ρ1,b x ρ=some ρ1/\∃ ρ2,(body ρ1=some (.nx ρ2)\/body ρ1=some (.ct ρ2))/\I (i+1) ρ2):∃ ρ',dU b body xs ρ=some (.nx ρ')/\I xs.length ρ':=by
 induction xs generalizing ρ I with
 | nil=>exact ⟨ρ,rfl,h0⟩
 | cons x xs ih=>
  obtain ⟨ρ1,e1,ρ2,e2,h2⟩:=hs 0 x ρ rfl h0
  obtain ⟨ρ',e3,h3⟩:=ih (ρ:=ρ2) (fun i ρ=>I (i+1) ρ) h2 (fun i y ρ h=>hs (i+1) y ρ (by simpa using h))
  refine ⟨ρ',?_,h3⟩
  show (b x ρ).bind _=_
  rw [e1,Option.bind_some]
  rcases e2 with e2 | e2<;>rw [e2,Option.bind_some]<;>exact e3
theorem jN {b:BF} {tc:TF} {te:EF} {mu:Mu} (J:Ev->Prop) (hJ:∀ ρ,J ρ->ρ.mu=mu) (c:PV->Bool) (f:PV->PV):∀ {xs:List PV} {ρ:Ev} {acc:List PV},J ρ->acc.length+xs.length<=100000->
 (∀ x∈xs,∀ ρ,J ρ->∃ ρ1,b x ρ=some ρ1/\∃ ρ2,tc ρ1=some (c x,ρ2)/\J ρ2/\(c x=true->∃ l ρ3,te ρ2=some (l,ρ3)/\l.pv=f x/\J ρ3))->gP b tc te xs ρ acc=some (acc++(xs.filter c).map f,mu)
 | [],ρ,acc,h,_,_=>by
  show some (acc,ρ.mu)=_
  rw [hJ ρ h]
  simp
 | x::xs,ρ,acc,h,hl,hs=>by
  obtain ⟨ρ1,e1,ρ2,e2,h2,h3⟩:=hs x List.mem_cons_self ρ h
  have hs':∀ y∈xs,∀ ρ,J ρ->∃ ρ1,b y ρ=some ρ1/\∃ ρ2,tc ρ1=some (c y,ρ2)/\J ρ2/\(c y=true->∃ l ρ3,te ρ2=some (l,ρ3)/\l.pv=f y/\J ρ3):=fun y hy=>hs y (List.mem_cons_of_mem _ hy)
  rw [List.length_cons] at hl
  show (b x ρ).bind _=_
  rw [e1,Option.bind_some,e2,Option.bind_some]
  cases hc:c x with
  | false=>
   simp only [Bool.false_eq_true,if_false]
   rw [jN J hJ c f h2 (by omega) hs',List.filter_cons_of_neg (by simp [hc])]
  | true=>
   obtain ⟨l,ρ3,e3,ef,h4⟩:=h3 hc
   simp only [if_true]
   rw [e3,Option.bind_some,if_pos (by omega),jN J hJ c f h4 (by rw [List.length_append,List.length_singleton]; omega) hs',List.filter_cons_of_pos (by simp [hc]),ef]
   simp
theorem kY {b:BF} {te:EF} {mu:Mu} (J:Ev->Prop) (hJ:∀ ρ,J ρ->ρ.mu=mu) (f:PV->PV) {xs:List PV} (h:J ρ) (hl:xs.length<=100000)
 (hs:∀ x∈xs,∀ ρ,J ρ->∃ ρ1,b x ρ=some ρ1/\∃ l ρ3,te ρ1=some (l,ρ3)/\l.pv=f x/\J ρ3) (hb:∀ x∈xs,∀ ρ ρ1,J ρ->b x ρ=some ρ1->J ρ1):gP b cV te xs ρ []=some (xs.map f,mu):=by
 rw [jN J hJ (fun _=>true) f h (by simpa using hl) fun x hx ρ hρ=>?_]
 . rw [List.nil_append,List.filter_eq_self.mpr (fun _ _=>rfl)]
 . obtain ⟨ρ1,e1,l,ρ3,e3⟩:=hs x hx ρ hρ
   exact ⟨ρ1,e1,ρ1,rfl,hb x hx ρ ρ1 hρ e1,fun _=>⟨l,ρ3,e3⟩⟩
theorem gq {a b:Int} (h:0<b):bF (.int a) (.int b)=some (.sh (.int (a%b))):=by
 show (if decide (0<b)=true then _ else _)=_
 rw [if_pos (decide_eq_true h)]
theorem qd {a b:Int} (h:0<b) (h2:b<1073741824):cA (.int a) (.int b)=some (.sh (.int (a/b))):=by
 show (if decide (0<b/\b<1073741824)=true then _ else _)=_
 rw [if_pos (decide_eq_true ⟨h,h2⟩)]
theorem RZ {a b:Int} (h:-18446744073709551616<a) (h2:a<18446744073709551616):sy (.int a) (.int b)=some (.sh (.int (a*b))):=by
 show (if decide ((-(2 ^ 64)<a/\a<2 ^ 64)\/(-(2 ^ 64)<b/\b<2 ^ 64))=true then _ else _)=_
 rw [if_pos (decide_eq_true (.inl ⟨by omega,by omega⟩))]
theorem uq {g:PV->PV->Option Lc} {fa fb:EF} {ρ ρ1 ρ2:Ev} {x y l:Lc} (h1:fa ρ=some (x,ρ1)) (h2:fb ρ1=some (y,ρ2)) (h3:g x.pv y.pv=some l):aq g fa fb ρ=some (l,ρ2):=by
 unfold aq
 rw [h1,Option.bind_some,h2,Option.bind_some,h3]
 rfl
theorem vO {α:Type} {l:List α} {i:Int} (h0:0<=i) (h1:i<l.length):∃ x,fW l i=some x/\l[i.toNat]?=some x:=by
 have hi:i.toNat<l.length:=by omega
 refine ⟨l[i.toNat],?_,List.getElem?_eq_getElem hi⟩
 unfold fW pR
 rw [if_pos h0,if_pos h1,Option.bind_some,List.getElem?_eq_getElem hi]
theorem mj {lo:Int} {n:Nat}:(gm lo n).length=n:=by simp [gm]
theorem Pk {lo:Int} {n:Nat} {p:PV} (h:p∈gm lo n):∃ i:Nat,i<n/\p=.int (lo+i):=by
 unfold gm at h
 obtain ⟨i,hi,rfl⟩:=List.mem_map.mp h
 exact ⟨i,List.mem_range.mp hi,rfl⟩
theorem Pn {f g:SF} {ρ ρ':Ev} (h:f ρ=some (.nx ρ')):aL f g ρ=g ρ':=by unfold aL; rw [h,Option.bind_some]
theorem iH {f g:SF} {ρ ρ':Ev} {r:Lc} (h:f ρ=some (.rt r ρ')):aL f g ρ=some (.rt r ρ'):=by unfold aL; rw [h,Option.bind_some]
theorem Pq {i:Nat} {f:EF} {ρ ρ1:Ev} {l:Lc} (h:f ρ=some (l,ρ1)) (hi:i<ρ1.vs.length):aK i f ρ=some (.nx (ρ1.set i (some l))):=by unfold aK; rw [h,Option.bind_some,if_pos hi]
theorem gU {c:TF} {f g:SF} {ρ ρ1:Ev} (h:c ρ=some (true,ρ1)):dw c f g ρ=f ρ1:=by unfold dw; rw [h,Option.bind_some,if_pos rfl]
theorem di {c:TF} {f g:SF} {ρ ρ1:Ev} (h:c ρ=some (false,ρ1)):dw c f g ρ=g ρ1:=by unfold dw; rw [h,Option.bind_some,if_neg Bool.false_ne_true]
theorem Pr {f:EF} {ρ ρ1:Ev} {l:Lc} (h:f ρ=some (l,ρ1)):dq f ρ=some (.rt l ρ1):=by unfold dq; rw [h]; rfl
theorem DP {f:IF} {b:BF} {body:SF} {ρ ρ1:Ev} {xs:List PV} (h:f ρ=some (xs,ρ1)):jh f b body ρ=dU b body xs ρ1:=by unfold jh; rw [h,Option.bind_some]
theorem aQ {n:Nat} {g:SF} {ps:List PV} {mu:Mu} {r:Lc} (h:g (env0 n ps mu)=some (.rt r ρ)):fj n g ps mu=some (r,ρ.mu):=by unfold fj; rw [h,Option.bind_some]
theorem Lw {g:GF} {a:AF} {ρ ρ1:Ev} {ls:List Lc} {r:Lc} {mu:Mu} (h:a ρ=some (ls,ρ1)) (h2:g (ls.map Lc.pv) ρ1.mu=some (r,mu)):aG g a ρ=some (r,⟨ρ1.vs,mu⟩):=by unfold aG; rw [h,Option.bind_some,h2]; rfl
theorem Lx {f:EF} {a:AF} {ρ ρ1 ρ2:Ev} {l:Lc} {ls:List Lc} (h:f ρ=some (l,ρ1)) (h2:a ρ1=some (ls,ρ2)):aj f a ρ=some (l::ls,ρ2):=by unfold aj; rw [h,Option.bind_some,h2]; rfl
theorem Ue {g:List PV->Option Lc} {a:AF} {ρ ρ1:Ev} {ls:List Lc} {r:Lc} (h:a ρ=some (ls,ρ1)) (h2:g (ls.map Lc.pv)=some r):eB g a ρ=some (r,ρ1):=by unfold eB; rw [h,Option.bind_some,h2]; rfl
theorem fO {f:IF} {m:Nat} {ixs:List Nat} {b:BF} {tc:TF} {te:EF} {ρ ρ1:Ev} {xs ys:List PV} {mu:Mu} (h:f ρ=some (xs,ρ1)) (h2:gP b tc te xs (oX m ixs (iz ixs ρ1)) []=some (ys,mu)):bO f m ixs b tc te ρ=some (.own (.lst ys),⟨(iz ixs ρ1).vs,mu⟩):=by unfold bO; rw [h,Option.bind_some,h2]; rfl
theorem wW {f:EF} {g:PV->Option (List PV)} {ρ ρ1:Ev} {l:Lc} {xs:List PV} (h:f ρ=some (l,ρ1)) (h2:g l.pv=some xs):dB f g ρ=some (xs,ρ1):=by unfold dB; rw [h,Option.bind_some,h2]; rfl
theorem sI {a:AF} {ρ ρ1:Ev} {l:Lc} {n:Int} (h:a ρ=some ([l],ρ1)) (hl:l.pv=.int n) (h1:-4611686018427387904<=n) (h2:n<4611686018427387904):iG a ρ=some (gm 0 n.toNat,ρ1):=by
 unfold iG
 rw [h,Option.bind_some]
 show (match [l.pv] with | [.int j]=>_ | _=>_)=_
 rw [hl]
 show (if -(2 ^ 62)<=n/\n<2 ^ 62 then _ else _)=_
 rw [if_pos ⟨by omega,by omega⟩]
theorem Ly {f:TF} {ρ ρ1:Ev} {b:Bool} (h:f ρ.peek=some (b,ρ1)):nJ f ρ=some (b,ρ):=by unfold nJ; rw [h]; rfl
theorem Lz {f:EF} {ρ ρ1:Ev} {l:Lc} (h:f ρ.peek=some (l,ρ1)) (hf:wU l=true):dR f ρ=some (l,ρ):=by unfold dR; rw [h,Option.bind_some,if_pos hf]
theorem Ug {f:EF} {tr:PV->Option Bool} {ρ ρ1:Ev} {l:Lc} {b:Bool} (h:f ρ=some (l,ρ1)) (h2:tr l.pv=some b):tT f tr ρ=some (b,ρ1):=by unfold tT; rw [h,Option.bind_some,h2]; rfl
theorem LC {f:EF} {a:AF} {ρ ρ1 ρ2:Ev} {l m:Lc} {z:Str} {ps:List PV} {xs:List Str} (h:f ρ=some (l,ρ1)) (h2:a ρ1=some ([m],ρ2)) (hl:l.pv=.str z) (hm:m.pv=.lst ps) (hx:strsOf ps=some xs) (hs:(xs.map (·.length)).sum+xs.length*z.length<=100000):mJ f a ρ=some (.sh (.str (Txt.join z xs)),ρ2):=by
 unfold mJ
 rw [h,Option.bind_some,h2,Option.bind_some,hl]
 show (match PV.str z,[m.pv] with | .str z,[.lst ps]=>_ | _,_=>_)=_
 rw [hm]
 show (strsOf ps).bind _=_
 rw [hx,Option.bind_some,if_pos hs]
section
variable {f g:SF} {ρ ρ1 ρ2 ρ':Ev} {R:Option Fl} {l m r:Lc} {fa fb fc:EF} {c d:TF} {a:AF} {b:Bool}
theorem aF (h:f ρ=some (.nx ρ')) (h2:g ρ'=R):aL f g ρ=R:=(Pn h).trans h2
theorem bf {i:Nat} (h:fa ρ=some (l,ρ1)) (hi:Nat.blt i ρ1.vs.length=true) (e:ρ1.set i (some l)=ρ'):aK i fa ρ=some (.nx ρ'):=by
 rw [Pq h (by simpa using hi),e]
theorem jq (h:fa ρ=some (l,ρ1)):dq fa ρ=some (.rt l ρ1):=Pr h
theorem aR {o:PV->PV->Option Lc} {p q:PV} (h1:fa ρ=some (l,ρ1)) (hx:l.pv=p) (h2:fb ρ1=some (m,ρ2)) (hy:m.pv=q) (h3:o p q=some r):aq o fa fb ρ=some (r,ρ2):=uq h1 h2 (by rw [hx,hy]; exact h3)
theorem aP {G:GF} {ls:List Lc} {ps:List PV} {mu:Mu} {v:List (Option Lc)} {mu1:Mu} (h:a ρ=some (ls,ρ1)) (hp:ls.map Lc.pv=ps) (hv:ρ1.vs=v) (hm:ρ1.mu=mu1) (h2:G ps mu1=some (r,mu)):aG G a ρ=some (r,⟨v,mu⟩):=by
 subst hp hv hm
 exact Lw h h2
theorem LK {G:List PV->Option Lc} {ls:List Lc} {ps:List PV} (h:a ρ=some (ls,ρ1)) (hp:ls.map Lc.pv=ps) (h2:G ps=some r):eB G a ρ=some (r,ρ1):=by
 subst hp
 exact Ue h h2
theorem au {ls:List Lc} (h:fa ρ=some (l,ρ1)) (h2:a ρ1=some (ls,ρ2)):aj fa a ρ=some (l::ls,ρ2):=Lx h h2
theorem bH {tr:PV->Option Bool} {p:PV} (h:fa ρ=some (l,ρ1)) (hp:l.pv=p) (h2:tr p=some b):tT fa tr ρ=some (b,ρ1):=by
 subst hp
 exact Ug h h2
theorem ut (h:c ρ=some (b,ρ1)):jf c ρ=some (!b,ρ1):=by unfold jf; rw [h]; rfl
theorem pC {b2:Bool} (h:c ρ=some (b,ρ1)) (h2:d ρ1=some (b2,ρ1)):dO c d ρ=some (b&&b2,ρ1):=by
 unfold dO
 rw [h,Option.bind_some]
 cases b with
 | true=>rw [if_pos rfl,h2]; rfl
 | false=>rfl
theorem uX {b2:Bool} (h:c ρ=some (b,ρ1)) (h2:d ρ1=some (b2,ρ1)):je c d ρ=some (b||b2,ρ1):=by
 unfold je
 rw [h,Option.bind_some]
 cases b with
 | true=>rfl
 | false=>rw [if_neg Bool.false_ne_true,h2]; rfl
theorem vP (h:c ρ.peek=some (b,ρ1)):nJ c ρ=some (b,ρ):=Ly h
theorem mq (h:fa ρ.peek=some (l,ρ1)) (hf:wU l=true):dR fa ρ=some (l,ρ):=Lz h hf
theorem pD {ls:List Lc} {ps:List PV} (h:a ρ=some (ls,ρ1)) (hl:Nat.ble ls.length 1000=true) (hp:ls.map Lc.pv=ps):gk a ρ=some (.own (.lst ps),ρ1):=by
 subst hp
 unfold gk
 rw [h,Option.bind_some,if_pos (by simpa using hl)]
theorem jZ {ls:List Lc} {ps:List PV} (h:a ρ=some (ls,ρ1)) (hl:Nat.ble ls.length 1000=true) (hp:ls.map Lc.pv=ps):cz a ρ=some (.sh (.tup ps),ρ1):=by
 subst hp
 unfold cz
 rw [h,Option.bind_some,if_pos (by simpa using hl)]
theorem lJ {p q:PV} (h1:fa ρ=some (l,ρ1)) (hx:l.pv=p) (h2:fb ρ1=some (m,ρ2)) (hy:m.pv=q) (hn:∀ n,p≠.ptr n) (h3:o9 p q=some r):aX fa fb ρ=some (r,ρ2):=by
 subst hx hy
 unfold aX
 rw [h1,Option.bind_some,h2,Option.bind_some]
 split
 . rename_i n k e1 e2
   exact (hn n e1).elim
 . rw [h3]; rfl
theorem R0 {n:Nat} {k:Int} {ws:List PV} {p:PV} (h1:fa ρ=some (l,ρ1)) (hx:l.pv=.ptr n) (h2:fb ρ1=some (m,ρ2)) (hy:m.pv=.int k) (hm:ρ2.mu[n]?=some (some (.lst ws))) (h3:fW ws k=some p):aX fa fb ρ=some (.sh p,ρ2):=by
 unfold aX
 rw [h1,Option.bind_some,h2,Option.bind_some,hx,hy]
 show (match ρ2.mu[n]? with | some (some (.lst ws))=>_ | _=>_)=_
 rw [hm]
 show (fW ws k).map _=_
 rw [h3]
 rfl
theorem uv {i:Nat} {ws0 ws:List PV} {p:PV} (h0:ρ.vs[i]?=some (some (.own (.lst ws0)))) (h:fa ρ=some (l,ρ1)) (hp:l.pv=p) (h1:ρ1.vs[i]?=some (some (.own (.lst ws)))) (hz:ws.length<100000) (e:ρ1.set i (some (.own (.lst (ws++[p]))))=ρ'):gG i fa ρ=some (.nx ρ'):=by
 subst hp
 unfold gG
 rw [h0]
 show (fa ρ).bind _=_
 rw [h,Option.bind_some]
 show (match ρ1.vs[i]? with | some (some (.own (.lst ws)))=>_ | _=>_)=_
 rw [h1]
 show (if ws.length<100000 then _ else _)=_
 rw [if_pos hz,e]
theorem DR {i:Nat} {fi fv:EF} {ws0 ws:List PV} {k:Int} {j:Nat} {x y:Lc} {p:PV} (h:fv ρ=some (x,ρ1)) (hxp:x.pv=p) (h0:ρ1.vs[i]?=some (some (.own (.lst ws0)))) (h2:fi ρ1=some (y,ρ2)) (hy:y.pv=.int k) (h1:ρ2.vs[i]?=some (some (.own (.lst ws)))) (hj:pR ws.length k=some j) (e:ρ2.set i (some (.own (.lst (ws.set j p))))=ρ'):pZ i fi fv ρ=some (.nx ρ'):=by
 subst hxp
 unfold pZ
 rw [h,Option.bind_some]
 show (match ρ1.vs[i]? with | some (some (.own (.lst _)))=>_ | _=>_)=_
 rw [h0]
 show (fi ρ1).bind _=_
 rw [h2,Option.bind_some,hy]
 show (match PV.int k,ρ2.vs[i]? with | .int k,some (some (.own (.lst ws)))=>_ | _,_=>_)=_
 rw [h1]
 show (pR ws.length k).map _=_
 rw [hj,Option.map_some,e]
theorem jr {F:IF} {B:BF} {body:SF} {xs:List PV} (h:F ρ=some (xs,ρ1)) (h2:dU B body xs ρ1=R):jh F B body ρ=R:=(DP h).trans h2
theorem gW {G:PV->Option (List PV)} {p:PV} {xs:List PV} (h:fa ρ=some (l,ρ1)) (hp:l.pv=p) (h2:G p=some xs):dB fa G ρ=some (xs,ρ1):=by
 subst hp
 exact wW h h2
end
section
variable {X:Cx}
noncomputable def VP (f:EF):EF:=fun ρ=>(f ρ).bind fun x=>match x.1 with
 | .sh (.ptr n)=>match x.2.mu[n]? with
  | some (some p)=>some (.own p,⟨x.2.vs,x.2.mu.set n none⟩)
  | _=>none
 | _=>none
noncomputable def openV (i:Nat) (ρ:Ev):Option Ev:=match ρ.vs[i]? with
 | some (some (.sh (.ptr n)))=>match ρ.mu[n]? with
  | some (some p)=>some ⟨ρ.vs.set i (some (.own p)),ρ.mu.set n none⟩
  | _=>none
 | _=>none
noncomputable def Af (i:Nat) (f:SF):SF:=fun ρ=>(f ρ).bind fun fl=>match fl with
 | .nx ρ'=>(openV i ρ').map .nx
 | _=>none
theorem SR.openV {ρ ρ':Ev} {i:Nat} (s:SR K H0 Z0 σ H ρ pd) (h:PL.openV i ρ=some ρ'):SR K H0 Z0 σ H ρ' pd:=by
 unfold PL.openV at h
 split at h
 . rename_i n en
   split at h
   . rename_i p em
     cases h
     obtain ⟨v,ev,s1⟩:=s.var en
     obtain ⟨a,rfl,s2⟩:=s1.cellO (p:=p) em
     have s3:=SR.sub s2 (pd:=(.ref a,.own p)::pd) ((List.sublist_cons_self _ _).cons_cons _)
     have hi:i<ρ.vs.length:=(List.getElem?_eq_some_iff.mp en).1
     have s4:=s3.store (i:=i) (by show i<(ρ.vs.set i _).length; rw [List.length_set]; exact hi)
     rw [set_same ev] at s4
     have e:(⟨(ρ.vs.set i (some (.sh (.ptr n)))).set i (some (.own p)),ρ.mu.set n none⟩:Ev)=⟨ρ.vs.set i (some (.own p)),ρ.mu.set n none⟩:=by rw [List.set_set]
     have s5:SR K H0 Z0 σ H ⟨(ρ.vs.set i (some (.sh (.ptr n)))).set i (some (.own p)),ρ.mu.set n none⟩ pd:=s4
     rw [e] at s5
     exact s5
   . cases h
 . cases h
theorem Pu {i:Nat} {st:Stmt} {f:SF} (h:PS X st (dI X.K f)):PS X st (dI X.K (Af i f)):=PS.imp h fun D σ H q=>by
 obtain ⟨H0,Z0,ρ,pd,fl,s,h,k⟩:=q
 obtain ⟨y,h1,h2⟩:=bind_some h
 cases y with
 | nx ρ'=>
  obtain ⟨ρ2,h3,rfl⟩:=map_some h2
  exact ⟨H0,Z0,ρ,pd,.nx ρ',s,h1,fun σ' H' s'=>k σ' H' (s'.openV h3)⟩
 | rt r ρ'=>cases h2
 | bk ρ'=>cases h2
 | ct ρ'=>cases h2
noncomputable def my (f:EF) (lo hi:OF):EF:=fun ρ=>(f ρ).bind fun x=>(lo x.2).bind fun y=>(hi y.2).bind fun z=>match x.1.pv with
 | .lst ps=>some (.own (.lst (ni ps y.1 z.1)),z.2)
 | .str t=>if t.length<=100000 then some (.sh (.str (jL t y.1 z.1)),z.2) else none
 | _=>none
theorem uY {e:Expr} {lo hi:Option Expr} {p2 pos:Pos} {f:EF} {fl fh:OF} (he:PE X e (tP X.K f)) (hl:PO X lo (Nr X.K fl)) (hu:PO X hi (Nr X.K fh)):PE X (.Subscript e (.Slice lo hi none p2) pos) (tP X.K (my f fl fh)):=PE.imp (KJ (Ov.or Rp) he hl hu) fun σ H Q q=>by
 obtain ⟨H0,Z0,ρ,pd,r,ρ',s,h,k⟩:=q
 obtain ⟨x,h1,h2⟩:=bind_some h
 obtain ⟨y,h3,h4⟩:=bind_some h2
 obtain ⟨z,h5,h6⟩:=bind_some h4
 refine ⟨H0,Z0,ρ,pd,x.1,x.2,s,h1,fun v H1 s1=>⟨H0,Z0,x.2,_,y.1,y.2,s1.freeze,h3,fun H2 s2=>⟨H0,Z0,y.2,_,z.1,z.2,s2,h5,fun H3 s3=>?_⟩⟩⟩
 cases e:x.1.pv with
 | lst ps=>
  rw [e] at h6 s3
  cases h6
  obtain ⟨el,Z,hg,zz,r1,s4⟩:=s3.sh
  unfold Rep at r1
  obtain ⟨a,vs,rfl,g1,g2⟩:=r1
  refine .inl ⟨a,vs,rfl,bQ.same zz.zh g1,fun p hp=>k _ _ ?_⟩
  obtain ⟨z',s'⟩:=s4.new (o:=.lst (vC vs y.1 z.1)) (p:=.lst (ni ps y.1 z.1)) zz hp ⟨_,bh,g2.cut⟩
  exact .mk el hg z' s'
 | str t=>
  rw [e] at h6 s3
  have h6':(if t.length<=100000 then some (Lc.sh (.str (jL t y.1 z.1)),z.2) else none)=some (r,ρ'):=h6
  split at h6'
  . rename_i hz
    cases h6'
    obtain ⟨_,r1⟩:=s3.repH
    unfold Rep at r1
    exact .inr ⟨t,r1,small hz,k _ H3 (s3.pop.scal kO)⟩
  . cases h6'
 | _=>rw [e] at h6; cases h6
theorem jD.two {r:List V->Hp->VK->Prop} {g:PV->PV->Option Lc} (h:∀ H0 Z0 σ ρ pd H v w p q l Q,SR K H0 Z0 σ H ρ ((v,.sh p)::(w,.sh q)::pd)->g p q=some l->(∀ u H',SR K H0 Z0 σ H' ρ ((u,l)::pd)->Q u H')->r [v,w] H Q):
 jD K r (fun ps=>match ps with | [p,q]=>g p q | _=>none):=by
 intro H0 Z0 σ ρ pd H vs ps l Q e s hg k
 match ps,vs,e,s,hg with
 | [p,q],[v,w],_,s,hg=>exact h H0 Z0 σ ρ pd H v w p q l Q s hg k
 | [p,q],[],e,_,_=>simp at e
 | [p,q],[_],e,_,_=>simp at e
 | [p,q],_::_::_::_,e,_,_=>simp at e
 | [],_,_,_,hg=>cases hg
 | [_],_,_,_,hg=>cases hg
 | _::_::_::_,_,_,_,hg=>cases hg
noncomputable def R1:PV->PV->Option Lc
 | .int i,.int j=>some (.sh (.int (if j<i then j else i)))
 | _,_=>none
noncomputable abbrev min2:List PV->Option Lc:=fun ps=>match ps with | [p,q]=>R1 p q | _=>none
theorem R3:jD K (fun xs H Q=>∃ i j,xs=[.int i,.int j]/\Q (.int (if j<i then j else i)) H) min2:=jD.two fun H0 Z0 σ ρ pd H v w p q l Q s e k=>by
 obtain ⟨_,r1,r2⟩:=s.rep2H
 unfold R1 at e
 split at e
 . cases e
   have a:=bz r1
   have b:=bz r2
   subst a b
   exact ⟨_,_,rfl,k _ H (s.pop.pop.scal dD)⟩
 . cases e
noncomputable def V3 (i:Nat):EF:=fun ρ=>match ρ.vs[i]? with
 | some (some (.own (.lst ws)))=>(ws[ws.length-1]?).map fun p=>(.sh p,ρ.set i (some (.own (.lst ws.dropLast))))
 | _=>none
noncomputable def DW (K:FG):V->List V->Hp->VK->Prop:=fun x vs H Q=>∃ g p qs w,vs=[w]/\Rep K ⟨H,g⟩ p w/\Rep K ⟨H,g⟩ (.lst qs) x/\jy (bA 150) p qs=some true/\qs.length<=100000/\Q (.int (qs.findIdx fun q=>(bA 150 q p).getD false)) H
theorem LQ {k:Nat} (hr:ie k X.A):Nb X "list.index" (DW X.K):=by
 intro pins s σ H x vs v us Q I rx rv h
 obtain ⟨g,p,qs,w,rfl,rp,rq,e,hz,q⟩:=h
 have hA:X.A.in1.units+150<cLine:=by have:=hr.un; show X.A.units+1+150<cLine; omega
 obtain ⟨u,rfl,ru⟩:=rv.one
 obtain ⟨i1,i2⟩:=qU e
 obtain ⟨a,vs,its,rfl,q1,l1,rv1,t1⟩:=oY I rq rx
 have hl:its.length=qs.length:=by rw [← rv1.length,l1.length]
 have hex:∃ q∈qs,(fun q=>(bA 150 q p).getD false) q=true:=List.any_eq_true.mp i2.symm
 have hj:qs.findIdx (fun q=>(bA 150 q p).getD false)<qs.length:=List.findIdx_lt_length.mpr hex
 have hat:∀ m (hm:m<its.toArray.size),worth X.K ⟨H,g⟩ p qs vs its its.toArray[m]=(bA 150 (qs[m]'(by rw [List.size_toArray] at hm; omega)) p).getD false:=fun m hm=>by
  have hm':m<its.length:=by simpa using hm
  exact rY (xv:=w) (xu:=u) I l1 rv1 i1 (j:=m) (List.getElem?_eq_getElem (by omega)) (by simp)
 obtain ⟨⟨oc,od,oD,os⟩,ht,hc,n,hd⟩:=t1
 have hc':oc=.type "list" := hc
 have hd':oD=.seq its.toArray n:=hd
 subst hc' hd'
 refine call_meets F.slot_list_index ⟨_,ht,rfl⟩ F.entry_list_index (F.args_list_index_2 _ _) (SeqAt.list_indexAt a its.toArray n od os u (worth X.K ⟨H,g⟩ p qs vs its) (qs.findIdx fun q=>(bA 150 q p).getD false) (by rw [List.size_toArray]; omega) (by omega) ?_ ?_) ⟨ht,lX I rp ru l1 rv1 i1 hA,?_⟩
 . rw [hat]
   exact List.findIdx_getElem (w:=hj)
 . intro m hm hlt
   rw [hat]
   have:=List.not_of_lt_findIdx hlt
   simpa using this
 . exact ⟨.int _,H,I.tok _,⟨_,rfl⟩,q⟩
noncomputable def uw (f g:EF):EF:=fun ρ=>(f ρ).bind fun x=>(g x.2).bind fun y=>match x.1.pv with
 | .lst qs=>if jy (bA 150) y.1.pv qs=some true/\qs.length<=100000 then some (.sh (.int (qs.findIdx fun q=>(bA 150 q y.1.pv).getD false)),y.2) else none
 | _=>none
theorem R4 {o e:Expr} {f g:EF} {apos cpos:Pos} (h:PE X (.Call (.Attribute o "index" apos) [e] [] cpos) (Dq X.K "list" (DW X.K) (tP X.K f) (jC X.K (aj g ao)))):PE X (.Call (.Attribute o "index" apos) [e] [] cpos) (tP X.K (uw f g)):=PE.imp h fun σ H Q q=>by
 obtain ⟨H0,Z0,ρ,pd,r,ρ',s,h,k⟩:=q
 obtain ⟨x,h1,h2⟩:=bind_some h
 obtain ⟨y,h3,h4⟩:=bind_some h2
 refine ⟨H0,Z0,ρ,pd,x.1,x.2,s,h1,fun v H1 s1=>?_⟩
 have s1':=s1.freeze
 cases e:x.1.pv with
 | lst qs=>
  rw [e] at h4 s1'
  have h4':(if jy (bA 150) y.1.pv qs=some true/\qs.length<=100000 then some (Lc.sh (.int (qs.findIdx fun q=>(bA 150 q y.1.pv).getD false)),y.2) else none)=some (r,ρ'):=h4
  split at h4'
  . rename_i hc
    cases h4'
    obtain ⟨_,r1⟩:=s1'.repH
    have r1':=r1
    unfold Rep at r1'
    obtain ⟨a,us,rfl,hq,_⟩:=r1'
    refine ⟨.inl ⟨rfl,us,hq⟩,H0,Z0,x.2,_,[y.1],y.2,s1',?_,fun vs H2 e2 s2=>?_⟩
    . unfold aj ao
      rw [h3]
      rfl
    . obtain ⟨w,rfl⟩:=qP e2
      have s3:SR X.K H0 Z0 σ H2 y.2 ((w,.sh y.1.pv)::(.ref a,.sh (.lst qs))::pd):=SR.freeze s2
      obtain ⟨g,ra,rb⟩:=s3.rep2H
      exact ⟨g,y.1.pv,qs,w,rfl,rb,ra,hc.1,hc.2,k _ H2 (s3.pop.pop.scal dD)⟩
  . cases h4'
 | _=>rw [e] at h4; cases h4
noncomputable abbrev PD:=List (Key×PV)
noncomputable def kI:PD->Key->Option PV
 | [],_=>none
 | kv::r,k=>if kv.1=k then some kv.2 else kI r k
noncomputable def Gz (k:Key) (v:PV):PD->PD
 | []=>[]
 | kv::r=>(if kv.1=k then (kv.1,v) else kv)::Gz k v r
noncomputable def sJ (l:PD) (k:Key) (v:PV):PD:=match kI l k with
 | some _=>Gz k v l
 | none=>l++[(k,v)]
noncomputable def yf:PV->Option Key
 | .int i=>some (.inl i)
 | .str x=>some (.inr x)
 | _=>none
noncomputable def vy:Key->PV
 | .inl i=>.int i
 | .inr x=>.str x
noncomputable def lK (l:PD):PV:=.dk (l.map (·.1)) (l.map (·.2))
noncomputable def eO (K:FG) (Z:ZG):PD->List (Key×V)->Prop:=Paired fun p q=>p.1=q.1/\Rep K Z p.2 q.2
section
variable {K:FG} {Z Z':ZG}
theorem kZ:∀ {kvs:List (Key×V)} {ks:List Key} {ps:List PV},kvs.map (·.1)=ks->aH K Z ps (kvs.map (·.2))->eO K Z (ks.zip ps) kvs
 | [],ks,ps,h1,h2=>by
  subst h1
  exact .nil
 | kv::r,ks,ps,h1,h2=>by
  subst h1
  cases ps with
  | nil=>have:=h2.inv0; simp at this
  | cons p ps=>
   obtain ⟨v,r',e,h3,h4⟩:=h2.inv
   rw [List.map_cons] at e
   injection e with e1 e2
   subst e1 e2
   rw [List.map_cons,List.zip_cons_cons]
   exact .cons ⟨rfl,h3⟩ (kZ rfl h4)
theorem eO.keys:∀ {l:PD} {kvs:List (Key×V)},eO K Z l kvs->kvs.map (·.1)=l.map (·.1)
 | _,_,.nil=>rfl
 | _,_,.cons h t=>by rw [List.map_cons,List.map_cons,h.1,eO.keys t]
theorem eO.vals:∀ {l:PD} {kvs:List (Key×V)},eO K Z l kvs->aH K Z (l.map (·.2)) (kvs.map (·.2))
 | _,_,.nil=>.nil
 | _,_,.cons h t=>aH.cons h.2 (eO.vals t)
theorem eO.len:∀ {l:PD} {kvs:List (Key×V)},eO K Z l kvs->kvs.length=l.length
 | _,_,.nil=>rfl
 | _,_,.cons h t=>by rw [List.length_cons,List.length_cons,eO.len t]
theorem eO.val {k:Key}:∀ {l:PD} {kvs:List (Key×V)},eO K Z l kvs->(∀ p,kI l k=some p->∃ v,j9 kvs k=some v/\Rep K Z p v)/\(kI l k=none->j9 kvs k=none)
 | _,_,.nil=>⟨fun p h=>(by cases h),fun _=>rfl⟩
 | p::l,q::kvs,.cons h t=>by
  have ih:=eO.val (k:=k) t
  by_cases e:p.1=k
  . have e':q.1=k:=by rw [← h.1]; exact e
    refine ⟨fun x hx=>⟨q.2,oK e',?_⟩,fun hx=>?_⟩
    . unfold kI at hx; rw [if_pos e] at hx; cases hx; exact h.2
    . unfold kI at hx; rw [if_pos e] at hx; cases hx
  . have e':¬ q.1=k:=by rw [← h.1]; exact e
    rw [oM e']
    unfold kI
    rw [if_neg e]
    exact ih
theorem eO.repl {k:Key} {p:PV} {v:V} (r:Rep K Z p v):∀ {l:PD} {kvs:List (Key×V)},eO K Z l kvs->eO K Z (Gz k p l) (kvs.map fun kv=>if kv.1=k then (kv.1,v) else kv)
 | _,_,.nil=>.nil
 | a::l,b::kvs,.cons h t=>by
  refine .cons ?_ (eO.repl r t)
  by_cases e:a.1=k
  . have e':b.1=k:=by rw [← h.1]; exact e
    rw [if_pos e]
    dsimp only
    rw [if_pos e']
    exact ⟨h.1,r⟩
  . have e':¬ b.1=k:=by rw [← h.1]; exact e
    rw [if_neg e]
    dsimp only
    rw [if_neg e']
    exact h
theorem eO.app:∀ {l l':PD} {kvs kvs':List (Key×V)},eO K Z l kvs->eO K Z l' kvs'->eO K Z (l++l') (kvs++kvs')
 | _,_,_,_,.nil,h=>h
 | _,_,_,_,.cons a t,h=>.cons a (eO.app t h)
theorem eO.put {k:Key} {p:PV} {v:V} {l:PD} {kvs:List (Key×V)} (h:eO K Z l kvs) (r:Rep K Z p v):eO K Z (sJ l k p) (putK kvs k v):=by
 have hv:=h.val (k:=k)
 unfold sJ
 cases e:kI l k with
 | none=>
  rw [Ba v (hv.2 e)]
  exact h.app (.cons ⟨rfl,r⟩ .nil)
 | some q=>
  obtain ⟨u,hu,_⟩:=hv.1 q e
  have e2:putK kvs k v=kvs.map fun kv=>if kv.1=k then (kv.1,v) else kv:=by
   unfold putK
   rw [oN,hu]
   rfl
  rw [e2]
  exact h.repl r
theorem uZ {p:PV} {k:Key} {v:V} (h:yf p=some k) (r:Rep K Z p v):v=kV k:=by
 cases p with
 | int i=>cases h; exact bz r
 | str x=>cases h; exact bW r
 | _=>cases h
theorem DX {k:Key}:Rep K Z (vy k) (kV k):=by
 cases k with
 | inl i=>exact dD _
 | inr x=>exact kO _
end
noncomputable def jt (fa fb:EF):EF:=fun ρ=>(fa ρ).bind fun x=>(fb x.2).bind fun y=>match x.1.pv with
 | .dk ks ps=>(yf y.1.pv).bind fun k=>(kI (ks.zip ps) k).map fun p=>(.sh p,y.2)
 | .df ks ps=>(yf y.1.pv).bind fun k=>(kI (ks.zip ps) k).map fun p=>(.sh p,y.2)
 | _=>aX (fun _=>some x) (fun _=>some y) ρ
theorem Px {ρ ρ0 ρ':Ev} {v w:V} {x y:Lc×Ev} {l:Lc} {Q:VK} (hy:y.2=ρ) (s3:SR X.K H0 Z0 σ H ρ ((w,.sh y.1.pv)::(v,.sh x.1.pv)::pd)) (h:aX (fun _=>some x) (fun _=>some y) ρ0=some (l,ρ')) (k:∀ u H',SR X.K H0 Z0 σ H' ρ' ((u,l)::pd)->Q u H'):Rf X.K v w H Q:=by
 unfold aX at h
 rw [Option.bind_some,Option.bind_some] at h
 subst hy
 split at h
 . rename_i n kk en ek
   split at h
   . rename_i ws em
     obtain ⟨p,h5,h6⟩:=map_some h
     cases h6
     rw [en,ek] at s3
     obtain ⟨_,rw'⟩:=s3.repH
     have ew:=bz rw'
     obtain ⟨a,rfl,s5⟩:=s3.pop.cellO em
     obtain ⟨el,Z,hg,z,so⟩:=s5.top
     obtain ⟨_,ea,⟨us,hu,hr⟩,_⟩:=so.1 _ List.mem_cons_self
     cases ea
     obtain ⟨j,e1,e2⟩:=uV h5 hr.length
     obtain ⟨u,e3,e4⟩:=hr.get e1
     refine .inl ⟨a,us,kk,u,rfl,ew,bQ.of hu,e2 u e3,k u H ?_⟩
     have s6:SR X.K H0 Z0 σ H ⟨y.2.vs,y.2.mu.set n none⟩ ((u,.sh p)::(.ref a,.own (.lst ws))::(.ref a,.sh (.ptr n))::pd):=.mk (Z:=Z) el hg z ((so.perm cF).consS e4)
     have hn:n<y.2.mu.length:=(List.getElem?_eq_some_iff.mp em).1
     have s7:SR X.K H0 Z0 σ H ⟨y.2.vs,y.2.mu.set n none⟩ ((.ref a,.own (.lst ws))::(.ref a,.sh (.ptr n))::(u,.sh p)::pd):=s6.perm (((List.Perm.swap _ _ _).cons _).trans (List.Perm.swap _ _ _))
     have s8:=s7.cellP (by show (y.2.mu.set n none)[n]?=_; rw [List.getElem?_set_self hn])
     have e8:(y.2.mu.set n none).set n (some (.lst ws))=y.2.mu:=by rw [List.set_set]; exact set_same em
     have s9:SR X.K H0 Z0 σ H ⟨y.2.vs,(y.2.mu.set n none).set n (some (.lst ws))⟩ ((u,.sh p)::pd):=s8
     rw [e8] at s9
     exact s9
   . cases h
 . obtain ⟨l',h5,h6⟩:=map_some h
   cases h6
   exact Jt H0 Z0 σ y.2 pd H v w x.1.pv y.1.pv _ Q s3 h5 k
theorem Bw {a b:Expr} {pos:Pos} {fa fb:EF} (hu:X.A.units+1<cLine) (ha:PE X a (tP X.K fa)) (hb:PE X b (tP X.K fb)) (hm:xY b):PE X (.Subscript a b pos) (tP X.K (jt fa fb)):=PE.imp (Nf (Ij.or (O1 hu)) ha hb hm) fun σ H Q q=>by
 obtain ⟨H0,Z0,ρ,pd,l,ρ',s,f,k⟩:=q
 obtain ⟨x,h1,h2⟩:=bind_some f
 obtain ⟨y,h3,h4⟩:=bind_some h2
 refine ⟨H0,Z0,ρ,pd,x.1,x.2,s,h1,fun v H1 s1=>⟨H0,Z0,x.2,_,y.1,y.2,s1,h3,fun w H2 s2=>?_⟩⟩
 have s3:=s2.freeze.swap.freeze.swap
 split at h4
 . rename_i ks ps en
   obtain ⟨kk,h5,h6⟩:=bind_some h4
   obtain ⟨p,h7,h8⟩:=map_some h6
   cases h8
   obtain ⟨_,rw'⟩:=s3.repH
   have ew:=uZ h5 rw'
   have s4:=s3.pop
   rw [en] at s4
   obtain ⟨Z,z,r⟩:=s4.rep
   unfold Rep at r
   obtain ⟨b',kvs,rfl,g1,g2,g3⟩:=r
   obtain ⟨u,hu',ru⟩:=(kZ g2 g3).val.1 p h7
   have e1:=z _ _ g1
   refine .inr ⟨b',u,rfl,.inl ⟨kvs,kk,.inl e1,ew,hu'.symm⟩,k u H2 ?_⟩
   refine (s4.part (u:=u) (q:=p) fun Z' z' r'=>?_).sub ((List.sublist_cons_self _ _).cons_cons _)
   unfold Rep at r'
   obtain ⟨b2,kvs2,eb,g1',g2',g3'⟩:=r'
   cases eb
   have e2:=z' _ _ g1'
   rw [e1] at e2
   cases e2
   obtain ⟨u2,hu2,ru2⟩:=(kZ g2' g3').val.1 p h7
   rw [hu'] at hu2
   cases hu2
   exact ru2
 . rename_i ks ps en
   obtain ⟨kk,h5,h6⟩:=bind_some h4
   obtain ⟨p,h7,h8⟩:=map_some h6
   cases h8
   obtain ⟨_,rw'⟩:=s3.repH
   have ew:=uZ h5 rw'
   have s4:=s3.pop
   rw [en] at s4
   obtain ⟨Z,z,r⟩:=s4.rep
   unfold Rep at r
   obtain ⟨b',ob,kvs,rfl,g1,g2,g3⟩:=r
   obtain ⟨u,hu',ru⟩:=(kZ g2 g3).val.1 p h7
   have e1:=z _ _ g1
   refine .inr ⟨b',u,rfl,.inl ⟨kvs,kk,.inr ⟨ob,e1⟩,ew,hu'.symm⟩,k u H2 ?_⟩
   refine (s4.part (u:=u) (q:=p) fun Z' z' r'=>?_).sub ((List.sublist_cons_self _ _).cons_cons _)
   unfold Rep at r'
   obtain ⟨b2,ob2,kvs2,eb,g1',g2',g3'⟩:=r'
   cases eb
   have e2:=z' _ _ g1'
   rw [e1] at e2
   cases e2
   obtain ⟨u2,hu2,ru2⟩:=(kZ g2' g3').val.1 p h7
   rw [hu'] at hu2
   cases hu2
   exact ru2
 . exact .inl (Px rfl s3 h4 k)
theorem SR.takeD {i:Nat} {ks:List Key} {ps:List PV} (s:SR K H0 Z0 σ H ρ pd) (e:ρ.vs[i]?=some (some (.own (.dk ks ps)))):
 ∃ a,σ[i]?=some (some (.ref a))/\SR K H0 Z0 σ H (ρ.set i none) ((.ref a,.own (.dk ks ps))::pd):=by
 obtain ⟨v,e1,s1⟩:=s.take e
 obtain ⟨_,Z,_,z,so⟩:=s1.top
 obtain ⟨a,ea,_⟩:=so.1 _ List.mem_cons_self
 have ea':v=.ref a:=Option.some.inj ea
 subst ea'
 exact ⟨a,e1,s1⟩
theorem SR.setD {v:V} {p:PV} {a:Addr} {ks:List Key} {ps:List PV} {k:Key} (s:SR K H0 Z0 σ H ρ ((v,.sh p)::(.ref a,.own (.dk ks ps))::pd)):
 ∃ kvs,H a=some (.dK kvs)/\kvs.length=ks.length/\SR K H0 Z0 σ (upd H a (.dK (putK kvs k v))) ρ ((.ref a,.own (lK (sJ (ks.zip ps) k p)))::pd):=by
 obtain ⟨el,Z,hg,z,r,so⟩:=s.sh
 have so2:=so.perm cF.symm
 obtain ⟨_,eb,⟨kvs,hu,hk,hr⟩,_⟩:=so2.1 _ List.mem_cons_self
 cases eb
 refine ⟨kvs,hu,by rw [← hk,List.length_map],?_⟩
 have d:=(kZ hk hr).put (k:=k) r
 obtain ⟨z',s'⟩:=so2.write (o:=.dK (putK kvs k v)) (q:=lK (sJ (ks.zip ps) k p)) z ⟨putK kvs k v,bh,d.keys,d.vals⟩
 exact .mk el hg z' s'
noncomputable def wX (i:Nat) (fi fv:EF):SF:=fun ρ=>(fv ρ).bind fun x=>match x.2.vs[i]? with
 | some (some (.own (.dk _ _)))=>(fi x.2).bind fun y=>match yf y.1.pv,y.2.vs[i]? with
  | some k,some (some (.own (.dk ks ps)))=>if ks.length<100000 then some (.nx (y.2.set i (some (.own (lK (sJ (ks.zip ps) k x.1.pv)))))) else none
  | _,_=>none
 | _=>none
theorem Py {i:Nat} {o ix e:Expr} {fi fv:EF} {tpos pos:Pos} (h:PS X (.Assign [.Subscript o ix tpos] e pos) (An (tP X.K fv) (Fy (qp i) (tP X.K fi) Gm))):PS X (.Assign [.Subscript o ix tpos] e pos) (dI X.K (wX i fi fv)):=PS.imp h fun D σ H q=>by
 obtain ⟨H0,Z0,ρ,pd,fl,s,h,k⟩:=q
 obtain ⟨x,h1,h2⟩:=bind_some h
 refine ⟨H0,Z0,ρ,pd,x.1,x.2,s,h1,fun v H1 s1=>?_⟩
 split at h2
 . rename_i ks0 ps0 e0
   obtain ⟨y,h3,h4⟩:=bind_some h2
   obtain ⟨a,ea,_⟩:=s1.takeD e0
   refine ⟨.ref a,ea,H0,Z0,x.2,_,y.1,y.2,s1.freeze,h3,fun w H2 s2=>?_⟩
   split at h4
   . rename_i kk ks ps ek e3
     split at h4
     . rename_i hlen
       cases h4
       obtain ⟨_,rw'⟩:=s2.freeze.repH
       have ew:=uZ ek rw'
       obtain ⟨a',ea',s3⟩:=s2.pop.takeD e3
       rw [ea] at ea'; cases ea'
       obtain ⟨kvs,hu,hl,s4⟩:=s3.swap.setD (k:=kk)
       refine ⟨a,_,rfl,.inl ⟨kvs,kk,hu,ew,by rw [hl,sizeLine_eq]; omega,rfl⟩,k σ _ ?_⟩
       have s5:=s4.put ea
       rw [Ev.set_set] at s5
       exact s5
     . cases h4
   . cases h4
 . cases h2
noncomputable def VV (fo fv:EF):SF:=fun ρ=>(fo ρ).bind fun o=>match o.1.pv with
 | .ptr n=>match o.2.mu[n]? with
  | some (some (.lst _))=>(fv o.2).bind fun y=>match y.2.mu[n]? with
   | some (some (.lst ws))=>if ws.length<100000 then some (.nx ⟨y.2.vs,y.2.mu.set n (some (.lst (ws++[y.1.pv])))⟩) else none
   | _=>none
  | _=>none
 | _=>none
noncomputable abbrev DF:=Ev->Option (List (Lc×Lc)×Ev)
noncomputable def Nh:List (V×V)->List V
 | []=>[]
 | p::r=>p.1::p.2::Nh r
noncomputable def Jy:EF:=fun ρ=>some (.own (.dk [] []),ρ)
theorem R5 {pos:Pos}:PE X (.Dict [] [] pos) (tP X.K Jy):=PE.imp K1 fun σ H Q q=>by
 obtain ⟨H0,Z0,ρ,pd,l,ρ',s,f,k⟩:=q
 cases f
 exact fun p hp=>k _ _ (s.newO hp fun Z _ _=>⟨[],bh,rfl,.nil⟩)
theorem SR.fzD {a:Addr} {ks:List Key} {ps:List PV} (s:SR K H0 Z0 σ H ρ ((.ref a,.own (.dk ks ps))::pd)):
 ∃ kvs,H a=some (.dK kvs)/\∀ o,SR K H0 Z0 σ (upd H a (.frz o (.dK kvs))) ρ ((.ref a,.sh (.df ks ps))::pd):=by
 obtain ⟨el,Z,hg,z,so⟩:=s.top
 obtain ⟨_,eb,⟨kvs,hu,hk,hr⟩,e3,e4⟩:=so.1 _ List.mem_cons_self
 cases eb
 refine ⟨kvs,hu,fun o=>?_⟩
 have sz:cC Z.z (upd Z.z a (.frz o (.dK kvs))):=fun b u e=>by rw [aO (bM e e3)]; exact e
 have lz:gD Z (Z.put a (.frz o (.dK kvs))):=⟨sz,List.prefix_refl _⟩
 have nd:(a::(sl Z.g σ ρ pd).filterMap jA).Nodup:=so.2
 have hL:Slots K H0 Z H (sl Z.g σ ρ pd):=so.sub (List.sublist_cons_self _ _)
 refine .mk (Z:=Z.put a (.frz o (.dK kvs))) el hg ⟨fun b u e=>?_,fun b u e=>by rw [aO (bM e e4)]; exact z.h0 b u e,z.z0.trans lz,fun b u e=>?_⟩ (Slots.consS ?_ ?_)
 . have e:upd Z.z a (.frz o (.dK kvs)) b=some u:=e
   unfold upd at e ⊢
   split
   . rename_i q; rw [if_pos q] at e; exact e
   . rename_i q; rw [if_neg q] at e; exact z.zh b u e
 . have e:upd Z.z a (.frz o (.dK kvs)) b=some u:=e
   unfold upd at e
   split at e
   . rename_i q; rw [q]; exact .inr (.inl e4)
   . exact z.new b u e
 . refine hL.step lz fun e he b hb=>?_
   have hba:b≠a:=fun q=>by
    rw [q] at hb
    exact (List.nodup_cons.mp nd).1 (List.mem_filterMap.mpr ⟨e,he,hb⟩)
   exact ⟨aO hba,by show upd Z.z a _ b=none; rw [aO hba]; exact (gj hL he hb).1⟩
 . unfold Rep
   exact ⟨a,o,kvs,rfl,by show upd Z.z a _ a=_; rw [bh],hk,hr.mono lz⟩
noncomputable def mW (f:EF):EF:=fun ρ=>(f ρ).bind fun x=>match x.1 with
 | .own (.dk ks ps)=>some (.sh (.df ks ps),x.2)
 | _=>none
theorem Nx {e:Expr} {f:EF} (h:PE X e (tP X.K f)):PE X e (tP X.K (mW f)):=PE.imp (T9 h) fun σ H Q q=>by
 obtain ⟨H0,Z0,ρ,pd,r,ρ',s,h,k⟩:=q
 obtain ⟨x,h1,h2⟩:=bind_some h
 refine ⟨H0,Z0,ρ,pd,x.1,x.2,s,h1,fun v H1 s1=>?_⟩
 split at h2
 . rename_i ks ps e1
   cases h2
   rw [e1] at s1
   obtain ⟨_,Z,_,z,so⟩:=s1.top
   obtain ⟨a,ea,_⟩:=so.1 _ List.mem_cons_self
   have ea':v=.ref a:=Option.some.inj ea
   subst ea'
   obtain ⟨kvs,hu,st⟩:=s1.fzD
   exact ⟨a,kvs,rfl,hu,fun o=>k _ _ (st o)⟩
 . cases h2
theorem SR.weak {H0 H H1:Hp} {Z0 Z₁:ZG} (zo:jB H0 Z0 Z₁ H1) (s:SR K H0 Z₁ σ H ρ pd):SR K H0 Z0 σ H ρ pd:=by
 obtain ⟨e,Z,hg,z,so⟩:=s
 exact ⟨e,Z,hg,⟨z.zh,z.h0,zo.z0.trans z.z0,fun b o e=>(z.new b o e).elim (fun h=>zo.new b o h) .inr⟩,so⟩
noncomputable def Jz (f:EF):IF:=fun ρ=>(f ρ).bind fun x=>match x.1.pv with
 | .df ks _=>some (ks.map vy,x.2)
 | _=>none
theorem GC {H0:Hp} {Z:ZG} {a:Addr} {o:Obj} {kvs:List (Key×V)} {ks:List Key} (g1:Z.z a=some (.frz o (.dK kvs))) (g2:kvs.map (·.1)=ks):kj K H0 Z pd (Rq a o kvs) (ks.map vy):=by
 intro σ H ρ i s
 have at':H a=some (.frz o (.dK kvs)):=by
  obtain ⟨_,Z',_,z',_⟩:=s
  exact z'.zh _ _ (z'.z0.1 _ _ g1)
 have hlen:kvs.length=ks.length:=by rw [← g2,List.length_map]
 refine ⟨fun x hx=>?_,fun e=>⟨at',by rw [e,List.length_map,hlen]; exact Nat.le_refl _⟩⟩
 rw [List.getElem?_map] at hx
 obtain ⟨kk,hk,rfl⟩:=map_some hx
 refine ⟨⟨at',by rw [hlen]; exact (List.getElem?_eq_some_iff.mp hk).1⟩,fun v H' hy=>?_⟩
 obtain ⟨rfl,k2,hk2,rfl⟩:=hy
 rw [g2,hk] at hk2
 cases hk2
 exact s.scal fun Z=>DX
theorem DY {tg iter:Expr} {body:List Stmt} {f:EF} {g:TG} {b:BF} {fb:SF} {pos:Pos} (hp:PassesOwn (model X.prog X.w) X.A X.env X.xe) (hc:X.calm=true) (hl:PE X iter (tP X.K f)) (hg:PG X tg g) (hb':GS X.K g b) (hb:dg X body (dI X.K fb))
 (hs:∀ x,foldedSetIterable iter X.env x=pure x:=by intro _; rfl):PS X (.For tg iter body [] pos) (dI X.K (jh (Jz f) b fb)):=PS.imp (wj hp hc (O2 hl) hg hb hs) fun D σ H q=>by
 obtain ⟨H0,Z0,ρ,pd,fl,s,h,k⟩:=q
 obtain ⟨y,h1,h2⟩:=bind_some h
 obtain ⟨x,h3,h4⟩:=bind_some h1
 refine ⟨H0,Z0,ρ,pd,x.1,x.2,s,h3,fun v H1 s1=>?_⟩
 refine qu fun G kG=>?_
 split at h4
 . rename_i ks ps en
   cases h4
   have s2:=s1.freeze
   rw [en] at s2
   obtain ⟨el,Z,hgg,z,r,so⟩:=s2.sh
   unfold Rep at r
   obtain ⟨a,o,kvs,rfl,g1,g2,g3⟩:=r
   have hst:SR X.K H0 Z σ H1 x.2 pd:=⟨el,Z,hgg,⟨z.zh,z.h0,gD.refl Z,fun b u e=>.inl e⟩,so⟩
   exact kG ⟨a,o,kvs,rfl,z.zh _ _ g1,vJ hb' (GC g1 g2) (k.imp (fun s=>s.weak z) fun s=>s.weak z) hst h2⟩
 . cases h4
noncomputable def qx (f:EF):EF:=fun ρ=>(f ρ).bind fun x=>match x.1.pv with
 | .ptr n=>match x.2.mu[n]? with
  | some (some (.lst ws))=>some (.sh (.int (ws.length:Nat)),x.2)
  | _=>none
 | p=>(Ln p).map fun l=>(l,x.2)
theorem LR {x:Str} {e:Expr} {f:EF} {p pos:Pos} (h:PE X (.Call (.Name x p) [e] [] pos) (Ax (fun xs H Q=>∃ x n,xs=[x]/\Ky X.K x H n/\Q (.int n) H) (jC X.K (aj f ao)))):PE X (.Call (.Name x p) [e] [] pos) (tP X.K (qx f)):=PE.imp h fun σ H Q q=>by
 obtain ⟨H0,Z0,ρ,pd,l,ρ',s,ff,k⟩:=q
 obtain ⟨y,h1,h2⟩:=bind_some ff
 refine ⟨H0,Z0,ρ,pd,[y.1],y.2,s,?_,fun vs H1 e1 s1=>?_⟩
 . unfold aj ao
   rw [h1]
   rfl
 . obtain ⟨v,rfl⟩:=qP e1
   have s2:SR X.K H0 Z0 σ H1 y.2 ((v,.sh y.1.pv)::pd):=SR.freeze s1
   split at h2
   . rename_i n en
     split at h2
     . rename_i ws em
       cases h2
       rw [en] at s2
       obtain ⟨a,rfl,s5⟩:=s2.cellO em
       obtain ⟨_,Z,_,z,so⟩:=s5.top
       obtain ⟨_,ea,⟨us,hu,hr⟩,_⟩:=so.1 _ List.mem_cons_self
       cases ea
       exact ⟨.ref a,ws.length,rfl,.inl ⟨us,bQ.of hu,hr.length.symm⟩,k _ H1 (s2.pop.scal dD)⟩
     . cases h2
   . obtain ⟨l',h3,h4⟩:=map_some h2
     cases h4
     exact Ju H0 Z0 σ y.2 pd H1 [v] [y.1.pv] _ Q rfl s2 h3 k
noncomputable def Vs:PV->Option Lc
 | .bl b=>some (.sh (.int (if b then 1 else 0)))
 | _=>none
noncomputable abbrev V4:List PV->Option Lc:=fun ps=>match ps with | [p]=>Vs p | _=>none
noncomputable def nP (lo st:Int) (n:Nat):List PV:=(List.range n).map fun i=>.int (lo+(i:Nat)*st)
noncomputable def u0 (a:AF):IF:=fun ρ=>(a ρ).bind fun y=>match y.1.map Lc.pv with
 | [.int i,.int j,.int c]=>if -(2 ^ 61)<=i/\i<2 ^ 61/\-(2 ^ 61)<=j/\j<2 ^ 61/\0<c/\c<2 ^ 61 then some (nP i c (oO i j c),y.2) else none
 | _=>none
theorem JB {H0:Hp} {lo st:Int} {n:Nat}:kj K H0 Z0 pd (Gn lo st n) (nP lo st n):=by
 intro σ H ρ i s
 refine ⟨fun x hx=>?_,fun hl=>?_⟩
 . have hi:i<n:=by
    have:=(List.getElem?_eq_some_iff.mp hx).1
    simpa [nP] using this
   refine ⟨hi,fun v H' y=>?_⟩
   obtain ⟨rfl,rfl⟩:=y
   unfold nP at hx
   rw [List.getElem?_map,List.getElem?_range hi] at hx
   cases hx
   exact s.scal dD
 . show n<=i
   simp [nP] at hl
   omega
theorem JC {tg a b c:Expr} {f:AF} {p pos:Pos} (hi:PI X tg (.Call (.Name "range" p) [a,b,c] [] pos) (Nj (jC X.K f))):PI X tg (.Call (.Name "range" p) [a,b,c] [] pos) (wK X.K (u0 f)):=PI.imp hi fun σ H R q=>by
 obtain ⟨H0,Z0,ρ,pd,xs,ρ',s,h,k⟩:=q
 obtain ⟨y,h1,h2⟩:=bind_some h
 refine ⟨H0,Z0,ρ,pd,y.1,y.2,s,h1,fun vs H1 e1 s1=>?_⟩
 split at h2
 . rename_i i j c e
   split at h2
   . rename_i hj
     cases h2
     obtain ⟨rfl,s2⟩:=s1.ints (ns:=[i,j,c]) e1 e
     exact ⟨i,j,c,rfl,hj,k _ _ _ s2 JB (List.Sublist.refl _)⟩
   . cases h2
 . cases h2
end
open PySem.SeqAt
section
variable {X:Cx}
noncomputable def GD (n:Nat):PD->PD->Option Bool
 | [],_=>some true
 | kv::r,lb=>match kI lb kv.1 with
  | none=>some false
  | some q=>(bA n kv.2 q).bind fun e=>(GD n r lb).map fun c=>e&&c
noncomputable def wY (n:Nat) (la lb:PD):Option Bool:=if la.length=lb.length then GD n la lb else some false
theorem Ea {pins:List (Addr×Obj)} {H:Hp} {s:Shared} {g:List Addr} (I:Inv X pins σ H s) {n:Nat} {A:Around} (hA:A.units+n<cLine) {lb:PD} {kb:List (Key×V)} {vb:List (Key×Value)} (rb:eO X.K ⟨H,g⟩ lb kb) (qb:KV kb vb):
 ∀ {la:PD} {ka:List (Key×V)} {va:List (Key×Value)} {b:Bool},eO X.K ⟨H,g⟩ la ka->KV ka va->GD n la lb=some b->W.KeqHits A s vb va b
 | _,_,va,b,.nil,qa,h=>by
  cases h
  cases (show Paired _ [] va from qa)
  exact .nil
 | p::la,q::ka,va,b,.cons hpq t,qa,h=>by
  cases (show Paired _ (q::ka) va from qa) with
  | @cons _ u _ vr e qr=>
   obtain ⟨u1,u2⟩:=u
   have ek:p.1=u1:=hpq.1.trans e.1
   unfold GD at h
   have rel:=qb.val p.1
   cases hv:kI lb p.1 with
   | none=>
    rw [hv] at h
    cases h
    rw [rb.val.2 hv] at rel
    refine .miss ?_
    rw [← ek]
    cases hx:valueAt vb p.1 with
    | none=>rfl
    | some y=>rw [hx] at rel; exact rel.elim
   | some q'=>
    rw [hv] at h
    obtain ⟨e1,h1,h2⟩:=bind_some h
    obtain ⟨c,h3,h4⟩:=map_some h2
    subst h4
    obtain ⟨v',hv',rv'⟩:=rb.val.1 q' hv
    rw [hv'] at rel
    cases hx:valueAt vb p.1 with
    | none=>rw [hx] at rel; exact rel.elim
    | some y=>
     rw [hx] at rel
     refine .hit (y:=y) (by rw [← ek]; exact hx) (wO I n hpq.2 rv' e.2 rel h1 A hA).1 (Ea I hA rb qb t qr h3)
noncomputable def R6 (K:FG) (neg:Bool):R2:=fun x y H Q=>∃ g ks ps js qs b,Rep K ⟨H,g⟩ (.dk ks ps) x/\Rep K ⟨H,g⟩ (.dk js qs) y/\wY 150 (ks.zip ps) (js.zip qs)=some b/\Q (.bl (if neg then !b else b)) H
theorem R7 {pins:List (Addr×Obj)} {H:Hp} {s:Shared} {g:List Addr} (I:Inv X pins σ H s) (hA:X.A.in1.units+150<cLine) {ks js:List Key} {ps qs:List PV} {x y:V} {v u:Value} {b:Bool}
 (r1:Rep X.K ⟨H,g⟩ (.dk ks ps) x) (r2:Rep X.K ⟨H,g⟩ (.dk js qs) y) (rx:RelV x v) (ry:RelV y u) (e:wY 150 (ks.zip ps) (js.zip qs)=some b):
 ∃ a a' va vb r,v=.ref a/\u=.ref a'/\(a==sysModules)=false/\(a'==sysModules)=false/\s.heap.DictOf (cL X.prog X.w) a va/\s.heap.DictOf (cL X.prog X.w) a' vb/\(va.length=vb.length->W.KeqHits X.A.in1 s vb va r)/\(va.length==vb.length&&r)=b:=by
 unfold Rep at r1 r2
 obtain ⟨a,ka,rfl,h1,h2,h3⟩:=r1
 obtain ⟨a',kb,rfl,h1',h2',h3'⟩:=r2
 cases rx
 cases ry
 obtain ⟨_,d1,va,q1,dd1⟩:=Gi I.hok h1
 obtain ⟨_,d2,vb,q2,dd2⟩:=Gi I.hok h1'
 have ra:=kZ h2 h3
 have rb:=kZ h2' h3'
 have la:va.length=(ks.zip ps).length:=by rw [← q1.length,ra.len]
 have lb:vb.length=(js.zip qs).length:=by rw [← q2.length,rb.len]
 unfold wY at e
 split at e
 . rename_i hl
   refine ⟨a,a',va,vb,b,rfl,rfl,d1,d2,dd1,dd2,fun _=>Ea I hA rb q2 ra q1 e,?_⟩
   rw [la,lb,hl]
   simp
 . rename_i hl
   cases e
   refine ⟨a,a',va,vb,false,rfl,rfl,d1,d2,dd1,dd2,fun z=>(hl (by rw [← la,← lb]; exact z)).elim,by simp⟩
theorem R8 {k:Nat} (hr:ie k X.A):du X (compareOp .Eq) (R6 X.K false):=by
 intro pins s σ H x y v u Q I rx ry h
 obtain ⟨g,ks,ps,js,qs,b,r1,r2,e,k'⟩:=h
 have hA:X.A.in1.units+150<cLine:=by have:=hr.un; show X.A.units+1+150<cLine; omega
 obtain ⟨a,a',va,vb,r,rfl,rfl,d1,d2,dd1,dd2,hits,eb⟩:=R7 I hA r1 r2 rx ry e
 refine W.keq_eq d1 d2 dd1 dd2 (by have:=hr.un; omega) hits ?_
 rw [eb]
 exact ⟨.bl b,H,I,rfl,k'⟩
noncomputable def Bx (p q:PV):Option Lc:=match p,q with
 | .dk ks ps,.dk js qs=>(wY 150 (ks.zip ps) (js.zip qs)).map fun b=>.sh (.bl b)
 | p,q=>eqP p q
noncomputable def R9 (K:FG) (neg:Bool):R2:=fun x y H Q=>Br K neg x y H Q\/R6 K neg x y H Q
theorem JD {k:Nat} (hr:ie k X.A):du X (compareOp .Eq) (R9 X.K false):=(gQ hr).or (R8 hr)
theorem Eb:gO K (R9 K false) Bx:=by
 intro H0 Z0 σ ρ pd H v w x y l Q s e k
 unfold Bx at e
 split at e
 . obtain ⟨b,e1,rfl⟩:=map_some e
   obtain ⟨g,r1,r2⟩:=s.rep2H
   exact .inr ⟨g,_,_,_,_,b,r1,r2,e1,k _ H (s.pop.pop.scal dG)⟩
 . exact .inl (gR H0 Z0 σ ρ pd H v w _ _ l Q s e k)
end
end PL
namespace L2
open PySem PySem.Spec PyProof.Rows
variable {pins:List (Addr×Obj)} {E:Value->Shared->Prop} {s:Shared} {A:Around} {w:World} {P:Program}
section
variable {X:Cx}
end
end L2
namespace PL
open PySem PySem.Spec PyProof.Rows L2
variable {K:FG} {H0 H:Hp} {Z0:ZG} {σ:L2.St} {ρ:Ev} {pd:Pd}
noncomputable def GJ (x:Str):List Str->List Str
 | []=>[x]
 | y::l=>if ltCps x.cps.toList y.cps.toList then x::y::l else y::GJ x l
section
variable {X:Cx}
noncomputable def Ny:List PV->Option (List Int)
 | []=>some []
 | .int x::ps=>(Ny ps).map (x::·)
 | _::_=>none
noncomputable def V5:PV->Option Lc
 | .lst ps=>(Ny ps).bind fun ns=>if (ns.all fun n=>decide (0<=n))&&decide (ns.sum<4611686018427387904) then some (.sh (.int ns.sum)) else none
 | _=>none
theorem pF {Z:ZG} {ps:List PV} {us:List V} (h:aH K Z ps us):∀ n:Nat,aH K Z (List.replicate n ps).flatten (List.replicate n us).flatten
 | 0=>by simp; exact aH.nil
 | n+1=>by
  rw [List.replicate_succ,List.replicate_succ,List.flatten_cons,List.flatten_cons]
  exact h.append (pF h n)
noncomputable def yg (f g:EF):EF:=fun ρ=>(f ρ).bind fun x=>(g x.2).bind fun y=>match x.1,y.1.pv with
 | .own (.lst ps),.int k=>if 0<=k/\k<=100000/\ps.length*k.toNat<=100000 then some (.own (.lst (List.replicate k.toNat ps).flatten),y.2) else none
 | _,_=>none
theorem Uh {a b:Expr} {pos:Pos} {f g:EF} (ha:PE X a (tP X.K f)) (hb:PE X b (tP X.K g)):PE X (.BinOp a .Mult b pos) (tP X.K (yg f g)):=PE.imp (M4 Rj ha hb) fun σ H Q q=>by
 obtain ⟨H0,Z0,ρ,pd,l,ρ',s,h,k⟩:=q
 obtain ⟨x,h1,h2⟩:=bind_some h
 obtain ⟨y,h3,h4⟩:=bind_some h2
 refine ⟨H0,Z0,ρ,pd,x.1,x.2,s,h1,fun v H1 s1=>⟨H0,Z0,x.2,_,y.1,y.2,s1,h3,fun u H2 s2=>?_⟩⟩
 split at h4
 . rename_i ps n ex ey
   split at h4
   . rename_i hc
     cases h4
     rw [ex] at s2
     have s3:=s2.freeze
     rw [ey] at s3
     obtain ⟨el,Z,hg,z,r,so⟩:=s3.sh
     unfold Rep at r
     subst r
     have so2:=so.perm cF.symm
     obtain ⟨c,ec,⟨us,hu,hr⟩,_⟩:=so2.1 _ List.mem_cons_self
     cases ec
     refine ⟨c,n,us,rfl,rfl,hu,by omega,by omega,by rw [hr.length,sizeLine_eq]; omega,fun p hp=>k _ _ ?_⟩
     obtain ⟨z',s'⟩:=(so2.sub (List.sublist_cons_self _ _)).new (o:=.lst (List.replicate n.toNat us).flatten) (p:=.lst (List.replicate n.toNat ps).flatten) z hp ⟨_,bh,pF hr _⟩
     exact .mk el hg z' s'
   . cases h4
 . cases h4
noncomputable abbrev iZ:=List (List Key×PV)
noncomputable def pG:iZ->List Key->Option PV
 | [],_=>none
 | kv::r,k=>if kv.1=k then some kv.2 else pG r k
noncomputable def wZ (k:List Key) (v:PV):iZ->iZ
 | []=>[]
 | kv::r=>(if kv.1=k then (kv.1,v) else kv)::wZ k v r
noncomputable def pH (l:iZ) (k:List Key) (v:PV):iZ:=match pG l k with
 | some _=>wZ k v l
 | none=>l++[(k,v)]
noncomputable def iI (l:iZ):PV:=.dt (l.map (·.1)) (l.map (·.2))
noncomputable def gH (K:FG) (Z:ZG):iZ->List (List Key×V)->Prop:=Paired fun p q=>p.1=q.1/\Rep K Z p.2 q.2
section
variable {K:FG} {Z Z':ZG}
theorem Ec:∀ {kvs:List (List Key×V)} {ks:List (List Key)} {ps:List PV},kvs.map (·.1)=ks->aH K Z ps (kvs.map (·.2))->gH K Z (ks.zip ps) kvs
 | [],ks,ps,h1,h2=>by
  subst h1
  exact .nil
 | kv::r,ks,ps,h1,h2=>by
  subst h1
  cases ps with
  | nil=>have:=h2.inv0; simp at this
  | cons p ps=>
   obtain ⟨v,r',e,h3,h4⟩:=h2.inv
   rw [List.map_cons] at e
   injection e with e1 e2
   subst e1 e2
   rw [List.map_cons,List.zip_cons_cons]
   exact .cons ⟨rfl,h3⟩ (Ec rfl h4)
theorem gH.keys:∀ {l:iZ} {kvs:List (List Key×V)},gH K Z l kvs->kvs.map (·.1)=l.map (·.1)
 | _,_,.nil=>rfl
 | _,_,.cons h t=>by rw [List.map_cons,List.map_cons,h.1,gH.keys t]
theorem gH.vals:∀ {l:iZ} {kvs:List (List Key×V)},gH K Z l kvs->aH K Z (l.map (·.2)) (kvs.map (·.2))
 | _,_,.nil=>.nil
 | _,_,.cons h t=>aH.cons h.2 (gH.vals t)
theorem gH.val {k:List Key}:∀ {l:iZ} {kvs:List (List Key×V)},gH K Z l kvs->(∀ p,pG l k=some p->∃ v,j9 kvs k=some v/\Rep K Z p v)/\(pG l k=none->j9 kvs k=none)
 | _,_,.nil=>⟨fun p h=>(by cases h),fun _=>rfl⟩
 | p::l,q::kvs,.cons h t=>by
  have ih:=gH.val (k:=k) t
  by_cases e:p.1=k
  . have e':q.1=k:=by rw [← h.1]; exact e
    refine ⟨fun x hx=>⟨q.2,oK e',?_⟩,fun hx=>?_⟩
    . unfold pG at hx; rw [if_pos e] at hx; cases hx; exact h.2
    . unfold pG at hx; rw [if_pos e] at hx; cases hx
  . have e':¬ q.1=k:=by rw [← h.1]; exact e
    rw [oM e']
    unfold pG
    rw [if_neg e]
    exact ih
theorem gH.repl {k:List Key} {p:PV} {v:V} (r:Rep K Z p v):∀ {l:iZ} {kvs:List (List Key×V)},gH K Z l kvs->gH K Z (wZ k p l) (kvs.map fun kv=>if kv.1=k then (kv.1,v) else kv)
 | _,_,.nil=>.nil
 | a::l,b::kvs,.cons h t=>by
  refine .cons ?_ (gH.repl r t)
  by_cases e:a.1=k
  . have e':b.1=k:=by rw [← h.1]; exact e
    rw [if_pos e]
    dsimp only
    rw [if_pos e']
    exact ⟨h.1,r⟩
  . have e':¬ b.1=k:=by rw [← h.1]; exact e
    rw [if_neg e]
    dsimp only
    rw [if_neg e']
    exact h
theorem gH.app:∀ {l l':iZ} {kvs kvs':List (List Key×V)},gH K Z l kvs->gH K Z l' kvs'->gH K Z (l++l') (kvs++kvs')
 | _,_,_,_,.nil,h=>h
 | _,_,_,_,.cons a t,h=>.cons a (gH.app t h)
theorem gH.put {k:List Key} {p:PV} {v:V} {l:iZ} {kvs:List (List Key×V)} (h:gH K Z l kvs) (r:Rep K Z p v):gH K Z (pH l k p) (putK kvs k v):=by
 have hv:=h.val (k:=k)
 unfold pH
 cases e:pG l k with
 | none=>
  rw [Ba v (hv.2 e)]
  exact h.app (.cons ⟨rfl,r⟩ .nil)
 | some q=>
  obtain ⟨u,hu,_⟩:=hv.1 q e
  have e2:putK kvs k v=kvs.map fun kv=>if kv.1=k then (kv.1,v) else kv:=by
   unfold putK
   rw [oN,hu]
   rfl
  rw [e2]
  exact h.repl r
end
noncomputable def Ag:List PV->Option (List Key)
 | []=>some []
 | p::ps=>(yf p).bind fun k=>(Ag ps).map (k::·)
theorem zp {Z:ZG}:∀ {ps:List PV} {vs:List V} {ks:List Key},Ag ps=some ks->aH K Z ps vs->vs=ks.map kV
 | [],vs,ks,h,r=>by
  cases h
  exact r
 | p::ps,vs,ks,h,r=>by
  obtain ⟨v,r',rfl,h1,h2⟩:=r
  obtain ⟨k,g1,g2⟩:=bind_some h
  obtain ⟨t,g3,g4⟩:=map_some g2
  cases g4
  rw [uZ g1 h1,zp g3 h2]
  rfl
theorem SR.takeT {i:Nat} {ks:List (List Key)} {ps:List PV} (s:SR K H0 Z0 σ H ρ pd) (e:ρ.vs[i]?=some (some (.own (.dt ks ps)))):
 ∃ a,σ[i]?=some (some (.ref a))/\SR K H0 Z0 σ H (ρ.set i none) ((.ref a,.own (.dt ks ps))::pd):=by
 obtain ⟨v,e1,s1⟩:=s.take e
 obtain ⟨_,Z,_,z,so⟩:=s1.top
 obtain ⟨a,ea,_⟩:=so.1 _ List.mem_cons_self
 have ea':v=.ref a:=Option.some.inj ea
 subst ea'
 exact ⟨a,e1,s1⟩
theorem SR.setT {v:V} {p:PV} {a:Addr} {ks:List (List Key)} {ps:List PV} {k:List Key} (s:SR K H0 Z0 σ H ρ ((v,.sh p)::(.ref a,.own (.dt ks ps))::pd)):
 ∃ kvs,H a=some (.dT kvs)/\kvs.length=ks.length/\SR K H0 Z0 σ (upd H a (.dT (putK kvs k v))) ρ ((.ref a,.own (iI (pH (ks.zip ps) k p)))::pd):=by
 obtain ⟨el,Z,hg,z,r,so⟩:=s.sh
 have so2:=so.perm cF.symm
 obtain ⟨_,eb,⟨kvs,hu,hk,hr⟩,_⟩:=so2.1 _ List.mem_cons_self
 cases eb
 refine ⟨kvs,hu,by rw [← hk,List.length_map],?_⟩
 have d:=(Ec hk hr).put (k:=k) r
 obtain ⟨z',s'⟩:=so2.write (o:=.dT (putK kvs k v)) (q:=iI (pH (ks.zip ps) k p)) z ⟨putK kvs k v,bh,d.keys,d.vals⟩
 exact .mk el hg z' s'
noncomputable def w5 (i:Nat) (fi:AF) (fv:EF):SF:=fun ρ=>(fv ρ).bind fun x=>match x.2.vs[i]? with
 | some (some (.own (.dt _ _)))=>(fi x.2).bind fun y=>match Ag (y.1.map Lc.pv),y.2.vs[i]? with
  | some k,some (some (.own (.dt ks ps)))=>if ks.length<100000/\k.length<=1000 then some (.nx (y.2.set i (some (.own (iI (pH (ks.zip ps) k x.1.pv)))))) else none
  | _,_=>none
 | _=>none
theorem Pz {i:Nat} {o ix e:Expr} {fi:AF} {fv:EF} {tpos pos:Pos} (h:PS X (.Assign [.Subscript o ix tpos] e pos) (An (tP X.K fv) (Fy (qp i) (Q5 (jC X.K fi)) Gm))):PS X (.Assign [.Subscript o ix tpos] e pos) (dI X.K (w5 i fi fv)):=PS.imp h fun D σ H q=>by
 obtain ⟨H0,Z0,ρ,pd,fl,s,h,k⟩:=q
 obtain ⟨x,h1,h2⟩:=bind_some h
 refine ⟨H0,Z0,ρ,pd,x.1,x.2,s,h1,fun v H1 s1=>?_⟩
 split at h2
 . rename_i ks0 ps0 e0
   obtain ⟨y,h3,h4⟩:=bind_some h2
   obtain ⟨a,ea,_⟩:=s1.takeT e0
   refine ⟨.ref a,ea,H0,Z0,x.2,_,y.1,y.2,s1.freeze,h3,fun ws H2 e2 s2=>?_⟩
   split at h4
   . rename_i kk ks ps ek e3
     split at h4
     . rename_i hlen
       cases h4
       obtain ⟨el,Z,hg,z,rl,so⟩:=s2.repl e2
       have ew:=zp ek rl
       refine ⟨by rw [ew,List.length_map,sizeLine_eq]; omega,fun b hb=>?_⟩
       obtain ⟨z',lz,so'⟩:=so.newF z (a:=b) (o:=.tup ws) hb
       have s3:SR X.K H0 Z0 σ (upd H2 b (.tup ws)) y.2 ((v,.sh x.1.pv)::pd):=⟨el,Z.put b (.tup ws),hg,z',so'⟩
       obtain ⟨a',ea',s4⟩:=s3.takeT e3
       rw [ea] at ea'; cases ea'
       obtain ⟨kvs,hu,hl,s5⟩:=s4.swap.setT (k:=kk)
       refine ⟨a,_,rfl,.inr ⟨kvs,kk,b,hu,rfl,by rw [bh,ew],by rw [hl,sizeLine_eq]; omega,rfl⟩,k σ _ ?_⟩
       have s6:=s5.put ea
       rw [Ev.set_set] at s6
       exact s6
     . cases h4
   . cases h4
 . cases h2
noncomputable def JG:EF:=fun ρ=>some (.own (.dt [] []),ρ)
theorem Sd {pos:Pos}:PE X (.Dict [] [] pos) (tP X.K JG):=PE.imp K3 fun σ H Q q=>by
 obtain ⟨H0,Z0,ρ,pd,l,ρ',s,f,k⟩:=q
 cases f
 exact fun p hp=>k _ _ (s.newO hp fun Z _ _=>⟨[],bh,rfl,.nil⟩)
theorem SR.fzT {a:Addr} {ks:List (List Key)} {ps:List PV} (s:SR K H0 Z0 σ H ρ ((.ref a,.own (.dt ks ps))::pd)):
 ∃ kvs,H a=some (.dT kvs)/\∀ o,SR K H0 Z0 σ (upd H a (.frz o (.dT kvs))) ρ ((.ref a,.sh (.dtf ks ps))::pd):=by
 obtain ⟨el,Z,hg,z,so⟩:=s.top
 obtain ⟨_,eb,⟨kvs,hu,hk,hr⟩,e3,e4⟩:=so.1 _ List.mem_cons_self
 cases eb
 refine ⟨kvs,hu,fun o=>?_⟩
 have sz:cC Z.z (upd Z.z a (.frz o (.dT kvs))):=fun b u e=>by rw [aO (bM e e3)]; exact e
 have lz:gD Z (Z.put a (.frz o (.dT kvs))):=⟨sz,List.prefix_refl _⟩
 have nd:(a::(sl Z.g σ ρ pd).filterMap jA).Nodup:=so.2
 have hL:Slots K H0 Z H (sl Z.g σ ρ pd):=so.sub (List.sublist_cons_self _ _)
 refine .mk (Z:=Z.put a (.frz o (.dT kvs))) el hg ⟨fun b u e=>?_,fun b u e=>by rw [aO (bM e e4)]; exact z.h0 b u e,z.z0.trans lz,fun b u e=>?_⟩ (Slots.consS ?_ ?_)
 . have e:upd Z.z a (.frz o (.dT kvs)) b=some u:=e
   unfold upd at e ⊢
   split
   . rename_i q; rw [if_pos q] at e; exact e
   . rename_i q; rw [if_neg q] at e; exact z.zh b u e
 . have e:upd Z.z a (.frz o (.dT kvs)) b=some u:=e
   unfold upd at e
   split at e
   . rename_i q; rw [q]; exact .inr (.inl e4)
   . exact z.new b u e
 . refine hL.step lz fun e he b hb=>?_
   have hba:b≠a:=fun q=>by
    rw [q] at hb
    exact (List.nodup_cons.mp nd).1 (List.mem_filterMap.mpr ⟨e,he,hb⟩)
   exact ⟨aO hba,by show upd Z.z a _ b=none; rw [aO hba]; exact (gj hL he hb).1⟩
 . unfold Rep
   exact ⟨a,o,kvs,rfl,by show upd Z.z a _ a=_; rw [bh],hk,hr.mono lz⟩
noncomputable def GK (f:EF):EF:=fun ρ=>(f ρ).bind fun x=>match x.1 with
 | .own (.dt ks ps)=>some (.sh (.dtf ks ps),x.2)
 | _=>none
theorem Vt {e:Expr} {f:EF} (h:PE X e (tP X.K f)):PE X e (tP X.K (GK f)):=PE.imp (Rx h) fun σ H Q q=>by
 obtain ⟨H0,Z0,ρ,pd,r,ρ',s,h,k⟩:=q
 obtain ⟨x,h1,h2⟩:=bind_some h
 refine ⟨H0,Z0,ρ,pd,x.1,x.2,s,h1,fun v H1 s1=>?_⟩
 split at h2
 . rename_i ks ps e1
   cases h2
   rw [e1] at s1
   obtain ⟨_,Z,_,z,so⟩:=s1.top
   obtain ⟨a,ea,_⟩:=so.1 _ List.mem_cons_self
   have ea':v=.ref a:=Option.some.inj ea
   subst ea'
   obtain ⟨kvs,hu,st⟩:=s1.fzT
   exact ⟨a,kvs,rfl,hu,fun o=>k _ _ (st o)⟩
 . cases h2
theorem Slots.know {Z0 Z:ZG} {L:Sl} (h:Slots K H0 Z H L) (zo:jB H0 Z0 Z H) {a:Addr} {vs:List V} (ha:H a=some (.tup vs)):jB H0 Z0 (Z.put a (.tup vs)) H/\gD Z (Z.put a (.tup vs))/\Slots K H0 (Z.put a (.tup vs)) H L:=by
 have sz:cC Z.z (upd Z.z a (.tup vs)):=fun b u e=>by
  unfold upd
  split
  . rename_i q
    rw [q] at e
    rw [← ha,← zo.zh _ _ e]
  . exact e
 have lz:gD Z (Z.put a (.tup vs)):=⟨sz,List.prefix_refl _⟩
 refine ⟨⟨fun b u e=>?_,zo.h0,zo.z0.trans lz,fun b u e=>?_⟩,lz,?_⟩
 . have e:upd Z.z a (.tup vs) b=some u:=e
   unfold upd at e
   split at e
   . rename_i q; rw [q,ha]; exact e
   . exact zo.zh b u e
 . have e:upd Z.z a (.tup vs) b=some u:=e
   unfold upd at e
   split at e
   . cases e; exact .inr (.inr True.intro)
   . exact zo.new b u e
 . refine h.step lz fun e he b hb=>?_
   obtain ⟨h1,h2,o',h3,h4⟩:=gj h he hb
   have hba:b≠a:=fun q=>by
    rw [q,ha] at h3
    cases h3
    exact h4 True.intro
   exact ⟨rfl,by show upd Z.z a _ b=none; rw [aO hba]; exact h1⟩
noncomputable def mX (ks:List (List Key)) (ps:List PV):List PV:=List.zipWith (fun k p=>.tup [.tup (k.map vy),p]) ks ps
theorem GP {ks:List (List Key)} {ps:List PV} {i:Nat} {x:PV} (h:(mX ks ps)[i]?=some x):∃ k p,ks[i]?=some k/\ps[i]?=some p/\x=.tup [.tup (k.map vy),p]:=by
 unfold mX at h
 rw [List.getElem?_zipWith] at h
 cases h1:ks[i]? with
 | none=>rw [h1] at h; cases h
 | some p=>
  cases h2:ps[i]? with
  | none=>rw [h1,h2] at h; cases h
  | some q=>rw [h1,h2] at h; cases h; exact ⟨p,q,rfl,rfl,rfl⟩
theorem zq {Z:ZG}:∀ {k:List Key},aH K Z (k.map vy) (k.map kV)
 | []=>.nil
 | _::_=>aH.cons DX zq
theorem GQ {H0:Hp} {a:Addr} {ks:List (List Key)} {ps:List PV} {o:Obj} {kvs:List (List Key×V)} {H1:Hp} (h1:H1 a=some (.frz o (.dT kvs))) (hz:Z0.z a=some (.frz o (.dT kvs))) (hk:kvs.map (·.1)=ks) (hl:ps.length=ks.length):kj K H0 Z0 ((.ref a,.sh (.dtf ks ps))::pd) (Rv a o kvs) (mX ks ps):=by
 intro σ H ρ i s
 obtain ⟨el,Z,hg,z,r,so⟩:=s.sh
 have r0:=r
 unfold Rep at r
 obtain ⟨b',o',kvs',e,g1,g2,g3⟩:=r
 cases e
 have e1:=z.z0.1 _ _ hz
 rw [g1] at e1
 cases e1
 have hH:H a=some (.frz o (.dT kvs)):=z.zh _ _ g1
 have hlen:kvs.length=ks.length:=by rw [← hk,List.length_map]
 refine ⟨fun x hx=>?_,fun hi=>⟨hH,?_⟩⟩
 . obtain ⟨k,p,hk',hp,rfl⟩:=GP hx
   have hi:i<ks.length:=(List.getElem?_eq_some_iff.mp hk').1
   refine ⟨⟨hH,by omega⟩,fun v' H' y=>?_⟩
   obtain ⟨T,kb,kv,hT,rfl,hkv,hkb,rfl⟩:=y
   have hk2:k=kv.1:=by
    have:=congrArg (fun l=>l[i]?) hk
    simp only [List.getElem?_map,hkv,hk',Option.map_some] at this
    exact (Option.some.inj this).symm
   obtain ⟨v,hv,rv⟩:=g3.get hp
   rw [List.getElem?_map,hkv] at hv
   cases hv
   obtain ⟨z1,lz1,so1⟩:=so.know z hkb
   obtain ⟨z',lz,so'⟩:=(so1.consS (r0.mono lz1)).newF z1 (a:=T) (o:=.tup [.ref kb,kv.2]) hT
   refine .mk (Z:=(Z.put kb (.tup (kv.1.map kV))).put T (.tup [.ref kb,kv.2])) el hg z' (Slots.perm (Slots.consS so' ?_) (cF.cons _))
   unfold Rep
   refine ⟨T,[.ref kb,kv.2],rfl,.inl (.inl (by show upd _ T _ T=_; rw [bh])),aH.cons (Rep.mono (Z:=Z.put kb (.tup (kv.1.map kV))) lz ?_) (aH.cons ((rv.mono lz1).mono lz) .nil)⟩
   unfold Rep
   exact ⟨kb,kv.1.map kV,rfl,.inl (.inl (by show upd _ kb _ kb=_; rw [bh])),by rw [hk2]; exact zq⟩
 . unfold mX at hi
   rw [List.length_zipWith] at hi
   omega
noncomputable def GR (f:EF):IF:=fun ρ=>(f ρ).bind fun x=>match x.1.pv with
 | .dtf ks ps=>if ps.length=ks.length then some (mX ks ps,x.2) else none
 | _=>none
theorem SR.ext {l:Addr} {o:HO} (s:SR K H0 Z0 σ H ρ pd) (hl:H l=none):SR K H0 Z0 σ (upd H l o) ρ pd:=by
 obtain ⟨el,Z,hg,z,so⟩:=s
 obtain ⟨z',lz,so'⟩:=so.newF z (o:=o) hl
 exact ⟨el,Z.put l o,hg,z',so'⟩
theorem Dh {o:Expr} {elts:List Expr} {x1} {tpos apos cpos:Pos} {body:List Stmt} {f:EF} {g:TG} {b:BF} {fb:SF} {pos:Pos} (hp:PassesOwn (model X.prog X.w) X.A X.env X.xe) (hc:X.calm=true) (hl:PE X o (tP X.K f)) (hg:PG X (.Tuple elts x1 tpos) g) (hb':GS X.K g b) (hb:dg X body (dI X.K fb))
 (hbase:attributeBase o "items" X.env (eval o X.env)=eval o X.env:=by rfl) (hline:(apos.endLine==cpos.line)=true:=by rfl)
 (hs:∀ x,foldedSetIterable (.Call (.Attribute o "items" apos) [] [] cpos) X.env x=pure x:=by intro _; rfl):PS X (.For (.Tuple elts x1 tpos) (.Call (.Attribute o "items" apos) [] [] cpos) body [] pos) (dI X.K (jh (GR f) b fb)):=PS.imp (wj hp hc (K8 (La hl hbase hline)) hg hb hs) fun D σ H q=>by
 obtain ⟨H0,Z0,ρ,pd,fl,s,h,k⟩:=q
 obtain ⟨y,h1,h2⟩:=bind_some h
 obtain ⟨x,h3,h4⟩:=bind_some h1
 refine ⟨H0,Z0,ρ,pd,x.1,x.2,s,h3,fun v H1 s1=>?_⟩
 refine qu fun G kG=>?_
 split at h4
 . rename_i ks ps en
   split at h4
   . rename_i hlp
     cases h4
     have s2:=s1.freeze
     rw [en] at s2
     obtain ⟨el,Z,hgg,z,r,so⟩:=s2.sh
     have r0:=r
     unfold Rep at r
     obtain ⟨a,o,kvs,rfl,g1,g2,g3⟩:=r
     have e1:H1 a=some (.frz o (.dT kvs)):=z.zh _ _ g1
     have hst0:SR X.K H0 Z σ H1 x.2 ((.ref a,.sh (.dtf ks ps))::pd):=.mk (Z:=Z) el hgg ⟨z.zh,z.h0,gD.refl Z,fun b u e=>.inl e⟩ (so.consS r0)
     exact kG ⟨a,o,kvs,rfl,rfl,e1,fun l hl=>⟨l,a,o,kvs,rfl,bh,by rw [aO (bM e1 hl)]; exact e1,vJ hb' (GQ e1 g1 g2 hlp) (k.imp (fun s=>s.pop.weak z) fun s=>(s.sub ((List.sublist_cons_self _ _).cons_cons _)).weak z) (hst0.ext hl) h2⟩⟩
   . cases h4
 . cases h4
noncomputable abbrev FD:=List (Str×PV)
noncomputable def mK:FD->Str->Option PV
 | [],_=>none
 | kv::r,k=>if kv.1=k then some kv.2 else mK r k
noncomputable def gC (f:Str) (p:PV):FD->FD
 | []=>[(f,p)]
 | kv::r=>if kv.1=f then (kv.1,p)::r else kv::gC f p r
noncomputable def bZ (C:Str) (l:FD):PV:=.obj C (l.map (·.1)) (l.map (·.2))
noncomputable def lL (K:FG) (Z:ZG):FD->List (Str×V)->Prop:=Paired fun p q=>p.1=q.1/\Rep K Z p.2 q.2
section
variable {K:FG} {Z Z':ZG}
theorem yh:∀ {kvs:List (Str×V)} {ks:List Str} {ps:List PV},kvs.map (·.1)=ks->aH K Z ps (kvs.map (·.2))->lL K Z (ks.zip ps) kvs
 | [],ks,ps,h1,h2=>by
  subst h1
  exact .nil
 | kv::r,ks,ps,h1,h2=>by
  subst h1
  cases ps with
  | nil=>have:=h2.inv0; simp at this
  | cons p ps=>
   obtain ⟨v,r',e,h3,h4⟩:=h2.inv
   rw [List.map_cons] at e
   injection e with e1 e2
   subst e1 e2
   rw [List.map_cons,List.zip_cons_cons]
   exact .cons ⟨rfl,h3⟩ (yh rfl h4)
theorem lL.keys:∀ {l:FD} {kvs:List (Str×V)},lL K Z l kvs->kvs.map (·.1)=l.map (·.1)
 | _,_,.nil=>rfl
 | _,_,.cons h t=>by rw [List.map_cons,List.map_cons,h.1,lL.keys t]
theorem lL.vals:∀ {l:FD} {kvs:List (Str×V)},lL K Z l kvs->aH K Z (l.map (·.2)) (kvs.map (·.2))
 | _,_,.nil=>.nil
 | _,_,.cons h t=>aH.cons h.2 (lL.vals t)
theorem lL.look {f:Str}:∀ {l:FD} {kvs:List (Str×V)},lL K Z l kvs->(∀ p,mK l f=some p->∃ v,kvs.lookup f=some v/\Rep K Z p v)/\(mK l f=none->kvs.lookup f=none)
 | _,_,.nil=>⟨fun p h=>(by cases h),fun _=>rfl⟩
 | p::l,q::kvs,.cons h t=>by
  have ih:=lL.look (f:=f) t
  have e0:(q::kvs).lookup f=if f=q.1 then some q.2 else kvs.lookup f:=by
   obtain ⟨q1,q2⟩:=q
   rw [List.lookup_cons]
   by_cases e:f=q1
   . subst e; simp
   . rw [if_neg e,show (f==q1)=false from beq_eq_false_iff_ne.mpr e]
  rw [e0]
  by_cases e:p.1=f
  . have e':f=q.1:=by rw [← h.1]; exact e.symm
    rw [if_pos e']
    refine ⟨fun x hx=>⟨q.2,rfl,?_⟩,fun hx=>?_⟩
    . unfold mK at hx; rw [if_pos e] at hx; cases hx; exact h.2
    . unfold mK at hx; rw [if_pos e] at hx; cases hx
  . have e':¬ f=q.1:=by rw [← h.1]; exact fun z=>e z.symm
    rw [if_neg e']
    unfold mK
    rw [if_neg e]
    exact ih
theorem lL.put {f:Str} {p:PV} {v:V} (r:Rep K Z p v):∀ {l:FD} {kvs:List (Str×V)},lL K Z l kvs->lL K Z (gC f p l) (gF f v kvs)
 | _,_,.nil=>.cons ⟨rfl,r⟩ .nil
 | a::l,b::kvs,.cons h t=>by
  obtain ⟨b1,b2⟩:=b
  unfold gC gF
  have h1:a.1=b1:=h.1
  by_cases e:a.1=f
  . rw [if_pos e,if_pos (by rw [← h1]; exact e)]
    exact .cons ⟨h1,r⟩ t
  . rw [if_neg e,if_neg (by rw [← h1]; exact e)]
    exact .cons h (lL.put r t)
end
structure yj (K:FG) (mg:Str->Option Value) (C:Str) (c:Addr):Prop where
 cn:CN K C c
 cl:Av K c
 mgC:mg C=some (.ref c)
theorem qe {C:Str} {c d:Addr} (h:CN K C c) (g:CN K C d):c=d:=by
 have:(some (some (Value.ref c)))=some (some (.ref d)):=h.symm.trans g
 cases this
 rfl
noncomputable def pI (C f:Str) (fo:EF):EF:=fun ρ=>(fo ρ).bind fun x=>match x.1.pv with
 | .ptr n=>match x.2.mu[n]? with
  | some (some (.obj D ks ps))=>if D=C then (mK (ks.zip ps) f).map fun p=>(.sh p,x.2) else none
  | _=>none
 | _=>none
theorem SR.cellB {pd pe:Pd} {a:Addr} {n:Nat} {p:PV} (hm:ρ.mu[n]?=some (some p)) (s:SR K H0 Z0 σ H ⟨ρ.vs,ρ.mu.set n none⟩ ((.ref a,.own p)::(.ref a,.sh (.ptr n))::pd)):SR K H0 Z0 σ H ρ pd:=by
 have hn:n<ρ.mu.length:=(List.getElem?_eq_some_iff.mp hm).1
 have s8:=s.cellP (by show (ρ.mu.set n none)[n]?=_; rw [List.getElem?_set_self hn])
 have e8:(ρ.mu.set n none).set n (some p)=ρ.mu:=by rw [List.set_set]; exact set_same hm
 have s9:SR K H0 Z0 σ H ⟨ρ.vs,(ρ.mu.set n none).set n (some p)⟩ pd:=s8
 rw [e8] at s9
 exact s9
theorem SR.objAt {v:V} {n:Nat} {C:Str} {ks:List Str} {ps:List PV} (s:SR K H0 Z0 σ H ρ ((v,.sh (.ptr n))::pd)) (hm:ρ.mu[n]?=some (some (.obj C ks ps))):
 ∃ a c dx fs,v=.ref a/\CN K C c/\H a=some (.ins c dx fs)/\fs.map (·.1)=ks/\(∀ f p,mK (ks.zip ps) f=some p->∃ u,fs.lookup f=some u/\SR K H0 Z0 σ H ρ ((u,.sh p)::(v,.sh (.ptr n))::pd))/\∀ f,mK (ks.zip ps) f=none->fs.lookup f=none:=by
 have sdup:SR K H0 Z0 σ H ρ ((v,.sh (.ptr n))::(v,.sh (.ptr n))::pd):=s.part fun Z _ r=>r
 obtain ⟨a,rfl,s5⟩:=sdup.cellO hm
 obtain ⟨el,Z,hg,z,so⟩:=s5.top
 obtain ⟨_,ea,⟨c,dx,fs,cn,hu,hk,hr⟩,_⟩:=so.1 _ List.mem_cons_self
 cases ea
 have rf:=yh hk hr
 refine ⟨a,c,dx,fs,rfl,cn,hu,hk,fun f p hl=>?_,fun f hl=>rf.look.2 hl⟩
 obtain ⟨u,h1,h2⟩:=rf.look.1 p hl
 refine ⟨u,h1,?_⟩
 have s6:SR K H0 Z0 σ H ⟨ρ.vs,ρ.mu.set n none⟩ ((u,.sh p)::(.ref a,.own (.obj C ks ps))::(.ref a,.sh (.ptr n))::(.ref a,.sh (.ptr n))::pd):=.mk (Z:=Z) el hg z ((so.perm cF).consS h2)
 have s7:SR K H0 Z0 σ H ⟨ρ.vs,ρ.mu.set n none⟩ ((.ref a,.own (.obj C ks ps))::(.ref a,.sh (.ptr n))::(u,.sh p)::(.ref a,.sh (.ptr n))::pd):=s6.perm (((List.Perm.swap _ _ _).cons _).trans (List.Perm.swap _ _ _))
 exact SR.cellB (pe:=pd) hm s7
theorem Ma {C f:Str} {c:Addr} {o:Expr} {fo:EF} {pos:Pos} (T:yj X.K X.mg C c) (na:jX X.K c f) (ho:PE X o (tP X.K fo)) (hb:attributeBase o f X.env (eval o X.env)=eval o X.env:=by rfl):PE X (.Attribute o f pos) (tP X.K (pI C f fo)):=PE.imp (Q3 ho hb) fun σ H Q q=>by
 obtain ⟨H0,Z0,ρ,pd,l,ρ',s,h,k⟩:=q
 obtain ⟨x,h1,h2⟩:=bind_some h
 refine ⟨H0,Z0,ρ,pd,x.1,x.2,s,h1,fun v H1 s1=>?_⟩
 split at h2
 . rename_i n en
   split at h2
   . rename_i D ks ps em
     split at h2
     . rename_i eD
       subst eD
       obtain ⟨p,h3,h4⟩:=map_some h2
       cases h4
       have s2:=s1.freeze
       rw [en] at s2
       obtain ⟨a,c',dx,fs,rfl,cn,hH,hk,hl,_⟩:=s2.objAt em
       have:=qe T.cn cn
       subst this
       obtain ⟨u,h5,s6⟩:=hl f p h3
       exact ⟨a,c,dx,fs,u,rfl,hH,T.cl,na,h5,k u H1 (s6.sub ((List.sublist_cons_self _ _).cons_cons _))⟩
     . cases h2
   . cases h2
 . cases h2
noncomputable def iB (C f:Str) (fo fv:EF):SF:=fun ρ=>(fv ρ).bind fun y=>(fo y.2).bind fun x=>match x.1.pv with
 | .ptr n=>match x.2.mu[n]? with
  | some (some (.obj D ks ps))=>if D=C/\ks.length<1000 then some (.nx ⟨x.2.vs,x.2.mu.set n (some (bZ C (gC f y.1.pv (ks.zip ps))))⟩) else none
  | _=>none
 | _=>none
theorem oh {C f:Str} {c:Addr} {o value:Expr} {fo fv:EF} {pos' pos:Pos} (T:yj X.K X.mg C c) (na:jX X.K c f) (ho:PE X o (tP X.K fo)) (hv:PE X value (tP X.K fv)) (hs:swapsWith value (some (.Attribute o f pos')) pos.line X.env=pure false:=by rfl):PS X (.Assign [.Attribute o f pos'] value pos) (dI X.K (iB C f fo fv)):=PS.imp (Q4 ho hv hs) fun D σ H q=>by
 obtain ⟨H0,Z0,ρ,pd,fl,s,h,k⟩:=q
 obtain ⟨y,h1,h2⟩:=bind_some h
 obtain ⟨x,h3,h4⟩:=bind_some h2
 refine ⟨H0,Z0,ρ,pd,y.1,y.2,s,h1,fun v H1 s1=>⟨H0,Z0,y.2,_,x.1,x.2,s1.freeze,h3,fun w H2 s2=>?_⟩⟩
 split at h4
 . rename_i n en
   split at h4
   . rename_i D' ks ps em
     split at h4
     . rename_i eD
       obtain ⟨eD,hz⟩:=eD
       subst eD
       cases h4
       have s3:=s2.freeze
       rw [en] at s3
       obtain ⟨a,rfl,s5⟩:=s3.cellO em
       have s6:SR X.K H0 Z0 σ H2 ⟨x.2.vs,x.2.mu.set n none⟩ ((v,.sh y.1.pv)::(.ref a,.own (.obj D' ks ps))::(.ref a,.sh (.ptr n))::pd):=s5.perm ((List.Perm.swap _ _ _).trans ((List.Perm.swap _ _ _).cons _))
       obtain ⟨el,Z,hg,z,r,so⟩:=s6.sh
       have so2:=so.perm cF.symm
       obtain ⟨_,eb,⟨c',dx,fs,cn,hu,hk,hr⟩,_⟩:=so2.1 _ List.mem_cons_self
       cases eb
       have:=qe T.cn cn
       subst this
       have rf:=yh hk hr
       have rp:=rf.put (f:=f) r
       have hlen:fs.length=ks.length:=by rw [← hk,List.length_map]
       refine ⟨a,c,dx,fs,rfl,hu,T.cl,na,by omega,k σ _ ?_⟩
       obtain ⟨z',s'⟩:=so2.write (o:=.ins c dx (gF f v fs)) (q:=bZ D' (gC f y.1.pv (ks.zip ps))) z ⟨c,dx,gF f v fs,cn,bh,rp.keys,rp.vals⟩
       have s7:SR X.K H0 Z0 σ (upd H2 a (.ins c dx (gF f v fs))) ⟨x.2.vs,x.2.mu.set n none⟩ ((.ref a,.own (bZ D' (gC f y.1.pv (ks.zip ps))))::(.ref a,.sh (.ptr n))::pd):=.mk el hg z' s'
       have hn:n<x.2.mu.length:=(List.getElem?_eq_some_iff.mp em).1
       have s8:=s7.cellP (by show (x.2.mu.set n none)[n]?=_; rw [List.getElem?_set_self hn])
       have e8:(x.2.mu.set n none).set n (some (bZ D' (gC f y.1.pv (ks.zip ps))))=x.2.mu.set n (some (bZ D' (gC f y.1.pv (ks.zip ps)))):=List.set_set ..
       have s9:SR X.K H0 Z0 σ (upd H2 a (.ins c dx (gF f v fs))) ⟨x.2.vs,(x.2.mu.set n none).set n (some (bZ D' (gC f y.1.pv (ks.zip ps))))⟩ pd:=s8
       rw [e8] at s9
       exact s9
     . cases h4
   . cases h4
 . cases h4
end
section
variable {P:Program} {w:World} {K:FG} {mg:Str->Option Value} {base:Heap}
noncomputable def Nz (K:FG) (c:Addr) (m qual:Str) (st:Stmt) (ps:List Str):Prop:=∃ f fd,oJ K m qual st f fd/\W.findIn K (.ref c) m=some (some (.ref f))/\W.isFn K (.ref f)=true/\Binds K fd ps []
end
section
variable {X:Cx}
theorem SR.toCell {a:Addr} {p:PV} (s:SR K H0 Z0 σ H ρ ((.ref a,.own p)::pd)):SR K H0 Z0 σ H ⟨ρ.vs,ρ.mu++[some p]⟩ ((.ref a,.sh (.ptr ρ.mu.length))::pd):=by
 obtain ⟨el,Z,hg,z,so⟩:=s.top
 have lz:gD Z ⟨Z.z,Z.g++[a]⟩:=⟨cC.refl _,List.prefix_append _ _⟩
 have so2:=so.step (Z':=⟨Z.z,Z.g++[a]⟩) (H':=H) lz fun e he b hb=>⟨rfl,(gj so he hb).1⟩
 refine .mk (Z:=⟨Z.z,Z.g++[a]⟩) el (by simp [hg]) ⟨z.zh,z.h0,z.z0.trans lz,z.new⟩ (Slots.consS ?_ ?_)
 . refine so2.perm ?_
   have ec:cel (Z.g++[a]) (ρ.mu++[some p])=cel Z.g ρ.mu++[(some (.ref a),some (.own p))]:=by
    unfold cel
    rw [List.map_append,List.map_append,List.zip_append (by simp [hg])]
    rfl
   unfold sl
   show List.Perm (cel (Z.g++[a]) (ρ.mu++[some p])++_) _
   rw [ec,List.append_assoc]
   exact List.perm_middle
 . unfold Rep
   exact ⟨a,rfl,by show (Z.g++[a])[ρ.mu.length]?=some a; rw [hg,List.getElem?_append_right (Nat.le_refl _)]; simp⟩
noncomputable def Ed (K:FG):V->List V->Hp->VK->Prop:=fun x vs H Q=>∃ g p qs w b,vs=[w]/\Rep K ⟨H,g⟩ p w/\Rep K ⟨H,g⟩ (.lst qs) x/\jy (bA 150) p qs=some b/\qs.length<=100000/\Q (.int (qs.countP fun q=>(bA 150 q p).getD false:Nat)) H
theorem Mf {k:Nat} (hr:ie k X.A):Nb X "list.count" (Ed X.K):=by
 intro pins s σ H x vs v us Q I rx rv h
 obtain ⟨g,p,qs,w,b,rfl,rp,rq,e,hz,q⟩:=h
 have hA:X.A.in1.units+150<cLine:=by have:=hr.un; show X.A.units+1+150<cLine; omega
 obtain ⟨u,rfl,ru⟩:=rv.one
 obtain ⟨i1,i2⟩:=qU e
 obtain ⟨a,vs,its,rfl,q1,l1,rv1,t1⟩:=oY I rq rx
 have hl:its.length=qs.length:=by rw [← rv1.length,l1.length]
 have hat:∀ m (hm:m<its.length),worth X.K ⟨H,g⟩ p qs vs its its[m]=(bA 150 (qs[m]'(by omega)) p).getD false:=fun m hm=>
  rY (xv:=w) (xu:=u) I l1 rv1 i1 (j:=m) (List.getElem?_eq_getElem (by omega)) (List.getElem?_eq_getElem hm)
 have hcnt:its.countP (worth X.K ⟨H,g⟩ p qs vs its)=qs.countP fun q=>(bA 150 q p).getD false:=by
  have e1:its.map (worth X.K ⟨H,g⟩ p qs vs its)=qs.map fun q=>(bA 150 q p).getD false:=by
   refine List.ext_getElem (by rw [List.length_map,List.length_map,hl]) fun m h1 h2=>?_
   rw [List.getElem_map,List.getElem_map]
   exact hat m (by simpa using h1)
  have e2:∀ {α:Type} (f:α->Bool) (l:List α),l.countP f=(l.map f).countP id:=fun f l=>by rw [List.countP_map]; rfl
  rw [e2,e1,← e2]
 obtain ⟨⟨oc,od,oD,os⟩,ht,hc,n,hd⟩:=t1
 have hc':oc=.type "list" := hc
 have hd':oD=.seq its.toArray n:=hd
 subst hc' hd'
 refine call_meets F.slot_list_count ⟨_,ht,rfl⟩ F.entry_list_count (F.args_list_count_2 _ _) (SeqAt.list_countAt a its.toArray n od os u (worth X.K ⟨H,g⟩ p qs vs its)) ⟨ht,lX I rp ru l1 rv1 i1 hA,?_⟩
 have q':Q (.int (its.countP (worth X.K ⟨H,g⟩ p qs vs its):Nat)) H:=by rw [hcnt]; exact q
 exact ⟨.int _,H,I.tok _,⟨_,rfl⟩,q'⟩
noncomputable def ux (f g:EF):EF:=fun ρ=>(f ρ).bind fun x=>(g x.2).bind fun y=>match x.1.pv with
 | .lst qs=>if (jy (bA 150) y.1.pv qs).isSome=true/\qs.length<=100000 then some (.sh (.int (qs.countP fun q=>(bA 150 q y.1.pv).getD false:Nat)),y.2) else none
 | _=>none
theorem Sg {o e:Expr} {f g:EF} {apos cpos:Pos} (h:PE X (.Call (.Attribute o "count" apos) [e] [] cpos) (Dq X.K "list" (Ed X.K) (tP X.K f) (jC X.K (aj g ao)))):PE X (.Call (.Attribute o "count" apos) [e] [] cpos) (tP X.K (ux f g)):=PE.imp h fun σ H Q q=>by
 obtain ⟨H0,Z0,ρ,pd,r,ρ',s,h,k⟩:=q
 obtain ⟨x,h1,h2⟩:=bind_some h
 obtain ⟨y,h3,h4⟩:=bind_some h2
 refine ⟨H0,Z0,ρ,pd,x.1,x.2,s,h1,fun v H1 s1=>?_⟩
 have s1':=s1.freeze
 cases e:x.1.pv with
 | lst qs=>
  rw [e] at h4 s1'
  have h4':(if (jy (bA 150) y.1.pv qs).isSome=true/\qs.length<=100000 then some (Lc.sh (.int (qs.countP fun q=>(bA 150 q y.1.pv).getD false:Nat)),y.2) else none)=some (r,ρ'):=h4
  split at h4'
  . rename_i hc
    cases h4'
    obtain ⟨_,r1⟩:=s1'.repH
    have r1':=r1
    unfold Rep at r1'
    obtain ⟨a,us,rfl,hq,_⟩:=r1'
    obtain ⟨bb,hbb⟩:=Option.isSome_iff_exists.mp hc.1
    refine ⟨.inl ⟨rfl,us,hq⟩,H0,Z0,x.2,_,[y.1],y.2,s1',?_,fun vs H2 e2 s2=>?_⟩
    . unfold aj ao
      rw [h3]
      rfl
    . obtain ⟨w,rfl⟩:=qP e2
      have s3:SR X.K H0 Z0 σ H2 y.2 ((w,.sh y.1.pv)::(.ref a,.sh (.lst qs))::pd):=SR.freeze s2
      obtain ⟨g,ra,rb⟩:=s3.rep2H
      exact ⟨g,y.1.pv,qs,w,bb,rfl,rb,ra,hbb,hc.2,k _ _ (s3.pop.pop.scal dD)⟩
  . cases h4'
 | _=>rw [e] at h4; cases h4
end
theorem JH {a:AF} {n m:Nat} (h:∀ ρ ls ρ1,a ρ=some (ls,ρ1)->ls.length=n) (e:n+1=m:=by rfl):∀ ρ ls ρ1,a ρ=some (ls,ρ1)->ls.length+1=m:=fun ρ ls ρ1 g=>by rw [h _ _ _ g,e]
end PL
namespace L2
open PySem PySem.Spec PyProof.Rows
variable {pins:List (Addr×Obj)} {E:Value->Shared->Prop} {s:Shared} {A:Around} {w:World} {P:Program}
section
variable {X:Cx}
noncomputable def Sq:V->List V->Hp->VK->Prop:=fun x vs H Q=>∃ l xs y j k,x=.ref l/\vs=[.int k,y]/\k=((j:Nat):Int)/\j<=xs.length/\H l=some (.lst xs)/\xs.length<100001/\Q .non (upd H l (.lst (xs.take j++y::xs.drop j)))
theorem sz:100001<sizeLine:=by decide
theorem fits {j n:Nat} (h:j<=n) (hz:n<100001):¬ (!Builtin.List.listFitsIndex ((j:Nat):Int))=true:=by
 unfold Builtin.List.listFitsIndex
 simp only [Bool.not_eq_true',Bool.not_eq_false,Bool.and_eq_true,decide_eq_true_eq]
 omega
theorem w6:Ri X "list.insert" Sq:=by
 intro pins s σ H x vs v us Q I rx rv h
 obtain ⟨l,xs,y,j,k,rfl,rfl,hk,hj,hH,hz,q⟩:=h
 cases rx
 cases rv with
 | cons r0 rv=>
  obtain ⟨u,rfl,ru⟩:=vals1 rv
  obtain ⟨t,rfl⟩:=r0
  obtain ⟨z,its,n,r,hl,e⟩:=I.lstM hH
  have hil:its.length=xs.length:=r.length.symm
  refine call_meets F.slot_list_insert ⟨_,e,rfl⟩ F.entry_list_insert (F.args_list_insert_3 _ _ _) (PySem.AutoSeq1.list_insert_list_int_val_1 l its.toArray n k t u (by rw [hk]; exact fits hj hz) (by rw [List.size_toArray]; have:=sz; omega)) ⟨e,?_⟩
  refine ⟨.non,_,I.lset (its':=its.take j++u::its.drop j) hH e ?_ ?_ ?_,rfl,q⟩
  . have ek:(if k<0 then (k+((its.toArray.size:Nat):Int)).toNat else min k.toNat its.toArray.size)=j:=by
     rw [hk,if_neg (by omega),Int.toNat_natCast,List.size_toArray]
     omega
    dsimp only
    rw [ek]
    apply Array.toList_inj.mp
    simp
    rw [List.take_of_length_le (by rw [List.length_drop]; omega)]
  . exact (r.take j).append (.cons ru (r.drop j))
  . rw [List.length_append,List.length_cons,List.length_take,List.length_drop]; have:=sz; omega
end
end L2
namespace PL
open PySem PySem.Spec PyProof.Rows L2
variable {K:FG} {H0 H:Hp} {Z0:ZG} {σ:L2.St} {ρ:Ev} {pd:Pd}
section
variable {X:Cx}
theorem SR.insO {v:V} {l:Lc} {a:Addr} {ws:List PV} {j:Nat} (s:SR K H0 Z0 σ H ρ ((v,l)::(.ref a,.own (.lst ws))::pd)):
 ∃ us,H a=some (.lst us)/\us.length=ws.length/\SR K H0 Z0 σ (upd H a (.lst (us.take j++v::us.drop j))) ρ ((.ref a,.own (.lst (ws.take j++l.pv::ws.drop j)))::pd):=by
 obtain ⟨el,Z,hg,z,r,so⟩:=s.freeze.sh
 have so2:=so.perm cF.symm
 obtain ⟨b,eb,⟨us,hu,hr⟩,_⟩:=so2.1 _ List.mem_cons_self
 cases eb
 refine ⟨us,hu,hr.length,?_⟩
 obtain ⟨z',s'⟩:=so2.write (o:=.lst (us.take j++v::us.drop j)) (q:=.lst (ws.take j++l.pv::ws.drop j)) z ⟨_,bh,(hr.take j).append (aH.cons r (hr.drop j))⟩
 exact .mk el hg z' s'
noncomputable def qy (i:Nat) (a:AF):SF:=fun ρ=>match ρ.vs[i]? with
 | some (some (.own (.lst _)))=>(a ρ).bind fun y=>match y.1,y.2.vs[i]? with
  | [lk,le],some (some (.own (.lst ws)))=>match lk with
   | .sh (.int k)=>if 0<=k/\k<=ws.length/\ws.length<100000 then some (.nx (y.2.set i (some (.own (.lst (ws.take k.toNat++le.pv::ws.drop k.toNat)))))) else none
   | _=>none
  | _,_=>none
 | _=>none
theorem xf {i:Nat} {o z e:Expr} {a:AF} {apos cpos pos:Pos} (h:PS X (.Expr (.Call (.Attribute o "insert" apos) [z,e] [] cpos) pos) (zZ (Dq X.K "list" Sq (qp i) (jC X.K a)))):
 PS X (.Expr (.Call (.Attribute o "insert" apos) [z,e] [] cpos) pos) (dI X.K (qy i a)):=PS.imp h fun D σ H q=>by
 obtain ⟨H0,Z0,ρ,pd,fl,s,h,k⟩:=q
 unfold qy at h
 split at h
 . rename_i ws0 e0
   obtain ⟨y,h1,h2⟩:=bind_some h
   obtain ⟨a',ea,⟨us,hu⟩,_⟩:=s.takeO e0
   refine ⟨.ref a',ea,.inl ⟨rfl,us,bQ.of hu⟩,H0,Z0,ρ,pd,y.1,y.2,s,h1,fun vs H2 e2 s2=>?_⟩
   split at h2
   . rename_i lk le ws ey e3
     split at h2
     . rename_i kk
       split at h2
       . rename_i hz
         cases h2
         rw [ey] at e2 s2
         obtain ⟨v0,v1,rfl⟩:=ln2 e2
         have s2':SR X.K H0 Z0 σ H2 y.2 ((v0,.sh (.int kk))::(v1,le)::pd):=s2
         obtain ⟨_,_,_,_,r0,_⟩:=s2'.sh
         unfold Rep at r0
         subst r0
         obtain ⟨b',eb',_,s3⟩:=SR.takeO s2'.pop e3
         rw [ea] at eb'; cases eb'
         have s4:SR X.K H0 Z0 σ H2 (y.2.set i none) ((v1,le)::(.ref a',.own (.lst ws))::pd):=s3.swap
         obtain ⟨us2,hu2,hl,s5⟩:=s4.insO (j:=kk.toNat)
         refine ⟨a',us2,v1,kk.toNat,kk,rfl,rfl,by omega,by omega,hu2,by omega,k σ _ ?_⟩
         have s6:=s5.put ea
         rw [Ev.set_set] at s6
         exact s6
       . cases h2
     . cases h2
   . cases h2
 . cases h
end
end PL
namespace L2
open PySem PySem.Spec PyProof.Rows
variable {pins:List (Addr×Obj)} {E:Value->Shared->Prop} {s:Shared} {A:Around} {w:World} {P:Program}
section
variable {X:Cx}
noncomputable def pk {α:Type} (xs:List α) (lo hi st:Option Int):List α:=
 (sliceRange (sliceBounds lo hi st xs.length).1 (sliceBounds lo hi st xs.length).2.1 (sliceBounds lo hi st xs.length).2.2).filterMap fun i=>xs[i]?
end
end L2
namespace PL
open PySem PySem.Spec PyProof.Rows L2
variable {K:FG} {H0 H:Hp} {Z0:ZG} {σ:L2.St} {ρ:Ev} {pd:Pd}
section
variable {X:Cx}
noncomputable abbrev VM:=Ev->Option (Option Nat×List PV×Ev)
noncomputable def V0 (f:EF):VM:=fun ρ=>(f ρ).bind fun x=>match x.1.pv with
 | .lst ps=>some (none,ps,x.2)
 | .ptr n=>match x.2.mu[n]? with
  | some (some (.lst ps))=>some (some n,ps,x.2)
  | _=>none
 | _=>none
noncomputable def sealV (i:Nat) (ρ:Ev):Option Ev:=match ρ.vs[i]? with
 | some (some (.own (.lst ws)))=>some ⟨ρ.vs.set i (some (.sh (.ptr ρ.mu.length))),ρ.mu++[some (.lst ws)]⟩
 | _=>none
noncomputable def xg (i:Nat) (f:SF):SF:=fun ρ=>(sealV i ρ).bind f
theorem SR.sealV {ρ ρ':Ev} {i:Nat} (s:SR K H0 Z0 σ H ρ pd) (h:PL.sealV i ρ=some ρ'):SR K H0 Z0 σ H ρ' pd:=by
 unfold PL.sealV at h
 split at h
 . rename_i ws e0
   cases h
   obtain ⟨a,ea,_,s1⟩:=s.takeO e0
   have s2:=s1.toCell.put ea
   have e:(ρ.vs.set i none).set i (some (Lc.sh (.ptr ρ.mu.length)))=ρ.vs.set i (some (.sh (.ptr ρ.mu.length))):=List.set_set _
   have s3:SR K H0 Z0 σ H ⟨(ρ.vs.set i none).set i (some (Lc.sh (.ptr ρ.mu.length))),ρ.mu++[some (.lst ws)]⟩ pd:=s2
   rw [e] at s3
   exact s3
 . cases h
theorem PB {i:Nat} {st:Stmt} {f:SF} (h:PS X st (dI X.K f)):PS X st (dI X.K (xg i f)):=PS.imp h fun D σ H q=>by
 obtain ⟨H0,Z0,ρ,pd,fl,s,h,k⟩:=q
 obtain ⟨ρ1,h1,h2⟩:=bind_some h
 exact ⟨H0,Z0,ρ1,pd,fl,s.sealV h1,h2,k⟩
end
noncomputable def GZ (mu:Mu):Nat->PV->PV
 | 0,p=>p
 | k+1,.ptr n=>match mu[n]? with
  | some (some p)=>GZ mu k p
  | _=>.ptr n
 | k+1,.tup ps=>.tup (ps.map (GZ mu k))
 | k+1,.lst ps=>.lst (ps.map (GZ mu k))
 | _+1,p=>p
noncomputable def peekD (mu:Mu):Option Lc->Option Lc
 | some l=>some (.sh (GZ mu 40 l.pv))
 | none=>none
noncomputable def Ev.peekD (ρ:Ev):Ev:=⟨ρ.vs.map (PL.peekD ρ.mu),ρ.mu.map fun _=>none⟩
section
variable {X:Cx}
end
class HK where
 hk:List t7->Int
noncomputable def okP:PV->Option t7
 | .non=>some none
 | .int i=>some (some (.inl i))
 | .str x=>some (some (.inr x))
 | _=>none
section
variable {X:Cx} [HK]
end
section
variable {X:Cx}
theorem qw (i:Nat) {x:Str} {pos:Pos} (hN:X.N[i]?=some x:=by rfl) (hv:HF X.env.scope x:=by first | exact Or.inl rfl | exact Or.inr (Or.inl rfl) | exact Or.inr (Or.inr rfl)) (hd:(x==("__debug__" : Str))=false:=by decide) (hcd:(x==("__classdict__" : Str))=false:=by decide):PE X (.Name x pos) (tP X.K (aa i)):=qv (pv i hN hv hd hcd)
theorem aY {i:Int} {j} {pos:Pos}:PE X (.Constant (.int i) j pos) (tP X.K (eC (.int i))):=qc Qz dD
theorem eV {i:Str} {j} {pos:Pos}:PE X (.Constant (.str i) j pos) (tP X.K (eC (.str i))):=qc HH kO
theorem xj {j} {pos:Pos}:PE X (.Constant .none j pos) (tP X.K (eC .non)):=qc QB uP
theorem qI {a:Expr} {i:Int} {j} {p pos:Pos} {fa:EF} (ha:PE X a (tP X.K fa)):PE X (.Subscript a (.Constant (.int i) j p) pos) (tP X.K (aX fa (eC (.int i)))):=jj ha aY (fun _ _=>rfl)
theorem qL {e:Expr} {f:EF} {p pos:Pos} (b:X.mg "len" = none) (h:PE X e (tP X.K f)) (hg:Gl X "len" := by rfl) (h0:starEach [e] X.env=(false,eval e X.env)::starEach [] X.env:=by rfl):PE X (.Call (.Name "len" p) [e] [] pos) (tP X.K (eB cH (aj f ao))):=wR oG Ju (dm oG hg b PySem.boot_len (ak h aC h0) (he:=h0))
theorem d9 (i:Nat) {x:Str} {e:Expr} {pos pos':Pos} {f:EF} (hN:X.N.Nodup) (he:PE X e (tP X.K f)) (hi:X.N[i]?=some x:=by rfl) (hx:L2.Loc X.env.scope x:=by exact Or.inl rfl) (hs:swapsWith e (some (.Name x pos')) pos.line X.env=pure false:=by rfl) (hf:X.fn x=true\/X.env.scope.names.lookup x=some .local:=by first | exact .inl rfl | exact .inr rfl | assumption):
 PS X (.Assign [.Name x pos'] e pos) (dI X.K (aK i f)):=mR hN hi hx he hs hf
theorem fB (i:Nat) {x:Str} {pos:Pos} (hN:X.N.Nodup) (hi:X.N[i]?=some x:=by rfl) (hx:L2.Loc X.env.scope x:=by exact Or.inl rfl) (hf:X.fn x=true\/X.env.scope.names.lookup x=some .local:=by first | exact .inl rfl | exact .inr rfl | assumption):PG X (.Name x pos) (z8 i):=Dm hN hi hx hf
theorem qZ {M F:List Str} {ixs:List Nat} {sc:Scope} (S:Scope) (hS:X.env.scope=S:=by rfl) (kind:sc.kind=.function:=by rfl) (locs:∀ y∈sc.names,y.2=.local->sc.names.lookup y.1=some .local:=by decide +kernel) (cel:∀ y∈sc.names,y.2=.cell->sc.names.lookup y.1=some .cell:=by decide +kernel)
 (own:∀ p∈sc.names,p.2=.free->S.names.lookup p.1=some .cell\/S.names.lookup p.1=some .free:=by decide +kernel) (frs:∀ x∈F,sc.names.lookup x=some .free:=by decide +kernel) (ix:ixs.map (fun i=>X.N[i]?)=F.map some:=by rfl):gh X M F ixs sc:=Nv S hS kind locs cel own frs ix
theorem vQ {i:Nat} {o e:Expr} {f:EF} {apos cpos pos:Pos} (ho:PE X o (qp i)) (he:PE X e (tP X.K f)) (h0:starEach [e] X.env=(false,eval e X.env)::starEach [] X.env:=by rfl) (h1:attributeBase o "append" X.env (eval o X.env)=eval o X.env:=by rfl)
 (h2:((backTo cpos (starEach [e] X.env)).all (fun x=>!x.1)&&(backToKw cpos (keywordEach [] X.env)).all (fun x=>x.1.isSome)
   && decide (([e]:List Expr).length+([]:List Keyword).length+(if ([]:List Keyword).isEmpty then 0 else 1)<30))=true:=by rfl) (h3:(apos.endLine==cpos.line)=true:=by rfl) (hs:swapsWith (.Call (.Attribute o "append" apos) [e] [] cpos) none pos.line X.env=pure false:=by rfl):
 PS X (.Expr (.Call (.Attribute o "append" apos) [e] [] cpos) pos) (dI X.K (gG i f)):=RN (nZ (nD F.plainAttrs_list F.slot_list_append F.type_list_append yP ho (ak he aC h0) h1 h2 h3 h0) hs)
end
inductive XR (α:Type) where
 | ok (a:α)
 | xc (C:Str) (ρ:Ev)
noncomputable abbrev EX:=Ev->Option (XR (Lc×Ev))
noncomputable abbrev SX:=Ev->Option (XR Fl)
noncomputable abbrev GX:=List PV->Mu->Option (XR (Lc×Mu))
noncomputable def By (K:FG) (E:XK) (f:EX):TE:=fun σ H Q=>∃ H0 Z0 ρ pd,SR K H0 Z0 σ H ρ pd/\((∃ l ρ',f ρ=some (.ok (l,ρ'))/\∀ v H',SR K H0 Z0 σ H' ρ' ((v,l)::pd)->Q v H')\/∃ C ρ',f ρ=some (.xc C ρ')/\∀ c H',CN K C c->SR K H0 Z0 σ H' ρ' pd->E (.ref c) none H')
noncomputable def jO (K:FG) (E:XK) (g:SX):TS:=fun D σ H=>∃ H0 Z0 ρ pd,SR K H0 Z0 σ H ρ pd/\((∃ fl,g ρ=some (.ok fl)/\lW K H0 Z0 pd D fl)\/∃ C ρ',g ρ=some (.xc C ρ')/\∀ c σ' H',CN K C c->SR K H0 Z0 σ' H' ρ' pd->E (.ref c) none H')
noncomputable def G3 (K:FG) (E:XK) (g:SX):TS:=fun D σ H=>∃ H0 Z0 ρ pd,SR K H0 Z0 σ H ρ pd/\((∃ fl,g ρ=some (.ok fl)/\lW K H0 Z0 pd D fl)\/∃ C ρ',g ρ=some (.xc C ρ')/\∀ c H',CN K C c->SR K H0 Z0 σ H' ρ' pd->E (.ref c) none H')
theorem jO.a {E:XK} {g:SX} {D:Ends} {H:Hp} (q:jO K E g D σ H):G3 K E g D σ H:=by
 obtain ⟨H0,Z0,ρ,pd,s,q | ⟨C,ρ',h,k⟩⟩:=q
 . exact ⟨H0,Z0,ρ,pd,s,.inl q⟩
 . exact ⟨H0,Z0,ρ,pd,s,.inr ⟨C,ρ',h,fun c H'=>k c σ H'⟩⟩
noncomputable def BJ (K:FG) (n:Nat) (g:GX):Sp:=fun vs H Q E=>∃ (Z:ZG) (ps:List PV) (mu:Mu),vs.length=n/\mu.length=Z.g.length/\cC Z.z H/\aH K Z ps vs/\Slots K (jg H (kJ Z.g mu)) Z H (cel Z.g mu)/\
 ((∃ r mu',g ps mu=some (.ok (r,mu'))/\∀ v H',Bj K H Z (kJ Z.g mu) H' mu' v r->Q v H')\/∃ C ρ',g ps mu=some (.xc C ρ')/\∀ c v H',CN K C c->Bj K H Z (kJ Z.g mu) H' ρ'.mu v (.sh .non)->E (.ref c) none H')
noncomputable def pJ (n:Nat) (g:SX):GX:=fun ps mu=>(g (env0 n ps mu)).bind fun x=>match x with
 | .ok (.rt r ρ)=>some (.ok (r,ρ.mu))
 | .ok (.nx ρ)=>some (.ok (.sh .non,ρ.mu))
 | .xc C ρ=>some (.xc C ρ)
 | _=>none
noncomputable def eE (g:SF):SX:=fun ρ=>(g ρ).map .ok
noncomputable def iJ (f g:SX):SX:=fun ρ=>(f ρ).bind fun x=>match x with
 | .ok (.nx ρ')=>g ρ'
 | y=>some y
noncomputable def mY (c:TF) (f g:SX):SX:=fun ρ=>(c ρ).bind fun x=>if x.1=true then f x.2 else g x.2
noncomputable def xB (f:EX) (k:Lc×Ev->Option Fl):SX:=fun ρ=>(f ρ).bind fun x=>match x with
 | .ok y=>(k y).map .ok
 | .xc C ρ'=>some (.xc C ρ')
noncomputable def qg:Lc×Ev->Option Fl:=fun y=>some (.nx y.2)
section
variable {X:Cx} {E:XK}
theorem lg {st:Stmt} {g:SF} (h:PS X st (dI X.K g)):PS X st (jO X.K E (eE g)):=PS.imp h fun D σ H q=>by
 obtain ⟨H0,Z0,ρ,pd,s,⟨fl,h1,k⟩ | ⟨C,ρ',h1,k⟩⟩:=q
 . obtain ⟨a,h2,h3⟩:=map_some h1
   cases h3
   exact ⟨H0,Z0,ρ,pd,fl,s,h2,k⟩
 . obtain ⟨a,h2,h3⟩:=map_some h1
   cases h3
theorem ou:dg X [] (jO X.K E (eE bR)):=dg.imp Dk fun D σ H q=>by
 obtain ⟨H0,Z0,ρ,pd,s,⟨fl,h1,k⟩ | ⟨C,ρ',h1,k⟩⟩:=q
 . cases h1; exact k σ H s
 . cases h1
theorem eQ {st:Stmt} {rest:List Stmt} {f g:SX} (h1:PS X st (jO X.K E f)) (h2:dg X rest (jO X.K E g)):dg X (st::rest) (jO X.K E (iJ f g)):=dg.imp (Am h1 h2) fun D σ H q=>by
 obtain ⟨H0,Z0,ρ,pd,s,q⟩:=q
 refine ⟨H0,Z0,ρ,pd,s,?_⟩
 unfold iJ at q
 cases e:f ρ with
 | none=>rw [e] at q; rcases q with ⟨_,z,_⟩ | ⟨_,_,z,_⟩<;>cases z
 | some x=>
  rw [e,Option.bind_some] at q
  cases x with
  | xc C ρ'=>
   rcases q with ⟨_,z,_⟩ | ⟨_,_,z,k⟩
   . cases z
   . cases z; exact .inr ⟨C,ρ',rfl,k⟩
  | ok fl=>
   refine .inl ⟨fl,rfl,?_⟩
   cases fl with
   | nx ρ'=>exact fun σ' H' s'=>⟨H0,Z0,ρ',pd,s',q⟩
   | rt r ρ'=>rcases q with ⟨_,z,k⟩ | ⟨_,_,z,k⟩<;>cases z; exact k
   | bk ρ'=>rcases q with ⟨_,z,k⟩ | ⟨_,_,z,k⟩<;>cases z; exact k
   | ct ρ'=>rcases q with ⟨_,z,k⟩ | ⟨_,_,z,k⟩<;>cases z; exact k
theorem iK {st:Stmt} {f:SX} (h1:PS X st (jO X.K E f)):dg X [st] (jO X.K E f):=Dl h1
theorem u6 {c:Expr} {a b:List Stmt} {fc:TF} {f g:SX} {pos:Pos} (hc:PT X c (eZ X.K fc)) (ha:dg X a (jO X.K E f)) (hb:dg X b (jO X.K E g)):PS X (.If c a b pos) (jO X.K E (mY fc f g)):=PS.imp (MK hc ha hb) fun D σ H q=>by
 obtain ⟨H0,Z0,ρ,pd,s,q⟩:=q
 have hx:∃ x,fc ρ=some x:=by
  cases e:fc ρ with
  | some x=>exact ⟨x,rfl⟩
  | none=>unfold mY at q; rw [e] at q; rcases q with ⟨_,z,_⟩ | ⟨_,_,z,_⟩<;>cases z
 obtain ⟨x,h1⟩:=hx
 unfold mY at q
 rw [h1,Option.bind_some] at q
 refine ⟨H0,Z0,ρ,pd,x.1,x.2,s,h1,fun H1 s1=>?_⟩
 dsimp only
 split
 . rename_i c; rw [if_pos c] at q; exact ⟨H0,Z0,x.2,pd,s1,q⟩
 . rename_i c; rw [if_neg c] at q; exact ⟨H0,Z0,x.2,pd,s1,q⟩
theorem xb {f:EX} {k:Lc×Ev->Option Fl} {D:Ends} {H:Hp} {Q:VK} (q:G3 K E (xB f k) D σ H) (h:∀ H0 Z0 pd l ρ' fl v H',k (l,ρ')=some fl->lW K H0 Z0 pd D fl->SR K H0 Z0 σ H' ρ' ((v,l)::pd)->Q v H'):By K E f σ H Q:=by
 obtain ⟨H0,Z0,ρ,pd,s,q⟩:=q
 refine ⟨H0,Z0,ρ,pd,s,?_⟩
 unfold xB at q
 cases e:f ρ with
 | none=>rw [e] at q; rcases q with ⟨_,z,_⟩ | ⟨_,_,z,_⟩<;>cases z
 | some x=>
  rw [e,Option.bind_some] at q
  cases x with
  | xc C ρ'=>
   rcases q with ⟨_,z,_⟩ | ⟨_,_,z,kk⟩
   . cases z
   . cases z; exact .inr ⟨C,ρ',rfl,kk⟩
  | ok y=>
   rcases q with ⟨fl,z,kk⟩ | ⟨_,_,z,_⟩
   . obtain ⟨fl',z1,z2⟩:=map_some z
     cases z2
     exact .inl ⟨y.1,y.2,rfl,fun v H' s'=>h H0 Z0 pd y.1 y.2 fl v H' z1 kk s'⟩
   . obtain ⟨fl',z1,z2⟩:=map_some z
     cases z2
theorem Ef {e:Expr} {pos:Pos} {f:EX} (he:PE X e (By X.K E f)) (hs:swapsWith e none pos.line X.env=pure false:=by rfl):PS X (.Expr e pos) (jO X.K E (xB f qg)):=PS.imp (nZ he hs) fun D σ H q=>xb q.a fun _ _ _ _ _ _ _ _ h k s=>by cases h; exact k _ _ s.pop
structure qz (K:FG) (mg:Str->Option Value) (C:Str) (c:Addr):Prop where
 cn:CN K C c
 mgC:mg C=some (.ref c)
 ex:W.excIn K c eX eY=true
noncomputable abbrev JF:=Ev->Option Ev
noncomputable def BK (K:FG) (f:JF):TJ:=fun σ H Q=>∃ H0 Z0 ρ pd ρ',SR K H0 Z0 σ H ρ pd/\f ρ=some ρ'/\∀ H',SR K H0 Z0 σ H' ρ' pd->Q H'
noncomputable def Eg:PV->Bool
 | .str x=>bB x
 | .lst ps=>decide (ps.length<=64)&&(match strsOf ps with | some xs=>xs.all bB | none=>false)
 | .tup ps=>decide (ps.length<=64)&&(match strsOf ps with | some xs=>xs.all bB | none=>false)
 | _=>false
theorem BP:∀ {ps:List PV} {xs:List Str},strsOf ps=some xs->xs.length=ps.length
 | [],xs,h=>by cases h; rfl
 | .str z::ps,xs,h=>by
  obtain ⟨ys,h3,h4⟩:=map_some h
  subst h4
  rw [List.length_cons,List.length_cons,BP h3]
theorem JK {ps:List PV} (h:(decide (ps.length<=64)&&(match strsOf ps with | some xs=>xs.all bB | none=>false))=true):∃ xs,strsOf ps=some xs/\xs.length<=64/\xs.all bB=true:=by
 rw [Bool.and_eq_true,decide_eq_true_eq] at h
 obtain ⟨h1,h2⟩:=h
 split at h2
 . rename_i xs e
   exact ⟨xs,e,by rw [BP e]; exact h1,h2⟩
 . cases h2
theorem Ss {p:PV} {v:V} (h:Eg p=true) (s:SR K H0 Z0 σ H ρ ((v,.sh p)::pd)):Gv K H v:=by
 obtain ⟨g,r⟩:=s.repH
 cases p with
 | str x=>exact .inl ⟨x,bW r,h⟩
 | lst ps=>
  obtain ⟨xs,h1,h2,h3⟩:=JK h
  unfold Rep at r
  obtain ⟨a,vs,rfl,r1,r2⟩:=r
  rw [sH h1 r2] at r1
  exact .inr ⟨a,xs,rfl,.inl r1,h2,h3⟩
 | tup ps=>
  obtain ⟨xs,h1,h2,h3⟩:=JK h
  unfold Rep at r
  obtain ⟨a,vs,rfl,r1,r2⟩:=r
  rw [sH h1 r2] at r1
  exact .inr ⟨a,xs,rfl,.inr r1,h2,h3⟩
 | _=>cases h
noncomputable def jz:JF:=fun ρ=>some ρ
noncomputable def jR (f:EF) (g:JF):JF:=fun ρ=>(f ρ).bind fun x=>if Eg x.1.pv=true then g x.2 else none
theorem uy:PJ X [] 0 (BK X.K jz):=fun pins s σ H Q acc I hl q=>by
 obtain ⟨H0,Z0,ρ,pd,ρ',sr,h,k⟩:=q
 cases h
 exact Ry pins s σ H Q acc I hl (k H sr)
theorem vR {c:Str} {es:List Expr} {j n:Nat} {p:Pos} {f:JF} (hc:c.length<=100) (h:PJ X es n (BK X.K f)):PJ X (.Constant (.str c) j p::es) (n+100) (BK X.K f):=Vj hc h
theorem ym {k n:Nat} {e:Expr} {es:List Expr} {p:Pos} {fe:EF} {f:JF} (hr:ie k X.A) (he:PE X e (tP X.K fe)) (h:PJ X es n (BK X.K f)):PJ X (.FormattedValue e 114 none p::es) (n+700000) (BK X.K (jR fe f)):=fun pins s σ H Q acc I hl q=>Vk hr he h pins s σ H Q acc I hl (by
 obtain ⟨H0,Z0,ρ,pd,ρ',sr,h,k⟩:=q
 obtain ⟨x,h1,h2⟩:=bind_some h
 split at h2
 . rename_i hs
   exact ⟨H0,Z0,ρ,pd,x.1,x.2,sr,h1,fun v H' s'=>⟨Ss hs s'.freeze,H0,Z0,x.2,pd,ρ',s'.pop,h2,k⟩⟩
 . cases h2)
noncomputable def gr (C:Str) (f:JF):SX:=fun ρ=>(f ρ).map fun ρ'=>.xc C ρ'
theorem zr {C:Str} {c:Addr} {f:JF} {D:Ends} {H:Hp} (hc:CN K C c) (q:jO K E (gr C f) D σ H):BK K f σ H fun H'=>E (.ref c) none H':=by
 obtain ⟨H0,Z0,ρ,pd,s,q⟩:=q
 rcases q with ⟨_,z,_⟩ | ⟨C',ρ',z,k⟩
 . obtain ⟨_,_,z2⟩:=map_some z
   cases z2
 . obtain ⟨ρ1,z1,z2⟩:=map_some z
   cases z2
   exact ⟨H0,Z0,ρ,pd,ρ',s,z1,fun H' s'=>k c σ H' hc s'⟩
theorem mZ {C:Str} {c:Addr} {np cpos pos jp:Pos} {v1 v2:Expr} {es:List Expr} {n k:Nat} {f:JF} (R:Raises X E) (hr:ie k X.A) (hg:Gl X C) (T:qz X.K X.mg C c) (hj:PJ X (v1::v2::es) n (BK X.K f)) (hn:n<=sizeLine)
 (hdb:(C==("__debug__" : Str))=false:=by decide) (hst:starEach [Expr.JoinedStr (v1::v2::es) jp] X.env=[(false,eval (Expr.JoinedStr (v1::v2::es) jp) X.env)]:=by rfl) (hpl:(backTo cpos (starEach [Expr.JoinedStr (v1::v2::es) jp] X.env)).any (·.1)=false:=by rfl):
 PS X (.Raise (some (.Call (.Name C np) [.JoinedStr (v1::v2::es) jp] [] cpos)) none pos) (jO X.K E (gr C f)):=PS.imp (Bc R hr hg T.mgC T.ex (Jc hj hn) hdb hst hpl) fun D σ H q=>by
 obtain ⟨H0,Z0,ρ,pd,ρ',s,h,k⟩:=zr T.cn q
 exact ⟨H0,Z0,ρ,pd,ρ',s,h,fun H' s' z=>⟨rfl,k H' s'⟩⟩
theorem JL {C:Str} {c:Addr} {np cpos pos:Pos} {a:Expr} {x:Str} {k:Nat} (R:Raises X E) (hr:ie k X.A) (hg:Gl X C) (T:qz X.K X.mg C c) (ha:PE X a (tC (.str x)))
 (hdb:(C==("__debug__" : Str))=false:=by decide) (hst:starEach [a] X.env=[(false,eval a X.env)]:=by rfl) (hpl:(backTo cpos (starEach [a] X.env)).any (·.1)=false:=by rfl):
 PS X (.Raise (some (.Call (.Name C np) [a] [] cpos)) none pos) (jO X.K E (gr C jz)):=PS.imp (Bc R hr hg T.mgC T.ex ha hdb hst hpl) fun D σ H q=>by
 obtain ⟨H0,Z0,ρ,pd,ρ',s,h,k⟩:=zr T.cn q
 cases h
 exact ⟨rfl,k H s⟩
end
section
variable {P:Program} {w:World} {K:FG} {mg:Str->Option Value} {base:Heap}
theorem oJ.okX {x qual:Str} {st:Stmt} {N ps:List Str} {k:Nat} {g:GX} {f:Addr} {fd:FuncData} (F:oJ K x qual st f fd) (S:bw N ps (az st))
 (h:∀ (cdv:Value) (A:Around) (outer:List PySem.Env) (s:Shared) (H:Hp) (E:XK),ie k (A.deeper (envOfC qual (az st) s.heap.objs.size f cdv))->
   ∃ g':SX,(∀ a mu,g a mu=pJ N.length g' a mu)/\(Raises (j8 (gM P w) P w K mg base N qual (az st) f cdv A outer s H E) E->oH (gM P w) (j8 (gM P w) P w K mg base N qual (az st) f cdv A outer s H E) E->dg (j8 (gM P w) P w K mg base N qual (az st) f cdv A outer s H E) (aU st) (jO K E g'))):
 lF P w K mg base (gM P w) (k+1) f fd ps (BJ K ps.length g):=by
 obtain ⟨oc,od,kV,doc,pm,an,cdv,ct,osl,rfl,lk,hcd⟩:=F.ex
 refine M8 lk hcd S (fun vs H Q E q=>?_) fun A outer s H vs Q E hr q=>?_
 . obtain ⟨Z,qs,mu,e,_⟩:=q; exact e
 . obtain ⟨g',eg,b⟩:=h cdv A outer s H E hr
   obtain ⟨Z,qs,mu,e,hg,z,rl,c,kk⟩:=q
   rw [eg] at kk
   refine ⟨_,b (fun pins σ H s h' e C args I hm hE=>O5 I hm hE) O4,jg H (kJ Z.g mu),Z,_,[],vI hg z rl c,?_⟩
   have fin:∀ {σ':L2.St} {H':Hp} {ρ':Ev},SR K (jg H (kJ Z.g mu)) Z σ' H' ρ' []->Bj K H Z (kJ Z.g mu) H' ρ'.mu .non (.sh .non):=fun s'=>by
    obtain ⟨el,Z',hg',z',s''⟩:=s'
    exact ⟨Z',hg',z',(s''.sub (List.sublist_append_left _ _)).consS (uP _)⟩
   unfold pJ at kk
   cases q:g' (env0 N.length qs mu) with
   | none=>rw [q] at kk; rcases kk with ⟨_,_,z,_⟩ | ⟨_,_,z,_⟩<;>cases z
   | some x=>
    rw [q,Option.bind_some] at kk
    cases x with
    | xc C ρ'=>
     rcases kk with ⟨_,_,z,_⟩ | ⟨_,_,z,kk⟩
     . cases z
     . cases z
       exact .inr ⟨C,ρ',rfl,fun c' σ' H' hc s'=>kk c' .non H' hc (fin s')⟩
    | ok fl=>
     refine .inl ⟨fl,rfl,?_⟩
     cases fl with
     | rt r' ρ'=>
      rcases kk with ⟨_,_,z,kk⟩ | ⟨_,_,z,_⟩<;>cases z
      intro v σ' H' s'
      obtain ⟨el,Z',hg',z',s''⟩:=s'.top
      refine kk v H' ⟨Z',hg',z',s''.sub ?_⟩
      exact (List.sublist_append_left _ _).cons_cons _
     | nx ρ'=>
      rcases kk with ⟨_,_,z,kk⟩ | ⟨_,_,z,_⟩<;>cases z
      exact fun σ' H' s'=>kk .non H' (fin s')
     | bk ρ'=>rcases kk with ⟨_,_,z,_⟩ | ⟨_,_,z,_⟩<;>cases z
     | ct ρ'=>rcases kk with ⟨_,_,z,_⟩ | ⟨_,_,z,_⟩<;>cases z
noncomputable def DefX (P:Program) (w:World) (K:FG) (mg:Str->Option Value) (base:Heap) (x:Str) (k:Nat) (ps:List Str) (g:GX):Prop:=∃ f fd,lF P w K mg base (gM P w) k f fd ps (BJ K ps.length g)/\mg x=some (.ref f)/\W.keepIn K (.ref f)=true/\Binds K fd ps []
noncomputable def MX (P:Program) (w:World) (K:FG) (mg:Str->Option Value) (base:Heap) (c:Addr) (m:Str) (k:Nat) (ps:List Str) (g:GX):Prop:=∃ f fd,lF P w K mg base (gM P w) k f fd ps (BJ K ps.length g)/\Meth K c m f/\Binds K fd ps []
noncomputable def NB (P:Program) (w:World) (K:FG) (mg:Str->Option Value) (base:Heap) (c:Addr) (k:Nat) (ps:List Str) (g:GX):Prop:=∃ f fd,lF P w K mg base (gM P w) k f fd ps (BJ K ps.length g)/\Mk K c f/\Binds K fd ps []
end
section
variable {X:Cx} {E:XK}
noncomputable def rX (vs:List (Option Lc)):XR (Lc×Mu)->XR (Lc×Ev)
 | .ok r=>.ok (r.1,⟨vs,r.2⟩)
 | .xc C ρ'=>.xc C ⟨vs,ρ'.mu⟩
noncomputable def jP (g:GX) (a:AF):EX:=fun ρ=>(a ρ).bind fun y=>(g (y.1.map Lc.pv) y.2.mu).map (rX y.2.vs)
theorem JM {H0 H1:Hp} {y:List Lc×Ev} {vs:List V} {n:Nat} {g:GX} {Q:VK} (hn:y.1.length=n) (e2:vs.length=y.1.length) (s2:SR K H0 Z0 σ H1 y.2 (vs.zip y.1++pd)) {x:XR (Lc×Mu)} (hg:g (y.1.map Lc.pv) y.2.mu=some x)
 (k:match rX y.2.vs x with | .ok r=>∀ v H',SR K H0 Z0 σ H' r.2 ((v,r.1)::pd)->Q v H' | .xc C ρ'=>∀ c H',CN K C c->SR K H0 Z0 σ H' ρ' pd->E (.ref c) none H'):BJ K n g (vs++[]) H1 Q E:=by
 obtain ⟨el,Z,hg',z,rl,sl'⟩:=s2.repl e2
 refine ⟨Z,y.1.map Lc.pv,y.2.mu,by rw [List.append_nil,e2]; exact hn,hg',z.zh,by rw [List.append_nil]; exact rl,sl'.cells hg',?_⟩
 cases x with
 | ok r=>exact .inl ⟨r.1,r.2,hg,fun v H' rr=>k v H' (SR.called el hg' z sl' rr)⟩
 | xc C ρ'=>exact .inr ⟨C,ρ',hg,fun c v H' hc rr=>k c H' hc (SR.called el hg' z sl' rr).pop⟩
theorem JN {n:Nat} {g:GX} {a:AF} (hn:∀ ρ ls ρ1,a ρ=some (ls,ρ1)->ls.length=n):∀ σ H Q,By K E (jP g a) σ H Q->Ge (BJ K n g) [] E (jC K a) σ H Q:=fun σ H Q q=>by
 obtain ⟨H0,Z0,ρ,pd,s,q⟩:=q
 have hx:∃ y x,a ρ=some y/\g (y.1.map Lc.pv) y.2.mu=some x:=by
  have:∃ z,jP g a ρ=some z:=by rcases q with ⟨l,ρ',h,_⟩ | ⟨C,ρ',h,_⟩<;>exact ⟨_,h⟩
  obtain ⟨z,hz⟩:=this
  obtain ⟨y,h1,h2⟩:=bind_some hz
  obtain ⟨x,h3,_⟩:=map_some h2
  exact ⟨y,x,h1,h3⟩
 obtain ⟨y,x,h1,h3⟩:=hx
 have he:jP g a ρ=some (rX y.2.vs x):=by unfold jP; rw [h1,Option.bind_some,h3]; rfl
 rw [he] at q
 refine ⟨H0,Z0,ρ,pd,y.1,y.2,s,h1,fun vs H2 e2 s2=>JM (hn _ _ _ h1) e2 s2 h3 ?_⟩
 cases x with
 | ok r=>rcases q with ⟨l,ρ',h,k⟩ | ⟨C,ρ',h,k⟩<;>cases h; exact k
 | xc C ρ'=>rcases q with ⟨l,ρ',h,k⟩ | ⟨C,ρ',h,k⟩<;>cases h; exact k
theorem Eh {x:Str} {k:Nat} {ps:List Str} {g:GX} {e:Expr} {es:List Expr} {a:AF} {p pos:Pos} (D:DefX X.prog X.w X.K X.mg X.base x k ps g) (hx:oH (gM X.prog X.w) X E) (hr:ie k X.A) (hg:Gl X x)
 (ha:PA X (e::es) (jC X.K a)) (hn:∀ ρ ls ρ1,a ρ=some (ls,ρ1)->ls.length=ps.length) (hdb:(x==("__debug__" : Str))=false:=by decide) (he:starEach (e::es) X.env=(false,eval e X.env)::starEach es X.env:=by rfl) (hpl:(backTo pos (starEach es X.env)).any (·.1)=false:=by rfl):PE X (.Call (.Name x p) (e::es) [] pos) (By X.K E (jP g a)):=by
 obtain ⟨f,fd,F,hm,hk,hb⟩:=D
 exact PE.imp (Do (E:=E) F hr hg hm hk hb .nil hx ha hdb he hpl) (JN hn)
noncomputable def Uz (n:Nat) (vs:List (Option Lc)):XR (Lc×Mu)->Option (XR (Lc×Ev))
 | .ok (.sh .non,mu')=>some (.ok (.sh (.ptr n),⟨vs,mu'⟩))
 | .xc D ρ'=>some (.xc D ⟨vs,ρ'.mu⟩)
 | _=>none
noncomputable def iM (C:Str) (g:GX) (a:AF):EX:=fun ρ=>(a ρ).bind fun y=>(g (.ptr y.2.mu.length::y.1.map Lc.pv) (y.2.mu++[some (.obj C [] [])])).bind (Uz y.2.mu.length y.2.vs)
theorem JP {C:Str} {c:Addr} {g:GX} {a:AF} {n':Nat} (T:yj X.K X.mg C c) (hn:∀ ρ ls ρ1,a ρ=some (ls,ρ1)->ls.length+1=n'):∀ σ H Q,By X.K E (iM C g a) σ H Q->M7 c (BJ X.K n' g) [] E (jC X.K a) σ H Q:=fun σ H Q q=>by
 obtain ⟨H0,Z0,ρ,pd,s,q⟩:=q
 have:∃ z,iM C g a ρ=some z:=by rcases q with ⟨l,ρ',h,_⟩ | ⟨C,ρ',h,_⟩<;>exact ⟨_,h⟩
 obtain ⟨z,hz⟩:=this
 obtain ⟨y,h1,h2⟩:=bind_some hz
 obtain ⟨r,h3,h4⟩:=bind_some h2
 refine ⟨H0,Z0,ρ,pd,y.1,y.2,s,h1,fun vs H1 e1 s1 x dx hx hdx hne=>?_⟩
 have s2:SR X.K H0 Z0 σ (upd H1 dx (.own x)) y.2 (vs.zip y.1++pd):=s1.ext hdx
 have s3:SR X.K H0 Z0 σ (upd (upd H1 dx (.own x)) x (.ins c dx [])) y.2 ((.ref x,.own (.obj C [] []))::(vs.zip y.1++pd)):=s2.newO (by rw [aO hne.symm]; exact hx) fun Z _ _=>⟨c,dx,[],T.cn,bh,rfl,.nil⟩
 have s4:=s3.toCell
 have s5:SR X.K H0 Z0 σ (upd (upd H1 dx (.own x)) x (.ins c dx [])) ⟨y.2.vs,y.2.mu++[some (.obj C [] [])]⟩ ((.ref x,.sh (.ptr y.2.mu.length))::(.ref x,.sh (.ptr y.2.mu.length))::(vs.zip y.1++pd)):=s4.part fun Z _ r=>r
 have s6:SR X.K H0 Z0 σ (upd (upd H1 dx (.own x)) x (.ins c dx [])) ⟨y.2.vs,y.2.mu++[some (.obj C [] [])]⟩ ((V.ref x::vs).zip (Lc.sh (.ptr y.2.mu.length)::y.1)++(.ref x,.sh (.ptr y.2.mu.length))::pd):=s5.perm (by
  rw [List.zip_cons_cons,List.cons_append]
  exact List.perm_middle.cons _)
 have hq:iM C g a ρ=Uz y.2.mu.length y.2.vs r:=by unfold iM; rw [h1,Option.bind_some,h3,Option.bind_some]
 rw [hq] at q
 refine JM (n:=n') (E:=E) (vs:=V.ref x::vs) (y:=(Lc.sh (.ptr y.2.mu.length)::y.1,⟨y.2.vs,y.2.mu++[some (PV.obj C [] [])]⟩)) (hn _ _ _ h1) (by rw [List.length_cons,List.length_cons,e1]) s6 (x:=r) (by rw [List.map_cons]; exact h3) ?_
 cases r with
 | xc D ρ'=>
  rcases q with ⟨l,ρ2,h,k⟩ | ⟨C',ρ2,h,k⟩<;>cases h
  exact fun c' H' hc s'=>k c' H' hc s'.pop
 | ok r=>
  obtain ⟨l,mu'⟩:=r
  cases l with
  | own p=>rcases q with ⟨l,ρ2,h,k⟩ | ⟨C',ρ2,h,k⟩<;>cases h
  | sh p=>
   cases p with
   | non=>
    rcases q with ⟨l,ρ2,h,k⟩ | ⟨C',ρ2,h,k⟩<;>cases h
    intro v H' s'
    obtain ⟨_,r0⟩:=s'.repH
    exact ⟨ik r0,k _ _ s'.pop⟩
   | _=>rcases q with ⟨l,ρ2,h,k⟩ | ⟨C',ρ2,h,k⟩<;>cases h
theorem yX.imp {pins:List (Addr×Obj)} {e:Expr} {t t':TE} (h:yX X pins σ e t) (i:∀ H Q,t' σ H Q->t σ H Q):yX X pins σ e t':=fun s H Q I q=>h s H Q I (i H Q q)
theorem yZ.imp {pins:List (Addr×Obj)} {b:List Stmt} {t t':TS} (h:yZ X pins σ b t) (i:∀ D H,t' D σ H->t D σ H):yZ X pins σ b t':=fun s H D I q=>h s H D I (i D H q)
theorem Ei {pins:List (Addr×Obj)} {C:Str} {c:Addr} {k:Nat} {ps:List Str} {g:GX} {e:Expr} {es:List Expr} {a:AF} {p pos:Pos} (T:yj X.K X.mg C c) (M:NB X.prog X.w X.K X.mg X.base c k ps g) (hx:Aa X pins σ E) (hr:ie (k+1) X.A) (hg:Gl X C) (ha:PA X (e::es) (jC X.K a)) (hn:∀ ρ ls ρ1,a ρ=some (ls,ρ1)->ls.length+1=ps.length)
 (hdb:(C==("__debug__" : Str))=false:=by decide) (he:starEach (e::es) X.env=(false,eval e X.env)::starEach es X.env:=by rfl) (hpl:(backTo pos (starEach es X.env)).any (·.1)=false:=by rfl):yX X pins σ (.Call (.Name C p) (e::es) [] pos) (By X.K E (iM C g a)):=by
 obtain ⟨f,fd,F,hm,hb⟩:=M
 exact yX.imp (Ld (E:=E) hm F hr hg T.mgC hb hx ha hdb he hpl) fun H Q q=>JP T hn σ H Q q
theorem Ej {pins:List (Addr×Obj)} {e:Expr} {pos:Pos} {f:EX} (he:yX X pins σ e (By X.K E f)) (hs:swapsWith e none pos.line X.env=pure false:=by rfl):yZ X pins σ [.Expr e pos] (G3 X.K E (xB f qg)):=yZ.imp (Le he hs) fun D H q=>xb q fun _ _ _ _ _ _ _ _ h k s=>by cases h; exact k _ _ s.pop
noncomputable def Ek (X:Cx) (hs:List ExceptHandler) (h:Str->SF):Prop:=∃ th,PH X hs th/\∀ H0 Z0 pd D C c ρ' fl σ H',CN X.K C c->h C ρ'=some fl->SR X.K H0 Z0 σ H' ρ' pd->lW X.K H0 Z0 pd D fl->W.excIn X.K c eX eY=true/\th c D σ H'
noncomputable def BR:Str->SF:=fun _ _=>none
noncomputable def nQ (L1 L2:List Str) (f:SF) (r:Str->SF):Str->SF:=fun C ρ=>if C∈L1 then f ρ else if C∈L2 then r C ρ else none
theorem JQ {hs:List ExceptHandler}:Ek X hs BR:=⟨_,RB,fun _ _ _ _ _ _ _ _ _ _ _ z=>by cases z⟩
theorem El {x:Str} {d:Addr} {L1 L2:List Str} {b₀:Stmt} {suite:List Stmt} {pos np:Pos} {rest:List ExceptHandler} {f:SF} {r:Str->SF} (hg:Gl X x) (T:qz X.K X.mg x d) (h1:∀ C∈L1,∃ c,CN X.K C c/\W.excIn X.K c eX eY=true/\mroIn X.K c d=true) (h2:∀ C∈L2,∃ c,CN X.K C c/\W.excIn X.K c eX eY=true/\mroIn X.K c d=false)
 (hs:∀ e,dg (X.hand e) (b₀::suite) (dI X.K f)) (hr:Ek X rest r) (hdb:(x==("__debug__" : Str))=false:=by decide):Ek X (.ExceptHandler (some (.Name x np)) none (b₀::suite) pos::rest) (nQ L1 L2 f r):=by
 obtain ⟨th,hr1,hr2⟩:=hr
 refine ⟨_,O7 hg T.mgC T.ex hs hr1 hdb,fun H0 Z0 pd D C c ρ' fl σ H' hc h s k=>?_⟩
 unfold nQ at h
 unfold Gw
 split at h
 . rename_i hC
   obtain ⟨c',e1,e2,e3⟩:=h1 C hC
   have:=qe hc e1
   subst this
   rw [if_pos e3]
   exact ⟨e2,H0,Z0,ρ',pd,fl,s,h,k⟩
 . split at h
   . rename_i hC
     obtain ⟨c',e1,e2,e3⟩:=h2 C hC
     have:=qe hc e1
     subst this
     rw [if_neg (by rw [e3]; decide)]
     exact hr2 H0 Z0 pd D C c ρ' fl σ H' hc h s k
   . cases h
noncomputable def vU (b:SX) (h:Str->SF):SF:=fun ρ=>(b ρ).bind fun x=>match x with
 | .ok fl=>some fl
 | .xc C ρ'=>h C ρ'
theorem JR {body:List Stmt} {h₀:ExceptHandler} {hs:List ExceptHandler} {pos:Pos} {b:SX} {h:Str->SF} (hst:X.stack=X.env::X.outer) (hf:X.env.frame=some X.env.locals)
 (hb:∀ pins σ xe E,Aa (X.wish xe) pins σ E->yZ (X.wish xe) pins σ body (G3 X.K E b)) (hh:Ek X (h₀::hs) h):PS X (.Try body (h₀::hs) [] [] pos) (dI X.K (vU b h)):=by
 obtain ⟨th,hh1,hh2⟩:=hh
 refine PS.imp (RC hst hf hb hh1) fun D σ H q=>?_
 obtain ⟨H0,Z0,ρ,pd,fl,s,e,k⟩:=q
 obtain ⟨x,e1,e2⟩:=bind_some e
 cases x with
 | ok fl'=>
  cases e2
  exact ⟨fun _ _ _=>False,⟨H0,Z0,ρ,pd,s,.inl ⟨fl,e1,k⟩⟩,fun _ _ z=>z.elim⟩
 | xc C ρ'=>
  refine ⟨fun cv _ H'=>∃ c,cv=.ref c/\CN X.K C c/\SR X.K H0 Z0 σ H' ρ' pd,⟨H0,Z0,ρ,pd,s,.inr ⟨C,ρ',e1,fun c H' hc s'=>⟨c,rfl,hc,s'⟩⟩⟩,fun c H' ⟨c',z1,z2,z3⟩=>?_⟩
  cases z1
  exact hh2 H0 Z0 pd D C c ρ' fl σ H' z2 e2 z3 k
end
section
variable {X:Cx}
theorem mz {α:Type} [BEq α] [LawfulBEq α]:∀ {l r:List α},l.Nodup->(∀ x∈l,x∈r)->l.length<=r.length
 | [],_,_,_=>Nat.zero_le _
 | x::l,r,h,s=>by
  have hx:=s x List.mem_cons_self
  have h1:=List.nodup_cons.mp h
  have:=mz (r:=r.erase x) h1.2 fun y hy=>(List.mem_erase_of_ne (fun e:y=x=>h1.1 (by rw [← e]; exact hy))).mpr (s y (List.mem_cons_of_mem _ hy))
  have e:=List.length_erase_of_mem hx
  have:0<r.length:=List.length_pos_of_mem hx
  rw [List.length_cons]
  omega
end
section
variable {P:Program} {w:World} {K:FG} {mg:Str->Option Value} {base:Heap}
theorem aW.okX {x:Str} {st:Stmt} {N ps:List Str} {k:Nat} {g:GX} (F:aW K mg x st ps) (S:bw N ps (az st))
 (h:∀ (f:Addr) (cdv:Value) (A:Around) (outer:List PySem.Env) (s:Shared) (H:Hp) (E:XK),ie k (A.deeper (envOfC x (az st) s.heap.objs.size f cdv))->
   ∃ g':SX,(∀ a mu,g a mu=pJ N.length g' a mu)/\(Raises (j8 (gM P w) P w K mg base N x (az st) f cdv A outer s H E) E->oH (gM P w) (j8 (gM P w) P w K mg base N x (az st) f cdv A outer s H E) E->dg (j8 (gM P w) P w K mg base N x (az st) f cdv A outer s H E) (aU st) (jO K E g'))):DefX P w K mg base x (k+1) ps g:=by
 obtain ⟨f,fd,F,hm,hb⟩:=F
 exact ⟨f,fd,oJ.okX F S (h f),hm,F.kp,hb⟩
theorem Nz.okX {c:Addr} {m qual:Str} {st:Stmt} {N ps:List Str} {k:Nat} {g:GX} (F:Nz K c m qual st ps) (S:bw N ps (az st))
 (h:∀ (f:Addr) (cdv:Value) (A:Around) (outer:List PySem.Env) (s:Shared) (H:Hp) (E:XK),ie k (A.deeper (envOfC qual (az st) s.heap.objs.size f cdv))->
   ∃ g':SX,(∀ a mu,g a mu=pJ N.length g' a mu)/\(Raises (j8 (gM P w) P w K mg base N qual (az st) f cdv A outer s H E) E->oH (gM P w) (j8 (gM P w) P w K mg base N qual (az st) f cdv A outer s H E) E->dg (j8 (gM P w) P w K mg base N qual (az st) f cdv A outer s H E) (aU st) (jO K E g'))):MX P w K mg base c m (k+1) ps g:=by
 obtain ⟨f,fd,F,h1,h2,hb⟩:=F
 exact ⟨f,fd,oJ.okX F S (h f),⟨h1,h2,F.kp⟩,hb⟩
theorem Su {c:Addr} {k:Nat} {ps:List Str} {g:GX} (h:MX P w K mg base c "__init__" k ps g) (mk:W.makesIn K c=true) (kc:W.keepIn K (.ref c)=true):NB P w K mg base c k ps g:=by
 obtain ⟨f,fd,F,hm,hb⟩:=h
 exact ⟨f,fd,F,⟨mk,hm.at_,hm.fn,kc⟩,hb⟩
end
section
variable {X:Cx} {E:XK}
noncomputable def nR (b:BF) (body:SX):List PV->SX
 | [],ρ=>some (.ok (.nx ρ))
 | x::xs,ρ=>(b x ρ).bind fun ρ1=>(body ρ1).bind fun y=>match y with
  | .ok (.nx ρ2)=>nR b body xs ρ2
  | .ok (.ct ρ2)=>nR b body xs ρ2
  | .ok (.bk ρ2)=>some (.ok (.nx ρ2))
  | .ok (.rt r ρ2)=>some (.ok (.rt r ρ2))
  | .xc C ρ2=>some (.xc C ρ2)
noncomputable def vV (f:IF) (b:BF) (body:SX):SX:=fun ρ=>(f ρ).bind fun y=>nR b body y.1 y.2
noncomputable def JS (K:FG) (H0:Hp) (Z0:ZG) (pd:Pd) (E:XK) (D:Ends):XR Fl->Prop
 | .ok fl=>lW K H0 Z0 pd D fl
 | .xc C ρ'=>∀ c σ' H',CN K C c->SR K H0 Z0 σ' H' ρ' pd->E (.ref c) none H'
theorem Em {g:SX} {D:Ends} {H:Hp}:jO K E g D σ H ↔ ∃ H0 Z0 ρ pd r,SR K H0 Z0 σ H ρ pd/\g ρ=some r/\JS K H0 Z0 pd E D r:=by
 constructor
 . rintro ⟨H0,Z0,ρ,pd,s,⟨fl,h,k⟩ | ⟨C,ρ',h,k⟩⟩
   . exact ⟨H0,Z0,ρ,pd,.ok fl,s,h,k⟩
   . exact ⟨H0,Z0,ρ,pd,.xc C ρ',s,h,k⟩
 . rintro ⟨H0,Z0,ρ,pd,r,s,h,k⟩
   cases r with
   | ok fl=>exact ⟨H0,Z0,ρ,pd,s,.inl ⟨fl,h,k⟩⟩
   | xc C ρ'=>exact ⟨H0,Z0,ρ,pd,s,.inr ⟨C,ρ',h,k⟩⟩
noncomputable def UG (K:FG) (H0:Hp) (Z0:ZG) (pd:Pd) (b:BF) (fb:SX) (xs:List PV) (r:XR Fl) (i m:Nat) (σ:L2.St) (H:Hp):Prop:=m=xs.length-i/\i<=xs.length/\∃ ρ,SR K H0 Z0 σ H ρ pd/\nR b fb (xs.drop i) ρ=some r
theorem JT {g:TG} {b:BF} {fb:SX} (hb:GS K g b) {J:It} {xs:List PV} {r:XR Fl} {D:Ends} (it:kj K H0 Z0 pd J xs) (k:JS K H0 Z0 pd E D r) (s:SR K H0 Z0 σ H ρ pd) (h:nR b fb xs ρ=some r):
 ∃ W:Nat->Nat->L2.St->Hp->Prop,(∃ m,W 0 m σ H)/\∀ i m σ H,W i m σ H->
  (J.stop i H/\D.nx σ H)\/(J.go i H/\∃ N:L2.St->Hp->Prop,(∀ σ' H',N σ' H'->∃ m',m'<m/\W (i+1) m' σ' H')/\∀ x H',J.yld i H x H'->g x σ H' fun σ2 H2=>jO K E fb { D with nx:=N,ct:=N,bk:=D.nx } σ2 H2):=by
 refine ⟨UG K H0 Z0 pd b fb xs r,⟨_,rfl,Nat.zero_le _,ρ,s,h⟩,fun i m σ' H' w=>?_⟩
 refine qu fun G kG=>?_
 obtain ⟨rfl,hi,ρ',s',h'⟩:=w
 obtain ⟨i1,i2⟩:=it σ' H' ρ' i s'
 by_cases hlt:i<xs.length
 . obtain ⟨go,yl⟩:=i1 _ (List.getElem?_eq_getElem hlt)
   rw [List.drop_eq_getElem_cons hlt] at h'
   obtain ⟨ρ1,e1,e2⟩:=bind_some h'
   obtain ⟨r1,e3,e4⟩:=bind_some e2
   refine kG (.inr ⟨go,fun σ'' H''=>UG K H0 Z0 pd b fb xs r (i+1) (xs.length-(i+1)) σ'' H'',fun σ'' H'' w=>⟨_,by omega,w⟩,fun x H2 hy=>hb H0 Z0 σ' H2 ρ' pd x _ ρ1 _ (yl x H2 hy) e1 fun σ2 s2=>Em.mpr ⟨H0,Z0,ρ1,pd,r1,s2,e3,?_⟩⟩)
   cases r1 with
   | xc C ρ2=>cases e4; exact k
   | ok fl1=>
    cases fl1 with
    | nx ρ2=>exact fun σ3 H3 s3=>⟨rfl,hlt,ρ2,s3,e4⟩
    | ct ρ2=>exact fun σ3 H3 s3=>⟨rfl,hlt,ρ2,s3,e4⟩
    | bk ρ2=>cases e4; exact k
    | rt r ρ2=>cases e4; exact k
 . have e:i=xs.length:=Nat.le_antisymm hi (Nat.le_of_not_lt hlt)
   subst e
   rw [List.drop_length] at h'
   cases h'
   exact kG (.inl ⟨i2 rfl,k σ' H' s'⟩)
theorem JS.imp {H0:Hp} {Z0 Z₁:ZG} {pd pd':Pd} {D:Ends} {r:XR Fl} (k:JS K H0 Z0 pd E D r) (w:∀ {τ:L2.St} {J:Hp} {q:Ev},SR K H0 Z₁ τ J q pd'->SR K H0 Z0 τ J q pd) (w':∀ {τ:L2.St} {J:Hp} {q:Ev} {e:V×Lc},SR K H0 Z₁ τ J q (e::pd')->SR K H0 Z0 τ J q (e::pd)):JS K H0 Z₁ pd' E D r:=by
 cases r with
 | ok fl=>exact lW.imp (D:=D) k w w'
 | xc C ρ'=>exact fun c σ' H' hc s=>k c σ' H' hc (w s)
theorem JV {tg iter:Expr} {body:List Stmt} {f:IF} {g:TG} {b:BF} {fb:SX} {pos:Pos} (hp:PassesOwn (model X.prog X.w) X.A X.env X.xe) (hc:X.calm=true) (hi:PI X tg iter (wK X.K f)) (hg:PG X tg g) (hb':GS X.K g b) (hb:dg X body (jO X.K E fb))
 (hs:∀ x,foldedSetIterable iter X.env x=pure x:=by intro _; rfl):PS X (.For tg iter body [] pos) (jO X.K E (vV f b fb)):=PS.imp (wj hp hc hi hg hb hs) fun D σ H q=>by
 refine qu fun G kG=>?_
 obtain ⟨H0,Z0,ρ,pd,r,s,h,k⟩:=Em.mp q
 obtain ⟨y,h1,h2⟩:=bind_some h
 exact kG ⟨H0,Z0,ρ,pd,y.1,y.2,s,h1,fun J H1 pd' s1 it sub=>JT hb' it (k.imp (fun s=>s.sub sub) fun s=>s.sub (sub.cons_cons _)) s1 h2⟩
end
section
variable {K:FG} {H0 H:Hp} {Z0:ZG} {σ:L2.St} {ρ:Ev} {pd:Pd}
theorem SR.drop {i:Nat} (h:SR K H0 Z0 σ H ρ pd) (hi:i<ρ.vs.length):SR K H0 Z0 (σ.set i none) H (ρ.set i none) pd:=by
 obtain ⟨el,Z,hg,z,s⟩:=h
 have hρ:ρ.vs[i]?=some ρ.vs[i]:=List.getElem?_eq_getElem hi
 obtain ⟨R,x,hσ,h1,h2⟩:=wI el hρ
 refine ⟨by rw [List.length_set,Ev.set_len]; exact el,Z,hg,z,?_⟩
 have s1:=(s.perm (h1 Z.g pd).symm).sub (List.sublist_cons_self _ _)
 refine Slots.perm (L:=(none,none)::(cel Z.g ρ.mu++(R++pd.map fun e=>(some e.1,some e.2)))) ⟨fun e he=>?_,?_⟩ (h2 Z.g pd none none)
 . rcases List.mem_cons.mp he with rfl | he
   . trivial
   . exact s1.1 e he
 . rw [List.filterMap_cons_none rfl]; exact s1.2
end
noncomputable def Sv (i:Nat):Fl->Option Fl
 | .nx ρ=>if i<ρ.vs.length then some (.nx (ρ.set i none)) else none
 | .bk ρ=>if i<ρ.vs.length then some (.bk (ρ.set i none)) else none
 | .ct ρ=>if i<ρ.vs.length then some (.ct (ρ.set i none)) else none
 | .rt r ρ=>some (.rt r ρ)
theorem PK {H0:Hp} {D:Ends} {i:Nat} {f fl:Fl} (h:Sv i f=some fl) (k:lW K H0 Z0 pd D fl):lW K H0 Z0 pd (D.un i) f:=by
 cases f with
 | rt r ρ=>cases h; exact k
 | nx ρ=>
  have h':(if i<ρ.vs.length then some (Fl.nx (ρ.set i none)) else none)=some fl:=h
  split at h'
  . rename_i hl; cases h'; exact fun σ' H' s=>k _ _ (s.drop hl)
  . cases h'
 | bk ρ=>
  have h':(if i<ρ.vs.length then some (Fl.bk (ρ.set i none)) else none)=some fl:=h
  split at h'
  . rename_i hl; cases h'; exact fun σ' H' s=>k _ _ (s.drop hl)
  . cases h'
 | ct ρ=>
  have h':(if i<ρ.vs.length then some (Fl.ct (ρ.set i none)) else none)=some fl:=h
  split at h'
  . rename_i hl; cases h'; exact fun σ' H' s=>k _ _ (s.drop hl)
  . cases h'
noncomputable def uz (i:Nat) (L1 L2:List Str) (f:SF) (r:Str->SF):Str->SF:=fun C ρ=>if C∈L1 then (if i<ρ.vs.length then (f (ρ.set i (some (.sh (.exc C))))).bind (Sv i) else none) else if C∈L2 then r C ρ else none
section
variable {X:Cx} {E:XK}
theorem Ui {x n:Str} {i:Nat} {d:Addr} {L1 L2:List Str} {b₀:Stmt} {suite:List Stmt} {pos np:Pos} {rest:List ExceptHandler} {f:SF} {r:Str->SF} (hN:X.N.Nodup) (hi:X.N[i]?=some n) (hk:X.env.scope.names.lookup n=some .local) (hg:Gl X x) (T:qz X.K X.mg x d) (h1:∀ C∈L1,∃ c,CN X.K C c/\W.excIn X.K c eX eY=true/\mroIn X.K c d=true) (h2:∀ C∈L2,∃ c,CN X.K C c/\W.excIn X.K c eX eY=true/\mroIn X.K c d=false)
 (hs:∀ e,dg (X.hand e) (b₀::suite) (dI X.K f)) (hr:Ek X rest r) (hdb:(x==("__debug__" : Str))=false:=by decide):Ek X (.ExceptHandler (some (.Name x np)) (some n) (b₀::suite) pos::rest) (uz i L1 L2 f r):=by
 obtain ⟨th,hr1,hr2⟩:=hr
 refine ⟨_,Uc hg T.mgC T.ex hN hi hk hs hr1 hdb,fun H0 Z0 pd D C c ρ' fl σ H' hc h s k=>?_⟩
 unfold uz at h
 unfold Bd
 split at h
 . rename_i hC
   obtain ⟨c',e1,e2,e3⟩:=h1 C hC
   have:=qe hc e1
   subst this
   rw [if_pos e3]
   refine ⟨e2,fun e he=>?_⟩
   split at h
   . rename_i hl
     obtain ⟨fl',h3,h4⟩:=bind_some h
     have s1:SR X.K H0 Z0 σ (upd H' e (.ext (rN e c))) ρ' ((.ref e,.own (.exc C))::pd):=s.newO he fun Z _ _=>⟨c,hc,bh⟩
     have s2:SR X.K H0 Z0 σ (upd H' e (.ext (rN e c))) ρ' ((.ref e,.sh (.exc C))::pd):=s1.freeze
     exact ⟨H0,Z0,_,pd,fl',s2.store hl,h3,PK h4 k⟩
   . cases h
 . split at h
   . rename_i hC
     obtain ⟨c',e1,e2,e3⟩:=h2 C hC
     have:=qe hc e1
     subst this
     rw [if_neg (by rw [e3]; decide)]
     exact hr2 H0 Z0 pd D C c ρ' fl σ H' hc h s k
   . cases h
noncomputable def jk (L1 L2:List Str) (f:EF):EF:=fun ρ=>(f ρ).bind fun x=>match x.1.pv with
 | .exc C=>if C∈L1 then some (.sh (.bl true),x.2) else if C∈L2 then some (.sh (.bl false),x.2) else none
 | _=>none
noncomputable def fJ (K:FG) (cv:V) (b:Bool) (C:Str):Prop:=∃ c u,CN K C c/\RelV cv u/\mQ K c/\W.kitOne K (.ref c) u=some b
theorem sO {cv:V} {L1 L2:List Str} {f:EF} {e ce:Expr} {pp pos:Pos} (h1:∀ C∈L1,fJ X.K cv true C) (h2:∀ C∈L2,fJ X.K cv false C) (h:PE X (.Call (.Name "isinstance" pp) [e,ce] [] pos) (Ax (RD X.K cv) (z9 (tP X.K f) (z9 (tC cv) KD)))):
 PE X (.Call (.Name "isinstance" pp) [e,ce] [] pos) (tP X.K (jk L1 L2 f)):=PE.imp h fun σ H Q q=>by
 obtain ⟨H0,Z0,ρ,pd,r,ρ',s,h,k⟩:=q
 obtain ⟨x,h3,h4⟩:=bind_some h
 refine ⟨H0,Z0,ρ,pd,x.1,x.2,s,h3,fun v H1 s1=>?_⟩
 obtain ⟨g,r1⟩:=s1.freeze.repH
 cases e:x.1.pv with
 | exc C=>
  rw [e] at h4 r1
  unfold Rep at r1
  obtain ⟨a,c,rfl,cn,hz⟩:=r1
  dsimp only at h4
  split at h4
  . rename_i hC
    cases h4
    obtain ⟨c',u,e1,e2,e3,e4⟩:=h1 C hC
    have:=qe cn e1
    subst this
    exact ⟨a,c,u,true,rfl,e2,hz,e3,e4,k _ H1 (s1.pop.scal dG)⟩
  . split at h4
    . rename_i hC
      cases h4
      obtain ⟨c',u,e1,e2,e3,e4⟩:=h2 C hC
      have:=qe cn e1
      subst this
      exact ⟨a,c,u,false,rfl,e2,hz,e3,e4,k _ H1 (s1.pop.scal dG)⟩
    . cases h4
 | _=>rw [e] at h4; cases h4
theorem Ah {c d:Addr} (ty:W.typeIn K (.ref d)=some (.type "type")) (cl:(W.clsIn K d).isSome=true) (m:W.mroIn K c (.ref d)=some true):W.kitOne K (.ref c) (.ref d)=some true:=by
 unfold W.kitOne W.kitCls
 split
 . rfl
 . dsimp only; rw [if_pos (by rw [cl,ty]; rfl)]; exact m
theorem mL {c d:Addr} (ty:W.typeIn K (.ref d)=some (.type "type")) (cl:(W.clsIn K d).isSome=true) (m:W.mroIn K c (.ref d)=some false) (nq:(Value.ref c==Value.ref d)=false):W.kitOne K (.ref c) (.ref d)=some false:=by
 unfold W.kitOne W.kitCls
 rw [nq,if_neg (by decide)]
 dsimp only
 rw [if_pos (by rw [cl,ty]; rfl)]; exact m
theorem NK {c:Addr} {T:String} {b:Bool} (hk:W.kitMeta T=true) (m:W.mroIn K c (.type T)=some b):W.kitOne K (.ref c) (.type T)=some b:=by
 unfold W.kitOne W.kitCls
 rw [show (Value.ref c==Value.type T)=false from rfl,if_neg (by decide)]
 dsimp only
 rw [if_pos hk]; exact m
theorem lq {d:Addr}:∀ u u',RelV (.ref d) u->RelV (.ref d) u'->u=u':=fun u u' h h'=>by cases h; cases h'; rfl
theorem Sw {T:String}:∀ u u',RelV (.ty T) u->RelV (.ty T) u'->u=u':=fun u u' h h'=>by cases h; cases h'; rfl
end
section
variable {X:Cx}
noncomputable def sS (f:EF):EF:=fun ρ=>(f ρ).bind fun x=>match x.1.pv with
 | .lst ps=>some (.sh (.tup ps),x.2)
 | _=>none
theorem Sx {e:Expr} {f:EF} {p pos:Pos} (h:PE X (.Call (.Name "tuple" p) [e] [] pos) (Ax (fun xs H Q=>∃ p ys,xs=[.ref p]/\((bQ X.K H p ys/\∀ l,H l=none->Q (.ref l) (upd H l (.tup ys)))\/(cG X.K H p ys/\Q (.ref p) H))) (jC X.K (aj f ao)))):PE X (.Call (.Name "tuple" p) [e] [] pos) (tP X.K (sS f)):=PE.imp h fun σ H Q q=>by
 obtain ⟨H0,Z0,ρ,pd,l,ρ',s,h,k⟩:=q
 obtain ⟨x,h1,h2⟩:=bind_some h
 refine ⟨H0,Z0,ρ,pd,[x.1],x.2,s,?_,fun vs H1 e1 s1=>?_⟩
 . unfold aj ao
   rw [h1]
   rfl
 . obtain ⟨v,rfl⟩:=qP e1
   have s2:SR X.K H0 Z0 σ H1 x.2 ((v,.sh x.1.pv)::pd):=SR.freeze s1
   split at h2
   . rename_i ps e
     cases h2
     rw [e] at s2
     obtain ⟨el,Z,hg,z,r,so⟩:=s2.sh
     unfold Rep at r
     obtain ⟨a,ws,rfl,r1,r2⟩:=r
     refine ⟨a,ws,rfl,.inl ⟨bQ.same z.zh r1,fun b hb=>k _ _ ?_⟩⟩
     obtain ⟨z',sz,s'⟩:=so.newF (o:=.tup ws) z hb
     refine .mk (Z:=Z.put b (.tup ws)) el hg z' (s'.consS ?_)
     unfold Rep
     exact ⟨b,ws,rfl,cG.of bh,r2.mono sz⟩
   . cases h2
end
end PL
namespace Law
open PySem PySem.Spec PyProof.Rows L2 PL
local macro_rules | `(tactic| walk_at "sc")=>`(tactic| exact ⟨rfl,rfl,rfl,by decide +kernel,rfl,by decide +kernel,by decide +kernel⟩)
noncomputable def top (i:Nat):Stmt:=PySem.Challenge.pw_hushwise_k07_no_order.main.body.getD i (.Pass ⟨0,0,0,0⟩)
noncomputable abbrev jQ:Stmt:=top 11
noncomputable abbrev dJ:Stmt:=top 12
noncomputable abbrev jb:Stmt:=top 13
noncomputable abbrev gK:Stmt:=top 14
noncomputable abbrev lr:Stmt:=top 15
noncomputable abbrev jw:Stmt:=top 16
noncomputable abbrev fP:Stmt:=top 17
noncomputable abbrev lu:Stmt:=top 18
noncomputable abbrev mC:Stmt:=top 19
noncomputable abbrev lw:Stmt:=top 20
noncomputable abbrev lA:Stmt:=top 21
noncomputable abbrev fX:Stmt:=top 22
noncomputable abbrev fY:Stmt:=top 23
noncomputable abbrev fZ:Stmt:=top 26
noncomputable abbrev fC:Stmt:=top 27
noncomputable abbrev iQ:Stmt:=top 28
noncomputable abbrev fK:Stmt:=top 29
noncomputable abbrev iR:Stmt:=top 30
noncomputable abbrev cW:Stmt:=top 31
noncomputable abbrev cX:Stmt:=top 32
noncomputable abbrev fL:Stmt:=top 33
noncomputable abbrev gb:Stmt:=top 34
noncomputable abbrev iT:Stmt:=top 35
noncomputable abbrev mO:Stmt:=top 36
noncomputable abbrev bT:Stmt:=inClass (top 24) 0
theorem G4:bw ["text"] ["text"] (az jQ):=by walk_at "sc"
theorem vf:bw ["some", "pairs", "name"] ["some", "pairs", "name"] (az dJ):=by walk_at "sc"
theorem lM:bw ["names", "pairs", "rest", "climbing"] ["names", "pairs"] (az jb):=by walk_at "sc"
theorem jW:bw ["some", "pairs", "walk", "above"] ["some", "pairs"] (az gK):=by walk_at "sc"
theorem jl:bw ["name", "pairs", "met", "grown", "low", "high"] ["name", "pairs"] (az lr):=by walk_at "sc"
theorem pK:bw ["names", "pairs", "above", "name"] ["names", "pairs"] (az jw):=by walk_at "sc"
theorem yo:bw ["names", "pairs"] ["names", "pairs"] (az fP):=by walk_at "sc"
theorem vW:bw ["reach", "one", "other", "shared", "rank"] ["reach", "one", "other"] (az lu):=by walk_at "sc"
theorem qi:bw ["reach", "told", "one", "other"] ["reach"] (az mC):=by walk_at "sc"
theorem sU:bw ["reach", "both", "rank"] ["reach"] (az lw):=by walk_at "sc"
theorem sV:bw ["names", "pairs", "apart"] ["names", "pairs"] (az lA):=by walk_at "sc"
theorem jE:bw ["names", "pairs", "name", "low", "high"] ["names", "pairs"] (az fX):=by walk_at "sc"
theorem lN:bw ["names", "pairs", "ring", "lack"] ["names", "pairs"] (az fY):=by walk_at "sc"
theorem xm:bw ["_law_script", "_law_k"] ["_law_script", "_law_k"] (az fZ):=by walk_at "sc"
theorem dH:bw ["_law_cell", "_law_count", "_law_letters", "_law_names_here", "_law_text", "_law_k", "_law_size", "_law_at", "_law_signs"] ["_law_cell", "_law_count"] (az fC):=by walk_at "sc"
theorem j4:bw ["_law_names_here", "_law_wide", "_law_pairs_here", "_law_last", "_law_k"] ["_law_names_here", "_law_wide"] (az iQ):=by walk_at "sc"
theorem vX:bw ["_law_cell"] ["_law_cell"] (az fK):=by walk_at "sc"
theorem tE:bw ["_law_names_here", "_law_name"] ["_law_names_here"] (az iR):=by walk_at "sc"
theorem dF:bw ["_law_names_here", "_law_pairs_here", "_law_way", "_law_cell", "_law_at", "_law_bad"] ["_law_names_here", "_law_pairs_here", "_law_way", "_law_cell"] (az cW):=by walk_at "sc"
theorem lQ:bw ["_law_names_here", "_law_pairs_here", "_law_way", "_law_last"] ["_law_names_here", "_law_pairs_here", "_law_way"] (az cX):=by walk_at "sc"
theorem jm:bw ["_law_names_here", "_law_pairs_here", "_law_told"] ["_law_names_here", "_law_pairs_here"] (az fL):=by walk_at "sc"
theorem jF:bw ["_law_names_here", "_law_pairs_here", "_law_told", "_law_e"] ["_law_names_here", "_law_pairs_here"] (az gb):=by walk_at "sc"
theorem zN:bw ["_law_e"] ["_law_e"] (az iT):=by walk_at "sc"
theorem d7:bw ["_law_script", "_law_k", "_law_count", "_law_names_here", "_law_pairs_here", "_law_order_way", "_law_name_way", "_law_some", "_law_given", "_law_due", "_law_turn", "_law_handed", "_law_told"] ["_law_script"] (az mO):=by walk_at "sc"
theorem uA:bw ["self", "names", "pairs"] ["self", "names", "pairs"] (az bT):=by walk_at "sc"
noncomputable def jc:PV:=(.str "abcdefghijklmnopqrstuvwxyz")
noncomputable def jT:GF:=fj 1 (dq (Bg (dZ zc zc (eC (.int 1)) (eB cH (aj (aa 0) ao)) (eC (.int 8))) (eB all1 (aj (bO (dB (aa 0) bG) 1 [] (aA 0) cV (aq gn (aa 0) (eC jc))) ao))))
noncomputable def bC:GF:=fj 3 (dq (bO (dB (aa 1) bG) 2 [2,0] (eN 2 (aZ (aA 0) (aZ (aA 1) fu))) (dO (tT (aq eqP (aa 0) (aa 2)) aN) (dO (tT (aq jM (aa 1) (aa 2)) aN) (tT (aq gn (aa 1) (aa 3)) aN))) (aa 1)))
noncomputable def j6:GF:=fj 4 (aL (aK 2 (gk (aj (aX (aa 0) (eC (.int 0))) ao)))
 (aL (aK 3 (aX (aG bC (aj (aa 0) (aj (aa 1) (aj (aX (aa 0) (eC (.int 0))) ao)))) (eC (.int 0))))
 (aL (wM 20 (nJ (tT (aq ji (aa 3) (aa 2)) aN))
 (aL (gG 2 (aa 3))
 (aK 3 (aX (aG bC (aj (aa 0) (aj (aa 1) (aj (aa 3) ao)))) (eC (.int 0))))))
 (dq (dR (my (aa 2) (fV (uw (aa 2) (aa 3))) mH))))))
noncomputable def dC:GF:=fj 4 (aL (aK 2 (eB list1 (aj (aa 0) ao)))
 (aL (aK 3 (bO (dB (aa 2) bG) 1 [2,1] (aA 0) (tT (aG bC (aj (aa 1) (aj (aa 2) (aj (aa 0) ao)))) bY) (aa 0)))
 (aL (wM 20 (tT (aq iu (eB cH (aj (aa 3) ao)) (eB cH (aj (aa 2) ao))) aN)
 (aL (aK 2 (aa 3))
 (aK 3 (bO (dB (aa 2) bG) 1 [2,1] (aA 0) (tT (aG bC (aj (aa 1) (aj (aa 2) (aj (aa 0) ao)))) bY) (aa 0)))))
 (aL (dw (jf (tT (aa 2) bY))
 (dq (eC .non))
 bR)
 (dq (aG j6 (aj (aa 2) (aj (aa 1) ao))))))))
noncomputable def m5:GF:=fj 6 (aL (aK 2 (gk (aj (aa 0) ao)))
 (aL (aK 3 (eC (.bl true)))
 (aL (wM 70 (tT (aa 3) bY)
 (aL (aK 3 (eC (.bl false)))
 (jh (dB (aa 1) bG) (eN 2 (aZ (aA 4) (aZ (aA 5) fu)))
 (dw (nJ (dO (tT (aq gn (aa 4) (aa 2)) aN) (tT (aq ji (aa 5) (aa 2)) aN)))
 (aL (gG 2 (aa 5))
 (aK 3 (eC (.bl true))))
 bR))))
 (gB 2))))
noncomputable def cZ:GF:=fj 4 (aL (aK 2 Jy)
 (aL (jh (dB (aa 0) bG) (aA 3)
 (wX 2 (aa 3) (aG m5 (aj (aa 3) (aj (aa 1) ao)))))
 (gB 2)))
noncomputable def cD:GF:=fj 2 (dq (aG cZ (aj (aa 0) (aj (bO (dB (aa 1) bG) 2 [] (eN 2 (aZ (aA 0) (aZ (aA 1) fu))) cV (cz (aj (aa 1) (aj (aa 0) ao)))) ao))))
noncomputable def oA:GF:=fj 5 (aL (aK 3 (bO (dB (jt (aa 0) (aa 1)) bG) 1 [0,2] (aA 0) (tT (aq gn (aa 0) (jt (aa 1) (aa 2))) aN) (aa 0)))
 (aL (jh (dB (aa 3) bG) (aA 4)
 (dw (tT (eB all1 (aj (bO (dB (aa 3) bG) 1 [0,4] (aA 0) cV (aq gn (aa 0) (jt (aa 1) (aa 2)))) ao)) bY)
 (gB 4)
 bR))
 (dq (eC .non))))
noncomputable def ir:GF:=fj 4 (aL (aK 1 JG)
 (aL (jh (Jz (aa 0)) (aA 2)
 (jh (Jz (aa 0)) (aA 3)
 (w5 1 (aj (aa 2) (aj (aa 3) ao)) (aG oA (aj (aa 0) (aj (aa 2) (aj (aa 3) ao)))))))
 (gB 1)))
noncomputable def fD:GF:=fj 3 (aL (jh (GR (GK (aG ir (aj (aa 0) ao)))) (eN 2 (aZ (aA 1) (aZ (aA 2) fu)))
 (dw (tT (aq Gy (aa 2) (eC .non)) aN)
 (gB 1)
 bR))
 (dq (eC .non)))
noncomputable def gY:GF:=fj 3 (aL (aK 2 (aG fD (aj (mW (aG cZ (aj (aa 0) (aj (aa 1) ao)))) ao)))
 (aL (dw (tT (aq uT (aa 2) (eC .non)) aN)
 (dq (cz (aj (eC (.str "join")) (aj (aX (aa 2) (eC (.int 0))) (aj (aX (aa 2) (eC (.int 1))) ao)))))
 bR)
 (aL (aK 2 (aG fD (aj (mW (aG cD (aj (aa 0) (aj (aa 1) ao)))) ao)))
 (aL (dw (tT (aq uT (aa 2) (eC .non)) aN)
 (dq (cz (aj (eC (.str "meet")) (aj (aX (aa 2) (eC (.int 0))) (aj (aX (aa 2) (eC (.int 1))) ao)))))
 bR)
 (dq (eC .non))))))
noncomputable def eU:GX:=pJ 5 (iJ (vV (dB (aa 0) bG) (aA 2)
 (iJ (mY (jf (tT (aG jT (aj (aa 2) ao)) bY))
 (gr "NoName" (jR (aa 2) jz))
 (eE bR))
 (mY (tT (aq Bt (ux (aa 0) (aa 2)) (eC (.int 1))) aN)
 (gr "NoName" (jR (aa 2) jz))
 (eE bR))))
 (vV (dB (aa 1) bG) (eN 2 (aZ (aA 3) (aZ (aA 4) fu)))
 (mY (je (tT (aq ji (aa 3) (aa 0)) aN) (tT (aq ji (aa 4) (aa 0)) aN))
 (gr "NoName" (jR (aa 3) (jR (aa 4) jz)))
 (eE bR))))
noncomputable def dj:GX:=pJ 4 (iJ (mY (jf (tT (aa 0) bY))
 (gr "NoOrder" jz)
 (eE bR))
 (iJ (eE (aK 2 (aG dC (aj (aa 0) (aj (aa 1) ao)))))
 (iJ (mY (tT (aq uT (aa 2) (eC .non)) aN)
 (gr "NoOrder" (jR (aa 2) jz))
 (eE bR))
 (iJ (eE (aK 3 (aG gY (aj (aa 0) (aj (aa 1) ao)))))
 (mY (tT (aq uT (aa 3) (eC .non)) aN)
 (gr "NoOrder" (jR (aa 3) jz))
 (eE bR))))))
noncomputable def aM:GF:=fj 2 (aL (dw (tT (aq iu (aa 1) (eB cH (aj (aa 0) ao))) aN)
 (dq (aq bF (aX (aa 0) (aa 1)) (eC (.int 1000000007))))
 bR)
 (dq (eC (.int 0))))
noncomputable def iU:GF:=fj 9 (aL (aK 2 (eC (.str "abcdefghijklmnopqrstuvwxyz")))
 (aL (aK 3 (gk ao))
 (aL (dw (tT (aq eqP (aq bF (aa 0) (eC (.int 2))) (eC (.int 1))) aN)
 (aL (aK 4 (mJ (eC (.str "")) (aj (bO (iG (aj (eC (.int 10)) ao)) 1 [2,0] (aA 0) cV (aX (aa 1) (aq bF (aq bj (aq cA (aa 2) (eC (.int 2))) (aq sy (eC (.int 3)) (aa 0))) (eC (.int 26))))) ao)))
 (aL (jh (iG (aj (aa 1) ao)) (aA 5)
 (gG 3 (my (aa 4) (fV (aq bF (aa 5) (eC (.int 5)))) (fV (aq bj (aq bj (aq bF (aa 5) (eC (.int 5))) (eC (.int 1))) (aq cA (aa 5) (eC (.int 5))))))))
 (gB 3)))
 bR)
 (aL (aK 6 (aX (gk (aj (eC (.int 1)) (aj (eC (.int 2)) (aj (eC (.int 3)) (aj (eC (.int 5)) (aj (eC (.int 6)) (aj (eC (.int 7)) (aj (eC (.int 8)) ao)))))))) (aq bF (aq cA (aa 0) (eC (.int 2))) (eC (.int 7)))))
 (aL (aK 7 (aq bF (aq cA (aa 0) (eC (.int 14))) (aa 6)))
 (aL (jh (iG (aj (aa 1) ao)) (aA 5)
 (aL (aK 8 (bO (iG (aj (aa 6) ao)) 1 [2,0] (aA 0) cV (aX (aa 1) (aq bF (aq bj (aq cA (aa 2) (aq bj (aa 0) (eC (.int 1)))) (aq sy (aa 0) (aa 0))) (eC (.int 26))))))
 (aL (pZ 8 (aa 7) (aX (aa 2) (aq bF (aq bj (aq cA (aa 0) (eC (.int 112))) (aa 5)) (eC (.int 26)))))
 (gG 3 (mJ (eC (.str "")) (aj (aa 8) ao))))))
 (gB 3)))))))
noncomputable def iV:GF:=fj 5 (aL (aK 2 (gk ao))
 (aL (aK 3 (aq lZ (eB cH (aj (aa 0) ao)) (eC (.int 1))))
 (aL (jh (uQ (aj (eC (.int 1)) (aj (eB cH (aj (aa 0) ao)) ao))) (aA 4)
 (aL (dw (dO (tT (aa 1) bY) (tT (dZ iu iu (eC (.int 1)) (aa 4) (aa 3)) aN))
 (gG 2 (cz (aj (aX (aa 0) (eC (.int 0))) (aj (aX (aa 0) (aa 4)) ao))))
 (gG 2 (cz (aj (aX (aa 0) (aq lZ (aa 4) (eC (.int 1)))) (aj (aX (aa 0) (aa 4)) ao)))))
 (dw (dO (tT (aa 1) bY) (tT (dZ iu iu (eC (.int 0)) (aa 4) (aq lZ (aa 3) (eC (.int 1)))) aN))
 (gG 2 (cz (aj (aX (aa 0) (aa 4)) (aj (aX (aa 0) (aa 3)) ao))))
 bR)))
 (gB 2))))
noncomputable def gZ:GF:=fj 1 (dq (aX (gk (aj (eC (.str "abcdefghi")) (aj (eC (.str "")) (aj (eC (.str "Abc")) (aj (eC (.str "ab3")) (aj (eC (.str "a b")) (aj (eC (.str "a_b")) (aj (eC (.str "?")) (aj (eC (.str "main-")) ao))))))))) (aq bF (aa 0) (eC (.int 8)))))
noncomputable def fG:GF:=fj 2 (aL (jh (dB (gk (aj (eC (.str "a")) (aj (eC (.str "b")) (aj (eC (.str "c")) (aj (eC (.str "d")) (aj (eC (.str "e")) (aj (eC (.str "f")) (aj (eC (.str "g")) (aj (eC (.str "zz")) ao))))))))) bG) (aA 1)
 (dw (tT (aq ji (aa 1) (aa 0)) aN)
 (gB 1)
 bR))
 (dq (eC (.str "other"))))
noncomputable def cj:GF:=fj 6 (aL (aK 0 (eB list1 (aj (aa 0) ao)))
 (aL (aK 1 (eB list1 (aj (aa 1) ao)))
 (aL (aK 4 (dR (aq bF (aa 3) (eB cH (aj (aa 0) ao)))))
 (aL (dw (tT (aq eqP (aa 2) (eC (.int 1))) aN)
 (aL (aK 5 (aG gZ (aj (aq cA (aa 3) (eC (.int 8))) ao)))
 (aL (Af 0 (xg 0 (aK 1 (bO (dB (aa 1) bG) 1 [0,4,5] (aA 0) cV (sS (bO (dB (aa 0) bG) 1 [1,2,3] (aA 0) cV (oV (tT (aq eqP (aa 0) (aX (aa 1) (aa 2))) aN) (aa 3) (aa 0))))))))
 (pZ 0 (aa 4) (aa 5))))
 bR)
 (aL (dw (tT (aq eqP (aa 2) (eC (.int 2))) aN)
 (qy 0 (aj (dR (aq bF (aq cA (aa 3) (eC (.int 8))) (aq bj (eB cH (aj (aa 0) ao)) (eC (.int 1))))) (aj (dR (aX (aa 0) (aa 4))) ao)))
 bR)
 (aL (dw (tT (aq eqP (aa 2) (eC (.int 3))) aN)
 (qy 1 (aj (dR (aq bF (aq cA (aa 3) (eC (.int 8))) (aq bj (eB cH (aj (aa 1) ao)) (eC (.int 1))))) (aj (cz (aj (dR (aX (aa 0) (aa 4))) (aj (aG fG (aj (aa 0) ao)) ao))) ao)))
 bR)
 (aL (dw (tT (aq eqP (aa 2) (eC (.int 4))) aN)
 (qy 1 (aj (dR (aq bF (aq cA (aa 3) (eC (.int 8))) (aq bj (eB cH (aj (aa 1) ao)) (eC (.int 1))))) (aj (cz (aj (aG fG (aj (aa 0) ao)) (aj (dR (aX (aa 0) (aa 4))) ao))) ao)))
 bR)
 (aL (dw (tT (aq eqP (aa 2) (eC (.int 5))) aN)
 (qy 1 (aj (dR (aq bF (aq cA (aa 3) (eC (.int 8))) (aq bj (eB cH (aj (aa 1) ao)) (eC (.int 1))))) (aj (cz (aj (aG fG (aj (aa 0) ao)) (aj (aG fG (aj (aa 0) ao)) ao))) ao)))
 bR)
 (dq (cz (aj (aa 0) (aj (aa 1) ao))))))))))))
noncomputable def bN:GF:=fj 4 (aL (dw (tT (aq eqP (aa 2) (eC (.int 1))) aN)
 (dq (cz (aj (aa 0) (aj (aq bj (aa 1) (gk (aj (cz (aj (aX (aa 0) (uo (eC (.int 1)))) (aj (aX (aa 0) (eC (.int 0))) ao))) ao))) ao))))
 bR)
 (aL (dw (tT (aq eqP (aa 2) (eC (.int 2))) aN)
 (aL (aK 3 (aX (aa 0) (uo (eC (.int 1)))))
 (dq (cz (aj (aa 0) (aj (bO (dB (aa 1) bG) 1 [3] (aA 0) (tT (aq ji (aa 1) (aa 0)) aN) (aa 0)) ao)))))
 bR)
 (aL (dw (tT (aq eqP (aa 2) (eC (.int 3))) aN)
 (dq (cz (aj (gk ao) (aj (gk ao) ao))))
 bR)
 (dq (cz (aj (aa 0) (aj (aa 1) ao)))))))
noncomputable def bL:GX:=pJ 3 (iJ (xB (jP eU (aj (aa 1) (aj (aa 2) ao))) qg)
 (iJ (xB (jP dj (aj (aa 1) (aj (aa 2) ao))) qg)
 (iJ (eE (iB "Order" "names" (aa 0) (eB list1 (aj (aa 1) ao))))
 (iJ (eE (iB "Order" "above" (aa 0) (mW (aG cZ (aj (aa 1) (aj (aa 2) ao))))))
 (iJ (eE (iB "Order" "joins" (aa 0) (aG ir (aj (pI "Order" "above" (aa 0)) ao))))
 (iJ (eE (iB "Order" "meets" (aa 0) (aG ir (aj (mW (aG cD (aj (aa 1) (aj (aa 2) ao)))) ao))))
 (iJ (eE (iB "Order" "lowest" (aa 0) (jt (bO (dB (aa 1) bG) 1 [0,1] (aA 0) (tT (aq Bx (qx (jt (pI "Order" "above" (aa 1)) (aa 0))) (qx (aa 2))) aN) (aa 0)) (eC (.int 0)))))
 (eE (iB "Order" "highest" (aa 0) (jt (bO (dB (aa 1) bG) 1 [0] (aA 0) (tT (aq Bx (qx (jt (pI "Order" "above" (aa 1)) (aa 0))) (eC (.int 1))) aN) (aa 0)) (eC (.int 0))))))))))))
noncomputable def cJ:GF:=fj 3 (aL (aK 2 (eC (.str "made")))
 (aL (vU (xB (iM "Order" bL (aj (aa 0) (aj (aa 1) ao))) qg) (nQ ["NoName"] ["NoOrder"] (aK 2 (eC (.str "name"))) (nQ ["NoOrder"] ["NoName"] (aK 2 (eC (.str "order"))) BR)))
 (gB 2)))
noncomputable def iW:GF:=fj 1 (aL (dw (je (jf (tT (jk ["NoName", "NoOrder"] [] (aa 0)) bY)) (jf (tT (jk ["NoName", "NoOrder"] [] (aa 0)) bY)))
 (dq (eC (.str "none")))
 bR)
 (aL (dw (je (tT (jk [] ["NoName", "NoOrder"] (aa 0)) bY) (je (tT (jk [] ["NoName", "NoOrder"] (aa 0)) bY) (je (tT (jk [] ["NoName", "NoOrder"] (aa 0)) bY) (tT (jk [] ["NoName", "NoOrder"] (aa 0)) bY))))
 (dq (eC (.str "none")))
 bR)
 (aL (dw (tT (aq eqP (jk ["NoName"] ["NoOrder"] (aa 0)) (jk ["NoOrder"] ["NoName"] (aa 0))) aN)
 (dq (eC (.str "none")))
 bR)
 (dq (oV (tT (jk ["NoName"] ["NoOrder"] (aa 0)) bY) (eC (.str "name")) (eC (.str "order")))))))
noncomputable def gf:GF:=fj 4 (aL (aK 2 (eC (.str "made")))
 (aL (vU (xB (iM "Order" bL (aj (aa 0) (aj (aa 1) ao))) qg) (uz 3 ["NoName", "NoOrder"] [] (aK 2 (aG iW (aj (aa 3) ao))) BR))
 (gB 2)))
noncomputable def G5:GF:=fj 13 (aL (jh (u0 (aj (eC (.int 0)) (aj (aq bj (eB min2 (aj (eB cH (aj (aa 0) ao)) (aj (eC (.int 60)) ao))) (eC (.int 1))) (aj (eC (.int 6)) ao)))) (aA 1)
 (aL (aK 2 (aq bj (eC (.int 2)) (aq bF (aG aM (aj (aa 0) (aj (aa 1) ao))) (eC (.int 6)))))
 (aL (aK 3 (aG iU (aj (aq cA (aG aM (aj (aa 0) (aj (aa 1) ao))) (eC (.int 6))) (aj (aa 2) ao))))
 (aL (aK 4 (aG iV (aj (aa 3) (aj (aq eqP (aq bF (aG aM (aj (aa 0) (aj (aq bj (aa 1) (eC (.int 1))) ao))) (eC (.int 2))) (eC (.int 1))) ao))))
 (aL (aK 5 (aq bF (aG aM (aj (aa 0) (aj (aq bj (aa 1) (eC (.int 2))) ao))) (eC (.int 5))))
 (aL (aK 6 (aq bF (aG aM (aj (aa 0) (aj (aq bj (aa 1) (eC (.int 3))) ao))) (eC (.int 9))))
 (aL (ug (aG bN (aj (aa 3) (aj (aa 4) (aj (aa 5) ao)))) (eN 2 (aZ (aA 7) (aZ (aA 8) fu))))
 (aL (aK 9 (oV (tT (aq gn (aa 5) (cz (aj (eC (.int 1)) (aj (eC (.int 2)) (aj (eC (.int 3)) ao))))) aN) (eC (.str "order")) (eC (.str "made"))))
 (aL (dw (dO (tT (aq Bt (eB cH (aj (aa 7) ao)) (eC (.int 0))) aN) (tT (dZ iu iu (eC (.int 0)) (aa 6) (eC (.int 6))) aN))
 (aL (ug (aG cj (aj (aa 7) (aj (aa 8) (aj (aa 6) (aj (aG aM (aj (aa 0) (aj (aq bj (aa 1) (eC (.int 4))) ao))) ao))))) (eN 2 (aZ (aA 7) (aZ (aA 8) fu))))
 (aK 9 (eC (.str "name"))))
 (dw (tT (aq gn (aa 6) (cz (aj (eC (.int 3)) (aj (eC (.int 4)) ao)))) aN)
 (aL (aK 8 (yg (gk (aj (cz (aj (aX (aa 3) (eC (.int 0))) (aj (aX (aa 3) (uo (eC (.int 1)))) ao))) ao)) (aq lZ (aa 6) (eC (.int 2)))))
 (aK 9 (eC (.str "name"))))
 bR))
 (aL (aK 10 (aq bF (aG aM (aj (aa 0) (aj (aq bj (aa 1) (eC (.int 5))) ao))) (aq bj (eB cH (aj (aa 7) ao)) (eC (.int 1)))))
 (aL (aK 7 (aq bj (my (aa 7) (fV (aa 10)) mH) (my (aa 7) mH (fV (aa 10)))))
 (aL (aK 11 (eB list1 (aj (aa 7) ao)))
 (aL (aK 12 (eB list1 (aj (aa 8) ao)))
 (aL (dw (je (tT (aq jM (aG cJ (aj (aa 11) (aj (aa 12) ao))) (aa 9)) aN) (tT (aq jM (aG gf (aj (aa 11) (aj (aa 12) ao))) (aa 9)) aN))
 (dq (eC (.bl false)))
 bR)
 (dw (je (tT (aq jM (aa 11) (aa 7)) aN) (je (tT (aq jM (aa 12) (aa 8)) aN) (tT (aq jM (aG cJ (aj (aa 3) (aj (aa 4) ao))) (eC (.str "made"))) aN)))
 (dq (eC (.bl false)))
 bR)))))))))))))))
 (dq (eC (.bl true))))
section
variable {P:Program} {w:World} {K:FG} {mg:Str->Option Value} {base:Heap}
theorem JW {X:Cx} {pos:Pos} (h:∃ t,X.mg "LETTERS" = some (.str "abcdefghijklmnopqrstuvwxyz" t)) (hg:Gl X "LETTERS"):PE X (.Name "LETTERS" pos) (tP X.K (eC jc)):=by
 obtain ⟨t,h⟩:=h
 exact qc (jU (v:=.str "abcdefghijklmnopqrstuvwxyz") hg h ⟨_,rfl⟩) kO
noncomputable abbrev BL:List Str:=["ValueError", "all", "isinstance", "len", "list", "min", "range", "tuple"]
section
variable {mg:Str->Option Value} (B:RW mg BL)
include B
theorem BV:mg "ValueError" = none:=B _ (.head _)
theorem NP:mg "all" = none:=B _ (.tail _ (.head _))
theorem d8:mg "isinstance" = none:=B _ (.tail _ (.tail _ (.head _)))
theorem g8:mg "len" = none:=B _ (.tail _ (.tail _ (.tail _ (.head _))))
theorem rm:mg "list" = none:=B _ (.tail _ (.tail _ (.tail _ (.tail _ (.head _)))))
theorem Uj:mg "min" = none:=B _ (.tail _ (.tail _ (.tail _ (.tail _ (.tail _ (.head _))))))
theorem oE:mg "range" = none:=B _ (.tail _ (.tail _ (.tail _ (.tail _ (.tail _ (.tail _ (.head _)))))))
theorem PN:mg "tuple" = none:=B _ (.tail _ (.tail _ (.tail _ (.tail _ (.tail _ (.tail _ (.tail _ (.head _))))))))
end
section
variable (P:Program) (w:World) (K:FG) (mg:Str->Option Value) (base:Heap) (c:Addr)
noncomputable abbrev G6:=bJ P w K mg base "is_name" 1 ["text"] (cN K 1 jT)
noncomputable abbrev nj:=bJ P w K mg base "straight_above" 1 ["some", "pairs", "name"] (cN K 3 bC)
noncomputable abbrev yp:=bJ P w K mg base "ring_within" 2 ["some", "pairs"] (cN K 2 j6)
noncomputable abbrev G7:=bJ P w K mg base "ring_of" 3 ["names", "pairs"] (cN K 2 dC)
noncomputable abbrev G8:=bJ P w K mg base "climbed" 1 ["name", "pairs"] (cN K 2 m5)
noncomputable abbrev pL:=bJ P w K mg base "all_above" 2 ["names", "pairs"] (cN K 2 cZ)
noncomputable abbrev rA:=bJ P w K mg base "all_beneath" 3 ["names", "pairs"] (cN K 2 cD)
noncomputable abbrev Mg:=bJ P w K mg base "bound" 1 ["reach", "one", "other"] (cN K 3 oA)
noncomputable abbrev zu:=bJ P w K mg base "bounds" 2 ["reach"] (cN K 1 ir)
noncomputable abbrev G9:=bJ P w K mg base "unbound" 3 ["reach"] (cN K 1 fD)
noncomputable abbrev Ha:=bJ P w K mg base "lack_of" 4 ["names", "pairs"] (cN K 2 gY)
noncomputable abbrev xn:=bJ P w K mg base "_law_cell_at" 1 ["_law_script", "_law_k"] (cN K 2 aM)
noncomputable abbrev zO:=bJ P w K mg base "_law_names" 1 ["_law_cell", "_law_count"] (cN K 2 iU)
noncomputable abbrev zQ:=bJ P w K mg base "_law_pairs" 1 ["_law_names_here", "_law_wide"] (cN K 2 iV)
noncomputable abbrev vY:=bJ P w K mg base "_law_bad_name" 1 ["_law_cell"] (cN K 1 gZ)
noncomputable abbrev zR:=bJ P w K mg base "_law_other" 1 ["_law_names_here"] (cN K 1 fG)
noncomputable abbrev tH:=bJ P w K mg base "_law_spoil_names" 2 ["_law_names_here", "_law_pairs_here", "_law_way", "_law_cell"] (cN K 4 cj)
noncomputable abbrev tK:=bJ P w K mg base "_law_spoil_order" 1 ["_law_names_here", "_law_pairs_here", "_law_way"] (cN K 3 bN)
noncomputable abbrev vZ:=bJ P w K mg base "_law_by_class" 8 ["_law_names_here", "_law_pairs_here"] (cN K 2 cJ)
noncomputable abbrev zU:=uf false P w K mg base "_law_class" 1 ["_law_e"] (cN K 1 iW)
noncomputable abbrev xq:=bJ P w K mg base "_law_by_base" 8 ["_law_names_here", "_law_pairs_here"] (cN K 2 gf)
end
variable (B:RW mg BL) (C_LETTERS:∃ t,mg "LETTERS" = some (.str "abcdefghijklmnopqrstuvwxyz" t)) {c_Order:Addr} (T_Order:yj K mg "Order" c_Order) (N_Order:∀ f∈(["names", "above", "joins", "meets", "lowest", "highest"]:List Str),jX K c_Order f) {c_HushError:Addr} (XT_HushError:qz K mg "HushError" c_HushError) {c_NoName:Addr} (XT_NoName:qz K mg "NoName" c_NoName) {c_NoOrder:Addr} (XT_NoOrder:qz K mg "NoOrder" c_NoOrder) (Y_HushError:∀ C∈(["NoName", "NoOrder"]:List Str),∃ c,CN K C c/\W.excIn K c eX eY=true/\mroIn K c c_HushError=true) (Z_HushError:∀ C∈([]:List Str),∃ c,CN K C c/\W.excIn K c eX eY=true/\mroIn K c c_HushError=false) (Y_NoName:∀ C∈(["NoName"]:List Str),∃ c,CN K C c/\W.excIn K c eX eY=true/\mroIn K c c_NoName=true) (Z_NoName:∀ C∈(["NoOrder"]:List Str),∃ c,CN K C c/\W.excIn K c eX eY=true/\mroIn K c c_NoName=false) (Y_NoOrder:∀ C∈(["NoOrder"]:List Str),∃ c,CN K C c/\W.excIn K c eX eY=true/\mroIn K c c_NoOrder=true) (Z_NoOrder:∀ C∈(["NoName"]:List Str),∃ c,CN K C c/\W.excIn K c eX eY=true/\mroIn K c c_NoOrder=false) {v_HushError:Addr} (V_HushError:mg "HushError" = some (.ref v_HushError)) (I_HushError:∀ C∈(["NoName", "NoOrder"]:List Str),fJ K (.ref v_HushError) true C) (J_HushError:∀ C∈([]:List Str),fJ K (.ref v_HushError) false C) {v_NoFit:Addr} (V_NoFit:mg "NoFit" = some (.ref v_NoFit)) (I_NoFit:∀ C∈([]:List Str),fJ K (.ref v_NoFit) true C) (J_NoFit:∀ C∈(["NoName", "NoOrder"]:List Str),fJ K (.ref v_NoFit) false C) {v_NoInput:Addr} (V_NoInput:mg "NoInput" = some (.ref v_NoInput)) (I_NoInput:∀ C∈([]:List Str),fJ K (.ref v_NoInput) true C) (J_NoInput:∀ C∈(["NoName", "NoOrder"]:List Str),fJ K (.ref v_NoInput) false C) {v_NoName:Addr} (V_NoName:mg "NoName" = some (.ref v_NoName)) (I_NoName:∀ C∈(["NoName"]:List Str),fJ K (.ref v_NoName) true C) (J_NoName:∀ C∈(["NoOrder"]:List Str),fJ K (.ref v_NoName) false C) {v_NoOrder:Addr} (V_NoOrder:mg "NoOrder" = some (.ref v_NoOrder)) (I_NoOrder:∀ C∈(["NoOrder"]:List Str),fJ K (.ref v_NoOrder) true C) (J_NoOrder:∀ C∈(["NoName"]:List Str),fJ K (.ref v_NoOrder) false C) {v_NoRow:Addr} (V_NoRow:mg "NoRow" = some (.ref v_NoRow)) (I_NoRow:∀ C∈([]:List Str),fJ K (.ref v_NoRow) true C) (J_NoRow:∀ C∈(["NoName", "NoOrder"]:List Str),fJ K (.ref v_NoRow) false C) {v_NoText:Addr} (V_NoText:mg "NoText" = some (.ref v_NoText)) (I_NoText:∀ C∈([]:List Str),fJ K (.ref v_NoText) true C) (J_NoText:∀ C∈(["NoName", "NoOrder"]:List Str),fJ K (.ref v_NoText) false C) (I_ValueError:∀ C∈(["NoName", "NoOrder"]:List Str),fJ K (.ty "ValueError") true C) (J_ValueError:∀ C∈([]:List Str),fJ K (.ty "ValueError") false C)
include B C_LETTERS T_Order N_Order XT_HushError XT_NoName XT_NoOrder Y_HushError Z_HushError Y_NoName Z_NoName Y_NoOrder Z_NoOrder V_HushError I_HushError J_HushError V_NoFit I_NoFit J_NoFit V_NoInput I_NoInput J_NoInput V_NoName I_NoName J_NoName V_NoOrder I_NoOrder J_NoOrder V_NoRow I_NoRow J_NoRow V_NoText I_NoText J_NoText I_ValueError J_ValueError
theorem Hb (F:aW K mg "is_name" jQ ["text"]):bJ P w K mg base "is_name" 1 ["text"] (cN K 1 jT):=
 F.ok (k:=0) G4 fun f cdv A outer s H E hr=>⟨_,fun _ _=>rfl,(aJ (b8 (Vo (RV M5 M5 Jr Jr aY (qL (g8 B) (qw 0)) aY) (Vn (wR (sG rfl) Jx (dm (sG rfl) (by rfl) (NP B) (by kernel_rfl) (ak (nH ["sign"] [] [] rfl (qZ (az jQ)) (eG (qw 0)) (fun _ _ _ _=>(fB 0 (show (["sign"]:List Str).Nodup from by decide +kernel))) bc (fun _ _ _ _=>km) (fun _ _ _ _=>(Lh (oZ hr) lY (qw 0) (JW C_LETTERS rfl) (by with_unfolding_all rfl)))) aC)))))))⟩
theorem vg (F:aW K mg "straight_above" dJ ["some", "pairs", "name"]):bJ P w K mg base "straight_above" 1 ["some", "pairs", "name"] (cN K 3 bC):=
 F.ok (k:=0) vf fun f cdv A outer s H E hr=>⟨_,fun _ _=>rfl,(aJ (b8 (nH ["low", "high"] ["name", "some"] [2,0] rfl (qZ (az dJ)) (eG (qw 1)) (fun _ _ _ _=>(pA rfl (dX (fB 0 (show (["low", "high", "name", "some"]:List Str).Nodup from by decide +kernel)) (dX (fB 1 (show (["low", "high", "name", "some"]:List Str).Nodup from by decide +kernel)) lU)))) (pB (fH bc (fH bc oW))) (fun _ _ _ _=>(kE (PW.pt (qR (bI (gQ hr) gR (qw 0) (qw 2) (bU _)) (qR (bI (qW hr) qX (qw 1) (qw 2) (bU _)) (qQ (bI (oZ hr) lY (qw 1) (qw 3) (by with_unfolding_all rfl)))))))) (fun _ _ _ _=>(qw 1)))))⟩
theorem yq (F:aW K mg "ring_within" gK ["some", "pairs"]) (D_straight_above:nj P w K mg base):bJ P w K mg base "ring_within" 2 ["some", "pairs"] (cN K 2 j6):=
 F.ok (k:=1) jW fun f cdv A outer s H E hr=>⟨_,fun _ _=>rfl,(aB (d9 2 jW.nd (oU (ak (qI (qw 0)) aC)))
  (aB (d9 3 jW.nd (qI (bK D_straight_above (hr.mono (by omega)) rfl (ak (qw 0) (ak (qw 1) (ak (qI (qw 0)) aC))) (aD (aD (aD aV))))))
  (aB (vK 20 PassesOwn.never (Jw (bI (kW hr) n6 (qw 3) (qw 2) (by with_unfolding_all rfl)))
  (aB (vQ (pv 2) (qw 3))
  (aJ (d9 3 jW.nd (qI (bK D_straight_above (hr.mono (by omega)) rfl (ak (qw 0) (ak (qw 1) (ak (qw 3) aC))) (aD (aD (aD aV)))))))))
  (aJ (b8 (nO (uY (qw 2) (qY (R4 (nD PySem.F.plainAttrs_list PySem.F.slot_list_index PySem.F.type_list_index (LQ hr) (qw 2) (ak (qw 3) aC)))) yd)))))))⟩
theorem Hc (F:aW K mg "ring_of" jb ["names", "pairs"]) (D_ring_within:yp P w K mg base) (D_straight_above:nj P w K mg base):bJ P w K mg base "ring_of" 3 ["names", "pairs"] (cN K 2 dC):=
 F.ok (k:=2) lM fun f cdv A outer s H E hr=>⟨_,fun _ _=>rfl,(aB (mR (i:=2) lM.nd rfl (Or.inr rfl) (PE.imp (jK iC (by rfl) (rm B) (by kernel_rfl) (ak (qw 0) aC)) (ph n8)))
  (aB (qT (i:=3) ["name"] ["rest", "pairs"] [2,1] lM.nd rfl rfl rfl (qZ (az jb)) (eG (qw 2)) (fun _ _ _ _=>(fB 0 (show (["name", "rest", "pairs"]:List Str).Nodup from by decide +kernel))) bc (fun _ _ _ _=>(kE (fQ (bK D_straight_above (hr.mono (by omega)) rfl (ak (qw 1) (ak (qw 2) (ak (qw 0) aC))) (aD (aD (aD aV)))) (fun _=>rfl)))) (fun _ _ _ _=>(qw 0)))
  (aB (vK 20 PassesOwn.never (bI pP mV (qL (g8 B) (qw 3)) (qL (g8 B) (qw 2)) (bU _))
  (aB (mR (i:=2) lM.nd rfl (Or.inr rfl) (qw 3))
  (aJ (qT (i:=3) ["name"] ["rest", "pairs"] [2,1] lM.nd rfl rfl rfl (qZ (az jb)) (eG (qw 2)) (fun _ _ _ _=>(fB 0 (show (["name", "rest", "pairs"]:List Str).Nodup from by decide +kernel))) bc (fun _ _ _ _=>(kE (fQ (bK D_straight_above (hr.mono (by omega)) rfl (ak (qw 1) (ak (qw 2) (ak (qw 0) aC))) (aD (aD (aD aV)))) (fun _=>rfl)))) (fun _ _ _ _=>(qw 0))))))
  (aB (dz (ue (fQ (qw 2) (fun _=>rfl)))
  (aJ (b8 xj))
  b7)
  (aJ (b8 (bK D_ring_within (hr.mono (by omega)) rfl (ak (qw 2) (ak (qw 1) aC)) (aD (aD aV)))))))))⟩
theorem Hd (F:aW K mg "climbed" lr ["name", "pairs"]):bJ P w K mg base "climbed" 1 ["name", "pairs"] (cN K 2 m5):=
 F.ok (k:=0) jl fun f cdv A outer s H E hr=>⟨_,fun _ _=>rfl,(aB (d9 2 jl.nd (oU (ak (qw 0) aC)))
  (aB (d9 3 jl.nd (qc uM dG))
  (aB (vK 70 PassesOwn.never (fQ (qw 3) (fun _=>rfl))
  (aB (d9 3 jl.nd (qc uM dG))
  (aJ (mU PassesOwn.never rfl (eG (qw 1)) (pA rfl (dX (fB 4 jl.nd) (dX (fB 5 jl.nd) lU))) (pB (fH bc (fH bc oW)))
  (aJ (dz (Jw (PW.pt (qR (bI (oZ hr) lY (qw 4) (qw 2) (by with_unfolding_all rfl)) (qQ (bI (kW hr) n6 (qw 5) (qw 2) (by with_unfolding_all rfl))))))
  (aB (vQ (pv 2) (qw 5))
  (aJ (d9 3 jl.nd (qc uM dG))))
  b7))))))
  (aJ (iD (pv 2))))))⟩
theorem BW (F:aW K mg "all_above" jw ["names", "pairs"]) (D_climbed:G8 P w K mg base):bJ P w K mg base "all_above" 2 ["names", "pairs"] (cN K 2 cZ):=
 F.ok (k:=1) pK fun f cdv A outer s H E hr=>⟨_,fun _ _=>rfl,(aB (d9 2 pK.nd R5)
  (aB (mU PassesOwn.never rfl (eG (qw 0)) (fB 3 pK.nd) bc
  (aJ (Py (tO (bK D_climbed (hr.mono (by omega)) rfl (ak (qw 3) (ak (qw 1) aC)) (aD (aD aV))) (v9 (pv 2) (qw 3) (set_dict (nF hr)))))))
  (aJ (iD (pv 2)))))⟩
theorem yr (F:aW K mg "all_beneath" fP ["names", "pairs"]) (D_all_above:pL P w K mg base):bJ P w K mg base "all_beneath" 3 ["names", "pairs"] (cN K 2 cD):=
 F.ok (k:=2) yo fun f cdv A outer s H E hr=>⟨_,fun _ _=>rfl,(aJ (b8 (bK D_all_above (hr.mono (by omega)) rfl (ak (qw 0) (ak (nH ["low", "high"] [] [] rfl (qZ (az fP)) (eG (qw 1)) (fun _ _ _ _=>(pA rfl (dX (fB 0 (show (["low", "high"]:List Str).Nodup from by decide +kernel)) (dX (fB 1 (show (["low", "high"]:List Str).Nodup from by decide +kernel)) lU)))) (pB (fH bc (fH bc oW))) (fun _ _ _ _=>km) (fun _ _ _ _=>(jx (ak (qw 1) (ak (qw 0) aC))))) aC)) (aD (aD aV)))))⟩
theorem Mh (F:aW K mg "bound" lu ["reach", "one", "other"]):bJ P w K mg base "bound" 1 ["reach", "one", "other"] (cN K 3 oA):=
 F.ok (k:=0) vW fun f cdv A outer s H E hr=>⟨_,fun _ _=>rfl,(aB (qT (i:=3) ["rank"] ["reach", "other"] [0,2] vW.nd rfl rfl rfl (qZ (az lu)) (eG (Bw (nF hr) (qw 0) (qw 1) (fun _ _=>rfl))) (fun _ _ _ _=>(fB 0 (show (["rank", "reach", "other"]:List Str).Nodup from by decide +kernel))) bc (fun _ _ _ _=>(kE (bI (oZ hr) lY (qw 0) (Bw (nF hr) (qw 1) (qw 2) (fun _ _=>rfl)) (by with_unfolding_all rfl)))) (fun _ _ _ _=>(qw 0)))
  (aB (mU PassesOwn.never rfl (eG (qw 3)) (Dm (i:=4) vW.nd rfl (Or.inr rfl)) bc
  (aJ (dz (fQ (wR (sG rfl) Jx (dm (sG rfl) (by rfl) (NP B) (by kernel_rfl) (ak (nH ["beyond"] ["reach", "rank"] [0,4] rfl (qZ (az lu)) (eG (qw 3)) (fun _ _ _ _=>(fB 0 (show (["beyond", "reach", "rank"]:List Str).Nodup from by decide +kernel))) bc (fun _ _ _ _=>km) (fun _ _ _ _=>(Lh (oZ hr) lY (qw 0) (Bw (nF hr) (qw 1) (qw 2) (fun _ _=>rfl)) (by with_unfolding_all rfl)))) aC))) (fun _=>rfl))
  (aJ (iD (pv 4)))
  b7)))
  (aJ (b8 xj))))⟩
theorem JX (F:aW K mg "bounds" mC ["reach"]) (D_bound:Mg P w K mg base):bJ P w K mg base "bounds" 2 ["reach"] (cN K 1 ir):=
 F.ok (k:=1) qi fun f cdv A outer s H E hr=>⟨_,fun _ _=>rfl,(aB (d9 1 qi.nd Sd)
  (aB (DY PassesOwn.never rfl (qw 0) (fB 2 qi.nd) bc
  (aJ (DY PassesOwn.never rfl (qw 0) (fB 3 qi.nd) bc
  (aJ (Pz (tO (bK D_bound (hr.mono (by omega)) rfl (ak (qw 0) (ak (qw 2) (ak (qw 3) aC))) (aD (aD (aD aV)))) (v9 (pv 1) (Ih (ak (qw 2) (ak (qw 3) aC))) (set_dict (nF hr)))))))))
  (aJ (iD (pv 1)))))⟩
theorem Hf (F:aW K mg "unbound" lw ["reach"]) (D_bounds:zu P w K mg base):bJ P w K mg base "unbound" 3 ["reach"] (cN K 1 fD):=
 F.ok (k:=2) sU fun f cdv A outer s H E hr=>⟨_,fun _ _=>rfl,(aB (Dh PassesOwn.never rfl (Vt (bK D_bounds (hr.mono (by omega)) rfl (ak (qw 0) aC) (aD aV))) (pA rfl (dX (fB 1 sU.nd) (dX (fB 2 sU.nd) lU))) (pB (fH bc (fH bc oW)))
  (aJ (dz (bI QZ Ph (qw 2) xj (bU _))
  (aJ (iD (pv 1)))
  b7)))
  (aJ (b8 xj)))⟩
theorem Hg (F:aW K mg "lack_of" lA ["names", "pairs"]) (D_all_above:pL P w K mg base) (D_all_beneath:rA P w K mg base) (D_unbound:G9 P w K mg base):bJ P w K mg base "lack_of" 4 ["names", "pairs"] (cN K 2 gY):=
 F.ok (k:=3) sV fun f cdv A outer s H E hr=>⟨_,fun _ _=>rfl,(aB (d9 2 sV.nd (bK D_unbound (hr.mono (by omega)) rfl (ak (Nx (bK D_all_above (hr.mono (by omega)) rfl (ak (qw 0) (ak (qw 1) aC)) (aD (aD aV)))) aC) (aD aV)))
  (aB (dz (bI uN su (qw 2) xj (bU _))
  (aJ (b8 (jx (ak eV (ak (qI (qw 2)) (ak (qI (qw 2)) aC))))))
  b7)
  (aB (d9 2 sV.nd (bK D_unbound (hr.mono (by omega)) rfl (ak (Nx (bK D_all_beneath (hr.mono (by omega)) rfl (ak (qw 0) (ak (qw 1) aC)) (aD (aD aV)))) aC) (aD aV)))
  (aB (dz (bI uN su (qw 2) xj (bU _))
  (aJ (b8 (jx (ak eV (ak (qI (qw 2)) (ak (qI (qw 2)) aC))))))
  b7)
  (aJ (b8 xj))))))⟩
theorem xr (F:aW K mg "refuse_names" fX ["names", "pairs"]) (D_is_name:G6 P w K mg base):DefX P w K mg base "refuse_names" 2 ["names", "pairs"] eU:=
 F.okX (k:=1) jE fun f cdv A outer s H E hr=>⟨_,fun _ _=>rfl,fun R PX=>(eQ (JV PassesOwn.leaving rfl (eG (qw 0)) (fB 2 jE.nd) bc
  (eQ (u6 (ue (fQ (bK D_is_name (hr.mono (by omega)) rfl (ak (qw 2) aC) (aD aV)) (fun _=>rfl)))
  (iK (mZ R hr rfl XT_NoName (ym hr (qw 2) (vR (by decide) uy)) (by decide +kernel)))
  ou)
  (iK (u6 (bI M6 Js (Sg (nD PySem.F.plainAttrs_list PySem.F.slot_list_count PySem.F.type_list_count (Mf hr) (qw 0) (ak (qw 2) aC))) aY (bU _))
  (iK (mZ R hr rfl XT_NoName (ym hr (qw 2) (vR (by decide) uy)) (by decide +kernel)))
  ou))))
  (iK (JV PassesOwn.leaving rfl (eG (qw 1)) (pA rfl (dX (fB 3 jE.nd) (dX (fB 4 jE.nd) lU))) (pB (fH bc (fH bc oW)))
  (iK (u6 (PW.pt (pW (bI (kW hr) n6 (qw 3) (qw 0) (by with_unfolding_all rfl)) (ud (bI (kW hr) n6 (qw 4) (qw 0) (by with_unfolding_all rfl)))))
  (iK (mZ R hr rfl XT_NoName (vR (by decide) (ym hr (qw 3) (vR (by decide) (ym hr (qw 4) (vR (by decide) uy))))) (by decide +kernel)))
  ou)))))⟩
theorem xx (F:aW K mg "refuse_order" fY ["names", "pairs"]) (D_lack_of:Ha P w K mg base) (D_ring_of:G7 P w K mg base):DefX P w K mg base "refuse_order" 5 ["names", "pairs"] dj:=
 F.okX (k:=4) lN fun f cdv A outer s H E hr=>⟨_,fun _ _=>rfl,fun R PX=>(eQ (u6 (ue (fQ (qw 0) (fun _=>rfl)))
  (iK (JL R hr rfl XT_NoOrder HH))
  ou)
  (eQ (lg (d9 2 lN.nd (bK D_ring_of (hr.mono (by omega)) rfl (ak (qw 0) (ak (qw 1) aC)) (aD (aD aV)))))
  (eQ (u6 (bI uN su (qw 2) xj (bU _))
  (iK (mZ R hr rfl XT_NoOrder (ym hr (qw 2) (vR (by decide) uy)) (by decide +kernel)))
  ou)
  (eQ (lg (d9 3 lN.nd (bK D_lack_of (hr.mono (by omega)) rfl (ak (qw 0) (ak (qw 1) aC)) (aD (aD aV)))))
  (iK (u6 (bI uN su (qw 3) xj (bU _))
  (iK (mZ R hr rfl XT_NoOrder (ym hr (qw 3) (vR (by decide) uy)) (by decide +kernel)))
  ou))))))⟩
theorem xG (F:aW K mg "_law_cell_at" fZ ["_law_script", "_law_k"]):bJ P w K mg base "_law_cell_at" 1 ["_law_script", "_law_k"] (cN K 2 aM):=
 F.ok (k:=0) xm fun f cdv A outer s H E hr=>⟨_,fun _ _=>rfl,(aB (dz (bI pP mV (qw 1) (qL (g8 B) (qw 0)) (bU _))
  (aJ (b8 (bV dM cP (jj (qw 0) (qw 1) (fun _ _=>rfl)) aY)))
  b7)
  (aJ (b8 aY)))⟩
theorem zV (F:aW K mg "_law_names" fC ["_law_cell", "_law_count"]):bJ P w K mg base "_law_names" 1 ["_law_cell", "_law_count"] (cN K 2 iU):=
 F.ok (k:=0) dH fun f cdv A outer s H E hr=>⟨_,fun _ _=>rfl,(aB (mR (i:=2) dH.nd rfl (Or.inr rfl) eV)
  (aB (d9 3 dH.nd (oU aC))
  (aB (dz (bI (gQ hr) gR (bV dM cP (qw 0) aY) aY (bU _))
  (aB (d9 4 dH.nd (Nu (nD PySem.F.plainAttrs_str PySem.F.slot_str_join PySem.F.type_str_join DN eV (ak (nH ["_law_j"] ["_law_letters", "_law_cell"] [2,0] rfl (qZ (az fC)) (pX rfl (oE B) (ak aY aC)) (fun _ _ _ _=>(fB 0 (show (["_law_j", "_law_letters", "_law_cell"]:List Str).Nodup from by decide +kernel))) bc (fun _ _ _ _=>km) (fun _ _ _ _=>(jj (qw 1) (bV dM cP (bV cQ cR (bV gJ fM (qw 2) aY) (bV Ia DG aY (qw 0))) aY) (fun _ _=>rfl)))) aC))))
  (aB (mU PassesOwn.never rfl (pX rfl (oE B) (ak (qw 1) aC)) (fB 5 dH.nd) bc
  (aJ (vQ (pv 3) (uY (qw 4) (qY (bV dM cP (qw 5) aY)) (qY (bV cQ cR (bV cQ cR (bV dM cP (qw 5) aY) aY) (bV gJ fM (qw 5) aY)))))))
  (aJ (iD (pv 3)))))
  b7)
  (aB (d9 6 dH.nd (jj (oU (ak aY (ak aY (ak aY (ak aY (ak aY (ak aY (ak aY aC)))))))) (bV dM cP (bV gJ fM (qw 0) aY) aY) (fun _ _=>rfl)))
  (aB (d9 7 dH.nd (bV dM cP (bV gJ fM (qw 0) aY) (qw 6)))
  (aB (mU PassesOwn.never rfl (pX rfl (oE B) (ak (qw 1) aC)) (fB 5 dH.nd) bc
  (aB (qT (i:=8) ["_law_j"] ["_law_letters", "_law_cell"] [2,0] dH.nd rfl rfl rfl (qZ (az fC)) (pX rfl (oE B) (ak (qw 6) aC)) (fun _ _ _ _=>(fB 0 (show (["_law_j", "_law_letters", "_law_cell"]:List Str).Nodup from by decide +kernel))) bc (fun _ _ _ _=>km) (fun _ _ _ _=>(jj (qw 1) (bV dM cP (bV cQ cR (bV gJ fM (qw 2) (bV cQ cR (qw 0) aY)) (bV Ia DG (qw 0) (qw 0))) aY) (fun _ _=>rfl))))
  (aB (DK (tO (jj (qw 2) (bV dM cP (bV cQ cR (bV gJ fM (qw 0) aY) (qw 5)) aY) (fun _ _=>rfl)) (v9 (pv 8) (qw 7) set_list)))
  (aJ (vQ (pv 3) (Nu (nD PySem.F.plainAttrs_str PySem.F.slot_str_join PySem.F.type_str_join DN eV (ak (qw 8) aC))))))))
  (aJ (iD (pv 3)))))))))⟩
theorem zW (F:aW K mg "_law_pairs" iQ ["_law_names_here", "_law_wide"]):bJ P w K mg base "_law_pairs" 1 ["_law_names_here", "_law_wide"] (cN K 2 iV):=
 F.ok (k:=0) j4 fun f cdv A outer s H E hr=>⟨_,fun _ _=>rfl,(aB (d9 2 j4.nd (oU aC))
  (aB (d9 3 j4.nd (bV wu uU (qL (g8 B) (qw 0)) aY))
  (aB (mU PassesOwn.never rfl (Jm (HW rfl (oE B) (ak aY (ak (qL (g8 B) (qw 0)) aC)))) (fB 4 j4.nd) bc
  (aB (dz (PW.pt (qR (fQ (qw 1) (fun _=>rfl)) (qQ (ye pP pP mV mV aY (qw 4) (qw 3)))))
  (aJ (vQ (pv 2) (jx (ak (qI (qw 0)) (ak (jj (qw 0) (qw 4) (fun _ _=>rfl)) aC)))))
  (aJ (vQ (pv 2) (jx (ak (jj (qw 0) (bV wu uU (qw 4) aY) (fun _ _=>rfl)) (ak (jj (qw 0) (qw 4) (fun _ _=>rfl)) aC))))))
  (aJ (dz (PW.pt (qR (fQ (qw 1) (fun _=>rfl)) (qQ (ye pP pP mV mV aY (qw 4) (bV wu uU (qw 3) aY)))))
  (aJ (vQ (pv 2) (jx (ak (jj (qw 0) (qw 4) (fun _ _=>rfl)) (ak (jj (qw 0) (qw 3) (fun _ _=>rfl)) aC)))))
  b7))))
  (aJ (iD (pv 2))))))⟩
theorem v4 (F:aW K mg "_law_bad_name" fK ["_law_cell"]):bJ P w K mg base "_law_bad_name" 1 ["_law_cell"] (cN K 1 gZ):=
 F.ok (k:=0) vX fun f cdv A outer s H E hr=>⟨_,fun _ _=>rfl,(aJ (b8 (jj (oU (ak eV (ak eV (ak eV (ak eV (ak eV (ak eV (ak eV (ak eV aC))))))))) (bV dM cP (qw 0) aY) (fun _ _=>rfl))))⟩
theorem zX (F:aW K mg "_law_other" iR ["_law_names_here"]):bJ P w K mg base "_law_other" 1 ["_law_names_here"] (cN K 1 fG):=
 F.ok (k:=0) tE fun f cdv A outer s H E hr=>⟨_,fun _ _=>rfl,(aB (mU PassesOwn.never rfl (eG (oU (ak eV (ak eV (ak eV (ak eV (ak eV (ak eV (ak eV (ak eV aC)))))))))) (fB 1 tE.nd) bc
  (aJ (dz (bI (kW hr) n6 (qw 1) (qw 0) (by with_unfolding_all rfl))
  (aJ (iD (pv 1)))
  b7)))
  (aJ (b8 eV)))⟩
theorem tL (F:aW K mg "_law_spoil_names" cW ["_law_names_here", "_law_pairs_here", "_law_way", "_law_cell"]) (D__law_bad_name:vY P w K mg base) (D__law_other:zR P w K mg base):bJ P w K mg base "_law_spoil_names" 2 ["_law_names_here", "_law_pairs_here", "_law_way", "_law_cell"] (cN K 4 cj):=
 F.ok (k:=1) dF fun f cdv A outer s H E hr=>⟨_,fun _ _=>rfl,(aB (mR (i:=0) dF.nd rfl (Or.inr rfl) (PE.imp (jK iC (by rfl) (rm B) (by kernel_rfl) (ak (qw 0) aC)) (ph n8)))
  (aB (d9 1 dF.nd (PE.imp (jK iC (by rfl) (rm B) (by kernel_rfl) (ak (qw 1) aC)) (ph n8)))
  (aB (mR (i:=4) dF.nd rfl (Or.inr rfl) (nO (bV dM cP (qw 3) (qL (g8 B) (qw 0)))))
  (aB (dz (bI (gQ hr) gR (qw 2) aY (bU _))
  (aB (mR (i:=5) dF.nd rfl (Or.inr rfl) (bK D__law_bad_name (hr.mono (by omega)) rfl (ak (bV gJ fM (qw 3) aY) aC) (aD aV)))
  (aB (Pu (i:=0) (PB (i:=0) (qT (i:=1) ["_law_pair"] ["_law_names_here", "_law_at", "_law_bad"] [0,4,5] dF.nd rfl rfl rfl (qZ (az cW)) (eG (qw 1)) (fun _ _ _ _=>(fB 0 (show (["_law_pair", "_law_names_here", "_law_at", "_law_bad"]:List Str).Nodup from by decide +kernel))) bc (fun _ _ _ _=>km) (fun _ _ _ _=>(Sx (jK zL (by rfl) (PN B) (by kernel_rfl) (ak (nH ["_law_name"] ["_law_names_here", "_law_at", "_law_bad"] [1,2,3] rfl csn (eG (qw 0)) (fun _ _ _ _=>(fB 0 (show (["_law_name", "_law_names_here", "_law_at", "_law_bad"]:List Str).Nodup from by decide +kernel))) bc (fun _ _ _ _=>km) (fun _ _ _ _=>(RJ (bI (gQ hr) gR (qw 0) (jj (qw 1) (qw 2) (fun _ _=>rfl)) (bU _)) (qw 3) (qw 0)))) aC)))))))
  (aJ (DK (tO (qw 5) (v9 (pv 0) (qw 4) set_list))))))
  b7)
  (aB (dz (bI (gQ hr) gR (qw 2) aY (bU _))
  (aJ (xf (nZ (nD PySem.F.plainAttrs_list PySem.F.slot_list_insert PySem.F.type_list_insert w6 (pv 0) (ak (nO (bV dM cP (bV gJ fM (qw 3) aY) (bV cQ cR (qL (g8 B) (qw 0)) aY))) (ak (nO (jj (qw 0) (qw 4) (fun _ _=>rfl))) aC))))))
  b7)
  (aB (dz (bI (gQ hr) gR (qw 2) aY (bU _))
  (aJ (xf (nZ (nD PySem.F.plainAttrs_list PySem.F.slot_list_insert PySem.F.type_list_insert w6 (pv 1) (ak (nO (bV dM cP (bV gJ fM (qw 3) aY) (bV cQ cR (qL (g8 B) (qw 1)) aY))) (ak (jx (ak (nO (jj (qw 0) (qw 4) (fun _ _=>rfl))) (ak (bK D__law_other (hr.mono (by omega)) rfl (ak (qw 0) aC) (aD aV)) aC))) aC))))))
  b7)
  (aB (dz (bI (gQ hr) gR (qw 2) aY (bU _))
  (aJ (xf (nZ (nD PySem.F.plainAttrs_list PySem.F.slot_list_insert PySem.F.type_list_insert w6 (pv 1) (ak (nO (bV dM cP (bV gJ fM (qw 3) aY) (bV cQ cR (qL (g8 B) (qw 1)) aY))) (ak (jx (ak (bK D__law_other (hr.mono (by omega)) rfl (ak (qw 0) aC) (aD aV)) (ak (nO (jj (qw 0) (qw 4) (fun _ _=>rfl))) aC))) aC))))))
  b7)
  (aB (dz (bI (gQ hr) gR (qw 2) aY (bU _))
  (aJ (xf (nZ (nD PySem.F.plainAttrs_list PySem.F.slot_list_insert PySem.F.type_list_insert w6 (pv 1) (ak (nO (bV dM cP (bV gJ fM (qw 3) aY) (bV cQ cR (qL (g8 B) (qw 1)) aY))) (ak (jx (ak (bK D__law_other (hr.mono (by omega)) rfl (ak (qw 0) aC) (aD aV)) (ak (bK D__law_other (hr.mono (by omega)) rfl (ak (qw 0) aC) (aD aV)) aC))) aC))))))
  b7)
  (aJ (b8 (jx (ak (qw 0) (ak (qw 1) aC)))))))))))))⟩
theorem tM (F:aW K mg "_law_spoil_order" cX ["_law_names_here", "_law_pairs_here", "_law_way"]):bJ P w K mg base "_law_spoil_order" 1 ["_law_names_here", "_law_pairs_here", "_law_way"] (cN K 3 bN):=
 F.ok (k:=0) lQ fun f cdv A outer s H E hr=>⟨_,fun _ _=>rfl,(aB (dz (bI (gQ hr) gR (qw 2) aY (bU _))
  (aJ (b8 (jx (ak (qw 0) (ak (bV cQ cR (qw 1) (oU (ak (jx (ak (jj (qw 0) (Ls aY) (fun _ _=>rfl)) (ak (qI (qw 0)) aC))) aC))) aC)))))
  b7)
  (aB (dz (bI (gQ hr) gR (qw 2) aY (bU _))
  (aB (mR (i:=3) lQ.nd rfl (Or.inr rfl) (jj (qw 0) (Ls aY) (fun _ _=>rfl)))
  (aJ (b8 (jx (ak (qw 0) (ak (nH ["_law_pair"] ["_law_last"] [3] rfl (qZ (az cX)) (eG (qw 1)) (fun _ _ _ _=>(fB 0 (show (["_law_pair", "_law_last"]:List Str).Nodup from by decide +kernel))) bc (fun _ _ _ _=>(kE (bI (kW hr) n6 (qw 1) (qw 0) (by with_unfolding_all rfl)))) (fun _ _ _ _=>(qw 0))) aC))))))
  b7)
  (aB (dz (bI (gQ hr) gR (qw 2) aY (bU _))
  (aJ (b8 (jx (ak (oU aC) (ak (oU aC) aC)))))
  b7)
  (aJ (b8 (jx (ak (qw 0) (ak (qw 1) aC))))))))⟩
theorem uB (F:Nz K c_Order "__init__" "Order.__init__" bT ["self", "names", "pairs"]) (D_all_above:pL P w K mg base) (D_all_beneath:rA P w K mg base) (D_bounds:zu P w K mg base) (D_refuse_names:DefX P w K mg base "refuse_names" 2 ["names", "pairs"] eU) (D_refuse_order:DefX P w K mg base "refuse_order" 5 ["names", "pairs"] dj):MX P w K mg base c_Order "__init__" 6 ["self", "names", "pairs"] bL:=
 F.okX (k:=5) uA fun f cdv A outer s H E hr=>⟨_,fun _ _=>rfl,fun R PX=>(eQ (Ef (Eh D_refuse_names PX (hr.mono (by omega)) rfl (ak (qw 1) (ak (qw 2) aC)) (aD (aD aV))))
  (eQ (Ef (Eh D_refuse_order PX (hr.mono (by omega)) rfl (ak (qw 1) (ak (qw 2) aC)) (aD (aD aV))))
  (eQ (lg (oh T_Order (N_Order _ (.head _)) (qw 0) (PE.imp (jK iC (by rfl) (rm B) (by kernel_rfl) (ak (qw 1) aC)) (ph n8))))
  (eQ (lg (oh T_Order (N_Order _ (.tail _ (.head _))) (qw 0) (Nx (bK D_all_above (hr.mono (by omega)) rfl (ak (qw 1) (ak (qw 2) aC)) (aD (aD aV))))))
  (eQ (lg (oh T_Order (N_Order _ (.tail _ (.tail _ (.head _)))) (qw 0) (bK D_bounds (hr.mono (by omega)) rfl (ak (Ma T_Order (N_Order _ (.tail _ (.head _))) (qw 0)) aC) (aD aV))))
  (eQ (lg (oh T_Order (N_Order _ (.tail _ (.tail _ (.tail _ (.head _))))) (qw 0) (bK D_bounds (hr.mono (by omega)) rfl (ak (Nx (bK D_all_beneath (hr.mono (by omega)) rfl (ak (qw 1) (ak (qw 2) aC)) (aD (aD aV)))) aC) (aD aV))))
  (eQ (lg (oh T_Order (N_Order _ (.tail _ (.tail _ (.tail _ (.tail _ (.head _)))))) (qw 0) (Bw (nF hr) (nH ["name"] ["self", "names"] [0,1] rfl (qZ (az bT)) (eG (qw 1)) (fun _ _ _ _=>(fB 0 (show (["name", "self", "names"]:List Str).Nodup from by decide +kernel))) bc (fun _ _ _ _=>(kE (bI (JD hr) Eb (LR (dm oG (by rfl) (g8 B) PySem.boot_len (ak (Bw (nF hr) (Ma T_Order (N_Order _ (.tail _ (.head _))) (qw 1)) (qw 0) (fun _ _=>rfl)) aC))) (LR (dm oG (by rfl) (g8 B) PySem.boot_len (ak (qw 2) aC))) (bU _)))) (fun _ _ _ _=>(qw 0))) aY (fun _ _=>rfl))))
  (iK (lg (oh T_Order (N_Order _ (.tail _ (.tail _ (.tail _ (.tail _ (.tail _ (.head _))))))) (qw 0) (Bw (nF hr) (nH ["name"] ["self"] [0] rfl (qZ (az bT)) (eG (qw 1)) (fun _ _ _ _=>(fB 0 (show (["name", "self"]:List Str).Nodup from by decide +kernel))) bc (fun _ _ _ _=>(kE (bI (JD hr) Eb (LR (dm oG (by rfl) (g8 B) PySem.boot_len (ak (Bw (nF hr) (Ma T_Order (N_Order _ (.tail _ (.head _))) (qw 1)) (qw 0) (fun _ _=>rfl)) aC))) aY (bU _)))) (fun _ _ _ _=>(qw 0))) aY (fun _ _=>rfl))))))))))))⟩
theorem v5 (F:aW K mg "_law_by_class" fL ["_law_names_here", "_law_pairs_here"]) (D_Order____init__:NB P w K mg base c_Order 6 ["self", "names", "pairs"] bL):bJ P w K mg base "_law_by_class" 8 ["_law_names_here", "_law_pairs_here"] (cN K 2 cJ):=
 F.ok (k:=7) jm fun f cdv A outer s H E hr=>⟨_,fun _ _=>rfl,(aB (d9 2 jm.nd eV)
  (aB (JR rfl rfl (fun pins σ xe E hp=>(Ej (Ei T_Order D_Order____init__ hp (hr.mono (by omega)) rfl (ak (qw 0) (ak (qw 1) aC)) (JH (aD (aD aV)))))) (El rfl XT_NoName Y_NoName Z_NoName (fun e=>(aJ (d9 2 jm.nd eV))) (El rfl XT_NoOrder Y_NoOrder Z_NoOrder (fun e=>(aJ (d9 2 jm.nd eV))) JQ)))
  (aJ (iD (pv 2)))))⟩
theorem zY (F:aW K mg "_law_class" iT ["_law_e"]):uf false P w K mg base "_law_class" 1 ["_law_e"] (cN K 1 iW):=
 F.ok (k:=0) zN fun f cdv A outer s H E hr=>⟨_,fun _ _=>rfl,(aB (dz (PW.pt (pW (ue (fQ (sO I_HushError J_HushError (dm (jd lq) (by rfl) (d8 B) (by kernel_rfl) (cM (qw 0) (cM (jU (v:=.ref v_HushError) rfl V_HushError rfl) jJ)))) (fun _=>rfl))) (ud (ue (fQ (sO I_ValueError J_ValueError (dm (jd Sw) (by rfl) (d8 B) (by kernel_rfl) (cM (qw 0) (cM (Od (v:=.ty "ValueError") (u:=.type "ValueError") rfl (BV B) (by kernel_rfl) rfl) jJ)))) (fun _=>rfl))))))
  (aJ (b8 eV))
  b7)
  (aB (dz (PW.pt (pW (fQ (sO I_NoText J_NoText (dm (jd lq) (by rfl) (d8 B) (by kernel_rfl) (cM (qw 0) (cM (jU (v:=.ref v_NoText) rfl V_NoText rfl) jJ)))) (fun _=>rfl)) (pW (fQ (sO I_NoInput J_NoInput (dm (jd lq) (by rfl) (d8 B) (by kernel_rfl) (cM (qw 0) (cM (jU (v:=.ref v_NoInput) rfl V_NoInput rfl) jJ)))) (fun _=>rfl)) (pW (fQ (sO I_NoFit J_NoFit (dm (jd lq) (by rfl) (d8 B) (by kernel_rfl) (cM (qw 0) (cM (jU (v:=.ref v_NoFit) rfl V_NoFit rfl) jJ)))) (fun _=>rfl)) (ud (fQ (sO I_NoRow J_NoRow (dm (jd lq) (by rfl) (d8 B) (by kernel_rfl) (cM (qw 0) (cM (jU (v:=.ref v_NoRow) rfl V_NoRow rfl) jJ)))) (fun _=>rfl)))))))
  (aJ (b8 eV))
  b7)
  (aB (dz (bI (gQ hr) gR (sO I_NoName J_NoName (dm (jd lq) (by rfl) (d8 B) (by kernel_rfl) (cM (qw 0) (cM (jU (v:=.ref v_NoName) rfl V_NoName rfl) jJ)))) (sO I_NoOrder J_NoOrder (dm (jd lq) (by rfl) (d8 B) (by kernel_rfl) (cM (qw 0) (cM (jU (v:=.ref v_NoOrder) rfl V_NoOrder rfl) jJ)))) (bU _))
  (aJ (b8 eV))
  b7)
  (aJ (b8 (RJ (fQ (sO I_NoName J_NoName (dm (jd lq) (by rfl) (d8 B) (by kernel_rfl) (cM (qw 0) (cM (jU (v:=.ref v_NoName) rfl V_NoName rfl) jJ)))) (fun _=>rfl)) eV eV))))))⟩
theorem xH (F:aW K mg "_law_by_base" gb ["_law_names_here", "_law_pairs_here"]) (D_Order____init__:NB P w K mg base c_Order 6 ["self", "names", "pairs"] bL) (D__law_class:zU P w K mg base):bJ P w K mg base "_law_by_base" 8 ["_law_names_here", "_law_pairs_here"] (cN K 2 gf):=
 F.ok (k:=7) jF fun f cdv A outer s H E hr=>⟨_,fun _ _=>rfl,(aB (d9 2 jF.nd eV)
  (aB (JR rfl rfl (fun pins σ xe E hp=>(Ej (Ei T_Order D_Order____init__ hp (hr.mono (by omega)) rfl (ak (qw 0) (ak (qw 1) aC)) (JH (aD (aD aV)))))) (Ui (i:=3) jF.nd rfl rfl rfl XT_HushError Y_HushError Z_HushError (fun e=>(aJ (d9 2 jF.nd (bK D__law_class ((hr.mono (by omega)).mark _) rfl (ak (qw 3) aC) (aD aV))))) JQ))
  (aJ (iD (pv 2)))))⟩
theorem Sy {f:Addr} {fd:FuncData} (F:oJ K "law" "law" mO f fd) (D__law_by_base:xq P w K mg base) (D__law_by_class:vZ P w K mg base) (D__law_cell_at:xn P w K mg base) (D__law_names:zO P w K mg base) (D__law_pairs:zQ P w K mg base) (D__law_spoil_names:tH P w K mg base) (D__law_spoil_order:tK P w K mg base):lF P w K mg base qN 9 f fd ["_law_script"] (cN K 1 G5):=
 oJ.okP (k:=8) F d7 fun cdv A outer s H E hr=>⟨_,fun _ _=>rfl,(aB (mU PassesOwn.never rfl (JC (Iz rfl (oE B) (ak aY (ak (bV cQ cR (wR (yI rfl) R3 (dm (yI rfl) (by rfl) (Uj B) (by kernel_rfl) (ak (qL (g8 B) (qw 0)) (ak aY aC)))) aY) (ak aY aC))))) (fB 1 d7.nd) bc
  (aB (d9 2 d7.nd (bV cQ cR aY (bV dM cP (bK D__law_cell_at (hr.mono (by omega)) rfl (ak (qw 0) (ak (qw 1) aC)) (aD (aD aV))) aY)))
  (aB (d9 3 d7.nd (bK D__law_names (hr.mono (by omega)) rfl (ak (bV gJ fM (bK D__law_cell_at (hr.mono (by omega)) rfl (ak (qw 0) (ak (qw 1) aC)) (aD (aD aV))) aY) (ak (qw 2) aC)) (aD (aD aV))))
  (aB (d9 4 d7.nd (bK D__law_pairs (hr.mono (by omega)) rfl (ak (qw 3) (ak (Lh (gQ hr) gR (bV dM cP (bK D__law_cell_at (hr.mono (by omega)) rfl (ak (qw 0) (ak (bV cQ cR (qw 1) aY) aC)) (aD (aD aV))) aY) aY (bU _)) aC)) (aD (aD aV))))
  (aB (d9 5 d7.nd (bV dM cP (bK D__law_cell_at (hr.mono (by omega)) rfl (ak (qw 0) (ak (bV cQ cR (qw 1) aY) aC)) (aD (aD aV))) aY))
  (aB (d9 6 d7.nd (bV dM cP (bK D__law_cell_at (hr.mono (by omega)) rfl (ak (qw 0) (ak (bV cQ cR (qw 1) aY) aC)) (aD (aD aV))) aY))
  (aB (Jk (bK D__law_spoil_order (hr.mono (by omega)) rfl (ak (qw 3) (ak (qw 4) (ak (qw 5) aC))) (aD (aD (aD aV)))) (pA rfl (dX (fB 7 d7.nd) (dX (fB 8 d7.nd) lU))) (pB (fH bc (fH bc oW))))
  (aB (d9 9 d7.nd (RJ (bI (oZ hr) lY (qw 5) (jx (ak aY (ak aY (ak aY aC)))) (by with_unfolding_all rfl)) eV eV))
  (aB (dz (PW.pt (qR (bI M6 Js (qL (g8 B) (qw 7)) aY (bU _)) (qQ (ye pP pP mV mV aY (qw 6) aY))))
  (aB (Jk (bK D__law_spoil_names (hr.mono (by omega)) rfl (ak (qw 7) (ak (qw 8) (ak (qw 6) (ak (bK D__law_cell_at (hr.mono (by omega)) rfl (ak (qw 0) (ak (bV cQ cR (qw 1) aY) aC)) (aD (aD aV))) aC)))) (aD (aD (aD (aD aV))))) (pA rfl (dX (fB 7 d7.nd) (dX (fB 8 d7.nd) lU))) (pB (fH bc (fH bc oW))))
  (aJ (d9 9 d7.nd eV)))
  (aJ (dz (bI (oZ hr) lY (qw 6) (jx (ak aY (ak aY aC))) (by with_unfolding_all rfl))
  (aB (d9 8 d7.nd (Uh (oU (ak (jx (ak (qI (qw 3)) (ak (jj (qw 3) (Ls aY) (fun _ _=>rfl)) aC))) aC)) (bV wu uU (qw 6) aY)))
  (aJ (d9 9 d7.nd eV)))
  b7)))
  (aB (d9 10 d7.nd (bV dM cP (bK D__law_cell_at (hr.mono (by omega)) rfl (ak (qw 0) (ak (bV cQ cR (qw 1) aY) aC)) (aD (aD aV))) (bV cQ cR (qL (g8 B) (qw 7)) aY)))
  (aB (d9 7 d7.nd (bV cQ cR (uY (qw 7) (qY (qw 10)) yd) (uY (qw 7) yd (qY (qw 10)))))
  (aB (d9 11 d7.nd (PE.imp (jK iC (by rfl) (rm B) (by kernel_rfl) (ak (qw 7) aC)) (ph n8)))
  (aB (d9 12 d7.nd (PE.imp (jK iC (by rfl) (rm B) (by kernel_rfl) (ak (qw 8) aC)) (ph n8)))
  (aB (dz (PW.pt (pW (bI (qW hr) qX (bK D__law_by_class (hr.mono (by omega)) rfl (ak (qw 11) (ak (qw 12) aC)) (aD (aD aV))) (qw 9) (bU _)) (ud (bI (qW hr) qX (bK D__law_by_base (hr.mono (by omega)) rfl (ak (qw 11) (ak (qw 12) aC)) (aD (aD aV))) (qw 9) (bU _)))))
  (aJ (b8 (qc uM dG)))
  b7)
  (aJ (dz (PW.pt (pW (bI (qW hr) qX (qw 11) (qw 7) (bU _)) (pW (bI (qW hr) qX (qw 12) (qw 8) (bU _)) (ud (bI (qW hr) qX (bK D__law_by_class (hr.mono (by omega)) rfl (ak (qw 3) (ak (qw 4) aC)) (aD (aD aV))) eV (bU _))))))
  (aJ (b8 (qc uM dG)))
  b7))))))))))))))))
  (aJ (b8 (qc uM dG))))⟩
end
local macro_rules | `(tactic| walk_at "op")=>`(tactic| first | exact rfl | exact modP_go rfl rfl (by omega) | exact fdivP_go rfl rfl (by omega) (by omega) | exact mulP_gor rfl rfl (by omega) (by omega) | exact mulP_gol rfl rfl (by omega) (by omega) | assumption)
local macro_rules | `(tactic| walk_at "ev")=>`(tactic| first
 | ((with_reducible refine' aR ?h1 ?h2 ?h3 ?h4 ?h5); (case h1=>walk_at "ev"); (case h2=>exact rfl); (case h3=>walk_at "ev"); (case h4=>exact rfl); (case h5=>walk_at "op"))
 | ((with_reducible refine' aF ?h1 ?h2); (case h1=>walk_at "ev"); (case h2=>walk_at "ev"))
 | ((with_reducible refine' bf ?h1 ?h2 ?h3); (case h1=>walk_at "ev"); (case h2=>exact rfl); (case h3=>exact rfl))
 | ((with_reducible refine' jq ?h1); (case h1=>walk_at "ev"))
 | ((with_reducible refine' au ?h1 ?h2); (case h1=>walk_at "ev"); (case h2=>walk_at "ev"))
 | ((with_reducible refine' aP ?h1 ?h2 ?h3 ?h4 ?h5); (case h1=>walk_at "ev"); (case h2=>exact rfl); (case h3=>exact rfl); (case h4=>exact rfl); (case h5=>walk_at "call"))
 | ((with_reducible refine' LK ?h1 ?h2 ?h3); (case h1=>walk_at "ev"); (case h2=>exact rfl); (case h3=>walk_at "op"))
 | ((with_reducible refine' bH ?h1 ?h2 ?h3); (case h1=>walk_at "ev"); (case h2=>exact rfl); (case h3=>exact rfl))
 | ((with_reducible refine' ut ?h1); (case h1=>walk_at "ev"))
 | ((with_reducible refine' pC ?h1 ?h2); (case h1=>walk_at "ev"); (case h2=>walk_at "ev"))
 | ((with_reducible refine' uX ?h1 ?h2); (case h1=>walk_at "ev"); (case h2=>walk_at "ev"))
 | ((with_reducible refine' vP ?h1); (case h1=>walk_at "ev"))
 | ((with_reducible refine' mq ?h1 ?h2); (case h1=>walk_at "ev"); (case h2=>exact rfl))
 | ((with_reducible refine' pD ?h1 ?h2 ?h3); (case h1=>walk_at "ev"); (case h2=>exact rfl); (case h3=>exact rfl))
 | ((with_reducible refine' jZ ?h1 ?h2 ?h3); (case h1=>walk_at "ev"); (case h2=>exact rfl); (case h3=>exact rfl))
 | ((with_reducible refine' newc_go ?h1 ?h2 ?h3 ?h4); (case h1=>walk_at "ev"); (case h2=>exact rfl); (case h3=>exact rfl); (case h4=>exact rfl))
 | ((with_reducible refine' is_go ?h1 ?h2 ?h3); (case h1=>walk_at "ev"); (case h2=>exact rfl); (case h3=>exact rfl))
 | ((with_reducible refine' gW ?h1 ?h2 ?h3); (case h1=>walk_at "ev"); (case h2=>exact rfl); (case h3=>exact rfl))
 | exact rfl
 | assumption)
local macro_rules | `(tactic| walk_at "call")=>`(tactic| first | assumption | exact rfl)
noncomputable abbrev SS (xs:List Str):List PV:=xs.map .str
noncomputable abbrev PP (ps:List (Str×Str)):List PV:=ps.map fun x=>.tup [.str x.1,.str x.2]
noncomputable abbrev zS (x:List Str):Option Lc:=some (.sh (.lst (SS x)))
noncomputable abbrev zP (x:List (Str×Str)):Option Lc:=some (.sh (.lst (PP x)))
noncomputable abbrev zI (x:Int):Option Lc:=some (.sh (.int x))
noncomputable abbrev zT (x:Str):Option Lc:=some (.sh (.str x))
noncomputable abbrev wS (x:List Str):Lc:=.sh (.lst (SS x))
noncomputable abbrev yL (x:List PV):Option Lc:=some (.sh (.lst x))
noncomputable abbrev yO (x:List PV):Option Lc:=some (.own (.lst x))
noncomputable abbrev yS (x:PV):Option Lc:=some (.sh x)
noncomputable def has (xs:List Str) (x:Str):Bool:=xs.any fun y=>y==x
theorem bD {xs:List Str} {x:Str}:has xs x=true ↔ x∈xs:=by
 unfold has
 rw [List.any_eq_true]
 constructor
 . rintro ⟨y,hy,e⟩
   rw [← eq_of_beq e]; exact hy
 . intro h; exact ⟨x,h,by simp⟩
theorem iY {xs:List Str} {x:Str}:has xs x=false ↔ x∉xs:=by rw [← bD]; simp
theorem in_str {x:Str}:∀ xs:List Str,jy (bA 150) (.str x) (SS xs)=some (has xs x)
 | []=>rfl
 | y::ys=>by
  show (some (y==x)).bind (fun b=>(jy (bA 150) (.str x) (SS ys)).map fun c=>b||c)=_
  rw [in_str ys]
  rfl
theorem Ai {xs:List Str} {x:Str}:gn (.str x) (.lst (SS xs))=yS (.bl (has xs x)):=by
 show (jy (bA 150) (.str x) (SS xs)).map _=_
 rw [in_str]; rfl
theorem uC {xs:List Str} {x:Str}:ji (.str x) (.lst (SS xs))=yS (.bl (!has xs x)):=by
 show (jy (bA 150) (.str x) (SS xs)).map _=_
 rw [in_str]; rfl
theorem SJ {ns:List Int} {i:Int} (h0:0<=i) (h1:i<ns.length):∃ c∈ns,o9 (.lst (ns.map .int)) (.int i)=zI c:=by
 obtain ⟨x,e,e2⟩:=vO (l:=ns.map PV.int) (i:=i) h0 (by rw [List.length_map]; exact h1)
 rw [List.getElem?_map] at e2
 obtain ⟨c,hc,rfl⟩:=map_some e2
 exact ⟨c,List.mem_of_getElem? hc,by show (fW (ns.map PV.int) i).map _=_; rw [e]; rfl⟩
theorem cell_eq {ns:List Int} {k:Int} {mu:Mu} (h0:0<=k):∃ c,0<=c/\aM [.lst (ns.map .int),.int k] mu=some (.sh (.int c),mu):=by
 have t:tT (aq iu (aa 1) (eB cH (aj (aa 0) ao))) aN (env0 2 [.lst (ns.map .int),.int k] mu)=some (decide (k<(ns.map PV.int).length),⟨[yL (ns.map .int),zI k],mu⟩):=rfl
 by_cases h:k<(ns.map PV.int).length
 . obtain ⟨c,_,e⟩:=SJ (ns:=ns) h0 (by rw [List.length_map] at h; exact h)
   exact ⟨c%1000000007,Int.emod_nonneg _ (by decide),aQ (ρ:=⟨[yL (ns.map .int),zI k],mu⟩) (iH ((gU (t.trans (by rw [decide_eq_true h]))).trans (jq (aR (lJ (l:=.sh (.lst (ns.map .int))) (m:=.sh (.int k)) rfl rfl rfl rfl (fun n h=>by cases h) e) rfl rfl rfl (gq (by decide))))))⟩
 . exact ⟨0,by decide,aQ (ρ:=⟨[yL (ns.map .int),zI k],mu⟩) (aF ((di (t.trans (by rw [decide_eq_false h]))).trans rfl) rfl)⟩
noncomputable abbrev LET:Str := "abcdefghijklmnopqrstuvwxyz"
noncomputable def LE (i:Int):Nat:=97+(i%26).toNat
noncomputable abbrev one (c:Nat):Str:=⟨#[c]⟩
theorem BX (i:Int):o9 (.str LET) (.int (i%26))=zT (one (LE i)):=by
 unfold LE
 have h0:=Int.emod_nonneg i (b:=26) (by decide)
 have h1:=Int.emod_lt_of_pos i (b:=26) (by decide)
 generalize i%26=r at h0 h1
 obtain ⟨n,rfl⟩:=Int.eq_ofNat_of_zero_le h0
 have h2:n<26:=by omega
 have:∀ n:Nat,n<26->(match o9 (.str LET) (.int (n:Int)) with | some (.sh (.str x))=>x.cps.toList==[97+n] | _=>false)=true:=by decide +kernel
 have h3:=this n h2
 split at h3
 . rename_i x e
   rw [e]
   have h4:x.cps.toList=[97+n]:=by simpa using h3
   have h5:x=one (97+n):=by
    cases x with | mk cps=>
    show Str.mk cps=Str.mk #[97+n]
    congr 1
    exact Array.toList_inj.mp h4
   rw [h5]
   rfl
 . cases h3
theorem Hi:∀ cs:List Nat,Txt.join "" (cs.map one)=⟨cs.toArray⟩:=by
 intro cs
 unfold Txt.join
 rw [StrLaws.glued_eq_join]
 induction cs with
 | nil=>rfl
 | cons c cs ih=>
  cases cs with
  | nil=>rfl
  | cons d cs=>
   show (one c ++ "" ++ Str.join "" ((d::cs).map one):Str)=_
   rw [ih]
   show Str.mk ((#[c]++#[])++(d::cs).toArray)=_
   simp
theorem strs_map:∀ xs:List Str,strsOf (SS xs)=some xs
 | []=>rfl
 | x::xs=>by
  show (strsOf (SS xs)).map _=_
  rw [strs_map xs]
  rfl
theorem En:∀ cs:List Nat,((cs.map one).map (·.length)).sum=cs.length
 | []=>rfl
 | c::cs=>by rw [List.map_cons,List.map_cons,List.sum_cons,En cs,List.length_cons]; show 1+_=_; omega
theorem Eo {fa:EF} {ρ ρ1:Ev} {m:Lc} {cs:List Nat} (h:fa ρ=some (m,ρ1)) (hm:m.pv=.lst (SS (cs.map one))) (hl:cs.length<=100):mJ (eC (.str "")) (aj fa ao) ρ=some (.sh (.str ⟨cs.toArray⟩),ρ1):=by
 rw [← Hi]
 refine LC rfl (au h rfl) rfl hm (strs_map _) ?_
 rw [En,List.length_map,show ("" : Str).length=0 from rfl]
 omega
theorem letters {elt:EF} {c k:Int} {mu:Mu} {g:Nat->Nat} (hk0:0<=k) (hk:k<100) (he:∀ i:Nat,(i:Int)<k->elt ⟨[zI (0+i),zT LET,zI c],mu⟩=some (.sh (.str (one (g i))),⟨[zI (0+i),zT LET,zI c],mu⟩)):
 gP (aA 0) cV elt (gm 0 k.toNat) ⟨[none,zT LET,zI c],mu⟩ []=some (SS (((List.range k.toNat).map g).map one),mu):=by
 have:=kY (b:=aA 0) (te:=elt) (mu:=mu) (fun ρ=>∃ o,ρ=⟨[o,zT LET,zI c],mu⟩) (fun ρ ⟨o,e⟩=>by rw [e]) (fun p=>match p with | .int i=>.str (one (g i.toNat)) | _=>.non)
  (xs:=gm 0 k.toNat) (ρ:=⟨[none,zT LET,zI c],mu⟩) ⟨none,rfl⟩ (by rw [mj]; omega) (by
    rintro x hx ρ ⟨o,rfl⟩
    obtain ⟨i,hi,rfl⟩:=Pk hx
    refine ⟨_,rfl,_,_,he i (by omega),?_,_,rfl⟩
    show PV.str _=PV.str (one (g (0+(i:Int)).toNat))
    rw [Int.zero_add,Int.toNat_natCast]) (by
    rintro x hx ρ ρ1 ⟨o,rfl⟩ e
    cases e
    exact ⟨_,rfl⟩)
 rw [this]
 congr 2
 unfold gm SS
 rw [List.map_map,List.map_map,List.map_map]
 refine List.map_congr_left fun i _=>?_
 show PV.str (one (g (0+(i:Int)).toNat))=PV.str (one (g i))
 rw [Int.zero_add,Int.toNat_natCast]
theorem Uk {c:Int}:∃ m:Int,0<m/\m<=8/\o9 (.lst [.int 1,.int 2,.int 3,.int 5,.int 6,.int 7,.int 8]) (.int (c%7))=zI m:=by
 have h0:=Int.emod_nonneg c (b:=7) (by decide)
 have h1:=Int.emod_lt_of_pos c (b:=7) (by decide)
 generalize c%7=r at h0 h1
 rcases (by omega:r=0\/r=1\/r=2\/r=3\/r=4\/r=5\/r=6) with rfl | rfl | rfl | rfl | rfl | rfl | rfl
 . exact ⟨1,by decide,by decide,rfl⟩
 . exact ⟨2,by decide,by decide,rfl⟩
 . exact ⟨3,by decide,by decide,rfl⟩
 . exact ⟨5,by decide,by decide,rfl⟩
 . exact ⟨6,by decide,by decide,rfl⟩
 . exact ⟨7,by decide,by decide,rfl⟩
 . exact ⟨8,by decide,by decide,rfl⟩
theorem BZ {xs:List Str} {x:Str}:SS xs++[.str x]=SS (xs++[x]):=by show _=List.map PV.str (xs++[x]); rw [List.map_append]; rfl
noncomputable abbrev NE (c n:Int) (l3 o4 o5 o6 o7 o8:Option Lc) (mu:Mu):Ev:=⟨[zI c,zI n,zT LET,l3,o4,o5,o6,o7,o8],mu⟩
theorem qD {nm:Nat->Str}:∀ {n:Nat},(∀ i j,i<n->j<n->nm i=nm j->i=j)->((List.range n).map nm).Nodup
 | 0,_=>by simp
 | n+1,h=>by
  rw [List.range_succ,List.map_append,List.map_singleton]
  refine List.nodup_append.mpr ⟨qD fun i j hi hj=>h i j (by omega) (by omega),by simp,?_⟩
  rintro a ha b hb e
  obtain ⟨i,hi,rfl⟩:=List.mem_map.mp ha
  have hb':b=nm n:=by simpa using hb
  rw [hb'] at e
  have h1:=List.mem_range.mp hi
  have:=h i n (by omega) (by omega) e
  omega
noncomputable def cO (d:Int):List Nat:=(List.range 10).map fun i:Nat=>LE (d/2+3*(0+i))
noncomputable def vz (d:Int) (k:Nat):Str:=jL ⟨(cO d).toArray⟩ (some ((0+k:Int)%5)) (some ((0+k:Int)%5+1+(0+k:Int)/5))
theorem Qa {d:Int}:∀ i j,i<8->j<8->vz d i=vz d j->i=j:=by
 have key:∀ k,k<8->(vz d k).cps.toList=((cO d).drop (k%5)).take (1+k/5):=by
  intro k hk
  rcases (by omega:k=0\/k=1\/k=2\/k=3\/k=4\/k=5\/k=6\/k=7) with rfl | rfl | rfl | rfl | rfl | rfl | rfl | rfl<;>rfl
 have hl:(cO d).length=10:=by unfold cO; rw [List.length_map,List.length_range]
 have hh:∀ k,k<8->(vz d k).cps.toList.length=1+k/5/\(vz d k).cps.toList[0]?=some (LE (d/2+3*(0+((k%5:Nat):Int)))):=fun k hk=>by
  rw [key k hk]
  refine ⟨by rw [List.length_take,List.length_drop,hl]; omega,?_⟩
  rw [List.getElem?_take,if_pos (by omega),List.getElem?_drop,cO,List.getElem?_map,List.getElem?_range (by omega)]
  rfl
 intro i j hi hj h
 obtain ⟨a1,a2⟩:=hh i hi
 obtain ⟨b1,b2⟩:=hh j hj
 rw [h,b1] at a1
 rw [h,b2] at a2
 have:=Option.some.inj a2
 unfold LE at this
 omega
noncomputable def nmE (l:List Nat) (d:Int) (a:Nat) (k:Nat):Str:=⟨(l.set a (LE (d/112+(0+k)))).toArray⟩
theorem Qc {l:List Nat} {d:Int} {a:Nat} (ha:a<l.length):∀ i j,i<8->j<8->nmE l d a i=nmE l d a j->i=j:=by
 intro i j hi hj h
 have h':=congrArg (fun z:Str=>z.cps.toList[a]?) h
 have e:∀ k,(nmE l d a k).cps.toList[a]?=some (LE (d/112+(0+k))):=fun k=>by
  show (l.set a (LE (d/112+(0+k)))).toArray.toList[a]?=_
  simp [ha]
 rw [e,e] at h'
 have h2:=Option.some.inj h'
 unfold LE at h2
 omega
theorem Qd {l:List Nat} {a c:Nat}:(SS (l.map one)).set a (.str (one c))=SS ((l.set a c).map one):=by
 show (List.map PV.str (l.map one)).set a _=List.map PV.str (List.map one (l.set a c))
 rw [List.map_set,List.map_set]
noncomputable def tG (c:Nat):Bool:=!(Builtin.Str.occurrences ("abcdefghijklmnopqrstuvwxyz" : Str) ⟨#[c]⟩ 0 ("abcdefghijklmnopqrstuvwxyz" : Str).length 1).isEmpty
noncomputable def yt (x:Str):Bool:=decide ((1:Int)<=x.length)&&decide ((x.length:Int)<=8)
noncomputable def nameB (x:Str):Bool:=yt x&&x.cps.toList.all tG
theorem Mi {x:Str} {o:List (Option Lc)} {mu:Mu} (hx:x.length<=100000):dZ zc zc (eC (PV.int 1)) (eB cH (aj (aa 0) ao)) (eC (PV.int 8)) ⟨zT x::o,mu⟩=some (.sh (.bl (yt x)),⟨zT x::o,mu⟩):=by
 simp [dZ,eC,eB,cH,Ln,aj,ao,aa,Ev.set,Lc.pv,zc,uc,hx,yt]
 by_cases h:(1:Int)<=x.length
 . simp [h]
 . simp [h]
theorem xJ (f:Nat->Bool):∀ cs:List Nat,boolsOf (cs.map fun c=>.bl (f c))=some (cs.map f)
 | []=>rfl
 | c::cs=>by
  show (boolsOf (cs.map fun c=>.bl (f c))).map _=_
  rw [xJ f cs]
  rfl
theorem Mj (f:Nat->Bool) (cs:List Nat):(cs.map f).all id=cs.all f:=by simp [List.all_map]
theorem Qe {x:Str} {mu:Mu} (hx:x.length<=100000):jT [.str x] mu=some (.sh (.bl (nameB x)),mu):=by
 have comp:gP (aA 0) cV (aq gn (aa 0) (eC jc)) (x.cps.toList.map fun c=>.str ⟨#[c]⟩) ⟨[none],mu⟩ []=some (x.cps.toList.map fun c=>.bl (tG c),mu):=by
  have:=kY (b:=aA 0) (te:=aq gn (aa 0) (eC jc)) (mu:=mu) (fun ρ=>∃ o,ρ=⟨[o],mu⟩) (fun ρ ⟨o,e⟩=>by rw [e]) (fun p=>match p with | .str y=>.bl (tG (y.cps.toList.getD 0 0)) | _=>.non)
   (xs:=x.cps.toList.map fun c=>.str ⟨#[c]⟩) (ρ:=⟨[none],mu⟩) ⟨none,rfl⟩ (by rw [List.length_map,Array.length_toList]; exact hx) ?_ ?_
  . rw [this,List.map_map]
    rfl
  . rintro y hy ρ ⟨o,rfl⟩
    obtain ⟨c,_,rfl⟩:=List.mem_map.mp hy
    exact ⟨_,rfl,_,_,rfl,rfl,_,rfl⟩
  . rintro y hy ρ ρ1 ⟨o,rfl⟩ h
    cases h
    exact ⟨_,rfl⟩
 have e:jT [.str x] mu=((Bg (dZ zc zc (eC (.int 1)) (eB cH (aj (aa 0) ao)) (eC (.int 8))) (eB all1 (aj (bO (dB (aa 0) bG) 1 [] (aA 0) cV (aq gn (aa 0) (eC jc))) ao)) ⟨[zT x],mu⟩).map fun x=>Fl.rt x.1 x.2).bind fun x=>match x with
  | .rt r ρ=>some (r,ρ.mu)
  | .nx ρ=>some (.sh .non,ρ.mu)
  | _=>none:=rfl
 have e2:eB all1 (aj (bO (dB (aa 0) bG) 1 [] (aA 0) cV (aq gn (aa 0) (eC jc))) ao) ⟨[zT x],mu⟩=some (.sh (.bl (x.cps.toList.all tG)),⟨[zT x],mu⟩):=by
  have e3:bO (dB (aa 0) bG) 1 [] (aA 0) cV (aq gn (aa 0) (eC jc)) ⟨[zT x],mu⟩=some (.own (.lst (x.cps.toList.map fun c=>.bl (tG c))),⟨[zT x],mu⟩):=by
   show (gP (aA 0) cV (aq gn (aa 0) (eC jc)) (x.cps.toList.map fun c=>.str ⟨#[c]⟩) ⟨[none],mu⟩ []).map _=_
   rw [comp]
   rfl
  unfold eB aj
  rw [e3]
  show (all1 [.lst _]).map _=_
  show ((boolsOf (x.cps.toList.map fun c=>.bl (tG c))).map _).map _=_
  rw [xJ,Option.map_some,Option.map_some,Mj]
 rw [e]
 unfold Bg
 rw [Mi hx,Option.bind_some]
 cases hl:yt x with
 | true=>
  show ((eB all1 _ _).map _).bind _=_
  rw [e2]
  simp [nameB,hl]
 | false=>simp [nameB,hl,Lc.pv]
theorem Ca (i:Int):tG (LE i)=true:=by
 unfold LE
 have h0:=Int.emod_nonneg i (b:=26) (by decide)
 have h1:=Int.emod_lt_of_pos i (b:=26) (by decide)
 have:∀ n:Nat,n<26->tG (97+n)=true:=by decide +kernel
 exact this _ (by omega)
theorem Cd {x:Str} (h1:1<=x.cps.toList.length) (h2:x.cps.toList.length<=8) (h:∀ c∈x.cps.toList,tG c=true):nameB x=true:=by
 unfold nameB yt
 have e:x.length=x.cps.toList.length:=by rw [Array.length_toList]; rfl
 rw [Bool.and_eq_true,Bool.and_eq_true]
 exact ⟨⟨decide_eq_true (by omega),decide_eq_true (by omega)⟩,List.all_eq_true.mpr h⟩
theorem Ml {d:Int}:∀ k,k<8->nameB (vz d k)=true:=by
 have hc:cO d=[LE (d/2+3*(0+0)),LE (d/2+3*(0+1)),LE (d/2+3*(0+2)),LE (d/2+3*(0+3)),LE (d/2+3*(0+4)),LE (d/2+3*(0+5)),LE (d/2+3*(0+6)),LE (d/2+3*(0+7)),LE (d/2+3*(0+8)),LE (d/2+3*(0+9))]:=rfl
 have key:∀ k,k<8->(vz d k).cps.toList=((cO d).drop (k%5)).take (1+k/5):=by
  intro k hk
  unfold vz jL
  rw [hc]
  rcases (by omega:k=0\/k=1\/k=2\/k=3\/k=4\/k=5\/k=6\/k=7) with rfl | rfl | rfl | rfl | rfl | rfl | rfl | rfl<;>rfl
 intro k hk
 have hl:(cO d).length=10:=by rw [hc]; rfl
 refine Cd ?_ ?_ fun c h=>?_
 . rw [key k hk,List.length_take,List.length_drop,hl]; omega
 . rw [key k hk,List.length_take,List.length_drop,hl]; omega
 . rw [key k hk] at h
   have:=List.mem_of_mem_drop (List.mem_of_mem_take h)
   unfold cO at this
   obtain ⟨i,_,rfl⟩:=List.mem_map.mp this
   exact Ca _
theorem Mm {l:List Nat} {d:Int} {a:Nat} (h1:1<=l.length) (h8:l.length<=8) (h:∀ c∈l,tG c=true) (k:Nat):nameB (nmE l d a k)=true:=by
 have e:(nmE l d a k).cps.toList=l.set a (LE (d/112+(0+k))):=by unfold nmE; simp
 refine Cd ?_ ?_ fun c hc=>?_
 . rw [e,List.length_set]; exact h1
 . rw [e,List.length_set]; exact h8
 . rw [e] at hc
   rcases List.mem_or_eq_of_mem_set hc with h' | h'
   . exact h c h'
   . rw [h']; exact Ca _
theorem Mp {c n:Int} {mu:Mu} (hn0:0<=n) (hn:n<=8):∃ xs:List Str,iU [.int c,.int n] mu=some (.own (.lst (SS xs)),mu)/\xs.length=n.toNat/\xs.Nodup/\∀ x∈xs,nameB x=true:=by
 obtain ⟨d,hcc⟩:∃ d,c=d:=⟨c,rfl⟩
 have head:∀ (g:SF) R,g (NE d n (yO (SS [])) none none none none none mu)=R->(aL (aK 2 (eC (.str "abcdefghijklmnopqrstuvwxyz"))) (aL (aK 3 (gk ao)) g)) (env0 9 [.int c,.int n] mu)=R:=fun g R hg=>by
  subst hcc
  exact aF rfl (aF rfl hg)
 have t1:tT (aq eqP (aq bF (aa 0) (eC (.int 2))) (eC (.int 1))) aN (NE d n (yO (SS [])) none none none none none mu)=some (d%2==1,NE d n (yO (SS [])) none none none none none mu):=rfl
 have rg:∀ l3 o4 o6 o7 o8,iG (aj (aa 1) ao) (NE d n l3 o4 none o6 o7 o8 mu)=some (gm 0 n.toNat,NE d n l3 o4 none o6 o7 o8 mu):=fun l3 o4 o6 o7 o8=>sI (l:=.sh (.int n)) rfl rfl (by omega) (by omega)
 cases h2:(d%2==1) with
 | true=>
  have ec:=letters (elt:=aX (aa 1) (aq bF (aq bj (aq cA (aa 2) (eC (.int 2))) (aq sy (eC (.int 3)) (aa 0))) (eC (.int 26)))) (c:=d) (k:=10) (mu:=mu) (g:=fun i:Nat=>LE (d/2+3*(0+i))) (by decide) (by decide) (fun i _=>lJ (q:=.int ((d/2+3*(0+i))%26)) rfl rfl (by walk_at "ev") rfl (fun n h=>by cases h) (BX (d/2+3*(0+i))))
  obtain ⟨t,rt,lt⟩:∃ t:Str,t=⟨(cO d).toArray⟩/\t.length<=100000:=⟨_,rfl,by show (cO d).toArray.size<=_; unfold cO; simp⟩
  have ej:∀ (fa:EF) (ρ ρ1:Ev) (m:Lc),fa ρ=some (m,ρ1)->m.pv=.lst (SS ((cO d).map one))->mJ (eC (.str "")) (aj fa ao) ρ=some (.sh (.str t),ρ1):=fun fa ρ ρ1 m h hm=>by rw [rt]; exact Eo h hm (by unfold cO; simp)
  have hnm:∀ j:Nat,jL t (some ((0+j:Int)%5)) (some ((0+j:Int)%5+1+(0+j:Int)/5))=vz d j:=fun j=>by rw [rt]; rfl
  clear rt
  have s4:aK 4 (mJ (eC (.str "")) (aj (bO (iG (aj (eC (.int 10)) ao)) 1 [2,0] (aA 0) cV (aX (aa 1) (aq bF (aq bj (aq cA (aa 2) (eC (.int 2))) (aq sy (eC (.int 3)) (aa 0))) (eC (.int 26))))) ao)) (NE d n (yO (SS [])) none none none none none mu)=some (.nx (NE d n (yO (SS [])) (zT t) none none none none mu)):=
   bf (ej _ _ (NE d n (yO (SS [])) none none none none none mu) (.own (.lst (SS ((cO d).map one)))) ((fO (ρ1:=NE d n (yO (SS [])) none none none none none mu) (sI (l:=.sh (.int 10)) (n:=10) rfl rfl (by decide) (by decide)) ec).trans rfl) rfl) rfl rfl
  obtain ⟨ρ',ef,xs,o5,rfl,hx⟩:=uW (b:=aA 5) (body:=gG 3 (my (aa 4) (fV (aq bF (aa 5) (eC (.int 5)))) (fV (aq bj (aq bj (aq bF (aa 5) (eC (.int 5))) (eC (.int 1))) (aq cA (aa 5) (eC (.int 5))))))) (xs:=gm 0 n.toNat) (ρ:=NE d n (yO (SS [])) (zT t) none none none none mu)
   (fun i ρ=>∃ xs o5,ρ=NE d n (yO (SS xs)) (zT t) o5 none none none mu/\xs=(List.range i).map (vz d)) ⟨[],none,rfl,rfl⟩ (by
     rintro i x ρ hx ⟨xs,o5,rfl,hl⟩
     have hi:i<n.toNat:=by have:=(List.getElem?_eq_some_iff.mp hx).1; rw [mj] at this; exact this
     obtain ⟨j,rfl,rfl⟩:∃ j:Nat,j=i/\x=.int (0+(j:Int)):=⟨i,rfl,by unfold gm at hx; rw [List.getElem?_map,List.getElem?_range hi] at hx; cases hx; rfl⟩
     have hlx:xs.length=j:=by rw [hl]; simp
     have es:my (aa 4) (fV (aq bF (aa 5) (eC (.int 5)))) (fV (aq bj (aq bj (aq bF (aa 5) (eC (.int 5))) (eC (.int 1))) (aq cA (aa 5) (eC (.int 5))))) (NE d n (yO (SS xs)) (zT t) (zI (0+j)) none none none mu)=some (.sh (.str (jL t (some ((0+j:Int)%5)) (some ((0+j:Int)%5+1+(0+j:Int)/5)))),NE d n (yO (SS xs)) (zT t) (zI (0+j)) none none none mu):=by
      show (if t.length<=100000 then _ else none)=_
      rw [if_pos lt]
      rfl
     refine ⟨_,rfl,NE d n (some (.own (.lst (SS (xs++[jL t (some ((0+j:Int)%5)) (some ((0+j:Int)%5+1+(0+j:Int)/5))]))))) (zT t) (zI (0+j)) none none none mu,.inl ((uv rfl es rfl rfl (by rw [List.length_map]; omega) rfl).trans ?_),_,_,rfl,by rw [hnm,hl,List.range_succ,List.map_append]; rfl⟩
     rw [← BZ]
     rfl)
  rw [mj] at hx
  have hnd:xs.Nodup:=by rw [hx]; exact qD fun i j hi hj=>Qa i j (by omega) (by omega)
  have hnm2:∀ x∈xs,nameB x=true:=fun x h=>by
   rw [hx] at h
   obtain ⟨k,hk,rfl⟩:=List.mem_map.mp h
   exact Ml k (by have:=List.mem_range.mp hk; omega)
  have hx:xs.length=n.toNat:=by rw [hx]; simp
  refine ⟨xs,aQ (ρ:=NE d n none (zT t) o5 none none none mu) (head _ _ (iH ((gU (t1.trans (by rw [h2]))).trans (aF s4 (aF (jr (rg _ _ _ _ _) ef) rfl))))),hx,hnd,hnm2⟩
 | false=>
  obtain ⟨m,hm0,hm8,em⟩:=Uk (c:=d/2)
  have s6:aK 6 (aX (gk (aj (eC (.int 1)) (aj (eC (.int 2)) (aj (eC (.int 3)) (aj (eC (.int 5)) (aj (eC (.int 6)) (aj (eC (.int 7)) (aj (eC (.int 8)) ao)))))))) (aq bF (aq cA (aa 0) (eC (.int 2))) (eC (.int 7)))) (NE d n (yO (SS [])) none none none none none mu)=some (.nx (NE d n (yO (SS [])) none none (zI m) none none mu)):=
   bf (lJ (l:=.own (.lst [.int 1,.int 2,.int 3,.int 5,.int 6,.int 7,.int 8])) (q:=.int (d/2%7)) rfl rfl rfl rfl (fun n h=>by cases h) em) rfl rfl
  have s7:aK 7 (aq bF (aq cA (aa 0) (eC (.int 14))) (aa 6)) (NE d n (yO (SS [])) none none (zI m) none none mu)=some (.nx (NE d n (yO (SS [])) none none (zI m) (zI (d/14%m)) none mu)):=
   bf (aR rfl rfl rfl rfl (gq hm0)) rfl rfl
  have ha0:=Int.emod_nonneg (d/14) (b:=m) (by omega)
  have ha1:=Int.emod_lt_of_pos (d/14) (b:=m) hm0
  generalize d/14%m=at_ at s7 ha0 ha1
  have ec0:=letters (elt:=aX (aa 1) (aq bF (aq bj (aq cA (aa 2) (aq bj (aa 0) (eC (.int 1)))) (aq sy (aa 0) (aa 0))) (eC (.int 26)))) (c:=d) (k:=m) (mu:=mu) (g:=fun i:Nat=>LE (d/((0+i:Int)+1)+(0+i)*(0+i))) (by omega) (by omega) (fun i hi=>lJ (q:=.int ((d/((0+i:Int)+1)+(0+i)*(0+i))%26)) rfl rfl (uq (uq (uq rfl rfl (qd (by omega) (by omega))) (uq rfl rfl (RZ (by omega) (by omega))) rfl) rfl (gq (by decide))) rfl (fun n h=>by cases h) (BX (d/((0+i:Int)+1)+(0+i)*(0+i))))
  obtain ⟨l,rl⟩:∃ l,l=(List.range m.toNat).map fun i:Nat=>LE (d/((0+i:Int)+1)+(0+i)*(0+i)):=⟨_,rfl⟩
  rw [← rl] at ec0
  have l1:l.length=m.toNat:=by rw [rl]; simp
  obtain ⟨ps,hps⟩:∃ ps,ps=SS (l.map one):=⟨_,rfl⟩
  have ec:=ec0
  rw [← hps] at ec
  have lps:ps.length=m.toNat:=by rw [hps,List.length_map,List.length_map,l1]
  obtain ⟨ρ',ef,xs,o5,o8,rfl,hx⟩:=uW (b:=aA 5) (body:=aL (aK 8 (bO (iG (aj (aa 6) ao)) 1 [2,0] (aA 0) cV (aX (aa 1) (aq bF (aq bj (aq cA (aa 2) (aq bj (aa 0) (eC (.int 1)))) (aq sy (aa 0) (aa 0))) (eC (.int 26))))))
   (aL (pZ 8 (aa 7) (aX (aa 2) (aq bF (aq bj (aq cA (aa 0) (eC (.int 112))) (aa 5)) (eC (.int 26)))))
   (gG 3 (mJ (eC (.str "")) (aj (aa 8) ao))))) (xs:=gm 0 n.toNat) (ρ:=NE d n (yO (SS [])) none none (zI m) (zI at_) none mu)
   (fun i ρ=>∃ xs o5 o8,ρ=NE d n (yO (SS xs)) none o5 (zI m) (zI at_) o8 mu/\xs=(List.range i).map (nmE l d at_.toNat)) ⟨[],none,none,rfl,rfl⟩ (by
     rintro i x ρ hx ⟨xs,o5,o8,rfl,hl⟩
     have hi:i<n.toNat:=by have:=(List.getElem?_eq_some_iff.mp hx).1; rw [mj] at this; exact this
     obtain ⟨j,rfl,rfl⟩:∃ j:Nat,j=i/\x=.int (0+(j:Int)):=⟨i,rfl,by unfold gm at hx; rw [List.getElem?_map,List.getElem?_range hi] at hx; cases hx; rfl⟩
     have hlx:xs.length=j:=by rw [hl]; simp
     obtain ⟨ch,hch,e⟩:∃ ch,ch=LE (d/112+(0+j))/\o9 (.str LET) (.int ((d/112+(0+j))%26))=yS (.str ⟨#[ch]⟩):=⟨_,rfl,BX _⟩
     obtain ⟨t,rt⟩:∃ t:Str,t=nmE l d at_.toNat j:=⟨_,rfl⟩
     have ej:∀ (fa:EF) (ρ ρ1:Ev) (m:Lc),fa ρ=some (m,ρ1)->m.pv=.lst (ps.set at_.toNat (.str ⟨#[ch]⟩))->mJ (eC (.str "")) (aj fa ao) ρ=some (.sh (.str t),ρ1):=fun fa ρ ρ1 m h hm=>by
      rw [rt]
      rw [hps,Qd,hch] at hm
      exact Eo h hm (by rw [List.length_set,l1]; omega)
     have g1:aK 8 (bO (iG (aj (aa 6) ao)) 1 [2,0] (aA 0) cV (aX (aa 1) (aq bF (aq bj (aq cA (aa 2) (aq bj (aa 0) (eC (.int 1)))) (aq sy (aa 0) (aa 0))) (eC (.int 26))))) (NE d n (yO (SS xs)) none (zI (0+j)) (zI m) (zI at_) o8 mu)=some (.nx (NE d n (yO (SS xs)) none (zI (0+j)) (zI m) (zI at_) (yO ps) mu)):=
      bf ((fO (ρ1:=NE d n (yO (SS xs)) none (zI (0+j)) (zI m) (zI at_) o8 mu) (sI (l:=.sh (.int m)) (n:=m) rfl rfl (by omega) (by omega)) ec).trans rfl) rfl rfl
     have g2:pZ 8 (aa 7) (aX (aa 2) (aq bF (aq bj (aq cA (aa 0) (eC (.int 112))) (aa 5)) (eC (.int 26)))) (NE d n (yO (SS xs)) none (zI (0+j)) (zI m) (zI at_) (yO ps) mu)=some (.nx (NE d n (yO (SS xs)) none (zI (0+j)) (zI m) (zI at_) (yO (ps.set at_.toNat (.str ⟨#[ch]⟩))) mu)):=by
      refine DR (k:=at_) (j:=at_.toNat) (lJ (q:=.int ((d/112+(0+j))%26)) rfl rfl rfl rfl (fun n h=>by cases h) e) rfl rfl rfl rfl rfl ?_ rfl
      unfold pR
      rw [if_pos ha0,if_pos (by omega)]
     refine ⟨_,rfl,NE d n (yO (SS (xs++[t]))) none (zI (0+j)) (zI m) (zI at_) (yL (ps.set at_.toNat (.str ⟨#[ch]⟩))) mu,.inl (aF g1 (aF g2 ((uv rfl (ej (aa 8) _ (NE d n (yO (SS xs)) none (zI (0+j)) (zI m) (zI at_) (yL (ps.set at_.toNat (.str ⟨#[ch]⟩))) mu) (.sh (.lst (ps.set at_.toNat (.str ⟨#[ch]⟩)))) rfl rfl) rfl rfl (by rw [List.length_map]; omega) rfl).trans ?_))),_,_,_,rfl,by rw [rt,hl,List.range_succ,List.map_append]; rfl⟩
     rw [← BZ]
     rfl)
  rw [mj] at hx
  have hnd:xs.Nodup:=by rw [hx]; exact qD fun i j hi hj=>Qc (by omega) i j (by omega) (by omega)
  have hnm2:∀ x∈xs,nameB x=true:=fun x h=>by
   rw [hx] at h
   obtain ⟨k,hk,rfl⟩:=List.mem_map.mp h
   exact Mm (by omega) (by omega) (fun c hc=>by rw [rl] at hc; obtain ⟨i,_,rfl⟩:=List.mem_map.mp hc; exact Ca _) k
  have hx:xs.length=n.toNat:=by rw [hx]; simp
  exact ⟨xs,aQ (ρ:=NE d n none none o5 (zI m) (zI at_) o8 mu) (head _ _ (aF ((di (t1.trans (by rw [h2]))).trans rfl) (aF s6 (aF s7 (aF (jr (rg _ _ _ _ _) ef) rfl))))),hx,hnd,hnm2⟩
theorem jo {b:BF} {body:SF} {x:PV} {xs:List PV} {ρ ρ1 ρ2:Ev} {R:Option Fl} (h1:b x ρ=some ρ1) (h2:body ρ1=some (.nx ρ2)) (h3:dU b body xs ρ2=R):dU b body (x::xs) ρ=R:=by
 show (b x ρ).bind _=R
 rw [h1,Option.bind_some,h2,Option.bind_some]
 exact h3
theorem at0 {p:PV} {t:List PV}:fW (p::t) 0=some p:=by
 obtain ⟨x,h,h2⟩:=vO (l:=p::t) (i:=0) (by decide) (by simp only [List.length_cons]; omega)
 rw [h,← h2]; rfl
theorem uD {α:Type} {l:List α} {p q:α->Bool} (h:∀ x,q x=true->p x=true) {x:α} (hx:x∈l) (h1:p x=true) (h2:q x=false):(l.filter q).length<(l.filter p).length:=by
 induction l with
 | nil=>cases hx
 | cons y ys ih=>
  have hle:∀ ys:List α,(ys.filter q).length<=(ys.filter p).length:=fun ys=>by
   induction ys with
   | nil=>exact Nat.le_refl _
   | cons z zs ihz=>
    rw [List.filter_cons,List.filter_cons]
    cases hq:q z with
    | true=>rw [h z hq]; simp only [if_true,List.length_cons]; omega
    | false=>cases hpz:p z<;>simp only [if_true,Bool.false_eq_true,if_false,List.length_cons]<;>omega
  rw [List.filter_cons,List.filter_cons]
  rcases List.mem_cons.mp hx with rfl | hx
  . rw [h1,h2]
    simp only [if_true,Bool.false_eq_true,if_false,List.length_cons]
    have:=hle ys
    omega
  . have:=ih hx
    cases hq:q y with
    | true=>rw [h y hq]; simp only [if_true,List.length_cons]; omega
    | false=>cases hpy:p y<;>simp only [if_true,Bool.false_eq_true,if_false,List.length_cons]<;>omega
noncomputable def hit (met:List Str) (q:Str×Str):Bool:=has met q.1&&!has met q.2
noncomputable def pass:List (Str×Str)->List Str->Bool->List Str×Bool
 | [],met,g=>(met,g)
 | q::r,met,g=>if hit met q then pass r (met++[q.2]) true else pass r met g
noncomputable def nu (ps:List (Str×Str)):Nat->List Str->List Str
 | 0,met=>met
 | n+1,met=>if (pass ps met false).2 then nu ps n (pass ps met false).1 else (pass ps met false).1
noncomputable def cY (ps:List (Str×Str)) (x:Str):List Str:=nu ps 69 [x]
noncomputable abbrev CE (N P:PV) (l2 l3 o4 o5:Option Lc) (mu:Mu):Ev:=⟨[yS N,yS P,l2,l3,o4,o5],mu⟩
noncomputable abbrev UJ:SF:=dw (nJ (dO (tT (aq gn (aa 4) (aa 2)) aN) (tT (aq ji (aa 5) (aa 2)) aN))) (aL (gG 2 (aa 5)) (aK 3 (eC (.bl true)))) bR
theorem sW:∀ (ps:List (Str×Str)) (met:List Str) (g:Bool),(pass ps met g).1.length<=met.length+ps.length
 | [],met,g=>by simp [pass]
 | q::r,met,g=>by
  unfold pass
  split
  . have:=sW r (met++[q.2]) true
    simp at this ⊢; omega
  . have:=sW r met g
    simp at this ⊢; omega
theorem yu {N P:PV} {mu:Mu}:∀ (ps:List (Str×Str)) (met:List Str) (g:Bool) (o4 o5:Option Lc),met.length+ps.length<=10000->
 ∃ o4' o5',dU (eN 2 (aZ (aA 4) (aZ (aA 5) fu))) UJ (PP ps) (CE N P (yO (SS met)) (yS (.bl g)) o4 o5 mu)=some (.nx (CE N P (yO (SS (pass ps met g).1)) (yS (.bl (pass ps met g).2)) o4' o5' mu))
 | [],met,g,o4,o5,_=>⟨o4,o5,rfl⟩
 | q::r,met,g,o4,o5,hz=>by
  rw [List.length_cons] at hz
  have t1:nJ (dO (tT (aq gn (aa 4) (aa 2)) aN) (tT (aq ji (aa 5) (aa 2)) aN)) (CE N P (yO (SS met)) (yS (.bl g)) (yS (.str q.1)) (yS (.str q.2)) mu)=some (hit met q,CE N P (yO (SS met)) (yS (.bl g)) (yS (.str q.1)) (yS (.str q.2)) mu):=
   vP (pC (bH (aR rfl rfl rfl rfl Ai) rfl rfl) (bH (aR rfl rfl rfl rfl uC) rfl rfl))
  unfold pass
  cases hh:hit met q with
  | true=>
   obtain ⟨a,b,e⟩:=yu r (met++[q.2]) true (yS (.str q.1)) (yS (.str q.2)) (by simp; omega)
   refine ⟨a,b,?_⟩
   rw [if_pos rfl]
   refine jo rfl ((gU (t1.trans (by rw [hh]))).trans (aF (uv (l:=.sh (.str q.2)) rfl rfl rfl rfl (by rw [List.length_map]; omega) rfl) (bf rfl rfl rfl))) ?_
   show dU _ _ _ (CE N P (yO (SS met++[.str q.2])) (yS (.bl true)) (yS (.str q.1)) (yS (.str q.2)) mu)=_
   rw [BZ]
   exact e
  | false=>
   obtain ⟨a,b,e⟩:=yu r met g (yS (.str q.1)) (yS (.str q.2)) (by omega)
   refine ⟨a,b,?_⟩
   rw [if_neg Bool.false_ne_true]
   exact jo rfl ((di (t1.trans (by rw [hh]))).trans rfl) e
theorem lB:∀ (ps:List (Str×Str)) (met:List Str) (g:Bool) (x:Str),x∈met->x∈(pass ps met g).1
 | [],met,g,x,h=>h
 | q::r,met,g,x,h=>by
  unfold pass
  split
  . exact lB r _ _ x (List.mem_append_left _ h)
  . exact lB r _ _ x h
theorem sX {P:Str->Prop}:∀ (ps:List (Str×Str)) (met:List Str) (g:Bool),(∀ q∈ps,P q.1->P q.2)->(∀ x∈met,P x)->∀ x∈(pass ps met g).1,P x
 | [],met,g,_,h=>h
 | q::r,met,g,hq,h=>by
  unfold pass
  split
  . rename_i hh
    refine sX r _ _ (fun q' h'=>hq q' (List.mem_cons_of_mem _ h')) fun x hx=>?_
    rcases List.mem_append.mp hx with hx | hx
    . exact h x hx
    . have e:x=q.2:=by simpa using hx
      subst e
      unfold hit at hh
      rw [Bool.and_eq_true] at hh
      exact hq q List.mem_cons_self (h _ (bD.mp hh.1))
  . exact sX r _ _ (fun q' h'=>hq q' (List.mem_cons_of_mem _ h')) h
theorem nT:∀ (ps:List (Str×Str)) (met:List Str) (g:Bool),met.Nodup->(pass ps met g).1.Nodup
 | [],met,g,h=>h
 | q::r,met,g,h=>by
  unfold pass
  split
  . rename_i hh
    unfold hit at hh
    rw [Bool.and_eq_true] at hh
    have hn:q.2∉met:=iY.mp (by simpa using hh.2)
    refine nT r _ _ (List.nodup_append.mpr ⟨h,by simp,?_⟩)
    rintro a ha b hb e
    have:b=q.2:=by simpa using hb
    subst this e
    exact hn ha
  . exact nT r _ _ h
theorem yw:∀ (ps:List (Str×Str)) (met:List Str),(pass ps met true).2=true
 | [],met=>rfl
 | q::r,met=>by
  unfold pass
  split
  . exact yw r _
  . exact yw r _
theorem Ep:∀ (ps:List (Str×Str)) (met:List Str),(pass ps met false).2=false->(pass ps met false).1=met/\∀ q∈ps,q.1∈met->q.2∈met
 | [],met,_=>⟨rfl,fun q h=>by cases h⟩
 | q::r,met,h=>by
  unfold pass at h ⊢
  split at h
  . rw [yw] at h; cases h
  . rename_i hh
    obtain ⟨h1,h2⟩:=Ep r met h
    rw [if_neg hh]
    refine ⟨h1,fun q' hq' h3=>?_⟩
    rcases List.mem_cons.mp hq' with rfl | hq'
    . refine Decidable.byContradiction fun h4=>hh ?_
      unfold hit
      rw [bD.mpr h3,iY.mpr h4]
      rfl
    . exact h2 q' hq' h3
theorem Ce:∀ (ps:List (Str×Str)) (met:List Str),(pass ps met false).2=true->∃ q∈ps,q.2∉met/\q.2∈(pass ps met false).1
 | [],met,h=>by cases h
 | q::r,met,h=>by
  unfold pass at h ⊢
  split at h
  . rename_i hh
    rw [if_pos hh]
    have hh':=hh
    unfold hit at hh'
    rw [Bool.and_eq_true] at hh'
    exact ⟨q,List.mem_cons_self,iY.mp (by simpa using hh'.2),lB _ _ _ _ (List.mem_append_right _ (by simp))⟩
  . rename_i hh
    rw [if_neg hh]
    obtain ⟨q',h1,h2⟩:=Ce r met h
    exact ⟨q',List.mem_cons_of_mem _ h1,h2⟩
theorem Cg {ps:List (Str×Str)}:∀ (n:Nat) (met:List Str) (x:Str),x∈met->x∈nu ps n met
 | 0,met,x,h=>h
 | n+1,met,x,h=>by
  unfold nu
  split
  . exact Cg n _ x (lB _ _ _ x h)
  . exact lB _ _ _ x h
theorem yx {P:Str->Prop} {ps:List (Str×Str)} (hq:∀ q∈ps,P q.1->P q.2):∀ (n:Nat) (met:List Str),(∀ x∈met,P x)->∀ x∈nu ps n met,P x
 | 0,met,h=>h
 | n+1,met,h=>by
  unfold nu
  split
  . exact yx hq n _ (sX _ _ _ hq h)
  . exact sX _ _ _ hq h
theorem zx {ps:List (Str×Str)}:∀ (n:Nat) (met:List Str),met.Nodup->(nu ps n met).Nodup
 | 0,met,h=>h
 | n+1,met,h=>by
  unfold nu
  split
  . exact zx n _ (nT _ _ _ h)
  . exact nT _ _ _ h
noncomputable abbrev left (ps:List (Str×Str)) (met:List Str):Nat:=(ps.filter fun q=>!has met q.2).length
theorem Er {ps:List (Str×Str)} {met:List Str} (h:(pass ps met false).2=true):left ps (pass ps met false).1<left ps met:=by
 obtain ⟨q,h1,h2,h3⟩:=Ce ps met h
 refine uD (fun x hx=>?_) h1 (by rw [iY.mpr h2]; rfl) (by rw [bD.mpr h3]; rfl)
 have h4:has (pass ps met false).1 x.2=false:=by simpa using hx
 rw [iY.mpr fun z=>iY.mp h4 (lB _ _ _ _ z)]
 rfl
theorem xK {ps:List (Str×Str)}:∀ (n:Nat) (met:List Str),left ps met<n->∀ q∈ps,q.1∈nu ps n met->q.2∈nu ps n met
 | n+1,met,h=>by
  unfold nu
  split
  . rename_i hh
    exact xK n _ (by have:=Er hh; omega)
  . rename_i hh
    have hh':(pass ps met false).2=false:=by simpa using hh
    obtain ⟨h1,h2⟩:=Ep ps met hh'
    rw [h1]
    exact h2
noncomputable abbrev Ci:SF:=aL (aK 3 (eC (.bl false))) (jh (dB (aa 1) bG) (eN 2 (aZ (aA 4) (aZ (aA 5) fu))) UJ)
theorem pM {N:PV} {ps:List (Str×Str)} {mu:Mu}:∀ (n:Nat) (met:List Str) (o4 o5:Option Lc),left ps met<n->met.length+n*ps.length<=10000->
 ∃ o4' o5',jY (tT (aa 3) bY) Ci (n+1) (CE N (.lst (PP ps)) (yO (SS met)) (yS (.bl true)) o4 o5 mu)=some (.nx (CE N (.lst (PP ps)) (yO (SS (nu ps n met))) (yS (.bl false)) o4' o5' mu))
 | n+1,met,o4,o5,hn,hl=>by
  have hp:=sW ps met false
  have e0:(n+1)*ps.length=n*ps.length+ps.length:=Nat.succ_mul _ _
  obtain ⟨a,b,e⟩:=yu (N:=N) (P:=.lst (PP ps)) (mu:=mu) ps met false o4 o5 (by omega)
  have hb:Ci (CE N (.lst (PP ps)) (yO (SS met)) (yS (.bl true)) o4 o5 mu)=some (.nx (CE N (.lst (PP ps)) (yO (SS (pass ps met false).1)) (yS (.bl (pass ps met false).2)) a b mu)):=
   aF (ρ':=CE N (.lst (PP ps)) (yO (SS met)) (yS (.bl false)) o4 o5 mu) (bf rfl rfl rfl) (jr (ρ1:=CE N (.lst (PP ps)) (yO (SS met)) (yS (.bl false)) o4 o5 mu) (gW (l:=.sh (.lst (PP ps))) rfl rfl rfl) e)
  have hw:∀ (k:Nat),jY (tT (aa 3) bY) Ci (k+1) (CE N (.lst (PP ps)) (yO (SS met)) (yS (.bl true)) o4 o5 mu)=jY (tT (aa 3) bY) Ci k (CE N (.lst (PP ps)) (yO (SS (pass ps met false).1)) (yS (.bl (pass ps met false).2)) a b mu):=fun k=>by
   show ((tT (aa 3) bY _).bind _)=_
   rw [show tT (aa 3) bY (CE N (.lst (PP ps)) (yO (SS met)) (yS (.bl true)) o4 o5 mu)=some (true,CE N (.lst (PP ps)) (yO (SS met)) (yS (.bl true)) o4 o5 mu) from rfl,Option.bind_some,if_pos rfl,hb,Option.bind_some]
  unfold nu
  rw [hw]
  split
  . rename_i hh
    rw [hh]
    exact pM n _ a b (by have:=Er hh; omega) (by omega)
  . rename_i hh
    have hh':(pass ps met false).2=false:=by simpa using hh
    rw [hh']
    exact ⟨a,b,rfl⟩
theorem Hj {x:Str} {ps:List (Str×Str)} {mu:Mu} (hl:ps.length<=68):m5 [.str x,.lst (PP ps)] mu=some (.own (.lst (SS (cY ps x))),mu):=by
 obtain ⟨a,b,e⟩:=pM (N:=.str x) (ps:=ps) (mu:=mu) 69 [x] none none (by have:=List.length_filter_le (fun q:Str×Str=>!has [x] q.2) ps; show (ps.filter _).length<69; omega) (by simp; omega)
 exact aQ (ρ:=CE (.str x) (.lst (PP ps)) none (yS (.bl false)) a b mu) (aF (ρ':=CE (.str x) (.lst (PP ps)) (yO (SS [x])) none none none mu) (bf (pD (ls:=[.sh (.str x)]) rfl rfl rfl) rfl rfl) (aF (ρ':=CE (.str x) (.lst (PP ps)) (yO (SS [x])) (yS (.bl true)) none none mu) (bf rfl rfl rfl) (aF e rfl)))
inductive Rt {α:Type} (E:α->α->Prop):α->α->Prop
 | refl (a:α):Rt E a a
 | step {a b c:α}:Rt E a b->E b c->Rt E a c
theorem Rt.trans {α:Type} {E:α->α->Prop} {a b c:α} (h:Rt E a b) (g:Rt E b c):Rt E a c:=by
 induction g with
 | refl=>exact h
 | step _ e ih=>exact ih.step e
theorem Rt.head {α:Type} {E:α->α->Prop} {a b c:α} (e:E a b) (g:Rt E b c):Rt E a c:=Rt.trans (.step (.refl a) e) g
theorem Rt.back {α:Type} {E:α->α->Prop} {a b:α} (h:Rt E a b):Rt (fun x y=>E y x) b a:=by
 induction h with
 | refl=>exact .refl _
 | step _ e ih=>exact .head e ih
theorem lC {ps:List (Str×Str)} {x y:Str} (hl:ps.length<=68):y∈cY ps x ↔ Rt (fun a b=>(a,b)∈ps) x y:=by
 constructor
 . refine yx (P:=fun y=>Rt (fun a b=>(a,b)∈ps) x y) (fun q hq h=>h.step hq) 69 [x] (fun z hz=>?_) y
   have:z=x:=by simpa using hz
   subst this
   exact .refl _
 . intro h
   induction h with
   | refl=>exact Cg 69 [x] x (by simp)
   | step _ e ih=>exact xK 69 [x] (by have:=List.length_filter_le (fun q:Str×Str=>!has [x] q.2) ps; show (ps.filter _).length<69; omega) _ e ih
theorem zy {ps:List (Str×Str)} {x:Str}:(cY ps x).Nodup:=zx 69 [x] (by simp)
theorem Es {ps:List (Str×Str)} {x:Str} (hl:ps.length<=68):(cY ps x).length<=10000:=by
 have:∀ (n:Nat) (met:List Str),(nu ps n met).length<=met.length+n*ps.length:=by
  intro n
  induction n with
  | zero=>intro met; simp [nu]
  | succ n ih=>
   intro met
   have e0:(n+1)*ps.length=n*ps.length+ps.length:=Nat.succ_mul _ _
   have hp:=sW ps met false
   unfold nu
   split
   . have:=ih (pass ps met false).1
     omega
   . omega
 have:=this 69 [x]
 simp only [List.length_singleton] at this
 unfold cY
 omega
theorem Et {α β:Type}:∀ l:List (α×β),(l.map (·.1)).zip (l.map (·.2))=l
 | []=>rfl
 | x::l=>by rw [List.map_cons,List.map_cons,List.zip_cons_cons,Et l]
theorem Qf {i:Nat} {fi fv:EF} {ρ ρ1 ρ2 ρ':Ev} {x y:Lc} {p:PV} {k:Key} {l0 l:PD} (h:fv ρ=some (x,ρ1)) (hxp:x.pv=p) (h0:ρ1.vs[i]?=some (some (.own (lK l0)))) (h2:fi ρ1=some (y,ρ2)) (hy:yf y.pv=some k) (h1:ρ2.vs[i]?=some (some (.own (lK l)))) (hl:l.length<100000) (e:ρ2.set i (some (.own (lK (sJ l k p))))=ρ'):wX i fi fv ρ=some (.nx ρ'):=by
 unfold wX
 rw [h,Option.bind_some]
 dsimp only
 rw [h0]
 unfold lK at *
 dsimp only
 rw [h2,Option.bind_some]
 dsimp only
 rw [hy,h1]
 dsimp only
 rw [List.length_map,if_pos hl,Et,hxp]
 rw [← e]
theorem Qg {i:Nat} {fi:AF} {fv:EF} {ρ ρ1 ρ2 ρ':Ev} {x:Lc} {ys:List Lc} {p:PV} {k:List Key} {l0 l:iZ} (h:fv ρ=some (x,ρ1)) (hxp:x.pv=p) (h0:ρ1.vs[i]?=some (some (.own (iI l0)))) (h2:fi ρ1=some (ys,ρ2)) (hy:Ag (ys.map Lc.pv)=some k) (h1:ρ2.vs[i]?=some (some (.own (iI l)))) (hl:l.length<100000) (hk:k.length<=1000) (e:ρ2.set i (some (.own (iI (pH l k p))))=ρ'):w5 i fi fv ρ=some (.nx ρ'):=by
 unfold w5
 rw [h,Option.bind_some]
 dsimp only
 rw [h0]
 unfold iI at *
 dsimp only
 rw [h2,Option.bind_some]
 dsimp only
 rw [hy,h1]
 dsimp only
 rw [List.length_map,if_pos ⟨hl,hk⟩,Et,hxp]
 rw [← e]
theorem xM {fa fb:EF} {ρ ρ1 ρ2:Ev} {l m:Lc} {d:PD} {x:Str} {p:PV} (h1:fa ρ=some (l,ρ1)) (hx:l.pv=.df (d.map (·.1)) (d.map (·.2))) (h2:fb ρ1=some (m,ρ2)) (hy:m.pv=.str x) (h3:kI d (.inr x)=some p):jt fa fb ρ=some (.sh p,ρ2):=by
 unfold jt
 rw [h1,Option.bind_some,h2,Option.bind_some]
 dsimp only
 rw [hx,hy]
 show (some (Sum.inr x:Key)).bind _=_
 rw [Option.bind_some,Et,h3]
 rfl
noncomputable abbrev ab (ps:List (Str×Str)) (x:Str):Key×PV:=(.inr x,.lst (SS (cY ps x)))
noncomputable abbrev iw (ps:List (Str×Str)) (l:List Str):PD:=l.map (ab ps)
theorem JZ {ps:List (Str×Str)} {x:Str}:∀ {l:List Str},x∉l->kI (iw ps l) (.inr x)=none
 | [],_=>rfl
 | y::l,h=>by
  show (if (Sum.inr y:Key)=.inr x then _ else _)=_
  rw [if_neg (fun e=>h (by cases e; exact List.mem_cons_self))]
  exact JZ fun z=>h (List.mem_cons_of_mem _ z)
theorem rB {ps:List (Str×Str)} {x:Str}:∀ {l:List Str},x∈l->kI (iw ps l) (.inr x)=some (.lst (SS (cY ps x)))
 | y::l,h=>by
  show (if (Sum.inr y:Key)=.inr x then _ else _)=_
  by_cases e:y=x
  . subst e
    rw [if_pos rfl]
  . rw [if_neg (fun e'=>e (by cases e'; rfl))]
    rcases List.mem_cons.mp h with h | h
    . exact absurd h.symm e
    . exact rB h
noncomputable abbrev AE (N P:PV) (l2 o3:Option Lc) (mu:Mu):Ev:=⟨[yS N,yS P,l2,o3],mu⟩
theorem xN {N:PV} {ps:List (Str×Str)} {mu:Mu} (hp:ps.length<=68):∀ (xs dn:List Str) (o3:Option Lc),(dn++xs).Nodup->dn.length+xs.length<=1000->
 ∃ o3',dU (aA 3) (wX 2 (aa 3) (aG m5 (aj (aa 3) (aj (aa 1) ao)))) (SS xs) (AE N (.lst (PP ps)) (some (.own (lK (iw ps dn)))) o3 mu)=some (.nx (AE N (.lst (PP ps)) (some (.own (lK (iw ps (dn++xs))))) o3' mu))
 | [],dn,o3,_,_=>⟨o3,by rw [List.append_nil]; rfl⟩
 | x::xs,dn,o3,hd,hl=>by
  rw [List.length_cons] at hl
  have hx:x∉dn:=fun h=>(List.nodup_append.mp hd).2.2 x h x List.mem_cons_self rfl
  obtain ⟨a,e⟩:=xN hp (N:=N) (mu:=mu) xs (dn++[x]) (zT x) (by rw [List.append_assoc]; exact hd) (by simp; omega)
  refine ⟨a,?_⟩
  rw [List.append_assoc] at e
  refine jo (ρ1:=AE N (.lst (PP ps)) (some (.own (lK (iw ps dn)))) (zT x) mu) rfl (Qf (k:=.inr x) (l0:=iw ps dn) (l:=iw ps dn) (aP (r:=.own (.lst (SS (cY ps x)))) (mu:=mu) (au rfl (au rfl rfl)) rfl rfl rfl (Hj hp)) rfl rfl rfl rfl rfl (by rw [List.length_map]; omega) rfl) ?_
  have e2:sJ (iw ps dn) (.inr x) (.lst (SS (cY ps x)))=iw ps (dn++[x]):=by
   unfold sJ
   rw [JZ hx]
   show iw ps dn++[ab ps x]=List.map (ab ps) (dn++[x])
   rw [List.map_append]
   rfl
  show dU _ _ _ (AE N (.lst (PP ps)) (some (.own (lK (sJ (iw ps dn) (.inr x) (.lst (SS (cY ps x))))))) (zT x) mu)=_
  rw [e2]
  exact e
theorem pN {names:List Str} {ps:List (Str×Str)} {mu:Mu} (hp:ps.length<=68) (hd:names.Nodup) (hl:names.length<=1000):cZ [.lst (SS names),.lst (PP ps)] mu=some (.own (lK (iw ps names)),mu):=by
 obtain ⟨a,e⟩:=xN hp (N:=.lst (SS names)) (mu:=mu) names [] none hd (by simpa using hl)
 exact aQ (ρ:=AE (.lst (SS names)) (.lst (PP ps)) none a mu) (aF (ρ':=AE (.lst (SS names)) (.lst (PP ps)) (some (.own (lK (iw ps [])))) none mu) (bf rfl rfl rfl) (aF (jr (ρ1:=AE (.lst (SS names)) (.lst (PP ps)) (some (.own (lK (iw ps [])))) none mu) (gW (l:=wS names) rfl rfl rfl) e) rfl))
noncomputable abbrev iy (ps:List (Str×Str)):List (Str×Str):=ps.map fun q=>(q.2,q.1)
theorem rC {names:List Str} {ps:List (Str×Str)} {mu:Mu} (hp:ps.length<=68) (hd:names.Nodup) (hl:names.length<=1000):cD [.lst (SS names),.lst (PP ps)] mu=some (.own (lK (iw (iy ps) names)),mu):=by
 have c:gP (eN 2 (aZ (aA 0) (aZ (aA 1) fu))) cV (cz (aj (aa 1) (aj (aa 0) ao))) (PP ps) ⟨[none,none],mu⟩ []=some (PP (iy ps),mu):=by
  have:=kY (b:=eN 2 (aZ (aA 0) (aZ (aA 1) fu))) (te:=cz (aj (aa 1) (aj (aa 0) ao))) (mu:=mu) (fun ρ=>∃ o p,ρ=⟨[o,p],mu⟩) (fun ρ ⟨o,p,e⟩=>by rw [e]) (fun p=>match p with | .tup [a,b]=>.tup [b,a] | _=>.non) (xs:=PP ps) (ρ:=⟨[none,none],mu⟩) ⟨none,none,rfl⟩ (by rw [List.length_map]; omega) (by
   rintro x hx ρ ⟨o,p,rfl⟩
   obtain ⟨⟨a,b⟩,_,rfl⟩:=List.mem_map.mp hx
   exact ⟨⟨[zT a,zT b],mu⟩,rfl,.sh (.tup [.str b,.str a]),⟨[zT a,zT b],mu⟩,jZ (ls:=[.sh (.str b),.sh (.str a)]) rfl rfl rfl,rfl,_,_,rfl⟩) (by
   rintro x hx ρ ρ1 ⟨o,p,rfl⟩ e
   obtain ⟨⟨a,b⟩,_,rfl⟩:=List.mem_map.mp hx
   cases e
   exact ⟨_,_,rfl⟩)
  rw [this]
  unfold PP iy
  rw [List.map_map,List.map_map]
  rfl
 refine aQ (ρ:=⟨[zS names,zP ps],mu⟩) (jq (aP (ls:=[wS names,.own (.lst (PP (iy ps)))]) (ps:=[.lst (SS names),.lst (PP (iy ps))]) (mu:=mu) (au (ρ1:=⟨[zS names,zP ps],mu⟩) rfl (au (l:=.own (.lst (PP (iy ps)))) (ls:=[]) ((fO (ρ1:=⟨[zS names,zP ps],mu⟩) (gW (l:=.sh (.lst (PP ps))) rfl rfl rfl) c).trans rfl) rfl)) rfl rfl rfl (pN (by rw [List.length_map]; exact hp) hd hl)))
theorem J0 {α:Type} {f:α->Bool}:∀ l:List α,RP (.lst (l.map fun x=>.bl (f x)))=yS (.bl (l.all f)):=by
 intro l
 have h:∀ l:List α,boolsOf (l.map fun x=>PV.bl (f x))=some (l.map f):=by
  intro l
  induction l with
  | nil=>rfl
  | cons x l ih=>
   show (boolsOf (l.map fun x=>PV.bl (f x))).map _=_
   rw [ih]
   rfl
 show (boolsOf (l.map fun x=>PV.bl (f x))).map _=_
 rw [h,Option.map_some,List.all_map]
 rfl
noncomputable abbrev DF (ps:List (Str×Str)) (names:List Str):PV:=.df ((iw ps names).map (·.1)) ((iw ps names).map (·.2))
noncomputable def shd (ps:List (Str×Str)) (a b:Str):List Str:=(cY ps a).filter (has (cY ps b))
noncomputable def good (ps:List (Str×Str)) (a b r:Str):Bool:=(shd ps a b).all (has (cY ps r))
noncomputable def bnd (ps:List (Str×Str)) (a b:Str):PV:=match (shd ps a b).find? (good ps a b) with
 | some r=>.str r
 | none=>.non
noncomputable abbrev BE (D A B:PV) (l3 o4:Option Lc) (mu:Mu):Ev:=⟨[yS D,yS A,yS B,l3,o4],mu⟩
theorem m6 {ps:List (Str×Str)} {names:List Str} (hc:∀ q∈ps,q.2∈names) {a x:Str} (ha:a∈names):x∈cY ps a->x∈names:=by
 refine yx (P:=fun y=>y∈names) (fun q hq _=>hc q hq) 69 [a] (fun z hz=>?_) x
 have:z=a:=by simpa using hz
 subst this
 exact ha
noncomputable abbrev NT:SF:=dw (tT (eB all1 (aj (bO (dB (aa 3) bG) 1 [0,4] (aA 0) cV (aq gn (aa 0) (jt (aa 1) (aa 2)))) ao)) bY) (gB 4) bR
theorem J1 {b:BF} {body:SF} {x:PV} {xs:List PV} {ρ ρ1 ρ2:Ev} {r:Lc} (h1:b x ρ=some ρ1) (h2:body ρ1=some (.rt r ρ2)):dU b body (x::xs) ρ=some (.rt r ρ2):=by
 show (b x ρ).bind _=_
 rw [h1,Option.bind_some,h2,Option.bind_some]
theorem xO {ps:List (Str×Str)} {names:List Str} {a b:Str} {mu:Mu} (hl:(shd ps a b).length<=10000):∀ (xs:List Str) (o4:Option Lc),(∀ x∈xs,x∈names)->
 (match xs.find? (good ps a b) with
   | some r=>∃ ρ',dU (aA 4) NT (SS xs) (BE (DF ps names) (.str a) (.str b) (zS (shd ps a b)) o4 mu)=some (.rt (.sh (.str r)) ρ')/\ρ'.mu=mu
   | none=>∃ o4',dU (aA 4) NT (SS xs) (BE (DF ps names) (.str a) (.str b) (zS (shd ps a b)) o4 mu)=some (.nx (BE (DF ps names) (.str a) (.str b) (zS (shd ps a b)) o4' mu)))
 | [],o4,_=>⟨o4,rfl⟩
 | x::xs,o4,hx=>by
  have c:gP (aA 0) cV (aq gn (aa 0) (jt (aa 1) (aa 2))) (SS (shd ps a b)) ⟨[none,yS (DF ps names),zT x],mu⟩ []=some ((shd ps a b).map fun y=>.bl (has (cY ps x) y),mu):=by
   have:=kY (b:=aA 0) (te:=aq gn (aa 0) (jt (aa 1) (aa 2))) (mu:=mu) (fun ρ=>∃ o,ρ=⟨[o,yS (DF ps names),zT x],mu⟩) (fun ρ ⟨o,e⟩=>by rw [e]) (fun p=>match p with | .str y=>.bl (has (cY ps x) y) | _=>.non) (xs:=SS (shd ps a b)) (ρ:=⟨[none,yS (DF ps names),zT x],mu⟩) ⟨none,rfl⟩ (by rw [List.length_map]; omega) (by
    rintro z hz ρ ⟨o,rfl⟩
    obtain ⟨y,_,rfl⟩:=List.mem_map.mp hz
    exact ⟨⟨[zT y,yS (DF ps names),zT x],mu⟩,rfl,_,_,aR rfl rfl (xM (d:=iw ps names) rfl rfl rfl rfl (rB (hx x List.mem_cons_self))) rfl Ai,rfl,_,rfl⟩) (by
    rintro z hz ρ ρ1 ⟨o,rfl⟩ e
    cases e
    exact ⟨_,rfl⟩)
   rw [this,List.map_map]
   rfl
  have t1:tT (eB all1 (aj (bO (dB (aa 3) bG) 1 [0,4] (aA 0) cV (aq gn (aa 0) (jt (aa 1) (aa 2)))) ao)) bY (BE (DF ps names) (.str a) (.str b) (zS (shd ps a b)) (zT x) mu)=some (good ps a b x,BE (DF ps names) (.str a) (.str b) (zS (shd ps a b)) (zT x) mu):=
   bH (LK (ls:=[.own (.lst ((shd ps a b).map fun y=>.bl (has (cY ps x) y)))]) (au ((fO (ρ1:=BE (DF ps names) (.str a) (.str b) (zS (shd ps a b)) (zT x) mu) (gW (l:=wS (shd ps a b)) rfl rfl rfl) c).trans rfl) rfl) rfl (J0 (f:=has (cY ps x)) (shd ps a b))) rfl rfl
  rw [List.find?_cons]
  cases hg:good ps a b x with
  | true=>
   obtain ⟨ρ',e1,e2⟩:∃ ρ',gB 4 (BE (DF ps names) (.str a) (.str b) (zS (shd ps a b)) (zT x) mu)=some (.rt (.sh (.str x)) ρ')/\ρ'.mu=mu:=⟨_,rfl,rfl⟩
   exact ⟨ρ',J1 rfl ((gU (t1.trans (by rw [hg]))).trans e1),e2⟩
  | false=>
   have ih:=xO (ps:=ps) (names:=names) (a:=a) (b:=b) (mu:=mu) hl xs (zT x) fun y hy=>hx y (List.mem_cons_of_mem _ hy)
   dsimp only
   have e:dU (aA 4) NT (SS (x::xs)) (BE (DF ps names) (.str a) (.str b) (zS (shd ps a b)) o4 mu)=dU (aA 4) NT (SS xs) (BE (DF ps names) (.str a) (.str b) (zS (shd ps a b)) (zT x) mu):=jo rfl ((di (t1.trans (by rw [hg]))).trans rfl) rfl
   rw [e]
   exact ih
theorem Mq {ps:List (Str×Str)} {names:List Str} {a b:Str} {mu:Mu} (hp:ps.length<=68) (hc:∀ q∈ps,q.2∈names) (ha:a∈names) (hb:b∈names):oA [DF ps names,.str a,.str b] mu=some (.sh (bnd ps a b),mu):=by
 have hl:(shd ps a b).length<=10000:=Nat.le_trans (List.length_filter_le _ _) (Es hp)
 have c:gP (aA 0) (tT (aq gn (aa 0) (jt (aa 1) (aa 2))) aN) (aa 0) (SS (cY ps a)) ⟨[none,yS (DF ps names),zT b],mu⟩ []=some (SS (shd ps a b),mu):=by
  have:=jN (b:=aA 0) (tc:=tT (aq gn (aa 0) (jt (aa 1) (aa 2))) aN) (te:=aa 0) (mu:=mu) (fun ρ=>∃ o,ρ=⟨[o,yS (DF ps names),zT b],mu⟩) (fun ρ ⟨o,e⟩=>by rw [e]) (fun p=>match p with | .str y=>has (cY ps b) y | _=>false) (fun p=>p) (xs:=SS (cY ps a)) (ρ:=⟨[none,yS (DF ps names),zT b],mu⟩) (acc:=[]) ⟨none,rfl⟩ (by have:=Es (x:=a) hp; simp; omega) (by
   rintro z hz ρ ⟨o,rfl⟩
   obtain ⟨y,_,rfl⟩:=List.mem_map.mp hz
   exact ⟨⟨[zT y,yS (DF ps names),zT b],mu⟩,rfl,_,bH (aR rfl rfl (xM (d:=iw ps names) rfl rfl rfl rfl (rB hb)) rfl Ai) rfl rfl,⟨_,rfl⟩,fun _=>⟨_,_,rfl,rfl,_,rfl⟩⟩)
  rw [this,List.nil_append,List.filter_map,List.map_map]
  rfl
 have s3:aK 3 (bO (dB (jt (aa 0) (aa 1)) bG) 1 [0,2] (aA 0) (tT (aq gn (aa 0) (jt (aa 1) (aa 2))) aN) (aa 0)) (BE (DF ps names) (.str a) (.str b) none none mu)=some (.nx (BE (DF ps names) (.str a) (.str b) (yO (SS (shd ps a b))) none mu)):=
  bf ((fO (ρ1:=BE (DF ps names) (.str a) (.str b) none none mu) (gW (l:=wS (cY ps a)) (xM (d:=iw ps names) rfl rfl rfl rfl (rB ha)) rfl rfl) c).trans rfl) rfl rfl
 have lp:=xO (ps:=ps) (names:=names) (a:=a) (b:=b) (mu:=mu) hl (shd ps a b) none fun x hx=>m6 hc ha (List.mem_filter.mp hx).1
 have it:dB (aa 3) bG (BE (DF ps names) (.str a) (.str b) (yO (SS (shd ps a b))) none mu)=some (SS (shd ps a b),BE (DF ps names) (.str a) (.str b) (zS (shd ps a b)) none mu):=gW (l:=wS (shd ps a b)) rfl rfl rfl
 unfold bnd
 cases hf:(shd ps a b).find? (good ps a b) with
 | some r=>
  rw [hf] at lp
  obtain ⟨ρ',e,hm⟩:=lp
  have:oA [DF ps names,.str a,.str b] mu=some (.sh (.str r),ρ'.mu):=aQ (ρ:=ρ') (aF s3 (iH (jr it e)))
  rw [hm] at this
  exact this
 | none=>
  rw [hf] at lp
  obtain ⟨o4,e⟩:=lp
  exact aQ (ρ:=BE (DF ps names) (.str a) (.str b) (zS (shd ps a b)) o4 mu) (aF s3 (aF (jr it e) rfl))
noncomputable abbrev en (ps:List (Str×Str)) (a b:Str):List Key×PV:=([.inr a,.inr b],bnd ps a b)
noncomputable def Tb (ps:List (Str×Str)) (names:List Str) (l:iZ):Prop:=∀ e∈l,∃ a∈names,∃ b∈names,e=en ps a b
theorem Cj {k:List Key} {p:PV}:∀ {l:iZ},pG l k=some p->(k,p)∈l
 | kv::r,h=>by
  unfold pG at h
  split at h
  . rename_i e
    cases h
    subst e
    exact List.mem_cons_self
  . exact List.mem_cons_of_mem _ (Cj h)
theorem Ck {k:List Key} {p:PV}:∀ {l:iZ},(∀ e∈l,e.1=k->e.2=p)->wZ k p l=l
 | [],_=>rfl
 | kv::r,h=>by
  unfold wZ
  rw [Ck fun e he=>h e (List.mem_cons_of_mem _ he)]
  by_cases e:kv.1=k
  . rw [if_pos e]
    have:=h kv List.mem_cons_self e
    rw [← this]
  . rw [if_neg e]
theorem Qh {ps:List (Str×Str)} {names:List Str} {l:iZ} {a b:Str} (h:Tb ps names l) (ha:a∈names) (hb:b∈names):Tb ps names (pH l [.inr a,.inr b] (bnd ps a b))/\en ps a b∈pH l [.inr a,.inr b] (bnd ps a b)/\(∀ e∈l,e∈pH l [.inr a,.inr b] (bnd ps a b))/\(pH l [.inr a,.inr b] (bnd ps a b)).length<=l.length+1:=by
 have hv:∀ e∈l,e.1=[.inr a,.inr b]->e.2=bnd ps a b:=by
  intro e he e1
  obtain ⟨a',_,b',_,rfl⟩:=h e he
  cases e1
  rfl
 unfold pH
 cases hh:pG l [.inr a,.inr b] with
 | some p=>
  have hm:=Cj hh
  have hp:=hv _ hm rfl
  dsimp only at hp ⊢
  subst hp
  rw [Ck hv]
  exact ⟨h,hm,fun e he=>he,by omega⟩
 | none=>
  dsimp only
  refine ⟨fun e he=>?_,List.mem_append_right _ (by simp),fun e he=>List.mem_append_left _ he,by simp⟩
  rcases List.mem_append.mp he with he | he
  . exact h e he
  . have:e=en ps a b:=by simpa using he
    exact ⟨a,ha,b,hb,this⟩
noncomputable abbrev BB (D:PV) (l1 o2 o3:Option Lc) (mu:Mu):Ev:=⟨[yS D,l1,o2,o3],mu⟩
noncomputable abbrev UL:SF:=w5 1 (aj (aa 2) (aj (aa 3) ao)) (aG oA (aj (aa 0) (aj (aa 2) (aj (aa 3) ao))))
theorem zA {ps:List (Str×Str)} {names:List Str} {a:Str} {mu:Mu} (hp:ps.length<=68) (hc:∀ q∈ps,q.2∈names) (ha:a∈names):∀ (xs:List Str) (l:iZ) (o3:Option Lc),(∀ x∈xs,x∈names)->Tb ps names l->l.length+xs.length<=10000->
 ∃ l' o3',dU (aA 3) UL (SS xs) (BB (DF ps names) (some (.own (iI l))) (zT a) o3 mu)=some (.nx (BB (DF ps names) (some (.own (iI l'))) (zT a) o3' mu))/\Tb ps names l'/\(∀ e∈l,e∈l')/\(∀ x∈xs,en ps a x∈l')/\l'.length<=l.length+xs.length
 | [],l,o3,_,h,_=>⟨l,o3,rfl,h,fun e he=>he,fun x hx=>(by cases hx),by simp⟩
 | x::xs,l,o3,hx,h,hl=>by
  rw [List.length_cons] at hl
  obtain ⟨h1,h2,h3,h4⟩:=Qh h ha (hx x List.mem_cons_self)
  obtain ⟨l',o',e,h5,h6,h7,h8⟩:=zA hp hc ha (mu:=mu) xs _ (zT x) (fun y hy=>hx y (List.mem_cons_of_mem _ hy)) h1 (by omega)
  refine ⟨l',o',?_,h5,fun e he=>h6 e (h3 e he),fun y hy=>?_,by rw [List.length_cons]; omega⟩
  . refine jo (ρ1:=BB (DF ps names) (some (.own (iI l))) (zT a) (zT x) mu) rfl (Qg (k:=[.inr a,.inr x]) (l0:=l) (l:=l) (aP (r:=.sh (bnd ps a x)) (mu:=mu) (au rfl (au rfl (au rfl rfl))) rfl rfl rfl (Mq hp hc ha (hx x List.mem_cons_self))) rfl rfl (au rfl (au rfl rfl)) rfl rfl (by omega) (by show 2<=1000; decide) rfl) ?_
    exact e
  . rcases List.mem_cons.mp hy with rfl | hy
    . exact h6 _ h2
    . exact h7 y hy
theorem Eu {ps:List (Str×Str)} {names:List Str} {l1 o2 o3:Option Lc} {mu:Mu}:Jz (aa 0) (BB (DF ps names) l1 o2 o3 mu)=some (SS names,BB (DF ps names) l1 o2 o3 mu):=by
 have e:(((iw ps names).map (·.1)).map vy)=SS names:=by
  unfold iw
  rw [List.map_map,List.map_map]
  rfl
 show some (((iw ps names).map (·.1)).map vy,BB (DF ps names) l1 o2 o3 mu)=_
 rw [e]
theorem xP {ps:List (Str×Str)} {names:List Str} {mu:Mu} (hp:ps.length<=68) (hc:∀ q∈ps,q.2∈names) (hn:names.length<=50):∀ (xs:List Str) (l:iZ) (o2 o3:Option Lc),(∀ x∈xs,x∈names)->Tb ps names l->l.length+xs.length*names.length<=10000->
 ∃ l' o2' o3',dU (aA 2) (jh (Jz (aa 0)) (aA 3) UL) (SS xs) (BB (DF ps names) (some (.own (iI l))) o2 o3 mu)=some (.nx (BB (DF ps names) (some (.own (iI l'))) o2' o3' mu))/\Tb ps names l'/\(∀ e∈l,e∈l')/\(∀ x∈xs,∀ y∈names,en ps x y∈l')/\l'.length<=l.length+xs.length*names.length
 | [],l,o2,o3,_,h,_=>⟨l,o2,o3,rfl,h,fun e he=>he,fun x hx=>(by cases hx),by simp⟩
 | x::xs,l,o2,o3,hx,h,hl=>by
  have e0:(xs.length+1)*names.length=xs.length*names.length+names.length:=Nat.succ_mul _ _
  rw [List.length_cons,e0] at hl
  obtain ⟨l1,o1,e1,h1,h2,h3,h4⟩:=zA hp hc (hx x List.mem_cons_self) (mu:=mu) names l o3 (fun y hy=>hy) h (by omega)
  obtain ⟨l',o',o'',e,h5,h6,h7,h8⟩:=xP hp hc hn (mu:=mu) xs l1 (zT x) o1 (fun y hy=>hx y (List.mem_cons_of_mem _ hy)) h1 (by omega)
  refine ⟨l',o',o'',?_,h5,fun e he=>h6 e (h2 e he),fun y hy z hz=>?_,by rw [List.length_cons,e0]; omega⟩
  . exact jo (ρ1:=BB (DF ps names) (some (.own (iI l))) (zT x) o3 mu) rfl (jr Eu e1) e
  . rcases List.mem_cons.mp hy with rfl | hy
    . exact h6 _ (h3 z hz)
    . exact h7 y hy z hz
theorem uE {ps:List (Str×Str)} {names:List Str} {mu:Mu} (hp:ps.length<=68) (hc:∀ q∈ps,q.2∈names) (hn:names.length<=50):∃ l,ir [DF ps names] mu=some (.own (iI l),mu)/\Tb ps names l/\∀ x∈names,∀ y∈names,en ps x y∈l:=by
 have hh:names.length*names.length<=50*50:=Nat.mul_le_mul hn hn
 obtain ⟨l,o2,o3,e,h1,h2,h3,h4⟩:=xP hp hc hn (mu:=mu) names [] none none (fun y hy=>hy) (fun e he=>(by cases he)) (by simp; omega)
 refine ⟨l,?_,h1,h3⟩
 exact aQ (ρ:=BB (DF ps names) none o2 o3 mu) (aF (ρ':=BB (DF ps names) (some (.own (iI []))) none none mu) (bf rfl rfl rfl) (aF (jr Eu e) rfl))
noncomputable abbrev Ew (e:List Key×PV):PV:=.tup [.tup (e.1.map vy),e.2]
theorem zB:∀ l:iZ,mX (l.map (·.1)) (l.map (·.2))=l.map Ew
 | []=>rfl
 | x::l=>by
  show PV.tup [.tup (x.1.map vy),x.2]::mX (l.map (·.1)) (l.map (·.2))=_
  rw [zB l]
  rfl
theorem J2 {ps:List (Str×Str)} {a b:Str}:(rZ (bnd ps a b)=true/\bnd ps a b=.non)\/(rZ (bnd ps a b)=false/\bnd ps a b≠.non):=by
 unfold bnd
 split
 . exact .inr ⟨rfl,fun h=>by cases h⟩
 . exact .inl ⟨rfl,rfl⟩
noncomputable abbrev UE (D:PV) (o1 o2:Option Lc) (mu:Mu):Ev:=⟨[yS D,o1,o2],mu⟩
noncomputable abbrev NZ:SF:=dw (tT (aq Gy (aa 2) (eC .non)) aN) (gB 1) bR
theorem uF {ps:List (Str×Str)} {names:List Str} {D:PV} {mu:Mu}:∀ (l:iZ) (o1 o2:Option Lc),Tb ps names l->
 (∃ o1' o2',dU (eN 2 (aZ (aA 1) (aZ (aA 2) fu))) NZ (l.map Ew) (UE D o1 o2 mu)=some (.nx (UE D o1' o2' mu))/\∀ e∈l,e.2≠.non)\/
 (∃ ρ' a b,dU (eN 2 (aZ (aA 1) (aZ (aA 2) fu))) NZ (l.map Ew) (UE D o1 o2 mu)=some (.rt (.sh (.tup [.str a,.str b])) ρ')/\ρ'.mu=mu/\a∈names/\b∈names/\bnd ps a b=.non)
 | [],o1,o2,_=>.inl ⟨o1,o2,rfl,fun e he=>(by cases he)⟩
 | e::l,o1,o2,h=>by
  obtain ⟨a,ha,b,hb,rfl⟩:=h e List.mem_cons_self
  have t1:tT (aq Gy (aa 2) (eC .non)) aN (UE D (yS (.tup [.str a,.str b])) (yS (bnd ps a b)) mu)=some (rZ (bnd ps a b),UE D (yS (.tup [.str a,.str b])) (yS (bnd ps a b)) mu):=bH (l:=.sh (.bl (rZ (bnd ps a b)))) (aR rfl rfl rfl rfl rfl) rfl rfl
  rcases J2 (ps:=ps) (a:=a) (b:=b) with ⟨hb1,hz⟩ | ⟨hb1,hz⟩
  . rw [hb1] at t1
    obtain ⟨ρ',e1,e2⟩:∃ ρ',gB 1 (UE D (yS (.tup [.str a,.str b])) (yS (bnd ps a b)) mu)=some (.rt (.sh (.tup [.str a,.str b])) ρ')/\ρ'.mu=mu:=⟨_,rfl,rfl⟩
    exact .inr ⟨ρ',a,b,J1 rfl ((gU t1).trans e1),e2,ha,hb,hz⟩
  . rw [hb1] at t1
    have e1:dU (eN 2 (aZ (aA 1) (aZ (aA 2) fu))) NZ ((en ps a b::l).map Ew) (UE D o1 o2 mu)=dU (eN 2 (aZ (aA 1) (aZ (aA 2) fu))) NZ (l.map Ew) (UE D (yS (.tup [.str a,.str b])) (yS (bnd ps a b)) mu):=jo rfl ((di t1).trans rfl) rfl
    rw [e1]
    rcases uF (D:=D) (mu:=mu) l (yS (.tup [.str a,.str b])) (yS (bnd ps a b)) (fun e he=>h e (List.mem_cons_of_mem _ he)) with ⟨p,q,h1,h2⟩ | r
    . refine .inl ⟨p,q,h1,fun e he=>?_⟩
      rcases List.mem_cons.mp he with rfl | he
      . exact hz
      . exact h2 e he
    . exact .inr r
theorem xQ {ps:List (Str×Str)} {names:List Str} {mu:Mu} (hp:ps.length<=68) (hc:∀ q∈ps,q.2∈names) (hn:names.length<=50):
 (fD [DF ps names] mu=some (.sh .non,mu)/\∀ a∈names,∀ b∈names,bnd ps a b≠.non)\/∃ a∈names,∃ b∈names,fD [DF ps names] mu=some (.sh (.tup [.str a,.str b]),mu)/\bnd ps a b=.non:=by
 obtain ⟨l,e,h1,h2⟩:=uE (mu:=mu) hp hc hn
 have it:GR (GK (aG ir (aj (aa 0) ao))) (UE (DF ps names) none none mu)=some (l.map Ew,UE (DF ps names) none none mu):=by
  have e1:aG ir (aj (aa 0) ao) (UE (DF ps names) none none mu)=some (.own (iI l),UE (DF ps names) none none mu):=aP (au rfl rfl) rfl rfl rfl e
  unfold GR GK
  rw [e1]
  show (if (l.map (·.2)).length=(l.map (·.1)).length then some (mX (l.map (·.1)) (l.map (·.2)),UE (DF ps names) none none mu) else none)=_
  rw [if_pos (by simp),zB]
 rcases uF (D:=DF ps names) (mu:=mu) l none none h1 with ⟨o1,o2,h3,h4⟩ | ⟨ρ',a,b,h3,h4,ha,hb,h5⟩
 . exact .inl ⟨aQ (ρ:=UE (DF ps names) o1 o2 mu) (aF (jr it h3) rfl),fun a ha b hb=>h4 _ (h2 a ha b hb)⟩
 . refine .inr ⟨a,ha,b,hb,?_,h5⟩
   have:fD [DF ps names] mu=some (.sh (.tup [.str a,.str b]),ρ'.mu):=aQ (iH (jr it h3))
   rw [h4] at this
   exact this
noncomputable def SM (names:List Str) (ps:List (Str×Str)) (l:PV):Prop:=
 (l=.non/\(∀ a∈names,∀ b∈names,bnd ps a b≠.non)/\∀ a∈names,∀ b∈names,bnd (iy ps) a b≠.non)\/
 (∃ a∈names,∃ b∈names,l=.tup [.str "join",.str a,.str b]/\bnd ps a b=.non)\/
 (∃ a∈names,∃ b∈names,l=.tup [.str "meet",.str a,.str b]/\bnd (iy ps) a b=.non)
noncomputable abbrev jG (N P:PV) (o2:Option Lc) (mu:Mu):Ev:=⟨[yS N,yS P,o2],mu⟩
theorem Hk {ps:List (Str×Str)} {names:List Str} {mu:Mu} (hp:ps.length<=68) (hc:∀ q∈ps,q.1∈names/\q.2∈names) (hd:names.Nodup) (hn:names.length<=50):∃ l,gY [.lst (SS names),.lst (PP ps)] mu=some (.sh l,mu)/\SM names ps l:=by
 have hp':(iy ps).length<=68:=by rw [List.length_map]; exact hp
 have hc':∀ q∈iy ps,q.2∈names:=fun q hq=>by
  obtain ⟨q',hq',rfl⟩:=List.mem_map.mp hq
  exact (hc q' hq').1
 have fz1:∀ o2,mW (aG cZ (aj (aa 0) (aj (aa 1) ao))) (jG (.lst (SS names)) (.lst (PP ps)) o2 mu)=some (.sh (DF ps names),jG (.lst (SS names)) (.lst (PP ps)) o2 mu):=fun o2=>by
  have e1:aG cZ (aj (aa 0) (aj (aa 1) ao)) (jG (.lst (SS names)) (.lst (PP ps)) o2 mu)=some (.own (lK (iw ps names)),jG (.lst (SS names)) (.lst (PP ps)) o2 mu):=aP (au rfl (au rfl rfl)) rfl rfl rfl (pN hp hd (by omega))
  unfold mW
  rw [e1]
  rfl
 have fz2:∀ o2,mW (aG cD (aj (aa 0) (aj (aa 1) ao))) (jG (.lst (SS names)) (.lst (PP ps)) o2 mu)=some (.sh (DF (iy ps) names),jG (.lst (SS names)) (.lst (PP ps)) o2 mu):=fun o2=>by
  have e1:aG cD (aj (aa 0) (aj (aa 1) ao)) (jG (.lst (SS names)) (.lst (PP ps)) o2 mu)=some (.own (lK (iw (iy ps) names)),jG (.lst (SS names)) (.lst (PP ps)) o2 mu):=aP (au rfl (au rfl rfl)) rfl rfl rfl (rC hp hd (by omega))
  unfold mW
  rw [e1]
  rfl
 rcases xQ (mu:=mu) hp (fun q hq=>(hc q hq).2) hn with ⟨u1,h1⟩ | ⟨a,ha,b,hb,u1,h1⟩
 . have s1:aK 2 (aG fD (aj (mW (aG cZ (aj (aa 0) (aj (aa 1) ao)))) ao)) (jG (.lst (SS names)) (.lst (PP ps)) none mu)=some (.nx (jG (.lst (SS names)) (.lst (PP ps)) (some (.sh .non)) mu)):=bf (aP (au (fz1 _) rfl) rfl rfl rfl u1) rfl rfl
   rcases xQ (mu:=mu) hp' hc' hn with ⟨u2,h2⟩ | ⟨a,ha,b,hb,u2,h2⟩
   . have s2:aK 2 (aG fD (aj (mW (aG cD (aj (aa 0) (aj (aa 1) ao)))) ao)) (jG (.lst (SS names)) (.lst (PP ps)) (some (.sh .non)) mu)=some (.nx (jG (.lst (SS names)) (.lst (PP ps)) (some (.sh .non)) mu)):=bf (aP (au (fz2 _) rfl) rfl rfl rfl u2) rfl rfl
     exact ⟨.non,aQ (ρ:=jG (.lst (SS names)) (.lst (PP ps)) (some (.sh .non)) mu) (aF s1 (aF ((di (ρ1:=jG (.lst (SS names)) (.lst (PP ps)) (some (.sh .non)) mu) rfl).trans rfl) (aF s2 (aF ((di (ρ1:=jG (.lst (SS names)) (.lst (PP ps)) (some (.sh .non)) mu) rfl).trans rfl) rfl)))),.inl ⟨rfl,h1,h2⟩⟩
   . have s2:aK 2 (aG fD (aj (mW (aG cD (aj (aa 0) (aj (aa 1) ao)))) ao)) (jG (.lst (SS names)) (.lst (PP ps)) (some (.sh .non)) mu)=some (.nx (jG (.lst (SS names)) (.lst (PP ps)) (yS (.tup [.str a,.str b])) mu)):=bf (aP (au (fz2 _) rfl) rfl rfl rfl u2) rfl rfl
     exact ⟨.tup [.str "meet",.str a,.str b],aQ (ρ:=jG (.lst (SS names)) (.lst (PP ps)) (yS (.tup [.str a,.str b])) mu) (aF s1 (aF ((di (ρ1:=jG (.lst (SS names)) (.lst (PP ps)) (some (.sh .non)) mu) rfl).trans rfl) (aF s2 (iH ((gU (ρ1:=jG (.lst (SS names)) (.lst (PP ps)) (yS (.tup [.str a,.str b])) mu) rfl).trans (jq (jZ (ls:=[.sh (.str "meet"),.sh (.str a),.sh (.str b)]) rfl rfl rfl))))))),.inr (.inr ⟨a,ha,b,hb,rfl,h2⟩)⟩
 . have s1:aK 2 (aG fD (aj (mW (aG cZ (aj (aa 0) (aj (aa 1) ao)))) ao)) (jG (.lst (SS names)) (.lst (PP ps)) none mu)=some (.nx (jG (.lst (SS names)) (.lst (PP ps)) (yS (.tup [.str a,.str b])) mu)):=bf (aP (au (fz1 _) rfl) rfl rfl rfl u1) rfl rfl
   exact ⟨.tup [.str "join",.str a,.str b],aQ (ρ:=jG (.lst (SS names)) (.lst (PP ps)) (yS (.tup [.str a,.str b])) mu) (aF s1 (iH ((gU (ρ1:=jG (.lst (SS names)) (.lst (PP ps)) (yS (.tup [.str a,.str b])) mu) rfl).trans (jq (jZ (ls:=[.sh (.str "join"),.sh (.str a),.sh (.str b)]) rfl rfl rfl))))),.inr (.inl ⟨a,ha,b,hb,rfl,h1⟩)⟩
namespace Rg
noncomputable def edge (sm:List Str) (nm:Str) (q:Str×Str):Bool:=q.1==nm&&(!(q.2==nm)&&has sm q.2)
noncomputable def m7 (sm:List Str) (ps:List (Str×Str)) (nm:Str):List Str:=(ps.filter (edge sm nm)).map (·.2)
theorem Ex {sm:List Str} {ps:List (Str×Str)} {nm b:Str}:b∈m7 sm ps nm ↔ (nm,b)∈ps/\b≠nm/\b∈sm:=by
 unfold m7
 constructor
 . intro h
   obtain ⟨q,hq,rfl⟩:=List.mem_map.mp h
   obtain ⟨h1,h2⟩:=List.mem_filter.mp hq
   unfold edge at h2
   rw [Bool.and_eq_true,Bool.and_eq_true] at h2
   have e:q.1=nm:=eq_of_beq h2.1
   refine ⟨by rw [← e]; exact h1,fun z=>?_,bD.mp h2.2.2⟩
   have:=h2.2.1
   rw [z] at this
   simp at this
 . rintro ⟨h1,h2,h3⟩
   refine List.mem_map.mpr ⟨(nm,b),List.mem_filter.mpr ⟨h1,?_⟩,rfl⟩
   unfold edge
   rw [Bool.and_eq_true,Bool.and_eq_true]
   exact ⟨by simp,by simpa using h2,bD.mpr h3⟩
theorem Cm {sm:List Str} {ps:List (Str×Str)} {nm:Str} {mu:Mu} (hl:ps.length<=1000):bC [.lst (SS sm),.lst (PP ps),.str nm] mu=some (.own (.lst (SS (m7 sm ps nm))),mu):=by
 have c:gP (eN 2 (aZ (aA 0) (aZ (aA 1) fu))) (dO (tT (aq eqP (aa 0) (aa 2)) aN) (dO (tT (aq jM (aa 1) (aa 2)) aN) (tT (aq gn (aa 1) (aa 3)) aN))) (aa 1) (PP ps) ⟨[none,none,zT nm,zS sm],mu⟩ []=some (SS (m7 sm ps nm),mu):=by
  have:=jN (b:=eN 2 (aZ (aA 0) (aZ (aA 1) fu))) (tc:=dO (tT (aq eqP (aa 0) (aa 2)) aN) (dO (tT (aq jM (aa 1) (aa 2)) aN) (tT (aq gn (aa 1) (aa 3)) aN))) (te:=aa 1) (mu:=mu)
   (fun ρ=>∃ o0 o1,ρ=⟨[o0,o1,zT nm,zS sm],mu⟩) (fun ρ ⟨_,_,e⟩=>by rw [e]) (fun p=>match p with | .tup [.str a,.str b]=>edge sm nm (a,b) | _=>false) (fun p=>match p with | .tup [_,b]=>b | _=>.non)
   (xs:=PP ps) (ρ:=⟨[none,none,zT nm,zS sm],mu⟩) (acc:=[]) ⟨none,none,rfl⟩ (by simp; omega) (by
     rintro x hx ρ ⟨o0,o1,rfl⟩
     obtain ⟨⟨a,b⟩,_,rfl⟩:=List.mem_map.mp hx
     refine ⟨_,rfl,⟨[zT a,zT b,zT nm,zS sm],mu⟩,?_,⟨_,_,rfl⟩,fun _=>⟨_,_,rfl,rfl,_,_,rfl⟩⟩
     exact pC (bH (l:=.sh (.bl (a==nm))) rfl rfl rfl) (pC (bH (l:=.sh (.bl (!(b==nm)))) rfl rfl rfl) (bH (aR rfl rfl rfl rfl Ai) rfl rfl)))
  rw [this,List.nil_append,List.filter_map,List.map_map]
  unfold SS m7
  rw [List.map_map]
  rfl
 refine aQ (ρ:=⟨[zS sm,zP ps,zT nm],mu⟩) (jq ?_)
 exact (fO (ρ1:=⟨[zS sm,zP ps,zT nm],mu⟩) (gW (l:=.sh (.lst (PP ps))) rfl rfl rfl) c).trans rfl
noncomputable def cB (ps:List (Str×Str)) (rest:List Str):List Str:=rest.filter fun n=>!(m7 rest ps n).isEmpty
theorem truL {l:List Str}:bY (.lst (SS l))=some (!l.isEmpty):=by cases l<;>rfl
noncomputable abbrev Cp:EF:=bO (dB (aa 2) bG) 1 [2,1] (aA 0) (tT (aG bC (aj (aa 1) (aj (aa 2) (aj (aa 0) ao)))) bY) (aa 0)
theorem Cq {N:Option Lc} {ps:List (Str×Str)} {rest:List Str} {o3:Option Lc} {l:Lc} {mu:Mu} (hp:ps.length<=1000) (hr:rest.length<=1000) (hl:l.pv=.lst (SS rest)):Cp ⟨[N,zP ps,some l,o3],mu⟩=some (.own (.lst (SS (cB ps rest))),⟨[N,zP ps,zS rest,o3],mu⟩):=by
 have c:gP (aA 0) (tT (aG bC (aj (aa 1) (aj (aa 2) (aj (aa 0) ao)))) bY) (aa 0) (SS rest) ⟨[none,zS rest,zP ps],mu⟩ []=some (SS (cB ps rest),mu):=by
  have:=jN (b:=aA 0) (tc:=tT (aG bC (aj (aa 1) (aj (aa 2) (aj (aa 0) ao)))) bY) (te:=aa 0) (mu:=mu)
   (fun ρ=>∃ o0,ρ=⟨[o0,zS rest,zP ps],mu⟩) (fun ρ ⟨_,e⟩=>by rw [e]) (fun p=>match p with | .str a=>!(m7 rest ps a).isEmpty | _=>false) (fun p=>p)
   (xs:=SS rest) (ρ:=⟨[none,zS rest,zP ps],mu⟩) (acc:=[]) ⟨none,rfl⟩ (by simp; omega) (by
     rintro x hx ρ ⟨o0,rfl⟩
     obtain ⟨a,_,rfl⟩:=List.mem_map.mp hx
     refine ⟨_,rfl,⟨[zT a,zS rest,zP ps],mu⟩,?_,⟨_,rfl⟩,fun _=>⟨_,_,rfl,rfl,_,rfl⟩⟩
     exact bH (l:=.own (.lst (SS (m7 rest ps a)))) (aP (au rfl (au rfl (au rfl rfl))) rfl rfl rfl (Cm hp)) rfl truL)
  rw [this,List.nil_append,List.filter_map,List.map_map]
  rfl
 refine (fO (ρ1:=⟨[N,zP ps,zS rest,o3],mu⟩) (gW (l:=wS rest) ?_ rfl rfl) c).trans rfl
 show some (Lc.sh l.pv,_)=_
 rw [hl]
 rfl
structure yz (names:List Str) (ps:List (Str×Str)) (rest:List Str):Prop where
 sub:∀ x∈rest,x∈names
 hgt:∃ (h:Str->Nat) (k:Nat),(∀ a∈names,a∉rest->h a<k)/\∀ a∈names,a∉rest->∀ b∈names,(a,b)∈ps->b≠a->b∉rest/\h b<h a
theorem yz.step {names:List Str} {ps:List (Str×Str)} {rest:List Str} (I:yz names ps rest):yz names ps (cB ps rest):=by
 obtain ⟨sub,h,k,h1,h2⟩:=I
 have sb:∀ x∈cB ps rest,x∈rest:=fun x hx=>(List.mem_filter.mp hx).1
 refine ⟨fun x hx=>sub x (sb x hx),fun a=>if a∈rest then k else h a,k+1,fun a ha hn=>?_,fun a ha hn b hb he hne=>?_⟩
 . by_cases hr:a∈rest
   . simp only [hr,if_true]; omega
   . simp only [hr,if_false]; have:=h1 a ha hr; omega
 . by_cases hr:a∈rest
   . have hbr:b∉rest:=fun hbr=>by
      apply hn
      refine List.mem_filter.mpr ⟨hr,?_⟩
      have:b∈m7 rest ps a:=Ex.mpr ⟨he,hne,hbr⟩
      cases hc:m7 rest ps a with
      | nil=>rw [hc] at this; cases this
      | cons _ _=>rfl
     refine ⟨fun z=>hbr (sb b z),?_⟩
     simp only [hr,if_true,hbr,if_false]
     exact h1 b hb hbr
   . obtain ⟨q1,q2⟩:=h2 a ha hr b hb he hne
     refine ⟨fun z=>q1 (sb b z),?_⟩
     simp only [hr,if_false,q1]
     exact q2
noncomputable abbrev SN:TF:=tT (aq iu (eB cH (aj (aa 3) ao)) (eB cH (aj (aa 2) ao))) aN
noncomputable abbrev Ci:SF:=aL (aK 2 (aa 3)) (aK 3 Cp)
theorem pM {names:List Str} {N:Option Lc} {ps:List (Str×Str)} {mu:Mu} (hp:ps.length<=1000):∀ (n:Nat) (rest:List Str),rest.length<n->rest.length<=1000->yz names ps rest->
 ∃ rest',jY SN Ci n ⟨[N,zP ps,zS rest,yO (SS (cB ps rest))],mu⟩=some (.nx ⟨[N,zP ps,yL (SS rest'),zS (cB ps rest')],mu⟩)/\yz names ps rest'/\cB ps rest'=rest'/\rest'.length<=rest.length
 | n+1,rest,hn,hr,I=>by
  have hc:SN ⟨[N,zP ps,zS rest,yO (SS (cB ps rest))],mu⟩=some (decide (((SS (cB ps rest)).length:Int)<(SS rest).length),⟨[N,zP ps,zS rest,zS (cB ps rest)],mu⟩):=rfl
  have hle:(cB ps rest).length<=rest.length:=List.length_filter_le _ _
  show ∃ rest',((SN _).bind _)=_/\_
  rw [hc,Option.bind_some]
  by_cases hlt:(cB ps rest).length<rest.length
  . rw [decide_eq_true (by rw [List.length_map,List.length_map]; omega)]
    obtain ⟨r',e,I',c',l'⟩:=pM hp n (cB ps rest) (by omega) (by omega) I.step
    refine ⟨r',?_,I',c',by omega⟩
    have hb:Ci ⟨[N,zP ps,zS rest,zS (cB ps rest)],mu⟩=some (.nx ⟨[N,zP ps,zS (cB ps rest),yO (SS (cB ps (cB ps rest)))],mu⟩):=
     aF (bf rfl rfl rfl) (bf (Cq (l:=wS (cB ps rest)) hp (by omega) rfl) rfl rfl)
    rw [if_pos rfl,hb,Option.bind_some]
    exact e
  . rw [decide_eq_false (by rw [List.length_map,List.length_map]; omega)]
    refine ⟨rest,?_,I,?_,Nat.le_refl _⟩
    . rw [if_neg Bool.false_ne_true]
    . exact (List.filter_sublist).eq_of_length (by show (cB ps rest).length=rest.length; omega)
theorem jo {b:BF} {body:SF} {x:PV} {xs:List PV} {ρ ρ1 ρ2:Ev} {R:Option Fl} (h1:b x ρ=some ρ1) (h2:body ρ1=some (.nx ρ2)) (h3:dU b body xs ρ2=R):dU b body (x::xs) ρ=R:=by
 show (b x ρ).bind _=R
 rw [h1,Option.bind_some,h2,Option.bind_some]
 exact h3
theorem at0 {p:PV} {t:List PV}:fW (p::t) 0=some p:=by
 obtain ⟨x,h,h2⟩:=vO (l:=p::t) (i:=0) (by decide) (by simp only [List.length_cons]; omega)
 rw [h,← h2]; rfl
noncomputable def nx (sm:List Str) (ps:List (Str×Str)) (x:Str):Str:=(m7 sm ps x).headD ""
noncomputable def wk (sm:List Str) (ps:List (Str×Str)) (s0:Str):Nat->Str
 | 0=>s0
 | n+1=>nx sm ps (wk sm ps s0 n)
theorem Aj {sm:List Str} {ps:List (Str×Str)} (hc:cB ps sm=sm) {x:Str} (hx:x∈sm):m7 sm ps x=nx sm ps x::(m7 sm ps x).tail/\(x,nx sm ps x)∈ps/\nx sm ps x≠x/\nx sm ps x∈sm:=by
 have h:x∈cB ps sm:=by rw [hc]; exact hx
 have h2:=(List.mem_filter.mp h).2
 unfold nx
 cases e:m7 sm ps x with
 | nil=>rw [e] at h2; cases h2
 | cons y ys=>
  have:y∈m7 sm ps x:=by rw [e]; exact List.mem_cons_self
  exact ⟨rfl,Ex.mp this⟩
theorem uG {sm:List Str} {ps:List (Str×Str)} {s0:Str} (hc:cB ps sm=sm) (h0:s0∈sm):∀ n,wk sm ps s0 n∈sm
 | 0=>h0
 | n+1=>(Aj hc (uG hc h0 n)).2.2.2
theorem N5 {sm:List Str} {ps:List (Str×Str)} {x:Str} {mu:Mu} {fa:EF} {w o3:Option Lc} {w' o3':Option Lc} (hp:ps.length<=1000) (hc:cB ps sm=sm) (hx:x∈sm)
 (hf:fa ⟨[zS sm,zP ps,w,o3],mu⟩=some (.sh (.str x),⟨[zS sm,zP ps,w',o3'],mu⟩)):
 aX (aG bC (aj (aa 0) (aj (aa 1) (aj fa ao)))) (eC (.int 0)) ⟨[zS sm,zP ps,w,o3],mu⟩=some (.sh (.str (nx sm ps x)),⟨[zS sm,zP ps,w',o3'],mu⟩):=by
 refine lJ (l:=.own (.lst (SS (m7 sm ps x)))) (aP (ps:=[.lst (SS sm),.lst (PP ps),.str x]) (au rfl (au rfl (au hf rfl))) rfl rfl rfl (Cm hp)) rfl rfl rfl (fun n h=>by cases h) ?_
 show (fW (SS (m7 sm ps x)) 0).map _=_
 rw [(Aj hc hx).1]
 show (fW (PV.str (nx sm ps x)::SS _) 0).map _=_
 rw [at0]; rfl
theorem uD {l:List Str} {p q:Str->Bool} (h:∀ x,q x=true->p x=true) {x:Str} (hx:x∈l) (h1:p x=true) (h2:q x=false):(l.filter q).length<(l.filter p).length:=by
 induction l with
 | nil=>cases hx
 | cons y ys ih=>
  have hle:∀ ys:List Str,(ys.filter q).length<=(ys.filter p).length:=fun ys=>by
   induction ys with
   | nil=>exact Nat.le_refl _
   | cons z zs ihz=>
    rw [List.filter_cons,List.filter_cons]
    cases hq:q z with
    | true=>rw [h z hq]; simp only [if_true,List.length_cons]; omega
    | false=>cases hpz:p z<;>simp only [if_true,Bool.false_eq_true,if_false,List.length_cons]<;>omega
  rw [List.filter_cons,List.filter_cons]
  rcases List.mem_cons.mp hx with rfl | hx
  . rw [h1,h2]
    simp only [if_true,Bool.false_eq_true,if_false,List.length_cons]
    have:=hle ys
    omega
  . have:=ih hx
    cases hq:q y with
    | true=>rw [h y hq]; simp only [if_true,List.length_cons]; omega
    | false=>cases hpy:p y<;>simp only [if_true,Bool.false_eq_true,if_false,List.length_cons]<;>omega
noncomputable abbrev WK (sm:List Str) (ps:List (Str×Str)) (s0:Str) (k:Nat):List Str:=(List.range (k+1)).map (wk sm ps s0)
theorem yC {sm:List Str} {ps:List (Str×Str)} {s0:Str} {k:Nat}:WK sm ps s0 (k+1)=WK sm ps s0 k++[wk sm ps s0 (k+1)]:=by
 unfold WK
 rw [List.range_succ (n:=k+1),List.map_append]
 rfl
noncomputable abbrev S5:TF:=nJ (tT (aq ji (aa 3) (aa 2)) aN)
noncomputable abbrev UT:SF:=aL (gG 2 (aa 3)) (aK 3 (aX (aG bC (aj (aa 0) (aj (aa 1) (aj (aa 3) ao)))) (eC (.int 0))))
theorem zE {sm:List Str} {ps:List (Str×Str)} {s0:Str} {mu:Mu} (hp:ps.length<=1000) (hc:cB ps sm=sm) (h0:s0∈sm):∀ (n k:Nat),(sm.filter fun x=>!has (WK sm ps s0 k) x).length<n->n+k<=1000->(∀ i j,i<j->j<=k->wk sm ps s0 i≠wk sm ps s0 j)->
 ∃ m,jY S5 UT n ⟨[zS sm,zP ps,yO (SS (WK sm ps s0 k)),zT (wk sm ps s0 (k+1))],mu⟩=some (.nx ⟨[zS sm,zP ps,yO (SS (WK sm ps s0 m)),zT (wk sm ps s0 (m+1))],mu⟩)/\
  (∀ i j,i<j->j<=m->wk sm ps s0 i≠wk sm ps s0 j)/\wk sm ps s0 (m+1)∈WK sm ps s0 m/\m<=1000
 | n+1,k,hn,hk,hd=>by
  have hc1:S5 ⟨[zS sm,zP ps,yO (SS (WK sm ps s0 k)),zT (wk sm ps s0 (k+1))],mu⟩=some (!has (WK sm ps s0 k) (wk sm ps s0 (k+1)),⟨[zS sm,zP ps,yO (SS (WK sm ps s0 k)),zT (wk sm ps s0 (k+1))],mu⟩):=
   vP (bH (aR rfl rfl rfl rfl uC) rfl rfl)
  show ∃ m,((S5 _).bind _)=_/\_
  rw [hc1,Option.bind_some]
  cases hh:has (WK sm ps s0 k) (wk sm ps s0 (k+1)) with
  | true=>
   refine ⟨k,?_,hd,bD.mp hh,by omega⟩
   show (if (!true)=true then _ else _)=_
   rw [if_neg (by decide)]
  | false=>
   have hmem:=uG hc h0 (k+1)
   have hnot:=iY.mp hh
   have hd':∀ i j,i<j->j<=k+1->wk sm ps s0 i≠wk sm ps s0 j:=fun i j hij hj=>by
    by_cases hjk:j<=k
    . exact hd i j hij hjk
    . have:j=k+1:=by omega
      subst this
      intro e
      exact hnot (List.mem_map.mpr ⟨i,List.mem_range.mpr (by omega),e⟩)
   have hlt:(sm.filter fun x=>!has (WK sm ps s0 (k+1)) x).length<(sm.filter fun x=>!has (WK sm ps s0 k) x).length:=by
    refine uD (fun x hx=>?_) hmem (by simp [hh]) ?_
    . have h1:has (WK sm ps s0 (k+1)) x=false:=by simpa using hx
      have h2:=iY.mp h1
      have:has (WK sm ps s0 k) x=false:=iY.mpr fun z=>h2 (by rw [yC]; exact List.mem_append_left _ z)
      simp [this]
    . have:has (WK sm ps s0 (k+1)) (wk sm ps s0 (k+1))=true:=bD.mpr (by rw [yC]; exact List.mem_append_right _ (by simp))
      simp [this]
   obtain ⟨m,e,r⟩:=zE hp hc h0 n (k+1) (by omega) (by omega) hd'
   refine ⟨m,?_,r⟩
   show (if (!false)=true then _ else _)=_
   rw [if_pos (by decide)]
   have hb:UT ⟨[zS sm,zP ps,yO (SS (WK sm ps s0 k)),zT (wk sm ps s0 (k+1))],mu⟩=some (.nx ⟨[zS sm,zP ps,yO (SS (WK sm ps s0 (k+1))),zT (wk sm ps s0 (k+2))],mu⟩):=by
    refine aF (ρ':=⟨[zS sm,zP ps,yO (SS (WK sm ps s0 (k+1))),zT (wk sm ps s0 (k+1))],mu⟩) ?_ ?_
    . refine (uv (l:=.sh (.str (wk sm ps s0 (k+1)))) rfl rfl rfl rfl (by rw [List.length_map,List.length_map,List.length_range]; omega) rfl).trans ?_
      have e1:SS (WK sm ps s0 (k+1))=SS (WK sm ps s0 k)++[.str (wk sm ps s0 (k+1))]:=by rw [yC]; exact List.map_append
      rw [e1]
      rfl
    . exact bf (N5 (x:=wk sm ps s0 (k+1)) hp hc hmem rfl) rfl rfl
   rw [hb,Option.bind_some]
   exact e
structure RingOk (names:List Str) (ps:List (Str×Str)) (r:List Str):Prop where
 two:2<=r.length
 sub:∀ x∈r,x∈names
 dis:∀ (k:Nat) x,r[k]?=some x->x∉r.take k
 nxt:∀ (k:Nat) x,r[k]?=some x->∃ y,r[(k+1)%r.length]?=some y/\(x,y)∈ps
 few:r.length<=2000
theorem Ey:∀ l:List Str,pq (SS l)=true
 | []=>rfl
 | x::l=>by
  show (true&&pq (SS l))=true
  rw [Ey l]; rfl
theorem J3 {sm:List Str} {ps:List (Str×Str)} {mu:Mu} (hp:ps.length<=1000) (hc:cB ps sm=sm) (hne:sm≠[]) (hl:sm.length<20):∃ r,j6 [.lst (SS sm),.lst (PP ps)] mu=some (.own (.lst (SS r)),mu)/\RingOk sm ps r:=by
 obtain ⟨s0,t,rfl⟩:∃ s0 t,sm=s0::t:=by cases sm with | nil=>exact absurd rfl hne | cons a b=>exact ⟨a,b,rfl⟩
 generalize hsm:s0::t=sm at hc hl
 have h0:s0∈sm:=by rw [← hsm]; exact List.mem_cons_self
 have hix:∀ w o3,aX (aa 0) (eC (.int 0)) ⟨[zS sm,zP ps,w,o3],mu⟩=some (.sh (.str s0),⟨[zS sm,zP ps,w,o3],mu⟩):=fun w o3=>by
  refine lJ (l:=wS sm) rfl rfl rfl rfl (fun n h=>by cases h) ?_
  show (fW (SS sm) 0).map _=_
  rw [← hsm]
  show (fW (PV.str s0::SS t) 0).map _=_
  rw [at0]; rfl
 have s1:aK 2 (gk (aj (aX (aa 0) (eC (.int 0))) ao)) (env0 4 [.lst (SS sm),.lst (PP ps)] mu)=some (.nx ⟨[zS sm,zP ps,yO (SS (WK sm ps s0 0)),none],mu⟩):=
  bf (pD (ls:=[.sh (.str s0)]) (au (hix none none) rfl) rfl rfl) rfl rfl
 have s2:aK 3 (aX (aG bC (aj (aa 0) (aj (aa 1) (aj (aX (aa 0) (eC (.int 0))) ao)))) (eC (.int 0))) ⟨[zS sm,zP ps,yO (SS (WK sm ps s0 0)),none],mu⟩=some (.nx ⟨[zS sm,zP ps,yO (SS (WK sm ps s0 0)),zT (wk sm ps s0 1)],mu⟩):=
  bf (N5 (x:=s0) hp hc h0 (hix _ _)) rfl rfl
 obtain ⟨m,e,hd,hin,hm⟩:=zE (mu:=mu) hp hc h0 20 0 (Nat.lt_of_le_of_lt (List.length_filter_le _ _) hl) (by omega) (fun i j hij hj=>by omega)
 have hfi:jy (bA 150) (.str (wk sm ps s0 (m+1))) (SS (WK sm ps s0 m))=some true:=by rw [in_str,bD.mpr hin]
 have hlen:(WK sm ps s0 m).length=m+1:=by rw [List.length_map,List.length_range]
 generalize hj:(SS (WK sm ps s0 m)).findIdx (fun q=>(bA 150 q (.str (wk sm ps s0 (m+1)))).getD false)=j
 have hex:∃ q∈SS (WK sm ps s0 m),(fun q=>(bA 150 q (.str (wk sm ps s0 (m+1)))).getD false) q=true:=by
  refine ⟨.str (wk sm ps s0 (m+1)),List.mem_map.mpr ⟨_,hin,rfl⟩,?_⟩
  show (wk sm ps s0 (m+1)==wk sm ps s0 (m+1))=true
  simp
 have hjl:j<m+1:=by
  have w:(SS (WK sm ps s0 m)).findIdx (fun q=>(bA 150 q (.str (wk sm ps s0 (m+1)))).getD false)<(SS (WK sm ps s0 m)).length:=List.findIdx_lt_length.mpr hex
  rw [hj,List.length_map,hlen] at w
  exact w
 have hjw:wk sm ps s0 j=wk sm ps s0 (m+1):=by
  have w:(SS (WK sm ps s0 m)).findIdx (fun q=>(bA 150 q (.str (wk sm ps s0 (m+1)))).getD false)<(SS (WK sm ps s0 m)).length:=List.findIdx_lt_length.mpr hex
  have:=List.findIdx_getElem (w:=w)
  simp only [hj] at this
  have e2:(SS (WK sm ps s0 m))[j]'(by rw [hj] at w; exact w)=.str (wk sm ps s0 j):=by simp
  rw [e2] at this
  exact eq_of_beq (show (wk sm ps s0 j==wk sm ps s0 (m+1))=true from this)
 have cut:ni (SS (WK sm ps s0 m)) (some (j:Int)) none=SS ((WK sm ps s0 m).drop j):=by
  unfold ni
  rw [HT.sIx_none,HT.sIx_nat,List.length_map,hlen,show min j (m+1)=j from by omega,← List.map_drop]
  exact List.take_of_length_le (by rw [List.length_map,List.length_drop,hlen]; omega)
 refine ⟨(WK sm ps s0 m).drop j,?_,?_⟩
 . refine aQ (ρ:=⟨[zS sm,zP ps,yO (SS (WK sm ps s0 m)),zT (wk sm ps s0 (m+1))],mu⟩) (aF s1 (aF s2 (aF e (jq (mq (ρ1:=Ev.peek ⟨[zS sm,zP ps,yO (SS (WK sm ps s0 m)),zT (wk sm ps s0 (m+1))],mu⟩) ?_ (Ey _))))))
   have hI:uw (aa 2) (aa 3) (Ev.peek ⟨[zS sm,zP ps,yO (SS (WK sm ps s0 m)),zT (wk sm ps s0 (m+1))],mu⟩)=some (.sh (.int (j:Int)),Ev.peek ⟨[zS sm,zP ps,yO (SS (WK sm ps s0 m)),zT (wk sm ps s0 (m+1))],mu⟩):=by
    show (if jy (bA 150) (.str (wk sm ps s0 (m+1))) (SS (WK sm ps s0 m))=some true/\(SS (WK sm ps s0 m)).length<=100000 then _ else _)=_
    rw [if_pos ⟨hfi,by rw [List.length_map,hlen]; omega⟩]
    show some (Lc.sh (.int (((SS (WK sm ps s0 m)).findIdx (fun q=>(bA 150 q (.str (wk sm ps s0 (m+1)))).getD false):Nat):Int)),_)=_
    rw [hj]
    rfl
   have hO:fV (uw (aa 2) (aa 3)) (Ev.peek ⟨[zS sm,zP ps,yO (SS (WK sm ps s0 m)),zT (wk sm ps s0 (m+1))],mu⟩)=some (some (j:Int),Ev.peek ⟨[zS sm,zP ps,yO (SS (WK sm ps s0 m)),zT (wk sm ps s0 (m+1))],mu⟩):=by
    unfold fV
    rw [hI]
    rfl
   rw [← cut]
   show (((fV (uw (aa 2) (aa 3)) (Ev.peek ⟨[zS sm,zP ps,yO (SS (WK sm ps s0 m)),zT (wk sm ps s0 (m+1))],mu⟩))).bind _)=_
   rw [hO]
   rfl
 . have hnx:∀ i,(wk sm ps s0 i,wk sm ps s0 (i+1))∈ps/\wk sm ps s0 (i+1)≠wk sm ps s0 i:=fun i=>⟨(Aj hc (uG hc h0 i)).2.1,(Aj hc (uG hc h0 i)).2.2.1⟩
   have hjm:j<m:=by
    by_cases h:j=m
    . exfalso; rw [h] at hjw; exact (hnx m).2 hjw.symm
    . omega
   have hL:((WK sm ps s0 m).drop j).length=m+1-j:=by rw [List.length_drop,hlen]
   have hget:∀ k,k<m+1-j->((WK sm ps s0 m).drop j)[k]?=some (wk sm ps s0 (j+k)):=fun k hk=>by
    rw [List.getElem?_drop,List.getElem?_map,List.getElem?_range (by omega)]; rfl
   have hgi:∀ k x,((WK sm ps s0 m).drop j)[k]?=some x->k<m+1-j/\x=wk sm ps s0 (j+k):=fun k x hx=>by
    have hk:=(List.getElem?_eq_some_iff.mp hx).1
    rw [hL] at hk
    rw [hget k hk] at hx
    exact ⟨hk,(Option.some.inj hx).symm⟩
   refine ⟨by omega,fun x hx=>?_,fun k x hx hm'=>?_,fun k x hx=>?_,by omega⟩
   . obtain ⟨i,hi,rfl⟩:=List.mem_map.mp (List.mem_of_mem_drop hx)
     exact uG hc h0 i
   . obtain ⟨hk,rfl⟩:=hgi k x hx
     obtain ⟨i,hi,e3⟩:=List.getElem_of_mem hm'
     rw [List.length_take,hL] at hi
     have e4:((WK sm ps s0 m).drop j)[i]?=some (wk sm ps s0 (j+k)):=by
      rw [List.getElem_take] at e3
      rw [← e3]
      exact List.getElem?_eq_getElem _
     obtain ⟨_,e5⟩:=hgi i _ e4
     exact hd (j+i) (j+k) (by omega) (by omega) e5.symm
   . obtain ⟨hk,rfl⟩:=hgi k x hx
     refine ⟨wk sm ps s0 (j+k+1),?_,(hnx (j+k)).1⟩
     rw [hL]
     by_cases hlast:k+1=m+1-j
     . rw [hlast,Nat.mod_self,hget 0 (by omega),Nat.add_zero,hjw,show j+k+1=m+1 from by omega]
     . rw [Nat.mod_eq_of_lt (by omega),hget (k+1) (by omega)]
       rfl
theorem ringof_eq {names:List Str} {ps:List (Str×Str)} {mu:Mu} (hp:ps.length<=1000) (hl:names.length<19):(dC [.lst (SS names),.lst (PP ps)] mu=some (.sh .non,mu)/\∃ h:Str->Nat,∀ a∈names,∀ b∈names,(a,b)∈ps->b≠a->h b<h a)\/
 ∃ r,dC [.lst (SS names),.lst (PP ps)] mu=some (.own (.lst (SS r)),mu)/\RingOk names ps r:=by
 have I0:yz names ps names:=⟨fun x h=>h,fun _=>0,0,fun a ha hn=>absurd ha hn,fun a ha hn=>absurd ha hn⟩
 have s1:aK 2 (eB list1 (aj (aa 0) ao)) (env0 4 [.lst (SS names),.lst (PP ps)] mu)=some (.nx ⟨[zS names,zP ps,yO (SS names),none],mu⟩):=rfl
 have s2:aK 3 Cp ⟨[zS names,zP ps,yO (SS names),none],mu⟩=some (.nx ⟨[zS names,zP ps,zS names,yO (SS (cB ps names))],mu⟩):=
  bf (Cq (l:=.own (.lst (SS names))) hp (by omega) rfl) rfl rfl
 obtain ⟨rest,e,I,hc,hlr⟩:=pM (N:=zS names) (mu:=mu) hp 20 names (by omega) (by omega) I0
 have t:jf (tT (aa 2) bY) ⟨[zS names,zP ps,zS rest,zS (cB ps rest)],mu⟩=some (!!rest.isEmpty,⟨[zS names,zP ps,zS rest,zS (cB ps rest)],mu⟩):=
  ut (bH (l:=wS rest) rfl rfl truL)
 cases hr:rest with
 | nil=>
  subst hr
  obtain ⟨_,h,k,h1,h2⟩:=I
  refine .inl ⟨aQ (ρ:=⟨[zS names,zP ps,zS [],zS (cB ps [])],mu⟩) (aF s1 (aF s2 (aF e (iH ((gU t).trans rfl))))),h,fun a ha b hb he hne=>(h2 a ha (by simp) b hb he hne).2⟩
 | cons x xs=>
  have hne:rest≠[]:=by rw [hr]; simp
  obtain ⟨r,er,ok⟩:=J3 (mu:=mu) hp hc hne (by omega)
  refine .inr ⟨r,?_,ok.two,fun x hx=>I.sub x (ok.sub x hx),ok.dis,ok.nxt,ok.few⟩
  refine aQ (ρ:=⟨[zS names,zP ps,zS rest,zS (cB ps rest)],mu⟩) (aF s1 (aF s2 (aF e (aF ((di (ρ1:=⟨[zS names,zP ps,zS rest,zS (cB ps rest)],mu⟩) (t.trans (by rw [hr]; rfl))).trans rfl) ?_))))
  exact jq (aP (ps:=[.lst (SS rest),.lst (PP ps)]) (au rfl (au rfl rfl)) rfl rfl rfl er)
theorem ring_no {names r:List Str} {ps:List (Str×Str)} (ok:RingOk names ps r) {h:Str->Nat} (hh:∀ q∈ps,q.1≠q.2->h q.1<h q.2):False:=by
 have two:=ok.two
 have up:∀ k (hk:k<r.length),k+1<r.length->∃ hk1:k+1<r.length,h r[k]<h r[k+1]:=fun k hk hk1=>by
  obtain ⟨y,h1,h2⟩:=ok.nxt k r[k] (List.getElem?_eq_getElem hk)
  rw [Nat.mod_eq_of_lt hk1,List.getElem?_eq_getElem hk1] at h1
  cases h1
  refine ⟨hk1,hh _ h2 fun e=>?_⟩
  have e':r[k]=r[k+1]:=e
  refine ok.dis (k+1) r[k+1] (List.getElem?_eq_getElem hk1) ?_
  rw [← e']
  exact List.mem_take_iff_getElem.mpr ⟨k,by omega,rfl⟩
 have all:∀ k (hk:k<r.length),h (r[0]'(by omega))<=h r[k]:=fun k=>by
  induction k with
  | zero=>exact fun hk=>Nat.le_refl _
  | succ k ih=>
   intro hk
   obtain ⟨_,h1⟩:=up k (by omega) hk
   have:=ih (by omega)
   omega
 obtain ⟨y,h1,h2⟩:=ok.nxt (r.length-1) (r[r.length-1]'(by omega)) (List.getElem?_eq_getElem (by omega))
 rw [show r.length-1+1=r.length by omega,Nat.mod_self,List.getElem?_eq_getElem (by omega)] at h1
 cases h1
 have h3:=hh _ h2 fun e=>by
  have e':r[r.length-1]'(by omega)=r[0]'(by omega):=e
  refine ok.dis (r.length-1) (r[r.length-1]'(by omega)) (List.getElem?_eq_getElem (by omega)) ?_
  rw [e']
  exact List.mem_take_iff_getElem.mpr ⟨0,by omega,rfl⟩
 have h4:=all (r.length-1) (by omega)
 have h5:h (r[r.length-1]'(by omega))<h (r[0]'(by omega)):=h3
 omega
end Rg
structure Base (xs:List Str) (ps:List (Str×Str)):Prop where
 nd:xs.Nodup
 ne:xs≠[]
 l8:xs.length<=8
 lp:ps.length<=68
 nm:∀ x∈xs,nameB x=true
 mem:∀ q∈ps,q.1∈xs/\q.2∈xs
structure Hl (xs:List Str) (ps:List (Str×Str)):Prop extends Base xs ps where
 acyc:∃ h:Str->Nat,∀ q∈ps,q.1≠q.2->h q.1<h q.2
 up:∀ a∈xs,∀ b∈xs,bnd ps a b≠.non
 dn:∀ a∈xs,∀ b∈xs,bnd (iy ps) a b≠.non
 lo:∃ x∈xs,(cY ps x).length=xs.length
 hi:∃ x∈xs,(cY ps x).length=1
theorem Mr {xs:List Str} (hd:xs.Nodup) (x:Str):((SS xs).countP fun q=>(bA 150 q (.str x)).getD false)<=1:=by
 unfold SS
 rw [List.countP_map]
 have e:(fun q:PV=>(bA 150 q (.str x)).getD false) ∘ PV.str=fun y=>y==x:=rfl
 rw [e]
 have:=List.Nodup.count (a:=x) hd
 show List.count x xs<=1
 rw [this]
 split<;>omega
theorem S6 {c:Nat} (h:tG c=true):c<16 ^ 8:=by
 have all:∀ d∈("abcdefghijklmnopqrstuvwxyz" : Str).cps.toList,d<16 ^ 8:=by decide +kernel
 by_cases hc:c<16 ^ 8
 . exact hc
 . unfold tG at h
   rw [W.occ_nil_of_no _ _ 1 fun i hi=>?_] at h
   . cases h
   . cases e:Builtin.Str.subAt ("abcdefghijklmnopqrstuvwxyz" : Str) ⟨#[c]⟩ i with
     | false=>rfl
     | true=>
      have e2:("abcdefghijklmnopqrstuvwxyz" : Str).cps.extract i (i+1)=#[c]:=beq_iff_eq.mp e
      have m:c∈(("abcdefghijklmnopqrstuvwxyz" : Str).cps.extract i (i+1)).toList:=by rw [e2]; exact List.mem_singleton.mpr rfl
      rw [Array.toList_extract] at m
      have m':c∈(("abcdefghijklmnopqrstuvwxyz" : Str).cps.toList.drop i).take (i+1-i):=m
      exact absurd (all c (List.mem_of_mem_drop (List.mem_of_mem_take m'))) hc
theorem cI {x:Str} (h:nameB x=true):bB x=true:=by
 unfold nameB yt at h
 rw [Bool.and_eq_true,Bool.and_eq_true] at h
 have h2:=of_decide_eq_true h.1.2
 unfold bB
 rw [Bool.and_eq_true]
 refine ⟨decide_eq_true (by omega),List.all_eq_true.mpr fun c hc=>decide_eq_true (S6 (List.all_eq_true.mp h.2 c hc))⟩
theorem S7 {r:List Str} (h:∀ x∈r,nameB x=true) (hl:r.length<=64):Eg (.lst (SS r))=true:=by
 show (decide ((SS r).length<=64)&&(match strsOf (SS r) with | some xs=>xs.all bB | none=>false))=true
 rw [strs_map,Bool.and_eq_true]
 exact ⟨decide_eq_true (by rw [List.length_map]; exact hl),List.all_eq_true.mpr fun x hx=>cI (h x hx)⟩
theorem S8 {a b w:Str} (hw:bB w=true) (ha:nameB a=true) (hb:nameB b=true):Eg (.tup [.str w,.str a,.str b])=true:=by
 show (bB w&&(bB a&&(bB b&&true)))=true
 rw [hw,cI ha,cI hb]; rfl
section
variable {f g:SX} {s:SF} {c:TF} {ρ ρ' ρ1:Ev} {R:Option (XR Fl)} {fl:Fl} {C:Str} {b:Bool} {l:Lc}
theorem cu (h:f ρ=some (.ok (.nx ρ'))) (h2:g ρ'=R):iJ f g ρ=R:=by unfold iJ; rw [h,Option.bind_some]; exact h2
theorem mD (h:f ρ=some (.xc C ρ')):iJ f g ρ=some (.xc C ρ'):=by unfold iJ; rw [h,Option.bind_some]
theorem gw (h:s ρ=some fl):eE s ρ=some (.ok fl):=by unfold eE; rw [h]; rfl
theorem qj (h:c ρ=some (true,ρ1)):mY c f g ρ=f ρ1:=by unfold mY; rw [h,Option.bind_some,if_pos rfl]
theorem sY (h:c ρ=some (false,ρ1)):mY c f g ρ=g ρ1:=by unfold mY; rw [h,Option.bind_some,if_neg Bool.false_ne_true]
theorem xR {fe:EF} {j:JF} (h:fe ρ=some (l,ρ1)) (hs:Eg l.pv=true):jR fe j ρ=j ρ1:=by unfold jR; rw [h,Option.bind_some,if_pos hs]
theorem yD {n:Nat} {ps:List PV} {mu:Mu} (h:f (env0 n ps mu)=some (.ok (.nx ρ))):pJ n f ps mu=some (.ok (.sh .non,ρ.mu)):=by unfold pJ; rw [h,Option.bind_some]
theorem lD {n:Nat} {ps:List PV} {mu:Mu} (h:f (env0 n ps mu)=some (.xc C ρ)):pJ n f ps mu=some (.xc C ρ):=by unfold pJ; rw [h,Option.bind_some]
theorem sZ {G:GX} {a:AF} {ls:List Lc} {ps:List PV} {mu:Mu} {v:List (Option Lc)} {mu1:Mu} (h:a ρ=some (ls,ρ1)) (hp:ls.map Lc.pv=ps) (hv:ρ1.vs=v) (hm:ρ1.mu=mu1) (h2:G ps mu1=some (.ok (l,mu))):jP G a ρ=some (.ok (l,⟨v,mu⟩)):=by
 subst hp hv hm
 unfold jP
 rw [h,Option.bind_some,h2]; rfl
theorem v6 {G:GX} {a:AF} {ls:List Lc} {ps:List PV} {v:List (Option Lc)} {mu1:Mu} (h:a ρ=some (ls,ρ1)) (hp:ls.map Lc.pv=ps) (hv:ρ1.vs=v) (hm:ρ1.mu=mu1) (h2:G ps mu1=some (.xc C ρ')):jP G a ρ=some (.xc C ⟨v,ρ'.mu⟩):=by
 subst hp hv hm
 unfold jP
 rw [h,Option.bind_some,h2]; rfl
theorem Ak {fe:EX} {k:Lc×Ev->Option Fl} (h:fe ρ=some (.ok (l,ρ1))) (h2:k (l,ρ1)=some fl):xB fe k ρ=some (.ok fl):=by unfold xB; rw [h,Option.bind_some]; show (k (l,ρ1)).map _=_; rw [h2]; rfl
theorem Hm {fe:EX} {k:Lc×Ev->Option Fl} (h:fe ρ=some (.xc C ρ1)):xB fe k ρ=some (.xc C ρ1):=by unfold xB; rw [h,Option.bind_some]
end
theorem J4:∀ {l:List Nat} {x:Nat},x∈l->x<=l.sum
 | y::l,x,h=>by
  rw [List.sum_cons]
  rcases List.mem_cons.mp h with rfl | h
  . exact Nat.le_add_right _ _
  . exact Nat.le_trans (J4 h) (Nat.le_add_left _ _)
noncomputable def g1 (xs:List Str) (x:Str):Bool:=nameB x&&decide ((xs.countP (·==x))<=1)
noncomputable def g2 (xs:List Str) (q:Str×Str):Bool:=has xs q.1&&has xs q.2
noncomputable def nU (xs:List Str) (ps:List (Str×Str)):Bool:=xs.all (g1 xs)&&ps.all (g2 xs)
noncomputable abbrev NX (xs:List Str) (ps:List (Str×Str)) (o2 o3 o4:Option Lc) (mu:Mu):Ev:=⟨[zS xs,zP ps,o2,o3,o4],mu⟩
noncomputable abbrev Ez:SX:=iJ (mY (jf (tT (aG jT (aj (aa 2) ao)) bY)) (gr "NoName" (jR (aa 2) jz)) (eE bR)) (mY (tT (aq Bt (ux (aa 0) (aa 2)) (eC (.int 1))) aN) (gr "NoName" (jR (aa 2) jz)) (eE bR))
noncomputable abbrev EY:SX:=mY (je (tT (aq ji (aa 3) (aa 0)) aN) (tT (aq ji (aa 4) (aa 0)) aN)) (gr "NoName" (jR (aa 3) (jR (aa 4) jz))) (eE bR)
section
variable {xs:List Str} {ps:List (Str×Str)} {mu:Mu}
theorem S9 {x:Str} (hl:xs.length<=1000) (hx:bB x=true):Ez (NX xs ps (zT x) none none mu)=if g1 xs x=true then some (.ok (.nx (NX xs ps (zT x) none none mu))) else some (.xc "NoName" (NX xs ps (zT x) none none mu)):=by
 have hx0:x.length<=1000:=by
  unfold bB at hx
  rw [Bool.and_eq_true] at hx
  exact of_decide_eq_true hx.1
 have t1:jf (tT (aG jT (aj (aa 2) ao)) bY) (NX xs ps (zT x) none none mu)=some (!nameB x,NX xs ps (zT x) none none mu):=ut (bH (l:=.sh (.bl (nameB x))) (aP (au rfl rfl) rfl rfl rfl (Qe (by omega))) rfl rfl)
 have rs:gr "NoName" (jR (aa 2) jz) (NX xs ps (zT x) none none mu)=some (.xc "NoName" (NX xs ps (zT x) none none mu)):=by
  show ((jR (aa 2) jz _).map _)=_
  rw [xR (l:=.sh (.str x)) (ρ1:=NX xs ps (zT x) none none mu) rfl hx]
  rfl
 have ec:ux (aa 0) (aa 2) (NX xs ps (zT x) none none mu)=some (.sh (.int ((xs.countP (·==x):Nat):Int)),NX xs ps (zT x) none none mu):=by
  show (if (jy (bA 150) (.str x) (SS xs)).isSome=true/\(SS xs).length<=100000 then some (Lc.sh (.int (((SS xs).countP fun q=>(bA 150 q (.str x)).getD false:Nat):Int)),NX xs ps (zT x) none none mu) else none)=_
  rw [if_pos ⟨by rw [in_str]; rfl,by rw [List.length_map]; omega⟩,List.countP_map]
  rfl
 have t2:tT (aq Bt (ux (aa 0) (aa 2)) (eC (.int 1))) aN (NX xs ps (zT x) none none mu)=some (decide ((1:Int)<((xs.countP (·==x):Nat):Int)),NX xs ps (zT x) none none mu):=bH (l:=.sh (.bl (decide ((1:Int)<((xs.countP (·==x):Nat):Int))))) (aR ec rfl rfl rfl rfl) rfl rfl
 unfold g1
 cases e1:nameB x with
 | false=>
  rw [e1] at t1
  rw [Bool.false_and,if_neg (by decide)]
  exact mD ((qj t1).trans rs)
 | true=>
  rw [e1] at t1
  refine (cu (ρ':=NX xs ps (zT x) none none mu) ((sY t1).trans rfl) rfl).trans ?_
  by_cases hc:xs.countP (·==x)<=1
  . rw [decide_eq_true hc,if_pos (by decide)]
    exact (sY (t2.trans (by rw [decide_eq_false (by omega)]))).trans rfl
  . rw [decide_eq_false hc,if_neg (by decide)]
    exact (qj (t2.trans (by rw [decide_eq_true (by omega)]))).trans rs
theorem N6 (hl:xs.length<=1000):∀ (r:List Str) (o2:Option Lc),(∀ x∈r,bB x=true)->∃ o2',nR (aA 2) Ez (SS r) (NX xs ps o2 none none mu)=if r.all (g1 xs)=true then some (.ok (.nx (NX xs ps o2' none none mu))) else some (.xc "NoName" (NX xs ps o2' none none mu))
 | [],o2,_=>⟨o2,rfl⟩
 | x::r,o2,h=>by
  have hb:=S9 (ps:=ps) (mu:=mu) hl (h x List.mem_cons_self)
  cases e:g1 xs x with
  | true=>
   rw [e,if_pos rfl] at hb
   obtain ⟨o2',h2⟩:=N6 hl r (zT x) fun y hy=>h y (List.mem_cons_of_mem _ hy)
   refine ⟨o2',?_⟩
   rw [List.all_cons,e,Bool.true_and]
   show (Ez (NX xs ps (zT x) none none mu)).bind _=_
   rw [hb]
   exact h2
  | false=>
   rw [e,if_neg (by decide)] at hb
   refine ⟨zT x,?_⟩
   rw [List.all_cons,e,Bool.false_and,if_neg (by decide)]
   show (Ez (NX xs ps (zT x) none none mu)).bind _=_
   rw [hb]
   rfl
theorem Tc {q:Str×Str} {o2:Option Lc} (h1:bB q.1=true) (h2:bB q.2=true):EY (NX xs ps o2 (yS (.str q.1)) (yS (.str q.2)) mu)=if g2 xs q=true then some (.ok (.nx (NX xs ps o2 (yS (.str q.1)) (yS (.str q.2)) mu))) else some (.xc "NoName" (NX xs ps o2 (yS (.str q.1)) (yS (.str q.2)) mu)):=by
 have t:=uX (c:=tT (aq ji (aa 3) (aa 0)) aN) (d:=tT (aq ji (aa 4) (aa 0)) aN) (ρ:=NX xs ps o2 (yS (.str q.1)) (yS (.str q.2)) mu) (bH (aR rfl rfl rfl rfl uC) rfl rfl) (bH (aR rfl rfl rfl rfl uC) rfl rfl)
 have rs:gr "NoName" (jR (aa 3) (jR (aa 4) jz)) (NX xs ps o2 (yS (.str q.1)) (yS (.str q.2)) mu)=some (.xc "NoName" (NX xs ps o2 (yS (.str q.1)) (yS (.str q.2)) mu)):=by
  show ((jR (aa 3) (jR (aa 4) jz) _).map _)=_
  rw [xR (l:=.sh (.str q.1)) (ρ1:=NX xs ps o2 (yS (.str q.1)) (yS (.str q.2)) mu) rfl h1,xR (l:=.sh (.str q.2)) (ρ1:=NX xs ps o2 (yS (.str q.1)) (yS (.str q.2)) mu) rfl h2]
  rfl
 unfold g2
 cases e1:has xs q.1<;>cases e2:has xs q.2<;>rw [e1,e2] at t
 . rw [if_neg (by decide)]; exact (qj t).trans rs
 . rw [if_neg (by decide)]; exact (qj t).trans rs
 . rw [if_neg (by decide)]; exact (qj t).trans rs
 . rw [if_pos (by decide)]; exact (sY t).trans rfl
theorem N7 {o2:Option Lc}:∀ (r:List (Str×Str)) (o3 o4:Option Lc),(∀ q∈r,bB q.1=true/\bB q.2=true)->∃ o3' o4',nR (eN 2 (aZ (aA 3) (aZ (aA 4) fu))) EY (PP r) (NX xs ps o2 o3 o4 mu)=if r.all (g2 xs)=true then some (.ok (.nx (NX xs ps o2 o3' o4' mu))) else some (.xc "NoName" (NX xs ps o2 o3' o4' mu))
 | [],o3,o4,_=>⟨o3,o4,rfl⟩
 | q::r,o3,o4,h=>by
  obtain ⟨ha,hb'⟩:=h q List.mem_cons_self
  have hb:=Tc (xs:=xs) (ps:=ps) (mu:=mu) (o2:=o2) ha hb'
  cases e:g2 xs q with
  | true=>
   rw [e,if_pos rfl] at hb
   obtain ⟨o3',o4',h2⟩:=N7 r (yS (.str q.1)) (yS (.str q.2)) fun y hy=>h y (List.mem_cons_of_mem _ hy)
   refine ⟨o3',o4',?_⟩
   rw [List.all_cons,e,Bool.true_and]
   show (EY (NX xs ps o2 (yS (.str q.1)) (yS (.str q.2)) mu)).bind _=_
   rw [hb]
   exact h2
  | false=>
   rw [e,if_neg (by decide)] at hb
   refine ⟨yS (.str q.1),yS (.str q.2),?_⟩
   rw [List.all_cons,e,Bool.false_and,if_neg (by decide)]
   show (EY (NX xs ps o2 (yS (.str q.1)) (yS (.str q.2)) mu)).bind _=_
   rw [hb]
   rfl
theorem mF (hl:xs.length<=1000) (h1:∀ x∈xs,bB x=true) (h2:∀ q∈ps,bB q.1=true/\bB q.2=true):if nU xs ps=true then eU [.lst (SS xs),.lst (PP ps)] mu=some (.ok (.sh .non,mu)) else ∃ ρ,ρ.mu=mu/\eU [.lst (SS xs),.lst (PP ps)] mu=some (.xc "NoName" ρ):=by
 obtain ⟨o2,e1⟩:=N6 (xs:=xs) (ps:=ps) (mu:=mu) hl xs none h1
 obtain ⟨o3,o4,e2⟩:=N7 (xs:=xs) (ps:=ps) (mu:=mu) (o2:=o2) ps none none h2
 have f1:vV (dB (aa 0) bG) (aA 2) Ez (NX xs ps none none none mu)=nR (aA 2) Ez (SS xs) (NX xs ps none none none mu):=by
  unfold vV
  rw [gW (l:=wS xs) (ρ1:=NX xs ps none none none mu) rfl rfl rfl]
  rfl
 have f2:vV (dB (aa 1) bG) (eN 2 (aZ (aA 3) (aZ (aA 4) fu))) EY (NX xs ps o2 none none mu)=nR (eN 2 (aZ (aA 3) (aZ (aA 4) fu))) EY (PP ps) (NX xs ps o2 none none mu):=by
  unfold vV
  rw [gW (l:=.sh (.lst (PP ps))) (ρ1:=NX xs ps o2 none none mu) rfl rfl rfl]
  rfl
 rw [e1] at f1
 rw [e2] at f2
 unfold nU
 cases c1:xs.all (g1 xs) with
 | false=>
  rw [c1,if_neg (by decide)] at f1
  rw [Bool.false_and,if_neg (by decide)]
  exact ⟨_,rfl,lD (mD f1)⟩
 | true=>
  rw [c1,if_pos rfl] at f1
  cases c2:ps.all (g2 xs) with
  | false=>
   rw [c2,if_neg (by decide)] at f2
   rw [Bool.and_false,if_neg (by decide)]
   exact ⟨_,rfl,lD (cu f1 f2)⟩
  | true=>
   rw [c2,if_pos rfl] at f2
   rw [Bool.and_true,if_pos rfl]
   exact yD (ρ:=NX xs ps o2 o3 o4 mu) (cu f1 f2)
end
theorem Base.good {xs:List Str} {ps:List (Str×Str)} (B:Base xs ps):nU xs ps=true:=by
 unfold nU
 rw [Bool.and_eq_true]
 refine ⟨List.all_eq_true.mpr fun x hx=>?_,List.all_eq_true.mpr fun q hq=>?_⟩
 . unfold g1
   rw [B.nm x hx,Bool.true_and]
   refine decide_eq_true ?_
   have:=Mr B.nd x
   rw [List.countP_map] at this
   exact this
 . unfold g2
   rw [bD.mpr (B.mem q hq).1,bD.mpr (B.mem q hq).2]
   rfl
theorem ql {xs:List Str} {ps:List (Str×Str)} {mu:Mu} (B:Base xs ps):eU [.lst (SS xs),.lst (PP ps)] mu=some (.ok (.sh .non,mu)):=by
 have l8:=B.l8
 have:=mF (mu:=mu) (by omega) (fun x hx=>cI (B.nm x hx)) fun q hq=>⟨cI (B.nm _ (B.mem q hq).1),cI (B.nm _ (B.mem q hq).2)⟩
 rw [if_pos B.good] at this
 exact this
noncomputable def Fb (ps:List (Str×Str)):Prop:=∃ h:Str->Nat,∀ q∈ps,q.1≠q.2->h q.1<h q.2
theorem yE {xs:List Str} {ps:List (Str×Str)} (B:Base xs ps):(Fb ps/\∀ mu,dC [.lst (SS xs),.lst (PP ps)] mu=some (.sh .non,mu))\/(∀ mu,∃ r,dC [.lst (SS xs),.lst (PP ps)] mu=some (.own (.lst (SS r)),mu)/\Rg.RingOk xs ps r):=by
 have lp:=B.lp
 have l8:=B.l8
 have two:∀ mu,(dC [.lst (SS xs),.lst (PP ps)] mu=some (.sh .non,mu)/\Fb ps)\/∃ r,dC [.lst (SS xs),.lst (PP ps)] mu=some (.own (.lst (SS r)),mu)/\Rg.RingOk xs ps r:=fun mu=>by
  rcases Rg.ringof_eq (names:=xs) (ps:=ps) (mu:=mu) (by omega) (by omega) with ⟨e,h,hh⟩ | h
  . refine .inl ⟨e,fun x=>(xs.map h).sum-h x,fun q hq hne=>?_⟩
    obtain ⟨h1,h2⟩:=B.mem q hq
    have:=hh q.1 h1 q.2 h2 hq (Ne.symm hne)
    have le:∀ x∈xs,h x<=(xs.map h).sum:=fun x hx=>J4 (List.mem_map.mpr ⟨x,hx,rfl⟩)
    have:=le _ h1
    show (xs.map h).sum-h q.1<(xs.map h).sum-h q.2
    omega
  . exact .inr h
 rcases two [] with ⟨_,hn⟩ | ⟨r,_,rk⟩
 . refine .inl ⟨hn,fun mu=>?_⟩
   rcases two mu with ⟨e,_⟩ | ⟨r,_,rk⟩
   . exact e
   . obtain ⟨h,hh⟩:=hn
     exact (Rg.ring_no rk hh).elim
 . refine .inr fun mu=>?_
   rcases two mu with ⟨_,h,hh⟩ | x
   . exact (Rg.ring_no rk hh).elim
   . exact x
noncomputable def Cr (xs:List Str) (ps:List (Str×Str)) (l:PV):Prop:=(∃ a∈xs,∃ b∈xs,l=.tup [.str "join",.str a,.str b]/\bnd ps a b=.non)\/(∃ a∈xs,∃ b∈xs,l=.tup [.str "meet",.str a,.str b]/\bnd (iy ps) a b=.non)
theorem Fd {xs:List Str} {ps:List (Str×Str)} (B:Base xs ps):(((∀ a∈xs,∀ b∈xs,bnd ps a b≠.non)/\∀ a∈xs,∀ b∈xs,bnd (iy ps) a b≠.non)/\∀ mu,gY [.lst (SS xs),.lst (PP ps)] mu=some (.sh .non,mu))\/(∀ mu,∃ l,gY [.lst (SS xs),.lst (PP ps)] mu=some (.sh l,mu)/\Cr xs ps l):=by
 have l8:=B.l8
 have two:=fun mu=>Hk (mu:=mu) B.lp B.mem B.nd (by omega)
 have no:∀ {l:PV},Cr xs ps l->¬ ((∀ a∈xs,∀ b∈xs,bnd ps a b≠.non)/\∀ a∈xs,∀ b∈xs,bnd (iy ps) a b≠.non):=fun h ⟨g1,g2⟩=>by
  rcases h with ⟨a,ha,b,hb,_,h⟩ | ⟨a,ha,b,hb,_,h⟩
  . exact g1 a ha b hb h
  . exact g2 a ha b hb h
 obtain ⟨l,_,h | h⟩:=two []
 . refine .inl ⟨h.2,fun mu=>?_⟩
   obtain ⟨l',e',h' | h'⟩:=two mu
   . rw [e',h'.1]
   . exact (no h' h.2).elim
 . refine .inr fun mu=>?_
   obtain ⟨l',e',h' | h'⟩:=two mu
   . exact (no h h'.2).elim
   . exact ⟨l',e',h'⟩
noncomputable abbrev RE (xs:List Str) (ps:List (Str×Str)) (o2 o3:Option Lc) (mu:Mu):Ev:=⟨[zS xs,zP ps,o2,o3],mu⟩
theorem uH {xs:List Str} {ps:List (Str×Str)} {mu:Mu} (hn:xs≠[]):mY (jf (tT (aa 0) bY)) (gr "NoOrder" jz) (eE bR) (env0 4 [.lst (SS xs),.lst (PP ps)] mu)=some (.ok (.nx (RE xs ps none none mu))):=by
 have hne:xs.isEmpty=false:=by
  cases xs with
  | nil=>exact absurd rfl hn
  | cons _ _=>rfl
 have t0:jf (tT (aa 0) bY) (env0 4 [.lst (SS xs),.lst (PP ps)] mu)=some (false,RE xs ps none none mu):=(ut (b:=!xs.isEmpty) (bH (l:=wS xs) rfl rfl Rg.truL)).trans (by rw [hne]; rfl)
 exact (sY t0).trans rfl
theorem Di {xs:List Str} {ps:List (Str×Str)} {mu:Mu} (B:Base xs ps) {r:List Str} (e:dC [.lst (SS xs),.lst (PP ps)] mu=some (.own (.lst (SS r)),mu)) (rk:Rg.RingOk xs ps r) (h64:r.length<=64):∃ ρ,ρ.mu=mu/\dj [.lst (SS xs),.lst (PP ps)] mu=some (.xc "NoOrder" ρ):=by
 refine ⟨RE xs ps (zS r) none mu,rfl,lD (cu (uH B.ne) (cu (ρ':=RE xs ps (yO (SS r)) none mu) (gw (bf (aP (au rfl (au rfl rfl)) rfl rfl rfl e) rfl rfl)) (mD ((qj (ρ1:=RE xs ps (zS r) none mu) rfl).trans ?_))))⟩
 show ((jR (aa 2) jz _).map _)=_
 rw [xR (l:=wS r) (ρ1:=RE xs ps (zS r) none mu) rfl (S7 (fun x hx=>B.nm x (rk.sub x hx)) h64)]
 rfl
theorem Dj {xs:List Str} {ps:List (Str×Str)} {mu:Mu} (B:Base xs ps) (er:dC [.lst (SS xs),.lst (PP ps)] mu=some (.sh .non,mu)) {l:PV} (e:gY [.lst (SS xs),.lst (PP ps)] mu=some (.sh l,mu)) (lk:Cr xs ps l):∃ ρ,ρ.mu=mu/\dj [.lst (SS xs),.lst (PP ps)] mu=some (.xc "NoOrder" ρ):=by
 have hs:Eg l=true/\uT l .non=yS (.bl true):=by
  rcases lk with ⟨a,ha,b,hb,rfl,_⟩ | ⟨a,ha,b,hb,rfl,_⟩<;>exact ⟨S8 (by decide +kernel) (B.nm a ha) (B.nm b hb),rfl⟩
 refine ⟨RE xs ps (some (.sh .non)) (yS l) mu,rfl,lD (cu (uH B.ne) (cu (ρ':=RE xs ps (some (.sh .non)) none mu) (gw (bf (aP (au rfl (au rfl rfl)) rfl rfl rfl er) rfl rfl)) (cu (ρ':=RE xs ps (some (.sh .non)) none mu) ((sY (ρ1:=RE xs ps (some (.sh .non)) none mu) rfl).trans rfl)
  (cu (ρ':=RE xs ps (some (.sh .non)) (yS l) mu) (gw (bf (aP (au rfl (au rfl rfl)) rfl rfl rfl e) rfl rfl)) ((qj (ρ1:=RE xs ps (some (.sh .non)) (yS l) mu) (bH (aR (l:=.sh l) (m:=.sh .non) rfl rfl rfl rfl hs.2) rfl rfl)).trans ?_)))))⟩
 show ((jR (aa 3) jz _).map _)=_
 rw [xR (l:=.sh l) (ρ1:=RE xs ps (some (.sh .non)) (yS l) mu) rfl hs.1]
 rfl
theorem J5 {xs:List Str} {ps:List (Str×Str)} {mu:Mu} (B:Base xs ps) (er:dC [.lst (SS xs),.lst (PP ps)] mu=some (.sh .non,mu)) (e:gY [.lst (SS xs),.lst (PP ps)] mu=some (.sh .non,mu)):dj [.lst (SS xs),.lst (PP ps)] mu=some (.ok (.sh .non,mu)):=
 yD (ρ:=RE xs ps (some (.sh .non)) (some (.sh .non)) mu) (cu (uH B.ne) (cu (ρ':=RE xs ps (some (.sh .non)) none mu) (gw (bf (aP (au rfl (au rfl rfl)) rfl rfl rfl er) rfl rfl)) (cu (ρ':=RE xs ps (some (.sh .non)) none mu) ((sY (ρ1:=RE xs ps (some (.sh .non)) none mu) rfl).trans rfl)
  (cu (ρ':=RE xs ps (some (.sh .non)) (some (.sh .non)) mu) (gw (bf (aP (au rfl (au rfl rfl)) rfl rfl rfl e) rfl rfl)) ((sY (ρ1:=RE xs ps (some (.sh .non)) (some (.sh .non)) mu) rfl).trans rfl)))))
theorem Qi {C f:Str} {fo fv:EF} {ρ ρ1 ρ2:Ev} {y x:Lc} {p:PV} {n:Nat} {l:FD} (h1:fv ρ=some (y,ρ1)) (hy:y.pv=p) (h2:fo ρ1=some (x,ρ2)) (hx:x.pv=.ptr n) (hm:ρ2.mu[n]?=some (some (bZ C l))) (hl:l.length<1000):iB C f fo fv ρ=some (.nx ⟨ρ2.vs,ρ2.mu.set n (some (bZ C (gC f p l)))⟩):=by
 unfold iB
 rw [h1,Option.bind_some,h2,Option.bind_some,hx]
 dsimp only
 rw [hm]
 unfold bZ
 dsimp only
 rw [if_pos ⟨rfl,by rw [List.length_map]; exact hl⟩,Et,hy]
theorem Td {C f:Str} {fo:EF} {ρ ρ1:Ev} {x:Lc} {p:PV} {n:Nat} {l:FD} (h2:fo ρ=some (x,ρ1)) (hx:x.pv=.ptr n) (hm:ρ1.mu[n]?=some (some (bZ C l))) (hp:mK l f=some p):pI C f fo ρ=some (.sh p,ρ1):=by
 unfold pI
 rw [h2,Option.bind_some,hx]
 dsimp only
 rw [hm]
 unfold bZ
 dsimp only
 rw [if_pos rfl,Et,hp]
 rfl
noncomputable abbrev oF (xs:List Str) (ps:List (Str×Str)) (lj lm:iZ) (lo hi:Str):FD:=[("names",.lst (SS xs)),("above",DF ps xs),("joins",iI lj),("meets",iI lm),("lowest",.str lo),("highest",.str hi)]
structure Ul (xs:List Str) (ps:List (Str×Str)) (l:FD):Prop where
 ex:∃ lj lm lo hi,l=oF xs ps lj lm lo hi/\Tb ps xs lj/\(∀ x∈xs,∀ y∈xs,en ps x y∈lj)/\Tb (iy ps) xs lm/\(∀ x∈xs,∀ y∈xs,en (iy ps) x y∈lm)/\(lo∈xs/\(cY ps lo).length=xs.length)/\hi∈xs/\(cY ps hi).length=1
theorem zF {xs:List Str} {ps:List (Str×Str)} {mu:Mu} {n:Nat} {l:FD} {c:Nat} {tc:TF} {vs:List (Option Lc)} (hl:xs.length<=1000) (ht:∀ x∈xs,tc ⟨zT x::vs,mu⟩=some (decide ((cY ps x).length=c),⟨zT x::vs,mu⟩)):gP (aA 0) tc (aa 0) (SS xs) ⟨none::vs,mu⟩ []=some (SS (xs.filter fun x=>decide ((cY ps x).length=c)),mu):=by
 have:=jN (b:=aA 0) (tc:=tc) (te:=aa 0) (mu:=mu) (fun ρ=>∃ o,ρ=⟨o::vs,mu⟩) (fun ρ ⟨o,e⟩=>by rw [e]) (fun p=>match p with | .str y=>decide ((cY ps y).length=c) | _=>false) (fun p=>p) (xs:=SS xs) (ρ:=⟨none::vs,mu⟩) (acc:=[]) ⟨none,rfl⟩ (by simp; omega) (by
  rintro z hz ρ ⟨o,rfl⟩
  obtain ⟨y,hy,rfl⟩:=List.mem_map.mp hz
  exact ⟨⟨zT y::vs,mu⟩,rfl,_,ht y hy,⟨_,rfl⟩,fun _=>⟨_,_,rfl,rfl,_,rfl⟩⟩)
 rw [this,List.nil_append,List.filter_map,List.map_map]
 rfl
theorem Te {ys:List Str} (h:ys≠[]):∃ y∈ys,o9 (.lst (SS ys)) (.int 0)=zT y:=by
 cases ys with
 | nil=>exact absurd rfl h
 | cons y t=>exact ⟨y,List.mem_cons_self,by show (fW (SS (y::t)) 0).map _=_; rw [show SS (y::t)=.str y::SS t from rfl,at0]; rfl⟩
theorem J6 {fa fb:EF} {ρ ρ1 ρ2:Ev} {l m r:Lc} {qs:List PV} {q:PV} (h1:fa ρ=some (l,ρ1)) (hx:l.pv=.lst qs) (h2:fb ρ1=some (m,ρ2)) (hy:m.pv=q) (h3:o9 (.lst qs) q=some r):jt fa fb ρ=some (r,ρ2):=by
 unfold jt
 rw [h1,Option.bind_some,h2,Option.bind_some]
 dsimp only
 rw [hx]
 dsimp only
 exact lJ (fa:=fun _=>some (l,ρ1)) (fb:=fun _=>some (m,ρ2)) rfl hx rfl hy (fun n h=>by cases h) h3
theorem Fe {f:EF} {ρ ρ1:Ev} {l:Lc} {qs:List PV} (h:f ρ=some (l,ρ1)) (hl:l.pv=.lst qs):qx f ρ=some (.sh (.int (qs.length:Nat)),ρ1):=by
 unfold qx
 rw [h,Option.bind_some,hl]
 rfl
theorem Ff {a b:Int}:Bx (.int a) (.int b)=yS (.bl (a==b)):=rfl
noncomputable abbrev J7 (xs:List Str):FD:=[("names",.lst (SS xs))]
noncomputable abbrev J8 (xs:List Str) (ps:List (Str×Str)):FD:=[("names",.lst (SS xs)),("above",DF ps xs)]
noncomputable abbrev zG (xs:List Str) (ps:List (Str×Str)) (lj:iZ):FD:=[("names",.lst (SS xs)),("above",DF ps xs),("joins",iI lj)]
noncomputable abbrev Fg (xs:List Str) (ps:List (Str×Str)) (lj lm:iZ):FD:=[("names",.lst (SS xs)),("above",DF ps xs),("joins",iI lj),("meets",iI lm)]
noncomputable abbrev Fi (xs:List Str) (ps:List (Str×Str)) (lj lm:iZ) (lo:Str):FD:=[("names",.lst (SS xs)),("above",DF ps xs),("joins",iI lj),("meets",iI lm),("lowest",.str lo)]
theorem gA {f g:Str} {p q:PV} {r:FD} (h:¬ g=f):gC f p ((g,q)::r)=(g,q)::gC f p r:=by
 show (if g=f then _ else _)=_
 rw [if_neg h]
theorem Qj {xs:List Str} {ps:List (Str×Str)} {mu:Mu} (ok:Hl xs ps) (hro:dj [.lst (SS xs),.lst (PP ps)] (mu++[some (bZ "Order" [])])=some (.ok (.sh .non,mu++[some (bZ "Order" [])]))):∃ l,Ul xs ps l/\bL [.ptr mu.length,.lst (SS xs),.lst (PP ps)] (mu++[some (bZ "Order" [])])=some (.ok (.sh .non,mu++[some (bZ "Order" l)])):=by
 have l8:=ok.l8
 have hset:∀ (p q:Option PV),(mu++[p]).set mu.length q=mu++[q]:=fun p q=>by rw [List.set_append_right _ _ (Nat.le_refl _)]; simp
 have hget:∀ (p:Option PV),(mu++[p])[mu.length]?=some p:=fun p=>by rw [List.getElem?_append_right (Nat.le_refl _)]; simp
 obtain ⟨lj,ej,t1,t2⟩:=uE (ps:=ps) (names:=xs) (mu:=mu++[some (bZ "Order" (J8 xs ps))]) ok.lp (fun q hq=>(ok.mem q hq).2) (by omega)
 have hsw:∀ q∈iy ps,q.2∈xs:=fun q hq=>by
  obtain ⟨q',hq',rfl⟩:=List.mem_map.mp hq
  exact (ok.mem q' hq').1
 obtain ⟨lm,em,t3,t4⟩:=uE (ps:=iy ps) (names:=xs) (mu:=mu++[some (bZ "Order" (zG xs ps lj))]) (by rw [List.length_map]; exact ok.lp) hsw (by omega)
 let E:FD->Ev:=fun l=>⟨[yS (.ptr mu.length),zS xs,zP ps],mu++[some (bZ "Order" l)]⟩
 have sf:∀ (f:Str) (fv:EF) (l:FD) (y:Lc),fv (E l)=some (y,E l)->l.length<1000->iB "Order" f (aa 0) fv (E l)=some (.nx (E (gC f y.pv l))):=fun f fv l y h hl=>by
  rw [Qi h rfl (x:=.sh (.ptr mu.length)) (ρ2:=E l) rfl rfl (hget _) hl,show (E l).mu=mu++[some (bZ "Order" l)] from rfl,hset]
 have s1:iB "Order" "names" (aa 0) (eB list1 (aj (aa 1) ao)) (E [])=some (.nx (E (J7 xs))):=sf _ _ [] (.own (.lst (SS xs))) rfl (by decide)
 have p2:gC "above" (DF ps xs) (J7 xs)=(J8 xs ps):=by
  rw [gA (show ¬ (("names" : Str) = "above") from by decide +kernel)]
  rfl
 have s2:iB "Order" "above" (aa 0) (mW (aG cZ (aj (aa 1) (aj (aa 2) ao)))) (E (J7 xs))=some (.nx (E (J8 xs ps))):=by
  rw [← p2]
  refine sf _ _ _ (.sh (DF ps xs)) ?_ (by show 1<1000; decide)
  have e1:aG cZ (aj (aa 1) (aj (aa 2) ao)) (E (J7 xs))=some (.own (lK (iw ps xs)),E (J7 xs)):=aP (au rfl (au rfl rfl)) rfl rfl rfl (pN ok.lp ok.nd (by omega))
  unfold mW
  rw [e1]
  rfl
 have fab:∀ (fo:EF) (ρ:Ev) (l:FD),fo ρ=some (.sh (.ptr mu.length),ρ)->ρ.mu=mu++[some (bZ "Order" (("names",.lst (SS xs))::("above",DF ps xs)::l))]->pI "Order" "above" fo ρ=some (.sh (DF ps xs),ρ):=fun fo ρ l h hm=>by
  refine Td h rfl (by rw [hm]; exact hget _) ?_
  show (if ("names" : Str) = "above" then _ else _)=_
  rw [if_neg (show ¬ (("names" : Str) = "above") from by decide +kernel)]
  show (if ("above" : Str) = "above" then _ else _)=_
  rw [if_pos rfl]
 have p3:gC "joins" (iI lj) (J8 xs ps)=(zG xs ps lj):=by
  rw [gA (show ¬ (("names" : Str) = "joins") from by decide +kernel),gA (show ¬ (("above" : Str) = "joins") from by decide +kernel)]
  rfl
 have s3:iB "Order" "joins" (aa 0) (aG ir (aj (pI "Order" "above" (aa 0)) ao)) (E (J8 xs ps))=some (.nx (E (zG xs ps lj))):=by
  rw [← p3]
  refine sf _ _ _ (.own (iI lj)) ?_ (by show 2<1000; decide)
  exact aP (au (fab _ _ [] rfl rfl) rfl) rfl rfl rfl ej
 have p4:gC "meets" (iI lm) (zG xs ps lj)=(Fg xs ps lj lm):=by
  rw [gA (show ¬ (("names" : Str) = "meets") from by decide +kernel),gA (show ¬ (("above" : Str) = "meets") from by decide +kernel),gA (show ¬ (("joins" : Str) = "meets") from by decide +kernel)]
  rfl
 have s4:iB "Order" "meets" (aa 0) (aG ir (aj (mW (aG cD (aj (aa 1) (aj (aa 2) ao)))) ao)) (E (zG xs ps lj))=some (.nx (E (Fg xs ps lj lm))):=by
  rw [← p4]
  refine sf _ _ _ (.own (iI lm)) ?_ (by show 3<1000; decide)
  have e1:aG cD (aj (aa 1) (aj (aa 2) ao)) (E (zG xs ps lj))=some (.own (lK (iw (iy ps) xs)),E (zG xs ps lj)):=aP (au rfl (au rfl rfl)) rfl rfl rfl (rC ok.lp ok.nd (by omega))
  refine aP (au (l:=.sh (DF (iy ps) xs)) (ls:=[]) (ρ1:=E (zG xs ps lj)) ?_ rfl) rfl rfl rfl em
  unfold mW
  rw [e1]
  rfl
 have lenA:∀ (ρ:Ev) (l:FD) (x:Str),x∈xs->ρ.vs[0]?=some (zT x)->ρ.vs[1]?=some (yS (.ptr mu.length))->ρ.set 0 (zT x)=ρ->ρ.set 1 (yS (.ptr mu.length))=ρ->ρ.mu=mu++[some (bZ "Order" (("names",.lst (SS xs))::("above",DF ps xs)::l))]->qx (jt (pI "Order" "above" (aa 1)) (aa 0)) ρ=some (.sh (.int ((cY ps x).length:Nat)),ρ):=fun ρ l x hx h0 h1 hs0 hs1 hm=>by
  have v0:aa 0 ρ=some (.sh (.str x),ρ):=by unfold aa; rw [h0]; show some (Lc.sh (PV.str x),ρ.set 0 (zT x))=_; rw [hs0]
  have v1:aa 1 ρ=some (.sh (.ptr mu.length),ρ):=by unfold aa; rw [h1]; show some (Lc.sh (PV.ptr mu.length),ρ.set 1 (yS (.ptr mu.length)))=_; rw [hs1]
  have:=Fe (xM (d:=iw ps xs) (fab _ _ l v1 hm) rfl v0 rfl (rB hx)) rfl
  rw [this,List.length_map]
 have lo_ne:(xs.filter fun x=>decide ((cY ps x).length=xs.length))≠[]:=by
  obtain ⟨x,hx,h⟩:=ok.lo
  exact List.ne_nil_of_mem (List.mem_filter.mpr ⟨hx,decide_eq_true h⟩)
 have hi_ne:(xs.filter fun x=>decide ((cY ps x).length=1))≠[]:=by
  obtain ⟨x,hx,h⟩:=ok.hi
  exact List.ne_nil_of_mem (List.mem_filter.mpr ⟨hx,decide_eq_true h⟩)
 obtain ⟨lo,hlo,alo⟩:=Te lo_ne
 obtain ⟨hi,hhi,ahi⟩:=Te hi_ne
 have p5:gC "lowest" (.str lo) (Fg xs ps lj lm)=(Fi xs ps lj lm lo):=by
  rw [gA (show ¬ (("names" : Str) = "lowest") from by decide +kernel),gA (show ¬ (("above" : Str) = "lowest") from by decide +kernel),gA (show ¬ (("joins" : Str) = "lowest") from by decide +kernel),gA (show ¬ (("meets" : Str) = "lowest") from by decide +kernel)]
  rfl
 have s5:iB "Order" "lowest" (aa 0) (jt (bO (dB (aa 1) bG) 1 [0,1] (aA 0) (tT (aq Bx (qx (jt (pI "Order" "above" (aa 1)) (aa 0))) (qx (aa 2))) aN) (aa 0)) (eC (.int 0))) (E (Fg xs ps lj lm))=some (.nx (E (Fi xs ps lj lm lo))):=by
  rw [← p5]
  refine sf _ _ _ (.sh (.str lo)) ?_ (by show 4<1000; decide)
  refine J6 (l:=.own (.lst (SS (xs.filter fun x=>decide ((cY ps x).length=xs.length))))) ((fO (ρ1:=E (Fg xs ps lj lm)) (gW (l:=wS xs) rfl rfl rfl) (zF (ps:=ps) (n:=0) (l:=[]) (c:=xs.length) (vs:=[yS (.ptr mu.length),zS xs]) (mu:=mu++[some (bZ "Order" (Fg xs ps lj lm))]) (by omega) fun x hx=>?_)).trans rfl) rfl rfl rfl alo
  refine (bH (l:=.sh (.bl ((((cY ps x).length:Nat):Int)==((SS xs).length:Nat)))) (aR (lenA _ _ x hx rfl rfl rfl rfl rfl) rfl (Fe (l:=wS xs) rfl rfl) rfl Ff) rfl rfl).trans ?_
  rw [List.length_map]
  congr 2
  rw [Bool.eq_iff_iff,beq_iff_eq,decide_eq_true_eq]
  omega
 have p6:gC "highest" (.str hi) (Fi xs ps lj lm lo)=oF xs ps lj lm lo hi:=by
  rw [gA (show ¬ (("names" : Str) = "highest") from by decide +kernel),gA (show ¬ (("above" : Str) = "highest") from by decide +kernel),gA (show ¬ (("joins" : Str) = "highest") from by decide +kernel),gA (show ¬ (("meets" : Str) = "highest") from by decide +kernel),gA (show ¬ (("lowest" : Str) = "highest") from by decide +kernel)]
  rfl
 have s6:iB "Order" "highest" (aa 0) (jt (bO (dB (aa 1) bG) 1 [0] (aA 0) (tT (aq Bx (qx (jt (pI "Order" "above" (aa 1)) (aa 0))) (eC (.int 1))) aN) (aa 0)) (eC (.int 0))) (E (Fi xs ps lj lm lo))=some (.nx (E (oF xs ps lj lm lo hi))):=by
  rw [← p6]
  refine sf _ _ _ (.sh (.str hi)) ?_ (by show 5<1000; decide)
  refine J6 (l:=.own (.lst (SS (xs.filter fun x=>decide ((cY ps x).length=1))))) ((fO (ρ1:=E (Fi xs ps lj lm lo)) (gW (l:=wS xs) rfl rfl rfl) (zF (ps:=ps) (n:=0) (l:=[]) (c:=1) (vs:=[yS (.ptr mu.length)]) (mu:=mu++[some (bZ "Order" (Fi xs ps lj lm lo))]) (by omega) fun x hx=>?_)).trans rfl) rfl rfl rfl ahi
  refine (bH (l:=.sh (.bl ((((cY ps x).length:Nat):Int)==1))) (aR (lenA _ _ x hx rfl rfl rfl rfl rfl) rfl rfl rfl Ff) rfl rfl).trans ?_
  congr 2
  rw [Bool.eq_iff_iff,beq_iff_eq,decide_eq_true_eq]
  omega
 refine ⟨oF xs ps lj lm lo hi,⟨⟨lj,lm,lo,hi,rfl,t1,t2,t3,t4,⟨(List.mem_filter.mp hlo).1,of_decide_eq_true (List.mem_filter.mp hlo).2⟩,(List.mem_filter.mp hhi).1,of_decide_eq_true (List.mem_filter.mp hhi).2⟩⟩,?_⟩
 exact yD (ρ:=E (oF xs ps lj lm lo hi)) (cu (ρ':=E []) (Ak (sZ (au rfl (au rfl rfl)) rfl rfl rfl (ql ok.toBase)) rfl) (cu (ρ':=E []) (Ak (sZ (au rfl (au rfl rfl)) rfl rfl rfl hro) rfl) (cu (gw s1) (cu (gw s2) (cu (gw s3) (cu (gw s4) (cu (gw s5) (gw s6))))))))
theorem Fj {xs:List Str} {ps:List (Str×Str)} {mu:Mu} {ρ:Ev} (B:Base xs ps) (h:dj [.lst (SS xs),.lst (PP ps)] (mu++[some (bZ "Order" [])])=some (.xc "NoOrder" ρ)):∃ ρ',ρ'.mu=ρ.mu/\bL [.ptr mu.length,.lst (SS xs),.lst (PP ps)] (mu++[some (bZ "Order" [])])=some (.xc "NoOrder" ρ'):=
 ⟨⟨[yS (.ptr mu.length),zS xs,zP ps],ρ.mu⟩,rfl,lD (cu (ρ':=⟨[yS (.ptr mu.length),zS xs,zP ps],mu++[some (bZ "Order" [])]⟩) (Ak (sZ (au rfl (au rfl rfl)) rfl rfl rfl (ql B)) rfl) (mD (Hm (v6 (au rfl (au rfl rfl)) rfl rfl rfl h))))⟩
theorem Qk {xs:List Str} {ps:List (Str×Str)} {mu:Mu} (hl:xs.length<=1000) (h1:∀ x∈xs,bB x=true) (h2:∀ q∈ps,bB q.1=true/\bB q.2=true) (hg:nU xs ps=false):∃ ρ',ρ'.mu=mu++[some (bZ "Order" [])]/\bL [.ptr mu.length,.lst (SS xs),.lst (PP ps)] (mu++[some (bZ "Order" [])])=some (.xc "NoName" ρ'):=by
 have:=mF (xs:=xs) (ps:=ps) (mu:=mu++[some (bZ "Order" [])]) hl h1 h2
 rw [hg,if_neg (by decide)] at this
 obtain ⟨ρ,e1,e2⟩:=this
 exact ⟨⟨[yS (.ptr mu.length),zS xs,zP ps],ρ.mu⟩,e1,lD (mD (Hm (v6 (au rfl (au rfl rfl)) rfl rfl rfl e2)))⟩
noncomputable def U (ps:List (Str×Str)) (a b:Str):Bool:=has (cY ps a) b
noncomputable def jn (ps:List (Str×Str)) (a b:Str):Str:=match bnd ps a b with
 | .str r=>r
 | _ => ""
section
variable {n:Nat} {mu:Mu} {xs:List Str} {ps:List (Str×Str)} {a b:Str}
theorem Tf (h:bnd ps a b≠.non):bnd ps a b=.str (jn ps a b):=by
 unfold jn
 unfold bnd at h ⊢
 split
 . rename_i r e
   rfl
 . rename_i e
   rw [e] at h
   exact absurd rfl h
theorem Al (ok:ps.length<=68):U ps a b=true ↔ Rt (fun a b=>(a,b)∈ps) a b:=by
 unfold U
 rw [bD,lC ok]
theorem Tg (ok:ps.length<=68) (an:Fb ps) (h:U ps a b=true) (g:U ps b a=true):a=b:=by
 obtain ⟨ht,hh⟩:=an
 have key:∀ {x y:Str},Rt (fun a b=>(a,b)∈ps) x y->x=y\/ht x<ht y:=by
  intro x y r
  induction r with
  | refl=>exact .inl rfl
  | @step y z _ e ih=>
   by_cases hyz:y=z
   . rw [← hyz]; exact ih
   . have:=hh (y,z) e hyz
     rcases ih with rfl | ih
     . exact .inr this
     . exact .inr (Nat.lt_trans ih this)
 rcases key ((Al ok).mp h) with e | h1
 . exact e
 . rcases key ((Al ok).mp g) with e | h2
   . exact e.symm
   . omega
theorem Ql {qs:List (Str×Str)} (h:bnd qs a b≠.non):jn qs a b∈cY qs a/\jn qs a b∈cY qs b/\∀ y∈cY qs a,y∈cY qs b->y∈cY qs (jn qs a b):=by
 have e:=Tf h
 unfold bnd at e
 split at e
 . rename_i r hf
   injection e with e
   rw [← e]
   have h1:=List.mem_of_find?_eq_some hf
   have h2:=List.find?_some hf
   unfold shd at h1
   obtain ⟨g1,g2⟩:=List.mem_filter.mp h1
   refine ⟨g1,bD.mp g2,fun y hy hy'=>?_⟩
   unfold good at h2
   exact bD.mp (List.all_eq_true.mp h2 y (List.mem_filter.mpr ⟨hy,bD.mpr hy'⟩))
 . cases e
end
theorem J9 {C:Str} {g:GX} {a:AF} {hh:Str->SF} {ρ ρ1:Ev} {ls:List Lc} {us:List PV} {mu2:Mu} (h:a ρ=some (ls,ρ1)) (hps:ls.map Lc.pv=us) (h2:g (.ptr ρ1.mu.length::us) (ρ1.mu++[some (bZ C [])])=some (.ok (.sh .non,mu2))):vU (xB (iM C g a) qg) hh ρ=some (.nx ⟨ρ1.vs,mu2⟩):=by
 have e:iM C g a ρ=some (.ok (.sh (.ptr ρ1.mu.length),⟨ρ1.vs,mu2⟩)):=by
  unfold iM
  rw [h,Option.bind_some,hps]
  rw [show g (.ptr ρ1.mu.length::us) (ρ1.mu++[some (.obj C [] [])])=_ from h2]
  rfl
 unfold vU xB
 rw [e]
 rfl
theorem xT {C D:Str} {g:GX} {a:AF} {hh:Str->SF} {ρ ρ1 ρ':Ev} {ls:List Lc} {us:List PV} (h:a ρ=some (ls,ρ1)) (hps:ls.map Lc.pv=us) (h2:g (.ptr ρ1.mu.length::us) (ρ1.mu++[some (bZ C [])])=some (.xc D ρ')):vU (xB (iM C g a) qg) hh ρ=hh D ⟨ρ1.vs,ρ'.mu⟩:=by
 have e:iM C g a ρ=some (.xc D ⟨ρ1.vs,ρ'.mu⟩):=by
  unfold iM
  rw [h,Option.bind_some,hps]
  rw [show g (.ptr ρ1.mu.length::us) (ρ1.mu++[some (.obj C [] [])])=_ from h2]
  rfl
 unfold vU xB
 rw [e]
 rfl
inductive Out where
 | made | name | order
noncomputable def Out.str:Out->Str
 | .made => "made"
 | .name => "name"
 | .order => "order"
noncomputable def Comes (xs:List Str) (ps:List (Str×Str)) (o:Out):Prop:=∀ mu:Mu,match o with
 | .made=>∃ mu2,bL [.ptr mu.length,.lst (SS xs),.lst (PP ps)] (mu++[some (bZ "Order" [])])=some (.ok (.sh .non,mu2))
 | .name=>∃ ρ,bL [.ptr mu.length,.lst (SS xs),.lst (PP ps)] (mu++[some (bZ "Order" [])])=some (.xc "NoName" ρ)
 | .order=>∃ ρ,bL [.ptr mu.length,.lst (SS xs),.lst (PP ps)] (mu++[some (bZ "Order" [])])=some (.xc "NoOrder" ρ)
section
variable {xs:List Str} {ps:List (Str×Str)}
theorem Hn (ok:Hl xs ps):Comes xs ps .made:=fun mu=>by
 have er:∀ mu,dC [.lst (SS xs),.lst (PP ps)] mu=some (.sh .non,mu):=by
  rcases yE ok.toBase with ⟨_,h⟩ | h
  . exact h
  . obtain ⟨r,_,rk⟩:=h []
    obtain ⟨hh,h'⟩:=ok.acyc
    exact (Rg.ring_no rk h').elim
 have el:∀ mu,gY [.lst (SS xs),.lst (PP ps)] mu=some (.sh .non,mu):=by
  rcases Fd ok.toBase with ⟨_,h⟩ | h
  . exact h
  . obtain ⟨l,_,lk⟩:=h []
    rcases lk with ⟨a,ha,b,hb,_,z⟩ | ⟨a,ha,b,hb,_,z⟩
    . exact (ok.up a ha b hb z).elim
    . exact (ok.dn a ha b hb z).elim
 obtain ⟨l,_,e⟩:=Qj (mu:=mu) ok (J5 ok.toBase (er _) (el _))
 exact ⟨_,e⟩
theorem xU (hl:xs.length<=1000) (h1:∀ x∈xs,bB x=true) (h2:∀ q∈ps,bB q.1=true/\bB q.2=true) (hg:nU xs ps=false):Comes xs ps .name:=fun mu=>by
 obtain ⟨ρ,_,e⟩:=Qk (mu:=mu) hl h1 h2 hg
 exact ⟨ρ,e⟩
theorem Ho (B:Base xs ps) (h:¬ Fb ps):Comes xs ps .order:=fun mu=>by
 rcases yE B with ⟨h',_⟩ | hr
 . exact (h h').elim
 . obtain ⟨r,e1,rk⟩:=hr (mu++[some (bZ "Order" [])])
   have nd:r.Nodup:=by
    refine List.pairwise_iff_getElem.mpr fun i j hi hj hij e=>?_
    exact rk.dis j r[j] (List.getElem?_eq_getElem hj) (by rw [← e]; exact List.mem_take_iff_getElem.mpr ⟨i,by omega,rfl⟩)
   have l8:=Nat.le_trans (mz nd rk.sub) B.l8
   obtain ⟨ρ,_,e2⟩:=Di B e1 rk (by omega)
   obtain ⟨ρ',_,e3⟩:=Fj B e2
   exact ⟨ρ',e3⟩
theorem Hq (B:Base xs ps) (nr:Fb ps) (h:∃ a∈xs,∃ b∈xs,bnd ps a b=.non):Comes xs ps .order:=fun mu=>by
 have er:∀ mu,dC [.lst (SS xs),.lst (PP ps)] mu=some (.sh .non,mu):=by
  rcases yE B with ⟨_,h⟩ | h
  . exact h
  . obtain ⟨r,_,rk⟩:=h []
    obtain ⟨hh,h'⟩:=nr
    exact (Rg.ring_no rk h').elim
 rcases Fd B with ⟨⟨up,_⟩,_⟩ | hl
 . obtain ⟨a,ha,b,hb,z⟩:=h
   exact (up a ha b hb z).elim
 . obtain ⟨l,e1,lk⟩:=hl (mu++[some (bZ "Order" [])])
   obtain ⟨ρ,_,e2⟩:=Dj B (er _) e1 lk
   obtain ⟨ρ',_,e3⟩:=Fj B e2
   exact ⟨ρ',e3⟩
theorem Hr:Comes [] [] .order:=fun mu=>by
 have e1:eU [.lst (SS []),.lst (PP [])] (mu++[some (bZ "Order" [])])=some (.ok (.sh .non,mu++[some (bZ "Order" [])])):=by
  have:=mF (xs:=[]) (ps:=[]) (mu:=mu++[some (bZ "Order" [])]) (by simp) (fun x h=>by cases h) fun q h=>by cases h
  rw [if_pos (show nU [] []=true from rfl)] at this
  exact this
 have e2:dj [.lst (SS []),.lst (PP [])] (mu++[some (bZ "Order" [])])=some (.xc "NoOrder" ⟨[zS [],zP [],none,none],mu++[some (bZ "Order" [])]⟩):=lD (mD ((qj (ρ1:=⟨[zS [],zP [],none,none],mu++[some (bZ "Order" [])]⟩) rfl).trans rfl))
 exact ⟨_,lD (cu (ρ':=⟨[yS (.ptr mu.length),zS [],zP []],mu++[some (bZ "Order" [])]⟩) (Ak (sZ (au rfl (au rfl rfl)) rfl rfl rfl e1) rfl) (mD (Hm (v6 (au rfl (au rfl rfl)) rfl rfl rfl e2))))⟩
end
noncomputable abbrev CQ (xs:List Str) (ps:List (Str×Str)) (o2:Option Lc) (mu:Mu):Ev:=⟨[zS xs,zP ps,o2],mu⟩
theorem Cu {xs:List Str} {ps:List (Str×Str)} {o:Out} {mu:Mu} (h:Comes xs ps o):∃ mu',cJ [.lst (SS xs),.lst (PP ps)] mu=some (.sh (.str o.str),mu'):=by
 have h:=h mu
 have s1:aK 2 (eC (.str "made")) (CQ xs ps none mu)=some (.nx (CQ xs ps (some (.sh (.str "made"))) mu)):=rfl
 have ag:aj (aa 0) (aj (aa 1) ao) (CQ xs ps (some (.sh (.str "made"))) mu)=some ([wS xs,.sh (.lst (PP ps))],CQ xs ps (some (.sh (.str "made"))) mu):=rfl
 cases o with
 | made=>
  obtain ⟨mu2,e⟩:=h
  exact ⟨mu2,aQ (ρ:=CQ xs ps none mu2) (aF s1 (aF (ρ':=CQ xs ps (some (.sh (.str "made"))) mu2) (J9 ag rfl e) rfl))⟩
 | name=>
  obtain ⟨ρ,e⟩:=h
  refine ⟨ρ.mu,aQ (ρ:=CQ xs ps none ρ.mu) (aF s1 (aF (ρ':=CQ xs ps (some (.sh (.str "name"))) ρ.mu) ((xT ag rfl e).trans ?_) rfl))⟩
  show nQ ["NoName"] ["NoOrder"] _ _ "NoName" _=_
  unfold nQ
  rw [if_pos (List.mem_singleton.mpr rfl)]
  rfl
 | order=>
  obtain ⟨ρ,e⟩:=h
  refine ⟨ρ.mu,aQ (ρ:=CQ xs ps none ρ.mu) (aF s1 (aF (ρ':=CQ xs ps (some (.sh (.str "order"))) ρ.mu) ((xT ag rfl e).trans ?_) rfl))⟩
  have ne:¬ (("NoOrder" : Str)∈(["NoName"]:List Str)):=by decide +kernel
  show nQ ["NoName"] ["NoOrder"] (aK 2 (eC (.str "name"))) (nQ ["NoOrder"] ["NoName"] (aK 2 (eC (.str "order"))) BR) "NoOrder" _=_
  unfold nQ
  rw [if_neg ne,if_pos (List.mem_singleton.mpr rfl)]
  dsimp only
  rw [if_pos (List.mem_singleton.mpr rfl)]
  rfl
section
variable {C:Str} {mu:Mu}
theorem Hs {L1 L2:List Str} (h:C∈L1):jk L1 L2 (aa 0) ⟨[yS (.exc C)],mu⟩=some (.sh (.bl true),⟨[yS (.exc C)],mu⟩):=by
 show (if C∈L1 then some (Lc.sh (.bl true),(⟨[yS (.exc C)],mu⟩:Ev)) else if C∈L2 then some (Lc.sh (.bl false),(⟨[yS (.exc C)],mu⟩:Ev)) else none)=_
 rw [if_pos h]
theorem Ht {L1 L2:List Str} (h:¬ C∈L1) (h2:C∈L2):jk L1 L2 (aa 0) ⟨[yS (.exc C)],mu⟩=some (.sh (.bl false),⟨[yS (.exc C)],mu⟩):=by
 show (if C∈L1 then some (Lc.sh (.bl true),(⟨[yS (.exc C)],mu⟩:Ev)) else if C∈L2 then some (Lc.sh (.bl false),(⟨[yS (.exc C)],mu⟩:Ev)) else none)=_
 rw [if_neg h,if_pos h2]
theorem Ms {b:Bool} (hC:C=(if b=true then ("NoName" : Str) else "NoOrder")):iW [.exc C] mu=some (.sh (.str (if b=true then "name" else "order")),mu):=by
 let E:Ev:=⟨[yS (.exc C)],mu⟩
 have both:C∈(["NoName", "NoOrder"]:List Str):=by rw [hC]; cases b<;>simp
 have n1:jk ["NoName"] ["NoOrder"] (aa 0) E=some (.sh (.bl b),E):=by
  cases b with
  | true=>exact Hs (by rw [hC]; simp)
  | false=>exact Ht (by rw [hC]; decide +kernel) (by rw [hC]; simp)
 have n2:jk ["NoOrder"] ["NoName"] (aa 0) E=some (.sh (.bl (!b)),E):=by
  cases b with
  | true=>exact Ht (by rw [hC]; decide +kernel) (by rw [hC]; simp)
  | false=>exact Hs (by rw [hC]; simp)
 have t1:jf (tT (jk ["NoName", "NoOrder"] [] (aa 0)) bY) E=some (false,E):=ut (b:=true) (bH (Hs both) rfl rfl)
 have t2:tT (jk [] ["NoName", "NoOrder"] (aa 0)) bY E=some (false,E):=bH (Ht (by simp) both) rfl rfl
 have t3:tT (aq eqP (jk ["NoName"] ["NoOrder"] (aa 0)) (jk ["NoOrder"] ["NoName"] (aa 0))) aN E=some (false,E):=by
  refine (bH (l:=.sh (.bl (b==!b))) (aR n1 rfl n2 rfl rfl) rfl rfl).trans ?_
  cases b<;>rfl
 refine aQ (ρ:=E) (aF (ρ':=E) ((di (uX (b:=false) (b2:=false) t1 t1)).trans rfl) (aF (ρ':=E) ((di (uX (b:=false) (b2:=false) t2 (uX (b:=false) (b2:=false) t2 (uX (b:=false) (b2:=false) t2 t2)))).trans rfl) (aF (ρ':=E) ((di t3).trans rfl) (jq ?_))))
 have t4:tT (jk ["NoName"] ["NoOrder"] (aa 0)) bY E=some (b,E):=bH n1 rfl rfl
 unfold oV
 rw [t4,Option.bind_some]
 cases b<;>rfl
end
noncomputable abbrev DQ (xs:List Str) (ps:List (Str×Str)) (o2 o3:Option Lc) (mu:Mu):Ev:=⟨[zS xs,zP ps,o2,o3],mu⟩
theorem Qm {xs:List Str} {ps:List (Str×Str)} {o:Out} {mu:Mu} (h:Comes xs ps o):∃ mu',gf [.lst (SS xs),.lst (PP ps)] mu=some (.sh (.str o.str),mu'):=by
 have h:=h mu
 have s1:aK 2 (eC (.str "made")) (DQ xs ps none none mu)=some (.nx (DQ xs ps (some (.sh (.str "made"))) none mu)):=rfl
 have ag:aj (aa 0) (aj (aa 1) ao) (DQ xs ps (some (.sh (.str "made"))) none mu)=some ([wS xs,.sh (.lst (PP ps))],DQ xs ps (some (.sh (.str "made"))) none mu):=rfl
 have hc:∀ {C:Str} {b:Bool} {mu:Mu},C=(if b=true then ("NoName" : Str) else "NoOrder")->uz 3 ["NoName", "NoOrder"] [] (aK 2 (aG iW (aj (aa 3) ao))) BR C (DQ xs ps (some (.sh (.str "made"))) none mu)=some (.nx (DQ xs ps (zT (if b=true then "name" else "order")) none mu)):=fun {C b mu} hC=>by
  unfold uz
  rw [if_pos (show C∈(["NoName", "NoOrder"]:List Str) by rw [hC]; cases b<;>simp),if_pos (by show 3<4; decide)]
  rw [show aK 2 (aG iW (aj (aa 3) ao)) ((DQ xs ps (some (.sh (.str "made"))) none mu).set 3 (yS (.exc C)))=some (.nx (DQ xs ps (zT (if b=true then "name" else "order")) (yS (.exc C)) mu)) from bf (ρ1:=DQ xs ps (some (.sh (.str "made"))) (yS (.exc C)) mu) (aP (au rfl rfl) rfl rfl rfl (Ms hC)) rfl rfl]
  rfl
 cases o with
 | made=>
  obtain ⟨mu2,e⟩:=h
  exact ⟨mu2,aQ (ρ:=DQ xs ps none none mu2) (aF s1 (aF (ρ':=DQ xs ps (some (.sh (.str "made"))) none mu2) (J9 ag rfl e) rfl))⟩
 | name=>
  obtain ⟨ρ,e⟩:=h
  exact ⟨ρ.mu,aQ (ρ:=DQ xs ps none none ρ.mu) (aF s1 (aF (ρ':=DQ xs ps (some (.sh (.str "name"))) none ρ.mu) ((xT ag rfl e).trans (hc (b:=true) rfl)) rfl))⟩
 | order=>
  obtain ⟨ρ,e⟩:=h
  exact ⟨ρ.mu,aQ (ρ:=DQ xs ps none none ρ.mu) (aF s1 (aF (ρ':=DQ xs ps (some (.sh (.str "order"))) none ρ.mu) ((xT ag rfl e).trans (hc (b:=false) rfl)) rfl))⟩
theorem Fo {α:Type} {xs:List α} {k:Nat} {p:α} (h:xs[k]?=some p):fW xs (k:Int)=some p:=by
 have hk:=(List.getElem?_eq_some_iff.mp h).1
 unfold fW pR
 rw [if_pos (by omega),if_pos (by omega)]
 exact h
theorem Mt {xs:List Str} (hd:xs.Nodup) {i j:Nat} (hi:i<xs.length) (hj:j<xs.length) (e:xs[i]=xs[j]):i=j:=by
 rcases Nat.lt_trichotomy i j with h | h | h
 . exact absurd e (List.pairwise_iff_getElem.mp hd i j hi hj h)
 . exact h
 . exact absurd e.symm (List.pairwise_iff_getElem.mp hd j i hj hi h)
theorem Cv {xs:List Str} (hd:xs.Nodup) {i j:Nat} {a:Str} (hi:xs[i]?=some a) (hj:xs[j]?=some a):i=j:=by
 obtain ⟨h1,e1⟩:=List.getElem?_eq_some_iff.mp hi
 obtain ⟨h2,e2⟩:=List.getElem?_eq_some_iff.mp hj
 exact Mt hd h1 h2 (e1.trans e2.symm)
theorem qm {xs:List Str} {a:Str} (h:a∈xs):∃ i:Nat,i<xs.length/\xs[i]?=some a:=by
 obtain ⟨i,hi,e⟩:=List.getElem_of_mem h
 exact ⟨i,hi,by rw [← e]; exact List.getElem?_eq_getElem hi⟩
theorem nW {xs:List Str} {i:Nat} {a:Str} (h:xs[i]?=some a):i<xs.length:=(List.getElem?_eq_some_iff.mp h).1
theorem j7 {xs:List Str} {i:Nat} (h:i<xs.length):∃ a∈xs,xs[i]?=some a:=⟨xs[i],List.getElem_mem h,List.getElem?_eq_getElem h⟩
theorem Th {xs:List Str} {k:Nat} {x:Str} (h:xs[k]?=some x):o9 (.lst (SS xs)) (.int (k:Nat))=zT x:=by
 show (fW (SS xs) (k:Int)).map _=_
 rw [Fo (p:=.str x) (by rw [List.getElem?_map,h]; rfl)]
 rfl
noncomputable def okN (n:Nat) (qs:List (Nat×Nat)):Prop:=∀ q∈qs,q.1<n/\q.2<n
theorem Qn {ps:List (Str×Str)} {a b:Str} (ok:ps.length<=68):b∈cY (iy ps) a ↔ has (cY ps b) a=true:=by
 rw [bD,lC ok,lC (by rw [List.length_map]; exact ok)]
 have e1:∀ x y:Str,(x,y)∈iy ps ↔ (y,x)∈ps:=fun x y=>by
  constructor
  . intro h
    obtain ⟨q,hq,e⟩:=List.mem_map.mp h
    cases e
    exact hq
  . intro h
    exact List.mem_map.mpr ⟨(y,x),h,rfl⟩
 constructor
 . intro h
   have h':=h.back
   clear h
   induction h' with
   | refl=>exact .refl _
   | step _ e ih=>exact ih.step ((e1 _ _).mp e)
 . intro h
   have h':=h.back
   clear h
   induction h' with
   | refl=>exact .refl _
   | step _ e ih=>exact ih.step ((e1 _ _).mpr e)
noncomputable def Ka (qs:List (Nat×Nat)):Nat->Nat->Prop:=fun a b=>(a,b)∈qs
noncomputable def pos (a:Str):List Str->Nat
 | []=>0
 | y::l=>if y=a then 0 else pos a l+1
theorem Cw {a:Str}:∀ {l:List Str} {i:Nat},l.Nodup->l[i]?=some a->pos a l=i
 | [],i,_,h=>by simp at h
 | y::l,i,nd,h=>by
  unfold pos
  have nd':=List.nodup_cons.mp nd
  cases i with
  | zero=>
   have e:y=a:=by simpa using h
   rw [if_pos e]
  | succ i=>
   have h':l[i]?=some a:=by simpa using h
   have ne:y≠a:=fun e=>nd'.1 (e▸List.mem_of_getElem? h')
   rw [if_neg ne,Cw nd'.2 h']
structure ju (xs ts:List Str) (ps:List (Str×Str)) (qs:List (Nat×Nat)) (R:Nat->Nat->Bool):Prop where
 nd:xs.Nodup
 ne:0<xs.length
 l8:xs.length<=8
 lp:ps.length<=68
 nm:∀ x∈xs,nameB x=true
 ndt:ts.Nodup
 lt:ts.length=xs.length
 tm:∀ x,x∈ts ↔ x∈xs
 ok:okN xs.length qs
 pm:∀ a b,(a,b)∈ps ↔ ∃ i j:Nat,xs[i]?=some a/\xs[j]?=some b/\(i,j)∈qs
 re:∀ a b,a<xs.length->b<xs.length->(R a b=true ↔ Rt (Ka qs) a b)
structure zH (n:Nat) (qs:List (Nat×Nat)) (R:Nat->Nat->Bool) (J M:Nat->Nat->Nat):Prop where
 anti:∀ a b,a<n->b<n->R a b=true->R b a=true->a=b
 bot:∀ a,a<n->R 0 a=true
 top:∀ a,a<n->R a (n-1)=true
 ht:∃ h:Nat->Nat,∀ q∈qs,q.1≠q.2->h q.1<h q.2
 jn:∀ a b,a<n->b<n->J a b<n/\R a (J a b)=true/\R b (J a b)=true/\∀ c,c<n->R a c=true->R b c=true->R (J a b) c=true
 mt:∀ a b,a<n->b<n->M a b<n/\R (M a b) a=true/\R (M a b) b=true/\∀ c,c<n->R c a=true->R c b=true->R c (M a b)=true
section
variable {xs ts:List Str} {ps:List (Str×Str)} {qs:List (Nat×Nat)} {R:Nat->Nat->Bool} {J M:Nat->Nat->Nat} {a b:Str} {i j:Nat}
theorem ju.to (S:ju xs ts ps qs R) {y:Str} (hi:xs[i]?=some a) (h:Rt (fun a b=>(a,b)∈ps) a y):∃ j:Nat,xs[j]?=some y/\Rt (Ka qs) i j:=by
 induction h with
 | refl=>exact ⟨i,hi,.refl i⟩
 | @step y z _ e ih=>
  obtain ⟨j,hj,r⟩:=ih
  obtain ⟨j',k,h1,h2,h3⟩:=(S.pm y z).mp e
  have:=Cv S.nd hj h1
  subst this
  exact ⟨k,h2,r.step h3⟩
theorem ju.up (S:ju xs ts ps qs R) (hi:xs[i]?=some a) (h:Rt (Ka qs) i j):∃ y,xs[j]?=some y/\Rt (fun a b=>(a,b)∈ps) a y:=by
 induction h with
 | refl=>exact ⟨a,hi,.refl a⟩
 | @step y z _ e ih=>
  obtain ⟨b,hb,r⟩:=ih
  obtain ⟨c,_,hc⟩:=j7 (S.ok _ e).2
  exact ⟨c,hc,r.step ((S.pm b c).mpr ⟨y,z,hb,hc,e⟩)⟩
theorem ju.ur (S:ju xs ts ps qs R) (hi:xs[i]?=some a) (hj:xs[j]?=some b):has (cY ps a) b=R i j:=by
 rw [Bool.eq_iff_iff,bD,lC S.lp,S.re i j (nW hi) (nW hj)]
 constructor
 . intro h
   obtain ⟨k,hk,r⟩:=S.to hi h
   have:=Cv S.nd hj hk
   subst this
   exact r
 . intro h
   obtain ⟨y,hy,r⟩:=S.up hi h
   rw [hj] at hy
   cases hy
   exact r
theorem ju.dr (S:ju xs ts ps qs R) (hi:xs[i]?=some a) (hj:xs[j]?=some b):has (cY (iy ps) a) b=R j i:=by
 rw [← S.ur hj hi,Bool.eq_iff_iff,bD,Qn S.lp]
theorem ju.mem (S:ju xs ts ps qs R):∀ q∈ps,q.1∈xs/\q.2∈xs:=fun q hq=>by
 obtain ⟨i,j,h1,h2,_⟩:=(S.pm q.1 q.2).mp hq
 exact ⟨List.mem_of_getElem? h1,List.mem_of_getElem? h2⟩
theorem ju.mem' (S:ju xs ts ps qs R):∀ q∈iy ps,q.2∈xs:=fun q hq=>by
 obtain ⟨q',hq',rfl⟩:=List.mem_map.mp hq
 exact (S.mem q' hq').1
theorem Cy {zs:List (Str×Str)} {S:Nat->Nat->Bool} (hc:∀ q∈zs,q.2∈xs) (hs:∀ {i j:Nat} {a b:Str},xs[i]?=some a->xs[j]?=some b->has (cY zs a) b=S i j) {k:Nat} (hi:xs[i]?=some a) (hj:xs[j]?=some b) (hk:k<xs.length) (h1:S i k=true) (h2:S j k=true) (h3:∀ c,c<xs.length->S i c=true->S j c=true->S k c=true) (anti:∀ c,c<xs.length->S k c=true->S c k=true->c=k):bnd zs a b≠.non/\xs[k]?=some (jn zs a b):=by
 obtain ⟨z,_,hz⟩:=j7 hk
 have hzs:z∈shd zs a b:=List.mem_filter.mpr ⟨bD.mp ((hs hi hz).trans h1),(hs hj hz).trans h2⟩
 have hb:bnd zs a b≠.non:=by
  unfold bnd
  cases e:(shd zs a b).find? (good zs a b) with
  | some r=>exact fun z=>by cases z
  | none=>
   have ng:=List.find?_eq_none.mp e z hzs
   refine absurd (List.all_eq_true.mpr fun y hy=>?_) ng
   obtain ⟨g1,g2⟩:=List.mem_filter.mp hy
   obtain ⟨m,hm,em⟩:=qm (m6 hc (List.mem_of_getElem? hi) g1)
   exact (hs hz em).trans (h3 m hm ((hs hi em).symm.trans (bD.mpr g1)) ((hs hj em).symm.trans g2))
 refine ⟨hb,?_⟩
 obtain ⟨f1,f2,f3⟩:=Ql hb
 obtain ⟨m,hm,em⟩:=qm (m6 hc (List.mem_of_getElem? hi) f1)
 have r1:=(hs hi em).symm.trans (bD.mpr f1)
 have r2:=(hs hj em).symm.trans (bD.mpr f2)
 have r3:=(hs em hz).symm.trans (bD.mpr (f3 z (bD.mp ((hs hi hz).trans h1)) (bD.mp ((hs hj hz).trans h2))))
 have:=anti m hm (h3 m hm r1 r2) r3
 rw [← this]
 exact em
theorem ju.jn (S:ju xs ts ps qs R) (L:zH xs.length qs R J M) (hi:xs[i]?=some a) (hj:xs[j]?=some b):bnd ps a b≠.non/\xs[J i j]?=some (jn ps a b):=by
 obtain ⟨h0,h1,h2,h3⟩:=L.jn i j (nW hi) (nW hj)
 exact Cy (fun q hq=>(S.mem q hq).2) (fun h g=>S.ur h g) hi hj h0 h1 h2 h3 fun c hc g1 g2=>L.anti c _ hc h0 g2 g1
theorem ju.mt (S:ju xs ts ps qs R) (L:zH xs.length qs R J M) (hi:xs[i]?=some a) (hj:xs[j]?=some b):bnd (iy ps) a b≠.non/\xs[M i j]?=some (Law.jn (iy ps) a b):=by
 obtain ⟨h0,h1,h2,h3⟩:=L.mt i j (nW hi) (nW hj)
 exact Cy (S:=fun a b=>R b a) S.mem' (fun h g=>S.dr h g) hi hj h0 h1 h2 h3 fun c hc g1 g2=>L.anti c _ hc h0 g1 g2
theorem ju.ord (S:ju xs ts ps qs R) (L:zH xs.length qs R J M):Hl ts ps:=by
 have ne:=S.ne
 obtain ⟨lo,_,hlo⟩:=j7 ne
 obtain ⟨hi,_,hhi⟩:=j7 (xs:=xs) (i:=xs.length-1) (by omega)
 refine ⟨⟨S.ndt,fun e=>?_,by rw [S.lt]; exact S.l8,S.lp,fun x hx=>S.nm x ((S.tm x).mp hx),fun q hq=>⟨(S.tm _).mpr (S.mem q hq).1,(S.tm _).mpr (S.mem q hq).2⟩⟩,?_,fun a ha b hb=>?_,fun a ha b hb=>?_,⟨lo,(S.tm lo).mpr (List.mem_of_getElem? hlo),?_⟩,hi,(S.tm hi).mpr (List.mem_of_getElem? hhi),?_⟩
 . have:=S.lt
   rw [e,List.length_nil] at this
   omega
 . obtain ⟨h,hh⟩:=L.ht
   refine ⟨fun x=>h (pos x xs),fun q hq hne=>?_⟩
   obtain ⟨i,j,h1,h2,h3⟩:=(S.pm q.1 q.2).mp hq
   show h (pos q.1 xs)<h (pos q.2 xs)
   rw [Cw S.nd h1,Cw S.nd h2]
   exact hh _ h3 fun e=>hne (by
    have e':i=j:=e
    rw [e',h2] at h1
    exact (Option.some.inj h1).symm)
 . obtain ⟨i,_,hi⟩:=qm ((S.tm a).mp ha)
   obtain ⟨j,_,hj⟩:=qm ((S.tm b).mp hb)
   exact (S.jn L hi hj).1
 . obtain ⟨i,_,hi⟩:=qm ((S.tm a).mp ha)
   obtain ⟨j,_,hj⟩:=qm ((S.tm b).mp hb)
   exact (S.mt L hi hj).1
 . refine Nat.le_antisymm (mz zy fun x hx=>(S.tm x).mpr (m6 (fun q hq=>(S.mem q hq).2) (List.mem_of_getElem? hlo) hx)) (mz S.ndt fun x hx=>?_)
   obtain ⟨i,i1,hi⟩:=qm ((S.tm x).mp hx)
   exact bD.mp ((S.ur hlo hi).trans (L.bot i i1))
 . refine Nat.le_antisymm (mz (r:=[hi]) zy fun x hx=>?_) (List.length_pos_of_mem ((lC S.lp).mpr (.refl hi)))
   obtain ⟨i,i1,hx'⟩:=qm (m6 (fun q hq=>(S.mem q hq).2) (List.mem_of_getElem? hhi) hx)
   have:=L.anti i (xs.length-1) i1 (by omega) (L.top i i1) ((S.ur hhi hx').symm.trans (bD.mpr hx))
   rw [this,hhi] at hx'
   exact List.mem_singleton.mpr (Option.some.inj hx').symm
end
noncomputable def Lq (ch:Bool) (n i j:Nat):Bool:=if ch=true then decide (i<=j) else decide (i=j\/i=0\/j=n-1)
theorem uI {ch:Bool} {n i j:Nat}:Lq ch n i j=true ↔ (ch=true/\i<=j)\/(ch=false/\(i=j\/i=0\/j=n-1)):=by
 unfold Lq
 cases ch with
 | true=>rw [if_pos rfl,decide_eq_true_iff]; simp
 | false=>rw [if_neg (by decide),decide_eq_true_iff]; simp
noncomputable def jI (ch:Bool) (n i j:Nat):Nat:=if Lq ch n i j=true then j else if Lq ch n j i=true then i else n-1
noncomputable def mI (ch:Bool) (n i j:Nat):Nat:=if Lq ch n i j=true then i else if Lq ch n j i=true then j else 0
noncomputable def qC (n:Nat):List (Nat×Nat):=(List.range (n-1)).map fun k=>(k,k+1)
noncomputable def qF (n:Nat):List (Nat×Nat):=((List.range (n-2)).map fun k=>(0,k+1))++(List.range (n-2)).map fun k=>(k+1,n-1)
noncomputable def qL (ch:Bool) (n:Nat):List (Nat×Nat):=if ch=true then qC n else qF n
theorem memC {n a b:Nat}:(a,b)∈qC n ↔ b=a+1/\b<n:=by
 unfold qC
 rw [List.mem_map]
 constructor
 . rintro ⟨k,hk,e⟩
   cases e
   have:=List.mem_range.mp hk
   omega
 . rintro ⟨rfl,h⟩
   exact ⟨a,List.mem_range.mpr (by omega),rfl⟩
theorem uJ {n a b:Nat}:(a,b)∈qF n ↔ (a=0/\0<b/\b<n-1)\/(b=n-1/\0<a/\a<n-1):=by
 unfold qF
 rw [List.mem_append,List.mem_map,List.mem_map]
 constructor
 . rintro (⟨k,hk,e⟩ | ⟨k,hk,e⟩)
   . cases e
     have:=List.mem_range.mp hk
     omega
   . cases e
     have:=List.mem_range.mp hk
     omega
 . rintro (⟨rfl,h1,h2⟩ | ⟨rfl,h1,h2⟩)
   . exact .inl ⟨b-1,List.mem_range.mpr (by omega),by rw [show b-1+1=b by omega]⟩
   . exact .inr ⟨a-1,List.mem_range.mpr (by omega),by rw [show a-1+1=a by omega]⟩
theorem N8 {ch:Bool} {n:Nat}:okN n (qL ch n):=fun q hq=>by
 unfold qL at hq
 obtain ⟨a,b⟩:=q
 split at hq
 . have:=memC.mp hq
   show a<n/\b<n
   omega
 . have:=uJ.mp hq
   show a<n/\b<n
   omega
theorem Um {ch:Bool} {n:Nat} (hc:ch=false->3<=n) (a b:Nat) (ha:a<n) (hb:b<n):Lq ch n a b=true ↔ Rt (Ka (qL ch n)) a b:=by
 rw [uI]
 cases ch with
 | true=>
  constructor
  . rintro (⟨_,h⟩ | ⟨h,_⟩)
    . induction b with
      | zero=>rw [show a=0 by omega]; exact .refl 0
      | succ b ih=>
       by_cases e:a=b+1
       . rw [e]; exact .refl _
       . exact (ih (by omega) (by omega)).step (memC.mpr ⟨rfl,hb⟩)
    . cases h
  . intro h
    refine .inl ⟨rfl,?_⟩
    clear hb
    induction h with
    | refl=>exact Nat.le_refl _
    | step _ e ih=>
     have:=memC.mp e
     omega
 | false=>
  have h3:=hc rfl
  constructor
  . rintro (⟨h,_⟩ | ⟨_,h⟩)
    . cases h
    . by_cases e:a=b
      . rw [e]; exact .refl _
      . by_cases e0:a=0
        . by_cases e1:b=n-1
          . subst e0 e1
            exact ((Rt.refl 0).step (uJ.mpr (.inl ⟨rfl,Nat.lt_succ_self 0,by omega⟩)):Rt (Ka (qL false n)) 0 1).step (uJ.mpr (.inr ⟨rfl,Nat.lt_succ_self 0,by omega⟩))
          . exact (Rt.refl a).step (uJ.mpr (.inl ⟨e0,by omega,by omega⟩))
        . exact (Rt.refl a).step (uJ.mpr (.inr ⟨by omega,by omega,by omega⟩))
  . intro h
    refine .inr ⟨rfl,?_⟩
    clear hb
    induction h with
    | refl=>exact .inl rfl
    | @step y z _ e ih=>
     have:=uJ.mp e
     omega
theorem Ti {ch:Bool} {n:Nat} (hn:0<n) (hc:ch=false->3<=n):zH n (qL ch n) (Lq ch n) (jI ch n) (mI ch n):=by
 refine ⟨fun a b ha hb h g=>?_,fun a ha=>?_,fun a ha=>?_,?_,fun a b ha hb=>?_,fun a b ha hb=>?_⟩
 . rw [uI] at h g
   rcases h with ⟨c,h⟩ | ⟨c,h⟩<;>rcases g with ⟨c',g⟩ | ⟨c',g⟩
   . omega
   . rw [c] at c'; cases c'
   . rw [c] at c'; cases c'
   . have:=hc c
     omega
 . rw [uI]
   cases ch with
   | true=>exact .inl ⟨rfl,Nat.zero_le _⟩
   | false=>exact .inr ⟨rfl,.inr (.inl rfl)⟩
 . rw [uI]
   cases ch with
   | true=>exact .inl ⟨rfl,by omega⟩
   | false=>exact .inr ⟨rfl,.inr (.inr rfl)⟩
 . refine ⟨fun i=>if ch=true then i else if i=0 then 0 else if i=n-1 then 2 else 1,fun q hq hne=>?_⟩
   obtain ⟨a,b⟩:=q
   cases ch with
   | true=>
    have:=memC.mp hq
    show a<b
    omega
   | false=>
    have h3:=hc rfl
    have:=uJ.mp hq
    show (if a=0 then 0 else if a=n-1 then 2 else 1)<(if b=0 then 0 else if b=n-1 then 2 else 1)
    rcases this with ⟨h1,h2,h3⟩ | ⟨h1,h2,h3⟩
    . rw [if_pos h1,if_neg (by omega),if_neg (by omega)]
      omega
    . rw [if_neg (by omega),if_neg (by omega),if_neg (by omega),if_pos h1]
      omega
 . have key:∀ c,c<n->(Lq ch n a c=true ↔ _):=fun c _=>uI
   unfold jI
   cases ch with
   | true=>
    have E:∀ x y,Lq true n x y=decide (x<=y):=fun x y=>by unfold Lq; rw [if_pos rfl]
    simp only [E,decide_eq_true_iff]
    split
    . exact ⟨hb,by omega,by omega,fun c _ _ h=>h⟩
    . rw [if_pos (by omega)]
      exact ⟨ha,by omega,by omega,fun c _ h _=>h⟩
   | false=>
    have h3:=hc rfl
    have E:∀ x y,Lq false n x y=decide (x=y\/x=0\/y=n-1):=fun x y=>by unfold Lq; rw [if_neg (by decide)]
    simp only [E,decide_eq_true_iff]
    split
    . exact ⟨hb,by omega,by omega,fun c _ _ h=>h⟩
    . split
      . exact ⟨ha,by omega,by omega,fun c _ h _=>h⟩
      . exact ⟨by omega,by omega,by omega,fun c _ h g=>by omega⟩
 . unfold mI
   cases ch with
   | true=>
    have E:∀ x y,Lq true n x y=decide (x<=y):=fun x y=>by unfold Lq; rw [if_pos rfl]
    simp only [E,decide_eq_true_iff]
    split
    . exact ⟨ha,by omega,by omega,fun c _ h _=>h⟩
    . rw [if_pos (by omega)]
      exact ⟨hb,by omega,by omega,fun c _ _ h=>h⟩
   | false=>
    have h3:=hc rfl
    have E:∀ x y,Lq false n x y=decide (x=y\/x=0\/y=n-1):=fun x y=>by unfold Lq; rw [if_neg (by decide)]
    simp only [E,decide_eq_true_iff]
    split
    . exact ⟨ha,by omega,by omega,fun c _ h _=>h⟩
    . split
      . exact ⟨hb,by omega,by omega,fun c _ _ h=>h⟩
      . exact ⟨by omega,by omega,by omega,fun c _ h g=>by omega⟩
noncomputable def lO (xs:List Str) (i:Nat):Str:=(xs[i]?).getD ""
theorem rD {xs:List Str} {i:Nat} (h:i<xs.length):xs[i]?=some (lO xs i):=by
 unfold lO
 rw [List.getElem?_eq_getElem h]
 rfl
noncomputable abbrev tell (xs:List Str) (qs:List (Nat×Nat)):List (Str×Str):=qs.map fun q=>(lO xs q.1,lO xs q.2)
theorem Cz {xs:List Str} {qs:List (Nat×Nat)} (ok:okN xs.length qs) (a b:Str):(a,b)∈tell xs qs ↔ ∃ i j:Nat,xs[i]?=some a/\xs[j]?=some b/\(i,j)∈qs:=by
 constructor
 . intro h
   obtain ⟨q,hq,e⟩:=List.mem_map.mp h
   cases e
   obtain ⟨w1,w2⟩:=ok q hq
   exact ⟨q.1,q.2,rD w1,rD w2,hq⟩
 . rintro ⟨i,j,h1,h2,h3⟩
   refine List.mem_map.mpr ⟨(i,j),h3,?_⟩
   show (lO xs i,lO xs j)=_
   unfold lO
   rw [h1,h2]
   rfl
theorem Uo {xs:List Str}:eqP (.lst (SS xs)) (.lst (SS xs))=yS (.bl true):=by
 have key:∀ l:List Str,lH (bA 149) (SS l) (SS l)=some true:=by
  intro l
  induction l with
  | nil=>rfl
  | cons x l ih=>
   show (some (x==x)).bind (fun b=>(lH (bA 149) (SS l) (SS l)).map fun c=>b&&c)=_
   rw [ih,beq_self_eq_true]
   rfl
 show ((if (SS xs).length=(SS xs).length then lH (bA 149) (SS xs) (SS xs) else some false)).map _=_
 rw [if_pos rfl,key]
 rfl
theorem Up {ps:List PV} {a:Int} (h0:0<=a) (h1:a<=ps.length):ni ps none (some a)=ps.take a.toNat:=by
 have e:HT.sIx ps.length ps.length (some a)=a.toNat:=by
  show (if a<0 then _ else min a.toNat ps.length)=_
  rw [if_neg (by omega)]
  omega
 unfold ni
 rw [e]
 rfl
theorem Uq {ps:List PV} {a:Int} (h0:0<=a) (h1:a<=ps.length):ni ps (some a) none=ps.drop a.toNat:=by
 have e:HT.sIx ps.length 0 (some a)=a.toNat:=by
  show (if a<0 then _ else min a.toNat ps.length)=_
  rw [if_neg (by omega)]
  omega
 unfold ni
 rw [e]
 show (ps.drop a.toNat).take (ps.length-a.toNat)=_
 rw [List.take_of_length_le (by rw [List.length_drop]; omega)]
theorem u9 {xs:List Str} {a:Str} {fa fb:EF} {ρ:Ev} {i:Nat} (hi:xs[i]?=some a) (h1:fa ρ=some (wS xs,ρ)) (h2:fb ρ=some (.sh (.int (i:Nat)),ρ)):aX fa fb ρ=some (.sh (.str a),ρ):=lJ (l:=wS xs) (m:=.sh (.int (i:Nat))) h1 rfl h2 rfl (fun n h=>by cases h) (Th hi)
theorem Tj {a b:List PV} (h:a.length+b.length<=100000):bj (.lst a) (.lst b)=yO (a++b):=by
 show (if _<=_ then _ else none)=_
 rw [if_pos h]
theorem Qo {xs:List Str} {x:Str} (h:xs[xs.length-1]?=some x):o9 (.lst (SS xs)) (.int (-1))=zT x:=by
 have hk:=nW h
 show (fW (SS xs) (-1)).map _=_
 unfold fW pR
 rw [if_neg (by omega),List.length_map,if_pos (by omega),Option.bind_some,show ((-1:Int)+(xs.length:Int)).toNat=xs.length-1 from by omega,List.getElem?_map,h]
 rfl
theorem yF {xs:List Str} {a:Str} {fa:EF} {ρ:Ev} (h:xs[xs.length-1]?=some a) (h1:fa ρ=some (wS xs,ρ)):aX fa (uo (eC (.int 1))) ρ=some (.sh (.str a),ρ):=lJ (l:=wS xs) (m:=.sh (.int (-1))) h1 rfl rfl rfl (fun n h=>by cases h) (Qo h)
theorem v7 {xs:List Str} {a:Str} {fa:EF} {ρ:Ev} (h:xs[0]?=some a) (h1:fa ρ=some (wS xs,ρ)):aX fa (eC (.int 0)) ρ=some (.sh (.str a),ρ):=u9 (i:=0) h h1 rfl
noncomputable def wB (wd:Bool) (n:Nat):Bool:=!wd||decide (n<3)
noncomputable def wT (wd:Bool) (n k:Nat):List (Nat×Nat):=(if (wd&&(decide (1<k)&&decide (k<n-1)))=true then [(0,k)] else [(k-1,k)])++if (wd&&(decide (0<k)&&decide (k<n-2)))=true then [(k,n-1)] else []
noncomputable def wL (wd:Bool) (n:Nat):Nat->List (Nat×Nat)
 | 0=>[]
 | m+1=>wL wd n m++wT wd n (m+1)
theorem xV {wd:Bool} {n:Nat}:∀ m,(wL wd n m).length<=2*m
 | 0=>Nat.le_refl _
 | m+1=>by
  unfold wL wT
  have:=xV (wd:=wd) (n:=n) m
  rw [List.length_append,List.length_append]
  split<;>split<;>simp<;>omega
theorem Kc {wd:Bool} {n:Nat} {q:Nat×Nat}:∀ m,q∈wL wd n m ↔ ∃ k,1<=k/\k<=m/\q∈wT wd n k
 | 0=>⟨fun h=>by (cases h),fun ⟨k,h1,h2,_⟩=>by omega⟩
 | m+1=>by
  unfold wL
  rw [List.mem_append,Kc m]
  constructor
  . rintro (⟨k,h1,h2,h3⟩ | h)
    . exact ⟨k,h1,by omega,h3⟩
    . exact ⟨m+1,by omega,by omega,h⟩
  . rintro ⟨k,h1,h2,h3⟩
    by_cases e:k=m+1
    . subst e; exact .inr h3
    . exact .inl ⟨k,h1,by omega,h3⟩
theorem CG {wd:Bool} {n a b:Nat} (h2:2<=n):(a,b)∈wL wd n (n-1) ↔ (a,b)∈qL (wB wd n) n:=by
 rw [Kc]
 unfold qL wB
 cases wd with
 | false=>
  rw [if_pos (show (!false||decide (n<3))=true from rfl),memC]
  unfold wT
  constructor
  . rintro ⟨k,h1,h3,h⟩
    simp at h
    omega
  . rintro ⟨rfl,h⟩
    exact ⟨a+1,by omega,by omega,by simp⟩
 | true=>
  by_cases hn:n<3
  . rw [if_pos (by simp [hn]),memC]
    unfold wT
    constructor
    . rintro ⟨k,h1,h3,h⟩
      have:k=1:=by omega
      subst this
      rw [if_neg (by simp),if_neg (by simp; omega)] at h
      simp at h
      omega
    . rintro ⟨rfl,h⟩
      have:a=0:=by omega
      subst this
      refine ⟨1,by omega,by omega,?_⟩
      rw [if_neg (by simp)]
      simp
  . rw [if_neg (by simp [hn]),uJ]
    unfold wT
    constructor
    . rintro ⟨k,h1,h3,h⟩
      rcases List.mem_append.mp h with h | h
      . split at h
        . rename_i c
          simp at c h
          omega
        . rename_i c
          simp at c h
          omega
      . split at h
        . rename_i c
          simp at c h
          omega
        . cases h
    . rintro (⟨rfl,h1,h3⟩ | ⟨rfl,h1,h3⟩)
      . refine ⟨b,by omega,by omega,List.mem_append_left _ ?_⟩
        by_cases e:1<b
        . rw [if_pos (by simp; omega)]; simp
        . rw [if_neg (by simp; omega)]
          have:b=1:=by omega
          subst this
          simp
      . by_cases e:a<n-2
        . refine ⟨a,by omega,by omega,List.mem_append_right _ ?_⟩
          rw [if_pos (by simp; omega)]
          simp
        . refine ⟨n-1,by omega,by omega,List.mem_append_left _ ?_⟩
          rw [if_neg (by simp)]
          simp
          omega
theorem uK {fa fb fc:EF} {ρ:Ev} {a b c:Int} (h1:fa ρ=some (.sh (.int a),ρ)) (h2:fb ρ=some (.sh (.int b),ρ)) (h3:fc ρ=some (.sh (.int c),ρ)):dZ iu iu fa fb fc ρ=some (.sh (.bl (decide (a<b)&&decide (b<c))),ρ):=by
 unfold dZ
 rw [h1,Option.bind_some,h2,Option.bind_some]
 dsimp only
 rw [show iu (Lc.sh (PV.int a)).pv (Lc.sh (PV.int b)).pv=yS (.bl (decide (a<b))) from rfl,Option.bind_some]
 cases e:decide (a<b) with
 | false=>rfl
 | true=>
  dsimp only [Lc.pv]
  rw [h3]
  rfl
noncomputable abbrev PQ (xs:List Str) (wd:Bool) (o2 o3 o4:Option Lc) (mu:Mu):Ev:=⟨[zS xs,yS (.bl wd),o2,o3,o4],mu⟩
noncomputable abbrev UV:SF:=aL (dw (dO (tT (aa 1) bY) (tT (dZ iu iu (eC (.int 1)) (aa 4) (aa 3)) aN))
 (gG 2 (cz (aj (aX (aa 0) (eC (.int 0))) (aj (aX (aa 0) (aa 4)) ao))))
 (gG 2 (cz (aj (aX (aa 0) (aq lZ (aa 4) (eC (.int 1)))) (aj (aX (aa 0) (aa 4)) ao)))))
 (dw (dO (tT (aa 1) bY) (tT (dZ iu iu (eC (.int 0)) (aa 4) (aq lZ (aa 3) (eC (.int 1)))) aN))
 (gG 2 (cz (aj (aX (aa 0) (aa 4)) (aj (aX (aa 0) (aa 3)) ao))))
 bR)
section
variable {xs:List Str} {wd:Bool} {mu:Mu}
theorem Mv {qs rs:List (Nat×Nat)}:tell xs (qs++rs)=tell xs qs++tell xs rs:=List.map_append
theorem Hu {qs:List (Nat×Nat)} {i j:Nat} {o3 o4:Option Lc} {fa fb:EF} (hl:qs.length<=1000) (h1:fa (PQ xs wd (yO (PP (tell xs qs))) o3 o4 mu)=some (.sh (.str (lO xs i)),PQ xs wd (yO (PP (tell xs qs))) o3 o4 mu)) (h2:fb (PQ xs wd (yO (PP (tell xs qs))) o3 o4 mu)=some (.sh (.str (lO xs j)),PQ xs wd (yO (PP (tell xs qs))) o3 o4 mu)):gG 2 (cz (aj fa (aj fb ao))) (PQ xs wd (yO (PP (tell xs qs))) o3 o4 mu)=some (.nx (PQ xs wd (yO (PP (tell xs (qs++[(i,j)])))) o3 o4 mu)):=by
 refine (uv (l:=.sh (.tup [.str (lO xs i),.str (lO xs j)])) rfl (jZ (ls:=[.sh (.str (lO xs i)),.sh (.str (lO xs j))]) (au h1 (au h2 rfl)) rfl rfl) rfl rfl (by rw [List.length_map,List.length_map]; omega) rfl).trans ?_
 rw [Mv,show PP (tell xs qs++tell xs [(i,j)])=PP (tell xs qs)++[.tup [.str (lO xs i),.str (lO xs j)]] from List.map_append]
 rfl
theorem Qp {qs:List (Nat×Nat)} {k:Nat} (h1:1<=k) (hk:k<xs.length) (hl:qs.length<=100):UV (PQ xs wd (yO (PP (tell xs qs))) (zI ((xs.length-1:Nat):Int)) (zI (k:Nat)) mu)=some (.nx (PQ xs wd (yO (PP (tell xs (qs++wT wd xs.length k)))) (zI ((xs.length-1:Nat):Int)) (zI (k:Nat)) mu)):=by
 let E:=fun qs=>PQ xs wd (yO (PP (tell xs qs))) (zI ((xs.length-1:Nat):Int)) (zI (k:Nat)) mu
 have tw:∀ qs,tT (aa 1) bY (E qs)=some (wd,E qs):=fun qs=>bH (l:=.sh (.bl wd)) rfl rfl rfl
 have t1:dO (tT (aa 1) bY) (tT (dZ iu iu (eC (.int 1)) (aa 4) (aa 3)) aN) (E qs)=some ((wd&&(decide (1<k)&&decide (k<xs.length-1))),E qs):=by
  refine (pC (tw qs) (bH (uK (a:=1) (b:=(k:Nat)) (c:=((xs.length-1:Nat):Int)) rfl rfl rfl) rfl rfl)).trans ?_
  rw [show decide ((1:Int)<((k:Nat):Int))=decide (1<k) from decide_eq_decide.mpr (by omega),show decide (((k:Nat):Int)<((xs.length-1:Nat):Int))=decide (k<xs.length-1) from decide_eq_decide.mpr (by omega)]
 have t2:∀ qs,dO (tT (aa 1) bY) (tT (dZ iu iu (eC (.int 0)) (aa 4) (aq lZ (aa 3) (eC (.int 1)))) aN) (E qs)=some ((wd&&(decide (0<k)&&decide (k<xs.length-2))),E qs):=fun qs=>by
  refine (pC (tw qs) (bH (uK (a:=0) (b:=(k:Nat)) (c:=((xs.length-1:Nat):Int)-1) rfl rfl (aR rfl rfl rfl rfl rfl)) rfl rfl)).trans ?_
  rw [show decide ((0:Int)<((k:Nat):Int))=decide (0<k) from decide_eq_decide.mpr (by omega),show decide (((k:Nat):Int)<((xs.length-1:Nat):Int)-1)=decide (k<xs.length-2) from decide_eq_decide.mpr (by omega)]
 have x0:∀ qs,aX (aa 0) (eC (.int 0)) (E qs)=some (.sh (.str (lO xs 0)),E qs):=fun qs=>v7 (rD (by omega)) rfl
 have xk:∀ qs,aX (aa 0) (aa 4) (E qs)=some (.sh (.str (lO xs k)),E qs):=fun qs=>u9 (rD hk) rfl rfl
 have xp:∀ qs,aX (aa 0) (aq lZ (aa 4) (eC (.int 1))) (E qs)=some (.sh (.str (lO xs (k-1))),E qs):=fun qs=>u9 (i:=k-1) (rD (by omega)) rfl ((aR rfl rfl rfl rfl rfl).trans (by show some (Lc.sh (.int (((k:Nat):Int)-1)),E qs)=_; rw [show (((k:Nat):Int)-1)=((k-1:Nat):Int) from by omega]))
 have xl:∀ qs,aX (aa 0) (aa 3) (E qs)=some (.sh (.str (lO xs (xs.length-1))),E qs):=fun qs=>u9 (rD (by omega)) rfl rfl
 unfold wT
 generalize (wd&&(decide (1<k)&&decide (k<xs.length-1)))=b1 at t1
 generalize (wd&&(decide (0<k)&&decide (k<xs.length-2)))=b2 at t2
 have s1:∃ q1:Nat×Nat,(if b1=true then [(0,k)] else [(k-1,k)])=[q1]/\dw (dO (tT (aa 1) bY) (tT (dZ iu iu (eC (.int 1)) (aa 4) (aa 3)) aN)) (gG 2 (cz (aj (aX (aa 0) (eC (.int 0))) (aj (aX (aa 0) (aa 4)) ao)))) (gG 2 (cz (aj (aX (aa 0) (aq lZ (aa 4) (eC (.int 1)))) (aj (aX (aa 0) (aa 4)) ao)))) (E qs)=some (.nx (E (qs++[q1]))):=by
  cases b1 with
  | true=>exact ⟨(0,k),rfl,(gU t1).trans (Hu (by omega) (x0 _) (xk _))⟩
  | false=>exact ⟨(k-1,k),rfl,(di t1).trans (Hu (by omega) (xp _) (xk _))⟩
 obtain ⟨q1,e1,s1⟩:=s1
 rw [e1]
 refine aF s1 ?_
 cases b2 with
 | true=>
  rw [if_pos rfl,← List.append_assoc]
  exact (gU (t2 _)).trans (Hu (by rw [List.length_append]; show qs.length+1<=1000; omega) (xk _) (xl _))
 | false=>
  rw [if_neg (by decide),List.append_nil]
  exact (di (t2 _)).trans rfl
theorem Mw (h2:2<=xs.length) (h8:xs.length<=8):iV [.lst (SS xs),.bl wd] mu=some (.own (.lst (PP (tell xs (wL wd xs.length (xs.length-1))))),mu):=by
 have s1:aK 2 (gk ao) (PQ xs wd none none none mu)=some (.nx (PQ xs wd (yO (PP (tell xs []))) none none mu)):=rfl
 have s2:aK 3 (aq lZ (eB cH (aj (aa 0) ao)) (eC (.int 1))) (PQ xs wd (yO (PP (tell xs []))) none none mu)=some (.nx (PQ xs wd (yO (PP (tell xs []))) (zI ((xs.length-1:Nat):Int)) none mu)):=by
  refine bf (l:=.sh (.int ((xs.length-1:Nat):Int))) (ρ1:=PQ xs wd (yO (PP (tell xs []))) none none mu) ((aR (p:=.int ((SS xs).length:Nat)) (q:=.int 1) rfl rfl rfl rfl rfl).trans ?_) rfl rfl
  show some (Lc.sh (.int ((((SS xs).length:Nat):Int)-1)),PQ xs wd (yO (PP (tell xs []))) none none mu)=_
  rw [List.length_map,show (((xs.length:Nat):Int)-1)=((xs.length-1:Nat):Int) from by omega]
 have rg:uQ (aj (eC (.int 1)) (aj (eB cH (aj (aa 0) ao)) ao)) (PQ xs wd (yO (PP (tell xs []))) (zI ((xs.length-1:Nat):Int)) none mu)=some (gm 1 (xs.length-1),PQ xs wd (yO (PP (tell xs []))) (zI ((xs.length-1:Nat):Int)) none mu):=by
  unfold uQ
  rw [show aj (eC (.int 1)) (aj (eB cH (aj (aa 0) ao)) ao) (PQ xs wd (yO (PP (tell xs []))) (zI ((xs.length-1:Nat):Int)) none mu)=some ([.sh (.int 1),.sh (.int ((SS xs).length:Nat))],PQ xs wd (yO (PP (tell xs []))) (zI ((xs.length-1:Nat):Int)) none mu) from rfl,Option.bind_some]
  show (if -(2 ^ 62)<=(1:Int)/\(1:Int)<2 ^ 62/\-(2 ^ 62)<=(((SS xs).length:Nat):Int)/\(((SS xs).length:Nat):Int)<2 ^ 62 then some (gm 1 ((((SS xs).length:Nat):Int)-1).toNat,PQ xs wd (yO (PP (tell xs []))) (zI ((xs.length-1:Nat):Int)) none mu) else none)=_
  rw [List.length_map,if_pos ⟨by decide,by decide,by omega,by omega⟩,show (((xs.length:Nat):Int)-1).toNat=xs.length-1 from by omega]
 obtain ⟨ρ',ef,o4,rfl⟩:=uW (b:=aA 4) (body:=UV) (xs:=gm 1 (xs.length-1)) (ρ:=PQ xs wd (yO (PP (tell xs []))) (zI ((xs.length-1:Nat):Int)) none mu) (fun i ρ=>∃ o4,ρ=PQ xs wd (yO (PP (tell xs (wL wd xs.length i)))) (zI ((xs.length-1:Nat):Int)) o4 mu) ⟨none,rfl⟩ (by
  rintro i x ρ hx ⟨o4,rfl⟩
  have hi:i<xs.length-1:=by have:=(List.getElem?_eq_some_iff.mp hx).1; rwa [mj] at this
  have ex:x=.int ((i+1:Nat):Int):=by
   unfold gm at hx
   rw [List.getElem?_map,List.getElem?_range hi] at hx
   have hx':some (PV.int (1+(i:Int)))=some x:=hx
   rw [← Option.some.inj hx',show (1+(i:Int))=((i+1:Nat):Int) from by omega]
  subst ex
  have:=xV (wd:=wd) (n:=xs.length) i
  refine ⟨PQ xs wd (yO (PP (tell xs (wL wd xs.length i)))) (zI ((xs.length-1:Nat):Int)) (zI ((i+1:Nat):Int)) mu,rfl,_,.inl (Qp (k:=i+1) (by omega) (by omega) (by omega)),_,rfl⟩)
 rw [mj] at ef
 exact aQ (ρ:=PQ xs wd none (zI ((xs.length-1:Nat):Int)) o4 mu) (aF s1 (aF s2 (aF (jr rg ef) rfl)))
end
theorem Qq {ss:List Str} {z:Int} (h0:0<=z) (h1:z<ss.length):∃ s∈ss,o9 (.lst (SS ss)) (.int z)=zT s:=by
 obtain ⟨s,hs,e⟩:=j7 (xs:=ss) (i:=z.toNat) (by omega)
 refine ⟨s,hs,?_⟩
 have:=Th e
 rwa [show ((z.toNat:Nat):Int)=z from by omega] at this
noncomputable abbrev CJ:List Str:=["abcdefghi", "", "Abc", "ab3", "a b", "a_b", "?", "main-"]
theorem Qs:∀ s∈CJ,nameB s=false/\bB s=true:=by decide +kernel
theorem Tn {z:Int} {mu:Mu}:∃ s∈CJ,gZ [.int z] mu=some (.sh (.str s),mu):=by
 obtain ⟨s,hs,e⟩:=Qq (ss:=CJ) (z:=z%8) (Int.emod_nonneg _ (by decide)) (by have:=Int.emod_lt_of_pos z (b:=8) (by decide); show z%8<8; exact this)
 refine ⟨s,hs,aQ (ρ:=⟨[zI z],mu⟩) (jq (lJ (l:=.own (.lst (SS CJ))) (m:=.sh (.int (z%8))) (ρ2:=⟨[zI z],mu⟩) (pD (ls:=CJ.map fun s=>.sh (.str s)) rfl rfl rfl) rfl (aR rfl rfl rfl rfl (gq (by decide))) rfl (fun n h=>by cases h) e))⟩
noncomputable abbrev v8:List Str:=["a", "b", "c", "d", "e", "f", "g", "zz"]
theorem Fp:v8.Nodup/\∀ s∈v8,bB s=true:=by decide +kernel
noncomputable abbrev OQ (xs:List Str) (o1:Option Lc) (mu:Mu):Ev:=⟨[zS xs,o1],mu⟩
noncomputable abbrev Fq:SF:=dw (tT (aq ji (aa 1) (aa 0)) aN) (gB 1) bR
theorem CK {xs:List Str} {mu:Mu}:∀ (cs:List Str) (o1:Option Lc),(∃ o,dU (aA 1) Fq (SS cs) (OQ xs o1 mu)=some (.nx (OQ xs o mu))/\∀ c∈cs,c∈xs)\/∃ s∈cs,s∉xs/\dU (aA 1) Fq (SS cs) (OQ xs o1 mu)=some (.rt (.sh (.str s)) (OQ xs none mu))
 | [],o1=>.inl ⟨o1,rfl,fun c h=>by cases h⟩
 | x::cs,o1=>by
  have t:tT (aq ji (aa 1) (aa 0)) aN (OQ xs (zT x) mu)=some (!has xs x,OQ xs (zT x) mu):=bH (aR rfl rfl rfl rfl uC) rfl rfl
  cases e:has xs x with
  | true=>
   rw [e] at t
   have st:=jo (b:=aA 1) (body:=Fq) (x:=.str x) (xs:=SS cs) (ρ:=OQ xs o1 mu) (ρ1:=OQ xs (zT x) mu) (ρ2:=OQ xs (zT x) mu) (R:=dU (aA 1) Fq (SS cs) (OQ xs (zT x) mu)) rfl ((di t).trans rfl) rfl
   rcases CK cs (zT x) with ⟨o,h1,h2⟩ | ⟨s,h1,h2,h3⟩
   . refine .inl ⟨o,st.trans h1,fun c hc=>?_⟩
     rcases List.mem_cons.mp hc with rfl | hc
     . exact bD.mp e
     . exact h2 c hc
   . exact .inr ⟨s,List.mem_cons_of_mem _ h1,h2,st.trans h3⟩
  | false=>
   rw [e] at t
   refine .inr ⟨x,List.mem_cons_self,iY.mp e,?_⟩
   show (Fq (OQ xs (zT x) mu)).bind _=_
   rw [show Fq (OQ xs (zT x) mu)=some (.rt (.sh (.str x)) (OQ xs none mu)) from (gU t).trans rfl]
   rfl
theorem Mx {xs:List Str} {mu:Mu} (h7:xs.length<=7):∃ s,fG [.lst (SS xs)] mu=some (.sh (.str s),mu)/\s∉xs/\bB s=true:=by
 have ei:dB (gk (aj (eC (.str "a")) (aj (eC (.str "b")) (aj (eC (.str "c")) (aj (eC (.str "d")) (aj (eC (.str "e")) (aj (eC (.str "f")) (aj (eC (.str "g")) (aj (eC (.str "zz")) ao))))))))) bG (OQ xs none mu)=some (SS v8,OQ xs none mu):=gW (l:=.own (.lst (SS v8))) (pD (ls:=v8.map fun s=>.sh (.str s)) rfl rfl rfl) rfl rfl
 rcases CK (xs:=xs) (mu:=mu) v8 none with ⟨o,_,h⟩ | ⟨s,h1,h2,h3⟩
 . have:=mz Fp.1 h
   have e:v8.length=8:=rfl
   omega
 . exact ⟨s,aQ (ρ:=OQ xs none mu) (iH ((DP ei).trans h3)),h2,Fp.2 s h1⟩
theorem Rt.mono {α:Type} {E F:α->α->Prop} {a b:α} (h:∀ a b,E a b->F a b) (r:Rt E a b):Rt F a b:=by
 induction r with
 | refl=>exact .refl _
 | step _ e ih=>exact ih.step (h _ _ e)
section
variable {xs ts:List Str} {ps:List (Str×Str)} {qs:List (Nat×Nat)} {R:Nat->Nat->Bool} {J M:Nat->Nat->Nat} {x0 xl:Str}
theorem ju.base (S:ju xs ts ps qs R) (L:zH xs.length qs R J M):Base ts ps:=(S.ord L).toBase
theorem ju.ne2 (S:ju xs ts ps qs R) (h2:2<=xs.length) (h0:xs[0]?=some x0) (hl:xs[xs.length-1]?=some xl):x0≠xl:=fun e=>by
 subst e
 have:=Cv S.nd h0 hl
 omega
theorem CP (S:ju xs ts ps qs R) (L:zH xs.length qs R J M) (h2:2<=xs.length) (hp:ps.length<=67) (h0:xs[0]?=some x0) (hl:xs[xs.length-1]?=some xl):Comes ts (ps++[(xl,x0)]) .order:=by
 have B:=S.base L
 have lp:(ps++[(xl,x0)]).length<=68:=by rw [List.length_append]; show ps.length+1<=68; omega
 refine Ho ⟨B.nd,B.ne,B.l8,lp,B.nm,fun q hq=>?_⟩ fun nr=>?_
 . rcases List.mem_append.mp hq with hq | hq
   . exact B.mem q hq
   . rw [List.mem_singleton.mp hq]
     exact ⟨(S.tm _).mpr (List.mem_of_getElem? hl),(S.tm _).mpr (List.mem_of_getElem? h0)⟩
 . have r1:Rt (fun a b=>(a,b)∈ps) x0 xl:=(lC S.lp).mp (bD.mp ((S.ur h0 hl).trans (L.bot _ (nW hl))))
   have r2:Rt (fun a b=>(a,b)∈ps++[(xl,x0)]) x0 xl:=Rt.mono (fun a b e=>List.mem_append_left _ e) r1
   have r3:Rt (fun a b=>(a,b)∈ps++[(xl,x0)]) xl x0:=(Rt.refl xl).step (List.mem_append_right _ (List.mem_singleton.mpr rfl))
   exact S.ne2 h2 h0 hl (Tg lp nr ((Al lp).mpr r2) ((Al lp).mpr r3))
noncomputable def rE (xl:Str) (q:Str×Str):Bool:=!(q.1==xl||(q.2==xl||false))
theorem Ft {q:Str×Str} (h:rE xl q=true):q.1≠xl/\q.2≠xl:=by
 unfold rE at h
 rw [Bool.or_false,Bool.not_eq_true',Bool.or_eq_false_iff] at h
 exact ⟨fun e=>(by rw [e,beq_self_eq_true] at h; cases h.1),fun e=>(by rw [e,beq_self_eq_true] at h; cases h.2)⟩
theorem Hv (S:ju xs ts ps qs R) (L:zH xs.length qs R J M) (h2:2<=xs.length) (h0:xs[0]?=some x0) (hl:xs[xs.length-1]?=some xl):Comes ts (ps.filter (rE xl)) .order:=by
 have ok:=S.ord L
 have B:=ok.toBase
 have lp:(ps.filter (rE xl)).length<=68:=Nat.le_trans (List.length_filter_le _ _) S.lp
 have nr:Fb (ps.filter (rE xl)):=by
  obtain ⟨h,hh⟩:=ok.acyc
  exact ⟨h,fun q hq hne=>hh q (List.mem_filter.mp hq).1 hne⟩
 refine Hq ⟨B.nd,B.ne,B.l8,lp,B.nm,fun q hq=>B.mem q (List.mem_filter.mp hq).1⟩ nr ⟨x0,(S.tm _).mpr (List.mem_of_getElem? h0),xl,(S.tm _).mpr (List.mem_of_getElem? hl),?_⟩
 have a1:∀ y,Rt (fun a b=>(a,b)∈ps.filter (rE xl)) xl y->y=xl:=fun y r=>by
  clear hl
  induction r with
  | refl=>rfl
  | step _ e ih=>
   subst ih
   exact absurd rfl (Ft (List.mem_filter.mp e).2).1
 have a2:¬ Rt (fun a b=>(a,b)∈ps.filter (rE xl)) x0 xl:=fun r=>by
  have ne:=S.ne2 h2 h0 hl
  cases r with
  | refl=>exact ne rfl
  | step _ e=>exact (Ft (List.mem_filter.mp e).2).2 rfl
 have e:shd (ps.filter (rE xl)) x0 xl=[]:=by
  unfold shd
  refine List.filter_eq_nil_iff.mpr fun y hy e=>?_
  have:=a1 y ((lC lp).mp (bD.mp e))
  subst this
  exact a2 ((lC lp).mp hy)
 unfold bnd
 rw [e]
 rfl
end
noncomputable abbrev SQ (xs:List Str) (ps:List (Str×Str)) (w:Int) (o3:Option Lc) (mu:Mu):Ev:=⟨[zS xs,zP ps,zI w,o3],mu⟩
noncomputable abbrev two (xs:List Str) (ps:List (Str×Str)):PV:=.tup [.lst (SS xs),.lst (PP ps)]
theorem tu {xs:List Str} {ps:List (Str×Str)} {w k:Int} {o3:Option Lc} {mu:Mu}:tT (aq eqP (aa 2) (eC (.int k))) aN (SQ xs ps w o3 mu)=some (w==k,SQ xs ps w o3 mu):=bH (l:=.sh (.bl (w==k))) (aR rfl rfl rfl rfl rfl) rfl rfl
theorem Vu {xs:List Str} {ps:List (Str×Str)} {x0 xl:Str} {mu:Mu} (hp:ps.length<=1000) (h0:xs[0]?=some x0) (hl:xs[xs.length-1]?=some xl):bN [.lst (SS xs),.lst (PP ps),.int 1] mu=some (.sh (two xs (ps++[(xl,x0)])),mu):=by
 have ea:aq bj (aa 1) (gk (aj (cz (aj (aX (aa 0) (uo (eC (.int 1)))) (aj (aX (aa 0) (eC (.int 0))) ao))) ao)) (SQ xs ps 1 none mu)=some (.own (.lst (PP (ps++[(xl,x0)]))),SQ xs ps 1 none mu):=by
  refine aR rfl rfl (pD (ls:=[.sh (.tup [.str xl,.str x0])]) (au (jZ (ls:=[.sh (.str xl),.sh (.str x0)]) (au (yF hl rfl) (au (v7 h0 rfl) rfl)) rfl rfl) rfl) rfl rfl) rfl ?_
  refine (Tj (by rw [List.length_map]; show ps.length+1<=100000; omega)).trans ?_
  rw [show PP (ps++[(xl,x0)])=PP ps++[.tup [.str xl,.str x0]] from List.map_append]
  rfl
 exact aQ (ρ:=SQ xs ps 1 none mu) (iH ((gU (tu (w:=1) (k:=1))).trans (jq (jZ (ls:=[wS xs,.own (.lst (PP (ps++[(xl,x0)])))]) (au rfl (au ea rfl)) rfl rfl))))
theorem Vv {xs:List Str} {ps:List (Str×Str)} {xl:Str} {mu:Mu} (hp:ps.length<=1000) (hl:xs[xs.length-1]?=some xl):bN [.lst (SS xs),.lst (PP ps),.int 2] mu=some (.sh (two xs (ps.filter (rE xl))),mu):=by
 have ec:=jN (b:=aA 0) (tc:=tT (aq ji (aa 1) (aa 0)) aN) (te:=aa 0) (mu:=mu) (fun ρ=>∃ o,ρ=⟨[o,zT xl],mu⟩) (fun ρ ⟨o,e⟩=>by rw [e]) (fun q=>match q with | .tup [.str a,.str b]=>rE xl (a,b) | _=>false) (fun q=>q) (xs:=PP ps) (ρ:=⟨[none,zT xl],mu⟩) (acc:=[]) ⟨none,rfl⟩ (by simp; omega) (by
  rintro z hz ρ ⟨o,rfl⟩
  obtain ⟨q,hq,rfl⟩:=List.mem_map.mp hz
  exact ⟨⟨[yS (.tup [.str q.1,.str q.2]),zT xl],mu⟩,rfl,_,bH (l:=.sh (.bl (rE xl (q.1,q.2)))) (aR rfl rfl rfl rfl rfl) rfl rfl,⟨_,rfl⟩,fun _=>⟨_,_,rfl,rfl,_,rfl⟩⟩)
 rw [List.nil_append,List.filter_map,List.map_map] at ec
 have e2:bO (dB (aa 1) bG) 1 [3] (aA 0) (tT (aq ji (aa 1) (aa 0)) aN) (aa 0) (SQ xs ps 2 (zT xl) mu)=some (.own (.lst (PP (ps.filter (rE xl)))),SQ xs ps 2 (zT xl) mu):=(fO (ρ1:=SQ xs ps 2 (zT xl) mu) (wW (l:=.sh (.lst (PP ps))) rfl rfl) ec).trans rfl
 exact aQ (ρ:=SQ xs ps 2 (zT xl) mu) (aF (ρ':=SQ xs ps 2 none mu) ((di (tu (w:=2) (k:=1))).trans rfl) (iH ((gU (tu (w:=2) (k:=2))).trans (aF (ρ':=SQ xs ps 2 (zT xl) mu) (bf (yF hl rfl) rfl rfl) (jq (jZ (ls:=[wS xs,.own (.lst (PP (ps.filter (rE xl))))]) (au rfl (au e2 rfl)) rfl rfl))))))
theorem Vw {xs:List Str} {ps:List (Str×Str)} {mu:Mu}:bN [.lst (SS xs),.lst (PP ps),.int 3] mu=some (.sh (two [] []),mu):=
 aQ (ρ:=SQ xs ps 3 none mu) (aF (ρ':=SQ xs ps 3 none mu) ((di (tu (w:=3) (k:=1))).trans rfl) (aF (ρ':=SQ xs ps 3 none mu) ((di (tu (w:=3) (k:=2))).trans rfl) (iH ((gU (tu (w:=3) (k:=3))).trans rfl))))
theorem Vx {xs:List Str} {ps:List (Str×Str)} {w:Int} {mu:Mu} (h1:(w==1)=false) (h2:(w==2)=false) (h3:(w==3)=false):bN [.lst (SS xs),.lst (PP ps),.int w] mu=some (.sh (two xs ps),mu):=
 aQ (ρ:=SQ xs ps w none mu) (aF (ρ':=SQ xs ps w none mu) ((di (tu.trans (by rw [h1]))).trans rfl) (aF (ρ':=SQ xs ps w none mu) ((di (tu.trans (by rw [h2]))).trans rfl) (aF (ρ':=SQ xs ps w none mu) ((di (tu.trans (by rw [h3]))).trans rfl) rfl)))
theorem Kd {i:Nat} {a:AF} {ρ ρ1 ρ':Ev} {ws0 ws:List PV} {k:Int} {le:Lc} {p:PV} (h0:ρ.vs[i]?=some (yO ws0)) (h:a ρ=some ([.sh (.int k),le],ρ1)) (hp:le.pv=p) (h1:ρ1.vs[i]?=some (yO ws)) (hk:0<=k/\k<=ws.length/\ws.length<100000) (e:ρ1.set i (yO (ws.take k.toNat++p::ws.drop k.toNat))=ρ'):qy i a ρ=some (.nx ρ'):=by
 unfold qy
 rw [h0]
 dsimp only
 rw [h,Option.bind_some]
 dsimp only
 rw [h1]
 dsimp only
 rw [if_pos hk,hp,e]
structure pO (xs:List Str) (ps:List (Str×Str)):Prop where
 l9:xs.length<=9
 s1:∀ x∈xs,bB x=true
 s2:∀ q∈ps,bB q.1=true/\bB q.2=true
 no:(∃ x∈xs,nameB x=false)\/(∃ x∈xs,2<=xs.countP (·==x))\/∃ q∈ps,q.1∉xs\/q.2∉xs
theorem pO.comes {xs ts:List Str} {ps:List (Str×Str)} (S:pO xs ps) (pm:ts.Perm xs):Comes ts ps .name:=by
 have l9:=S.l9
 refine xU (by rw [pm.length_eq]; omega) (fun x hx=>S.s1 x (pm.mem_iff.mp hx)) S.s2 ?_
 unfold nU
 rcases S.no with ⟨x,hx,h⟩ | ⟨x,hx,h⟩ | ⟨q,hq,h⟩
 . rw [show ts.all (g1 ts)=false from List.all_eq_false.mpr ⟨x,pm.mem_iff.mpr hx,by unfold g1; rw [h,Bool.false_and]; decide⟩,Bool.false_and]
 . rw [show ts.all (g1 ts)=false from List.all_eq_false.mpr ⟨x,pm.mem_iff.mpr hx,by
    unfold g1
    rw [pm.countP_eq,decide_eq_false (by omega),Bool.and_false]
    decide⟩,Bool.false_and]
 . rw [show ps.all (g2 ts)=false from List.all_eq_false.mpr ⟨q,hq,by
    unfold g2
    rcases h with h | h
    . rw [show has ts q.1=false from iY.mpr fun z=>h (pm.mem_iff.mp z),Bool.false_and]; decide
    . rw [show has ts q.2=false from iY.mpr fun z=>h (pm.mem_iff.mp z),Bool.and_false]; decide⟩,Bool.and_false]
noncomputable abbrev NQ (l0 l1:Lc) (w z:Int) (l4 l5:Option Lc) (mu:Mu):Ev:=⟨[some l0,some l1,zI w,zI z,l4,l5],mu⟩
theorem Tp {l0 l1:Lc} {w z k:Int} {l4 l5:Option Lc} {mu:Mu}:tT (aq eqP (aa 2) (eC (.int k))) aN (NQ l0 l1 w z l4 l5 mu)=some (w==k,NQ l0 l1 w z l4 l5 mu):=bH (l:=.sh (.bl (w==k))) (aR rfl rfl rfl rfl rfl) rfl rfl
section
variable {xs:List Str} {ps:List (Str×Str)} {w z:Int} {mu:Mu} {at_:Nat} {l5:Option Lc}
theorem Fv {x:Str} {l1:Lc} (h:xs[at_]?=some x):dR (aX (aa 0) (aa 4)) (NQ (.own (.lst (SS xs))) l1 w z (zI (at_:Nat)) l5 mu)=some (.sh (.str x),NQ (.own (.lst (SS xs))) l1 w z (zI (at_:Nat)) l5 mu):=
 mq (ρ1:=Ev.peek (NQ (.own (.lst (SS xs))) l1 w z (zI (at_:Nat)) l5 mu)) (u9 h rfl rfl) rfl
theorem Ke {l1:Lc} {i:Nat} {ws:List PV} (hw:0<ws.length+1) (h:eB cH (aj (aa i) ao) (Ev.peek (NQ (.own (.lst (SS xs))) l1 w z (zI (at_:Nat)) l5 mu))=some (.sh (.int (ws.length:Nat)),Ev.peek (NQ (.own (.lst (SS xs))) l1 w z (zI (at_:Nat)) l5 mu))):dR (aq bF (aq cA (aa 3) (eC (.int 8))) (aq bj (eB cH (aj (aa i) ao)) (eC (.int 1)))) (NQ (.own (.lst (SS xs))) l1 w z (zI (at_:Nat)) l5 mu)=some (.sh (.int (z/8%((ws.length:Nat)+1:Int))),NQ (.own (.lst (SS xs))) l1 w z (zI (at_:Nat)) l5 mu):=
 mq (ρ1:=Ev.peek (NQ (.own (.lst (SS xs))) l1 w z (zI (at_:Nat)) l5 mu)) (aR (aR rfl rfl rfl rfl (qd (by decide) (by decide))) rfl (aR h rfl rfl rfl rfl) rfl (gq (by show (0:Int)<((ws.length:Nat):Int)+1; omega))) rfl
end
section
variable {xs:List Str} {ps:List (Str×Str)} {w z:Int} {mu:Mu} {l0 l1:Lc} {l4 l5:Option Lc}
theorem cT {k:Int} {f g:SF} {R:Option Fl} (h:(w==k)=false) (hg:g (NQ l0 l1 w z l4 l5 mu)=R):aL (dw (tT (aq eqP (aa 2) (eC (.int k))) aN) f bR) g (NQ l0 l1 w z l4 l5 mu)=R:=aF (ρ':=NQ l0 l1 w z l4 l5 mu) ((di (Tp.trans (by rw [h]))).trans rfl) hg
theorem rF {k:Int} {f g:SF} {ρ':Ev} {R:Option Fl} (h:(w==k)=true) (hf:f (NQ l0 l1 w z l4 l5 mu)=some (.nx ρ')) (hg:g ρ'=R):aL (dw (tT (aq eqP (aa 2) (eC (.int k))) aN) f bR) g (NQ l0 l1 w z l4 l5 mu)=R:=aF ((gU (Tp.trans (by rw [h]))).trans hf) hg
theorem rG {g:SF} {R:Option Fl} (h1:0<xs.length) (hg:g (NQ (.own (.lst (SS xs))) (.own (.lst (PP ps))) w z (yS (.int ((z%(xs.length:Int)).toNat:Nat))) none mu)=R):aL (aK 0 (eB list1 (aj (aa 0) ao))) (aL (aK 1 (eB list1 (aj (aa 1) ao))) (aL (aK 4 (dR (aq bF (aa 3) (eB cH (aj (aa 0) ao))))) g)) (env0 6 [.lst (SS xs),.lst (PP ps),.int w,.int z] mu)=R:=by
 have a1:=Int.emod_nonneg z (b:=(xs.length:Int)) (by omega)
 have e4:aK 4 (dR (aq bF (aa 3) (eB cH (aj (aa 0) ao)))) (NQ (.own (.lst (SS xs))) (.own (.lst (PP ps))) w z none none mu)=some (.nx (NQ (.own (.lst (SS xs))) (.own (.lst (PP ps))) w z (yS (.int ((z%(xs.length:Int)).toNat:Nat))) none mu)):=by
  rw [show (((z%(xs.length:Int)).toNat:Nat):Int)=z%(xs.length:Int) from by omega]
  refine bf (l:=.sh (.int (z%(xs.length:Int)))) (ρ1:=NQ (.own (.lst (SS xs))) (.own (.lst (PP ps))) w z none none mu) (mq (ρ1:=Ev.peek (NQ (.own (.lst (SS xs))) (.own (.lst (PP ps))) w z none none mu)) (aR (q:=.int ((SS xs).length:Nat)) rfl rfl rfl rfl ?_) rfl) rfl rfl
  rw [List.length_map]
  exact gq (by omega)
 exact aF (ρ':=NQ (.own (.lst (SS xs))) (.sh (.lst (PP ps))) w z none none mu) rfl (aF (ρ':=NQ (.own (.lst (SS xs))) (.own (.lst (PP ps))) w z none none mu) rfl (aF e4 hg))
end
theorem GJ {α:Type} {f:α->PV} {l:List α} {k:Nat} {x:α}:(l.map f).take k++f x::(l.map f).drop k=(l.take k++x::l.drop k).map f:=by
 rw [List.map_append,List.map_cons,List.map_take,List.map_drop]
theorem Fw {α:Type} {l:List α} {k:Nat} {x y:α} (h:y∈l.take k++x::l.drop k):y=x\/y∈l:=by
 rcases List.mem_append.mp h with h | h
 . exact .inr (List.mem_of_mem_take h)
 . rcases List.mem_cons.mp h with h | h
   . exact .inl h
   . exact .inr (List.mem_of_mem_drop h)
section
variable {xs:List Str} {ps:List (Str×Str)} {z:Int} {mu:Mu}
theorem Vy (hn:∀ x∈xs,nameB x=true) (h1:0<xs.length) (h8:xs.length<=8) (hp:∀ q∈ps,q.1∈xs/\q.2∈xs):∃ xs' ps',cj [.lst (SS xs),.lst (PP ps),.int 2,.int z] mu=some (.sh (two xs' ps'),mu)/\pO xs' ps':=by
 have a1:=Int.emod_nonneg z (b:=(xs.length:Int)) (by omega)
 have a2:=Int.emod_lt_of_pos z (b:=(xs.length:Int)) (by omega)
 obtain ⟨x,hx,ex⟩:=j7 (xs:=xs) (i:=(z%(xs.length:Int)).toNat) (by omega)
 have b1:=Int.emod_nonneg (z/8) (b:=((SS xs).length:Nat)+1) (by omega)
 have b2:=Int.emod_lt_of_pos (z/8) (b:=((SS xs).length:Nat)+1) (by omega)
 generalize hk:z/8%(((SS xs).length:Nat)+1:Int)=k at b1 b2
 let xs':=xs.take k.toNat++x::xs.drop k.toNat
 have s:qy 0 (aj (dR (aq bF (aq cA (aa 3) (eC (.int 8))) (aq bj (eB cH (aj (aa 0) ao)) (eC (.int 1))))) (aj (dR (aX (aa 0) (aa 4))) ao)) (NQ (.own (.lst (SS xs))) (.own (.lst (PP ps))) 2 z (yS (.int ((z%(xs.length:Int)).toNat:Nat))) none mu)=some (.nx (NQ (.own (.lst (SS xs'))) (.own (.lst (PP ps))) 2 z (yS (.int ((z%(xs.length:Int)).toNat:Nat))) none mu)):=by
  refine Kd (ws0:=SS xs) (ws:=SS xs) (k:=k) (le:=.sh (.str x)) (p:=.str x) rfl (au ((Ke (ws:=SS xs) (by omega) rfl).trans (by rw [hk])) (au (Fv ex) rfl)) rfl rfl ⟨b1,by omega,by rw [List.length_map]; omega⟩ ?_
  rw [GJ (f:=PV.str)]
  rfl
 refine ⟨xs',ps,aQ (ρ:=NQ (.sh (.lst (SS xs'))) (.sh (.lst (PP ps))) 2 z (yS (.int ((z%(xs.length:Int)).toNat:Nat))) none mu) (rG h1 (cT (by decide) (rF (by decide) s (cT (by decide) (cT (by decide) (cT (by decide) rfl)))))),?_,fun y hy=>?_,fun q hq=>⟨cI (hn _ (hp q hq).1),cI (hn _ (hp q hq).2)⟩,.inr (.inl ⟨x,?_,?_⟩)⟩
 . show (xs.take k.toNat++x::xs.drop k.toNat).length<=9
   rw [List.length_append,List.length_cons,List.length_take,List.length_drop]
   omega
 . rcases Fw hy with rfl | hy
   . exact cI (hn _ hx)
   . exact cI (hn y hy)
 . exact List.mem_append_right _ List.mem_cons_self
 . show 2<=(xs.take k.toNat++x::xs.drop k.toNat).countP (·==x)
   rw [List.countP_append,List.countP_cons_of_pos (by simp)]
   have e:(xs.take k.toNat).countP (·==x)+(xs.drop k.toNat).countP (·==x)=xs.countP (·==x):=by rw [← List.countP_append,List.take_append_drop]
   have p:0<xs.countP (·==x):=List.countP_pos_iff.mpr ⟨x,hx,by simp⟩
   omega
end
section
variable {xs:List Str} {ps:List (Str×Str)} {z w:Int} {mu:Mu} {at_:Nat}
theorem My {x:Str} {l1:Lc} {l5:Option Lc} (h:xs[at_]?=some x):dR (aX (aa 0) (aa 4)) (NQ (wS xs) l1 w z (zI (at_:Nat)) l5 mu)=some (.sh (.str x),NQ (wS xs) l1 w z (zI (at_:Nat)) l5 mu):=
 mq (ρ1:=Ev.peek (NQ (wS xs) l1 w z (zI (at_:Nat)) l5 mu)) (u9 h rfl rfl) rfl
noncomputable abbrev Vz:EF:=dR (aq bF (aq cA (aa 3) (eC (.int 8))) (aq bj (eB cH (aj (aa 1) ao)) (eC (.int 1))))
noncomputable abbrev vd:EF:=aG fG (aj (aa 0) ao)
theorem yG {ft:AF} {u v:Str} (hps:ps.length<=100) (ht:ft (NQ (.own (.lst (SS xs))) (.own (.lst (PP ps))) w z (zI (at_:Nat)) none mu)=some ([.sh (.str u),.sh (.str v)],NQ (wS xs) (.own (.lst (PP ps))) w z (zI (at_:Nat)) none mu)):∃ ps',(∃ k:Nat,ps'=ps.take k++(u,v)::ps.drop k)/\qy 1 (aj Vz (aj (cz ft) ao)) (NQ (.own (.lst (SS xs))) (.own (.lst (PP ps))) w z (zI (at_:Nat)) none mu)=some (.nx (NQ (wS xs) (.own (.lst (PP ps'))) w z (zI (at_:Nat)) none mu)):=by
 have b1:=Int.emod_nonneg (z/8) (b:=((PP ps).length:Nat)+1) (by omega)
 have b2:=Int.emod_lt_of_pos (z/8) (b:=((PP ps).length:Nat)+1) (by omega)
 generalize hk:z/8%(((PP ps).length:Nat)+1:Int)=k at b1 b2
 refine ⟨ps.take k.toNat++(u,v)::ps.drop k.toNat,⟨k.toNat,rfl⟩,?_⟩
 refine Kd (ws0:=PP ps) (ws:=PP ps) (k:=k) (le:=.sh (.tup [.str u,.str v])) (p:=.tup [.str u,.str v]) (ρ1:=NQ (wS xs) (.own (.lst (PP ps))) w z (zI (at_:Nat)) none mu) rfl (au ((Ke (ws:=PP ps) (by omega) rfl).trans (by rw [hk])) (au (jZ ht rfl rfl) rfl)) rfl rfl ⟨b1,by omega,by rw [List.length_map]; omega⟩ ?_
 have e:=GJ (f:=fun q:Str×Str=>PV.tup [.str q.1,.str q.2]) (l:=ps) (k:=k.toNat) (x:=(u,v))
 rw [show (PP ps).take k.toNat++PV.tup [.str u,.str v]::(PP ps).drop k.toNat=PP (ps.take k.toNat++(u,v)::ps.drop k.toNat) from e]
 rfl
theorem qG {u v:Str} {k:Nat} (hn:∀ x∈xs,nameB x=true) (h8:xs.length<=8) (hp:∀ q∈ps,q.1∈xs/\q.2∈xs) (hu:bB u=true) (hv:bB v=true) (h:u∉xs\/v∉xs):pO xs (ps.take k++(u,v)::ps.drop k):=
 ⟨by omega,fun x hx=>cI (hn x hx),fun q hq=>by
  rcases Fw hq with rfl | hq
  . exact ⟨hu,hv⟩
  . exact ⟨cI (hn _ (hp q hq).1),cI (hn _ (hp q hq).2)⟩,.inr (.inr ⟨(u,v),List.mem_append_right _ List.mem_cons_self,h⟩)⟩
theorem Tq (hn:∀ x∈xs,nameB x=true) (h1:0<xs.length) (h7:xs.length<=7) (hps:ps.length<=100) (hp:∀ q∈ps,q.1∈xs/\q.2∈xs) (hw:w=3\/w=4\/w=5):∃ xs' ps',cj [.lst (SS xs),.lst (PP ps),.int w,.int z] mu=some (.sh (two xs' ps'),mu)/\pO xs' ps':=by
 have a1:=Int.emod_nonneg z (b:=(xs.length:Int)) (by omega)
 have a2:=Int.emod_lt_of_pos z (b:=(xs.length:Int)) (by omega)
 obtain ⟨x,hx,ex⟩:=j7 (xs:=xs) (i:=(z%(xs.length:Int)).toNat) (by omega)
 obtain ⟨o,eo,ho,hso⟩:=Mx (xs:=xs) (mu:=mu) h7
 have hsx:=cI (hn x hx)
 let E:=fun l0=>NQ l0 (.own (.lst (PP ps))) w z (yS (.int ((z%(xs.length:Int)).toNat:Nat))) none mu
 have c1:vd (E (.own (.lst (SS xs))))=some (.sh (.str o),E (wS xs)):=aP (ls:=[wS xs]) (ρ1:=E (wS xs)) (au rfl rfl) rfl rfl rfl eo
 have c2:vd (E (wS xs))=some (.sh (.str o),E (wS xs)):=aP (ls:=[wS xs]) (ρ1:=E (wS xs)) (au rfl rfl) rfl rfl rfl eo
 rcases hw with rfl | rfl | rfl
 . obtain ⟨ps',⟨k,rfl⟩,s⟩:=yG (xs:=xs) (ft:=aj (dR (aX (aa 0) (aa 4))) (aj vd ao)) (u:=x) (v:=o) hps (au (Fv ex) (au c1 rfl))
   exact ⟨xs,_,aQ (ρ:=NQ (wS xs) (.sh (.lst (PP _))) 3 z (yS (.int ((z%(xs.length:Int)).toNat:Nat))) none mu) (rG h1 (cT (by decide) (cT (by decide) (rF (by decide) s (cT (by decide) (cT (by decide) rfl)))))),qG hn (by omega) hp hsx hso (.inr ho)⟩
 . obtain ⟨ps',⟨k,rfl⟩,s⟩:=yG (xs:=xs) (ft:=aj vd (aj (dR (aX (aa 0) (aa 4))) ao)) (u:=o) (v:=x) hps (au c1 (au (My ex) rfl))
   exact ⟨xs,_,aQ (ρ:=NQ (wS xs) (.sh (.lst (PP _))) 4 z (yS (.int ((z%(xs.length:Int)).toNat:Nat))) none mu) (rG h1 (cT (by decide) (cT (by decide) (cT (by decide) (rF (by decide) s (cT (by decide) rfl)))))),qG hn (by omega) hp hso hsx (.inl ho)⟩
 . obtain ⟨ps',⟨k,rfl⟩,s⟩:=yG (xs:=xs) (ft:=aj vd (aj vd ao)) (u:=o) (v:=o) hps (au c1 (au c2 rfl))
   exact ⟨xs,_,aQ (ρ:=NQ (wS xs) (.sh (.lst (PP _))) 5 z (yS (.int ((z%(xs.length:Int)).toNat:Nat))) none mu) (rG h1 (cT (by decide) (cT (by decide) (cT (by decide) (cT (by decide) (rF (by decide) s rfl)))))),qG hn (by omega) hp hso hso (.inl ho)⟩
end
section
variable {xs:List Str} {ps:List (Str×Str)} {z:Int} {mu:Mu}
noncomputable def mG (x b y:Str):Str:=if (y==x)=true then b else y
theorem Mz {n at_:Nat} {x b:Str} {q:Str×Str} {mu:Mu} (hm:mu[n]?=some (some (.lst (SS xs)))) (hx:xs[at_]?=some x):sS (bO (dB (aa 0) bG) 1 [1,2,3] (aA 0) cV (oV (tT (aq eqP (aa 0) (aX (aa 1) (aa 2))) aN) (aa 3) (aa 0))) ⟨[yS (.tup [.str q.1,.str q.2]),yS (.ptr n),zI (at_:Nat),zT b],mu⟩=some (.sh (.tup [.str (mG x b q.1),.str (mG x b q.2)]),⟨[yS (.tup [.str q.1,.str q.2]),yS (.ptr n),zI (at_:Nat),zT b],mu⟩):=by
 have ec:=kY (b:=aA 0) (te:=oV (tT (aq eqP (aa 0) (aX (aa 1) (aa 2))) aN) (aa 3) (aa 0)) (mu:=mu) (fun ρ=>∃ o,ρ=⟨[o,yS (.ptr n),zI (at_:Nat),zT b],mu⟩) (fun ρ ⟨o,e⟩=>by rw [e]) (fun p=>match p with | .str y=>.str (mG x b y) | _=>.non) (xs:=SS [q.1,q.2]) (ρ:=⟨[none,yS (.ptr n),zI (at_:Nat),zT b],mu⟩) ⟨none,rfl⟩ (by show 2<=100000; decide) (by
  rintro p hp ρ ⟨o,rfl⟩
  obtain ⟨y,_,rfl⟩:=List.mem_map.mp hp
  have t:tT (aq eqP (aa 0) (aX (aa 1) (aa 2))) aN ⟨[zT y,yS (.ptr n),zI (at_:Nat),zT b],mu⟩=some (y==x,⟨[zT y,yS (.ptr n),zI (at_:Nat),zT b],mu⟩):=bH (l:=.sh (.bl (y==x))) (aR rfl rfl (R0 (l:=.sh (.ptr n)) rfl rfl rfl rfl hm (Fo (p:=.str x) (by rw [List.getElem?_map,hx]; rfl))) rfl rfl) rfl rfl
  refine ⟨⟨[zT y,yS (.ptr n),zI (at_:Nat),zT b],mu⟩,rfl,.sh (.str (mG x b y)),⟨[zT y,yS (.ptr n),zI (at_:Nat),zT b],mu⟩,?_,rfl,_,rfl⟩
  unfold oV mG
  rw [t,Option.bind_some]
  cases (y==x)<;>rfl) (by
  rintro p hp ρ ρ1 ⟨o,rfl⟩ e
  cases e
  exact ⟨_,rfl⟩)
 have e2:=(fO (f:=dB (aa 0) bG) (m:=1) (ixs:=[1,2,3]) (ρ:=⟨[yS (.tup [.str q.1,.str q.2]),yS (.ptr n),zI (at_:Nat),zT b],mu⟩) (ρ1:=⟨[yS (.tup [.str q.1,.str q.2]),yS (.ptr n),zI (at_:Nat),zT b],mu⟩) (wW (l:=.sh (.tup [.str q.1,.str q.2])) rfl rfl) ec)
 unfold sS
 rw [e2]
 rfl
theorem VB (hn:∀ x∈xs,nameB x=true) (h1:0<xs.length) (h8:xs.length<=8) (hps:ps.length<=100) (hp:∀ q∈ps,q.1∈xs/\q.2∈xs):∃ xs' ps' mu',cj [.lst (SS xs),.lst (PP ps),.int 1,.int z] mu=some (.sh (two xs' ps'),mu')/\pO xs' ps':=by
 have a1:=Int.emod_nonneg z (b:=(xs.length:Int)) (by omega)
 have a2:=Int.emod_lt_of_pos z (b:=(xs.length:Int)) (by omega)
 obtain ⟨x,hx,ex⟩:=j7 (xs:=xs) (i:=(z%(xs.length:Int)).toNat) (by omega)
 obtain ⟨b,hb,eb⟩:=Tn (z:=z/8) (mu:=mu)
 obtain ⟨bn,bs⟩:=Qs b hb
 generalize hat:(z%(xs.length:Int)).toNat=at_ at ex
 have hlt:=nW ex
 let ps':=ps.map fun q=>(mG x b q.1,mG x b q.2)
 let A:Option Lc:=zI (at_:Nat)
 let B:Option Lc:=zT b
 let mu2:Mu:=mu++[some (.lst (SS xs))]
 have hm:mu2[mu.length]?=some (some (.lst (SS xs))):=by
  show (mu++[some (PV.lst (SS xs))])[mu.length]?=_
  rw [List.getElem?_append_right (Nat.le_refl _)]; simp
 have s5:aK 5 (aG gZ (aj (aq cA (aa 3) (eC (.int 8))) ao)) (NQ (.own (.lst (SS xs))) (.own (.lst (PP ps))) 1 z A none mu)=some (.nx (NQ (.own (.lst (SS xs))) (.own (.lst (PP ps))) 1 z A B mu)):=bf (aP (ls:=[.sh (.int (z/8))]) (au (aR rfl rfl rfl rfl (qd (by decide) (by decide))) rfl) rfl rfl rfl eb) rfl rfl
 have ec:=kY (b:=aA 0) (te:=sS (bO (dB (aa 0) bG) 1 [1,2,3] (aA 0) cV (oV (tT (aq eqP (aa 0) (aX (aa 1) (aa 2))) aN) (aa 3) (aa 0)))) (mu:=mu2) (fun ρ=>∃ o,ρ=⟨[o,yS (.ptr mu.length),A,B],mu2⟩) (fun ρ ⟨o,e⟩=>by rw [e]) (fun p=>match p with | .tup [.str u,.str v]=>.tup [.str (mG x b u),.str (mG x b v)] | _=>.non) (xs:=PP ps) (ρ:=⟨[none,yS (.ptr mu.length),A,B],mu2⟩) ⟨none,rfl⟩ (by rw [List.length_map]; omega) (by
  rintro p hp ρ ⟨o,rfl⟩
  obtain ⟨q,_,rfl⟩:=List.mem_map.mp hp
  exact ⟨⟨[yS (.tup [.str q.1,.str q.2]),yS (.ptr mu.length),A,B],mu2⟩,rfl,_,_,Mz hm ex,rfl,_,rfl⟩) (by
  rintro p hp ρ ρ1 ⟨o,rfl⟩ e
  cases e
  exact ⟨_,rfl⟩)
 have e3:(PP ps).map (fun p=>match p with | PV.tup [.str u,.str v]=>PV.tup [.str (mG x b u),.str (mG x b v)] | _=>.non)=PP ps':=by
  show _=List.map _ (List.map _ ps)
  rw [List.map_map,List.map_map]
  rfl
 rw [e3] at ec
 have s6:aK 1 (bO (dB (aa 1) bG) 1 [0,4,5] (aA 0) cV (sS (bO (dB (aa 0) bG) 1 [1,2,3] (aA 0) cV (oV (tT (aq eqP (aa 0) (aX (aa 1) (aa 2))) aN) (aa 3) (aa 0))))) (NQ (.sh (.ptr mu.length)) (.own (.lst (PP ps))) 1 z A B mu2)=some (.nx (NQ (.sh (.ptr mu.length)) (.own (.lst (PP ps'))) 1 z A B mu2)):=
  bf (l:=.own (.lst (PP ps'))) (ρ1:=NQ (.sh (.ptr mu.length)) (.sh (.lst (PP ps))) 1 z A B mu2) ((fO (ρ1:=NQ (.sh (.ptr mu.length)) (.sh (.lst (PP ps))) 1 z A B mu2) (wW (l:=.sh (.lst (PP ps))) rfl rfl) ec).trans rfl) rfl rfl
 have s7:Af 0 (xg 0 (aK 1 (bO (dB (aa 1) bG) 1 [0,4,5] (aA 0) cV (sS (bO (dB (aa 0) bG) 1 [1,2,3] (aA 0) cV (oV (tT (aq eqP (aa 0) (aX (aa 1) (aa 2))) aN) (aa 3) (aa 0))))))) (NQ (.own (.lst (SS xs))) (.own (.lst (PP ps))) 1 z A B mu)=some (.nx (NQ (.own (.lst (SS xs))) (.own (.lst (PP ps'))) 1 z A B (mu2.set mu.length none))):=by
  unfold Af xg
  rw [show sealV 0 (NQ (.own (.lst (SS xs))) (.own (.lst (PP ps))) 1 z A B mu)=some (NQ (.sh (.ptr mu.length)) (.own (.lst (PP ps))) 1 z A B mu2) from rfl,Option.bind_some,s6,Option.bind_some]
  show (openV 0 (NQ (.sh (.ptr mu.length)) (.own (.lst (PP ps'))) 1 z A B mu2)).map Fl.nx=_
  unfold openV
  dsimp only [List.getElem?_cons_zero]
  rw [hm]
  rfl
 have s8:pZ 0 (aa 4) (aa 5) (NQ (.own (.lst (SS xs))) (.own (.lst (PP ps'))) 1 z A B (mu2.set mu.length none))=some (.nx (NQ (.own (.lst (SS (xs.set at_ b)))) (.own (.lst (PP ps'))) 1 z A B (mu2.set mu.length none))):=by
  refine DR (x:=.sh (.str b)) (p:=.str b) (y:=.sh (.int (at_:Nat))) (ρ2:=NQ (.own (.lst (SS xs))) (.own (.lst (PP ps'))) 1 z A B (mu2.set mu.length none)) (ws:=SS xs) (j:=at_) rfl rfl rfl rfl rfl rfl ?_ ?_
  . unfold pR
    rw [List.length_map,if_pos (by omega),if_pos (by omega),Int.toNat_natCast]
  . rw [show (SS xs).set at_ (.str b)=SS (xs.set at_ b) from List.map_set.symm]
    rfl
 have shs:∀ y,y∈xs->bB (mG x b y)=true:=fun y hy=>by
  unfold mG
  split
  . exact bs
  . exact cI (hn y hy)
 refine ⟨xs.set at_ b,ps',mu2.set mu.length none,aQ (ρ:=NQ (wS (xs.set at_ b)) (.sh (.lst (PP ps'))) 1 z A B (mu2.set mu.length none)) (rG h1 (by rw [hat]; exact rF (by decide) (aF s5 (aF s7 s8)) (cT (by decide) (cT (by decide) (cT (by decide) (cT (by decide) rfl)))))),by rw [List.length_set]; omega,fun y hy=>?_,fun q hq=>?_,.inl ⟨b,List.mem_iff_getElem?.mpr ⟨at_,by rw [List.getElem?_set_self hlt]⟩,bn⟩⟩
 . rcases List.mem_or_eq_of_mem_set hy with hy | rfl
   . exact cI (hn y hy)
   . exact bs
 . obtain ⟨q',hq',rfl⟩:=List.mem_map.mp hq
   exact ⟨shs _ (hp q' hq').1,shs _ (hp q' hq').2⟩
end
theorem Ur {xs:List Str}:jM (.lst (SS xs)) (.lst (SS xs))=yS (.bl false):=by
 have h:=Uo (xs:=xs)
 unfold eqP at h
 unfold jM
 obtain ⟨b,e1,e2⟩:=Option.map_eq_some_iff.mp h
 rw [e1]
 cases b with
 | true=>rfl
 | false=>cases e2
section
variable {xs ts:List Str} {wd:Bool}
theorem Kf (h:wB wd xs.length=false):3<=xs.length:=by
 unfold wB at h
 rw [Bool.or_eq_false_iff] at h
 have:=of_decide_eq_false h.2
 omega
theorem Oa {n:Nat} (h2:2<=n):okN n (wL wd n (n-1)):=fun q hq=>N8 (ch:=wB wd n) q ((CG h2).mp hq)
theorem CT (nd:xs.Nodup) (hn:∀ x∈xs,nameB x=true) (h2:2<=xs.length) (h8:xs.length<=8) (pm:ts.Perm xs):ju xs ts (tell xs (wL wd xs.length (xs.length-1))) (qL (wB wd xs.length) xs.length) (Lq (wB wd xs.length) xs.length)/\zH xs.length (qL (wB wd xs.length) xs.length) (Lq (wB wd xs.length) xs.length) (jI (wB wd xs.length) xs.length) (mI (wB wd xs.length) xs.length):=by
 refine ⟨⟨nd,by omega,h8,?_,hn,pm.nodup_iff.mpr nd,pm.length_eq,fun x=>pm.mem_iff,N8,fun a b=>?_,Um Kf⟩,Ti (by omega) Kf⟩
 . rw [List.length_map]
   have:=xV (wd:=wd) (n:=xs.length) (xs.length-1)
   omega
 . rw [Cz (Oa h2)]
   constructor
   . rintro ⟨i,j,h1,h3,h4⟩
     exact ⟨i,j,h1,h3,(CG h2).mp h4⟩
   . rintro ⟨i,j,h1,h3,h4⟩
     exact ⟨i,j,h1,h3,(CG h2).mpr h4⟩
theorem zJ (nd:xs.Nodup) (hn:∀ x∈xs,nameB x=true) (h2:2<=xs.length) (h8:xs.length<=8) (pm:ts.Perm xs):Comes ts (tell xs (wL wd xs.length (xs.length-1))) .made:=by
 obtain ⟨S,L⟩:=CT (wd:=wd) nd hn h2 h8 pm
 exact Hn (S.ord L)
theorem Hw {P:List (Str×Str)} {u v:Str} (hu:bB u=true) (hv:bB v=true) (h:(u,v)∈P) (hP:∀ q∈P,q=(u,v)):Comes [] P .name:=by
 refine xU (by simp) (fun x h=>by cases h) (fun q hq=>by rw [hP q hq]; exact ⟨hu,hv⟩) ?_
 unfold nU
 rw [show P.all (g2 [])=false from List.all_eq_false.mpr ⟨(u,v),h,by unfold g2; rw [show has [] (u,v).1=false from iY.mpr (by simp),Bool.false_and]; decide⟩,Bool.and_false]
end
section
variable {xs:List Str} {wd:Bool} {ow:Int} {mu:Mu}
noncomputable def oB (ow:Int):Bool:=1==ow||(2==ow||(3==ow||false))
theorem Kg (nd:xs.Nodup) (hn:∀ x∈xs,nameB x=true) (h2:2<=xs.length) (h7:xs.length<=7):∃ X P,bN [.lst (SS xs),.lst (PP (tell xs (wL wd xs.length (xs.length-1)))),.int ow] mu=some (.sh (two X P),mu)/\(∀ ts:List Str,ts.Perm X->Comes ts P (if oB ow=true then .order else .made))/\(X=xs\/(X=[]/\P=[]))/\(∀ q∈P,q.1∈xs/\q.2∈xs)/\P.length<=20:=by
 obtain ⟨x0,m0,h0⟩:=j7 (xs:=xs) (i:=0) (by omega)
 obtain ⟨xl,ml,hl⟩:=j7 (xs:=xs) (i:=xs.length-1) (by omega)
 have pl:(tell xs (wL wd xs.length (xs.length-1))).length<=12:=by
  rw [List.length_map]
  have:=xV (wd:=wd) (n:=xs.length) (xs.length-1)
  omega
 have pin:∀ q∈tell xs (wL wd xs.length (xs.length-1)),q.1∈xs/\q.2∈xs:=fun q hq=>by
  obtain ⟨i,j,g1,g2,_⟩:=(Cz (Oa h2) q.1 q.2).mp hq
  exact ⟨List.mem_of_getElem? g1,List.mem_of_getElem? g2⟩
 by_cases e1:ow=1
 . subst e1
   refine ⟨xs,_,Vu (by omega) h0 hl,fun ts pm=>?_,.inl rfl,fun q hq=>?_,by rw [List.length_append]; show _+1<=20; omega⟩
   . obtain ⟨S,L⟩:=CT (wd:=wd) nd hn h2 (by omega) pm
     rw [if_pos (by decide:oB 1=true)]
     exact CP S L h2 (by omega) h0 hl
   . rcases List.mem_append.mp hq with hq | hq
     . exact pin q hq
     . rw [List.mem_singleton.mp hq]; exact ⟨ml,m0⟩
 . by_cases e2:ow=2
   . subst e2
     refine ⟨xs,_,Vv (by omega) hl,fun ts pm=>?_,.inl rfl,fun q hq=>pin q (List.mem_filter.mp hq).1,Nat.le_trans (List.length_filter_le _ _) (by omega)⟩
     obtain ⟨S,L⟩:=CT (wd:=wd) nd hn h2 (by omega) pm
     rw [if_pos (by decide:oB 2=true)]
     exact Hv S L h2 h0 hl
   . by_cases e3:ow=3
     . subst e3
       refine ⟨[],[],Vw,fun ts pm=>?_,.inr ⟨rfl,rfl⟩,fun q hq=>by (cases hq),by simp⟩
       rw [if_pos (by decide:oB 3=true),List.perm_nil.mp pm]
       exact Hr
     . refine ⟨xs,_,Vx (beq_eq_false_iff_ne.mpr e1) (beq_eq_false_iff_ne.mpr e2) (beq_eq_false_iff_ne.mpr e3),fun ts pm=>?_,.inl rfl,pin,by omega⟩
       rw [if_neg (by
        unfold oB
        rw [beq_eq_false_iff_ne.mpr (Ne.symm e1),beq_eq_false_iff_ne.mpr (Ne.symm e2),beq_eq_false_iff_ne.mpr (Ne.symm e3)]
        decide)]
       exact zJ nd hn h2 (by omega) pm
theorem Hx {P:List (Str×Str)} {nw z:Int} (hn:∀ x∈xs,nameB x=true) (h1:0<xs.length) (h7:xs.length<=7) (hps:P.length<=20) (hp:∀ q∈P,q.1∈xs/\q.2∈xs) (w1:0<nw) (w2:nw<6):∃ X' P' mu',cj [.lst (SS xs),.lst (PP P),.int nw,.int z] mu=some (.sh (two X' P'),mu')/\pO X' P':=by
 by_cases e1:nw=1
 . subst e1
   exact VB hn h1 (by omega) (by omega) hp
 . by_cases e2:nw=2
   . subst e2
     obtain ⟨X',P',e,S⟩:=Vy (z:=z) (mu:=mu) hn h1 (by omega) hp
     exact ⟨X',P',mu,e,S⟩
   . obtain ⟨X',P',e,S⟩:=Tq (z:=z) (mu:=mu) hn h1 h7 (by omega) hp (w:=nw) (by omega)
     exact ⟨X',P',mu,e,S⟩
end
noncomputable abbrev TQ (S:PV) (k:Int) (n:Nat) (l3 l4 l5 l6 l7 l8 l9 l10 l11 l12:Option Lc) (mu:Mu):Ev:=⟨[yS S,zI k,zI (n:Nat),l3,l4,l5,l6,l7,l8,l9,l10,l11,l12],mu⟩
theorem Out.ne {o:Out}:jM (.str o.str) (.str o.str)=yS (.bl false):=by
 show some (Lc.sh (.bl (!(o.str==o.str))))=_
 rw [beq_self_eq_true]
 rfl
theorem Us {ps:List (Str×Str)}:jM (.lst (PP ps)) (.lst (PP ps))=yS (.bl false):=by
 have key:∀ l:List (Str×Str),lH (bA 149) (PP l) (PP l)=some true:=by
  intro l
  induction l with
  | nil=>rfl
  | cons q l ih=>
   show (some ((q.1==q.1&&(q.2==q.2&&true))&&((2:Nat)==2))).bind (fun b=>(lH (bA 149) (PP l) (PP l)).map fun c=>b&&c)=_
   rw [ih,beq_self_eq_true,beq_self_eq_true]
   rfl
 show ((if (PP ps).length=(PP ps).length then lH (bA 149) (PP ps) (PP ps) else some false)).map _=_
 rw [if_pos rfl,key]
 rfl
noncomputable abbrev Tr:SF:=aL (aK 10 (aq bF (aG aM (aj (aa 0) (aj (aq bj (aa 1) (eC (.int 5))) ao))) (aq bj (eB cH (aj (aa 7) ao)) (eC (.int 1)))))
 (aL (aK 7 (aq bj (my (aa 7) (fV (aa 10)) mH) (my (aa 7) mH (fV (aa 10)))))
 (aL (aK 11 (eB list1 (aj (aa 7) ao)))
 (aL (aK 12 (eB list1 (aj (aa 8) ao)))
 (aL (dw (je (tT (aq jM (aG cJ (aj (aa 11) (aj (aa 12) ao))) (aa 9)) aN) (tT (aq jM (aG gf (aj (aa 11) (aj (aa 12) ao))) (aa 9)) aN))
 (dq (eC (.bl false)))
 bR)
 (dw (je (tT (aq jM (aa 11) (aa 7)) aN) (je (tT (aq jM (aa 12) (aa 8)) aN) (tT (aq jM (aG cJ (aj (aa 3) (aj (aa 4) ao))) (eC (.str "made"))) aN)))
 (dq (eC (.bl false)))
 bR)))))
theorem MF {S:PV} {k c5:Int} {n:Nat} {xs X:List Str} {P0 P:List (Str×Str)} {o:Out} {l5 l6 l10 l11 l12:Option Lc} {mu:Mu} {l8:Lc} (h8:l8.pv=.lst (PP P)) (e5:aM [S,.int (k+5)] mu=some (.sh (.int c5),mu)) (hX:X.length<=9) (hc:∀ ts:List Str,ts.Perm X->Comes ts P o) (h0:Comes xs P0 .made):∃ l7 l10' l11' l12' l8' l9 mu',Tr (TQ S k n (zS xs) (zP P0) l5 l6 (zS X) (some l8) (yS (.str o.str)) l10 l11 l12 mu)=some (.nx (TQ S k n (zS xs) (zP P0) l5 l6 l7 l8' l9 l10' l11' l12' mu')):=by
 let E8:=fun l8 l7 l10 l11 l12 mu=>TQ S k n (zS xs) (zP P0) l5 l6 l7 (some l8) (yS (.str o.str)) l10 l11 l12 mu
 let E:=E8 (.sh (.lst (PP P)))
 have t0:=Int.emod_nonneg c5 (b:=(X.length:Int)+1) (by omega)
 have t1:=Int.emod_lt_of_pos c5 (b:=(X.length:Int)+1) (by omega)
 have s10:aK 10 (aq bF (aG aM (aj (aa 0) (aj (aq bj (aa 1) (eC (.int 5))) ao))) (aq bj (eB cH (aj (aa 7) ao)) (eC (.int 1)))) (E8 l8 (zS X) l10 l11 l12 mu)=some (.nx (E8 l8 (zS X) (yS (.int (c5%((X.length:Int)+1)))) l11 l12 mu)):=by
  refine bf (aR (q:=.int (((SS X).length:Nat)+1)) (aP (ls:=[.sh S,.sh (.int (k+5))]) (au rfl (au (aR rfl rfl rfl rfl rfl) rfl)) rfl rfl rfl e5) rfl (aR rfl rfl rfl rfl rfl) rfl ?_) rfl rfl
  rw [List.length_map]
  exact gq (by omega)
 generalize c5%((X.length:Int)+1)=t at t0 t1 s10
 have s7:aK 7 (aq bj (my (aa 7) (fV (aa 10)) mH) (my (aa 7) mH (fV (aa 10)))) (E8 l8 (zS X) (zI t) l11 l12 mu)=some (.nx (E8 l8 (yO (SS (X.drop t.toNat++X.take t.toNat))) (zI t) l11 l12 mu)):=by
  have k1:ni (SS X) none (some t)=SS (X.take t.toNat):=by rw [Up t0 (by rw [List.length_map]; omega)]; exact List.map_take.symm
  have k2:ni (SS X) (some t) none=SS (X.drop t.toNat):=by rw [Uq t0 (by rw [List.length_map]; omega)]; exact List.map_drop.symm
  have g1:my (aa 7) (fV (aa 10)) mH (E8 l8 (zS X) (zI t) l11 l12 mu)=some (.own (.lst (SS (X.drop t.toNat))),E8 l8 (zS X) (zI t) l11 l12 mu):=by rw [← k2]; rfl
  have g2:my (aa 7) mH (fV (aa 10)) (E8 l8 (zS X) (zI t) l11 l12 mu)=some (.own (.lst (SS (X.take t.toNat))),E8 l8 (zS X) (zI t) l11 l12 mu):=by rw [← k1]; rfl
  refine bf (l:=.own (.lst (SS (X.drop t.toNat++X.take t.toNat)))) (aR g1 rfl g2 rfl ?_) rfl rfl
  rw [show SS (X.drop t.toNat++X.take t.toNat)=SS (X.drop t.toNat)++SS (X.take t.toNat) from List.map_append]
  exact Tj (by rw [List.length_map,List.length_map,List.length_take,List.length_drop]; omega)
 have pm:(X.drop t.toNat++X.take t.toNat).Perm X:=List.perm_append_comm.trans (by rw [List.take_append_drop])
 generalize X.drop t.toNat++X.take t.toNat=ts at s7 pm
 have h:=hc ts pm
 obtain ⟨mu1,b1⟩:=Cu (mu:=mu) h
 obtain ⟨mu2,b2⟩:=Qm (mu:=mu1) h
 obtain ⟨mu3,b3⟩:=Cu (mu:=mu2) h0
 let F:=fun mu=>E (zS ts) (zI t) (zS ts) (zP P) mu
 let G:=E (zS ts) (zI t) (yO (SS ts)) (yO (PP P)) mu
 have s12:aK 12 (eB list1 (aj (aa 8) ao)) (E8 l8 (zS ts) (zI t) (yO (SS ts)) l12 mu)=some (.nx G):=by
  cases l8 with
  | sh p=>change p=_ at h8; subst h8; rfl
  | own p=>change p=_ at h8; subst h8; rfl
 have u1:tT (aq jM (aG cJ (aj (aa 11) (aj (aa 12) ao))) (aa 9)) aN G=some (false,F mu1):=bH (aR (aP (ls:=[wS ts,.sh (.lst (PP P))]) (ρ1:=F mu) (au rfl (au rfl rfl)) rfl rfl rfl b1) rfl rfl rfl Out.ne) rfl rfl
 have u2:tT (aq jM (aG gf (aj (aa 11) (aj (aa 12) ao))) (aa 9)) aN (F mu1)=some (false,F mu2):=bH (aR (aP (ls:=[wS ts,.sh (.lst (PP P))]) (ρ1:=F mu1) (au rfl (au rfl rfl)) rfl rfl rfl b2) rfl rfl rfl Out.ne) rfl rfl
 have u3:tT (aq jM (aa 11) (aa 7)) aN (F mu2)=some (false,F mu2):=bH (aR rfl rfl rfl rfl Ur) rfl rfl
 have u4:tT (aq jM (aa 12) (aa 8)) aN (F mu2)=some (false,F mu2):=bH (aR rfl rfl rfl rfl Us) rfl rfl
 have u5:tT (aq jM (aG cJ (aj (aa 3) (aj (aa 4) ao))) (eC (.str "made"))) aN (F mu2)=some (false,F mu3):=bH (aR (aP (ls:=[wS xs,.sh (.lst (PP P0))]) (ρ1:=F mu2) (au rfl (au rfl rfl)) rfl rfl rfl b3) rfl rfl rfl (Out.ne (o:=.made))) rfl rfl
 have or2:∀ {c d:TF} {ρ ρ1 ρ2:Ev},c ρ=some (false,ρ1)->d ρ1=some (false,ρ2)->je c d ρ=some (false,ρ2):=fun h g=>by
  unfold je
  rw [h,Option.bind_some]
  exact g
 exact ⟨_,_,_,_,_,_,mu3,aF s10 (aF s7 (aF (ρ':=E8 l8 (zS ts) (zI t) (yO (SS ts)) l12 mu) rfl (aF (ρ':=G) s12 (aF (ρ':=F mu2) ((di (or2 u1 u2)).trans rfl) ((di (or2 u3 (or2 u4 u5))).trans rfl)))))⟩
theorem Tt {f g:EF} {ρ ρ1 ρ2:Ev} {qs:List PV} {k:Int} {y:Lc} (h1:f ρ=some (.own (.lst qs),ρ1)) (h2:g ρ1=some (y,ρ2)) (hy:y.pv=.int k) (hc:0<=k/\k<=100000/\qs.length*k.toNat<=100000):yg f g ρ=some (.own (.lst (List.replicate k.toNat qs).flatten),ρ2):=by
 unfold yg
 rw [h1,Option.bind_some,h2,Option.bind_some]
 dsimp only
 rw [hy]
 dsimp only
 rw [if_pos hc]
theorem pF {p:PV}:∀ k:Nat,(List.replicate k [p]).flatten=List.replicate k p
 | 0=>rfl
 | k+1=>by rw [List.replicate_succ,List.flatten_cons,pF k,List.replicate_succ]; rfl
theorem Fx {f:EF} {i j:Nat} {ρ ρ1 ρ':Ev} {X:List Str} {P:List (Str×Str)} (h:f ρ=some (.sh (two X P),ρ1)) (hb:eN 2 (aZ (aA i) (aZ (aA j) fu)) (two X P) ρ1=some ρ'):ug f (eN 2 (aZ (aA i) (aZ (aA j) fu))) ρ=some (.nx ρ'):=by
 unfold ug
 rw [h,Option.bind_some]
 show (eN 2 _ (two X P) ρ1).map _=_
 rw [hb]
 rfl
noncomputable abbrev UW:SF:=dw (dO (tT (aq Bt (eB cH (aj (aa 7) ao)) (eC (.int 0))) aN) (tT (dZ iu iu (eC (.int 0)) (aa 6) (eC (.int 6))) aN))
 (aL (ug (aG cj (aj (aa 7) (aj (aa 8) (aj (aa 6) (aj (aG aM (aj (aa 0) (aj (aq bj (aa 1) (eC (.int 4))) ao))) ao))))) (eN 2 (aZ (aA 7) (aZ (aA 8) fu))))
 (aK 9 (eC (.str "name"))))
 (dw (tT (aq gn (aa 6) (cz (aj (eC (.int 3)) (aj (eC (.int 4)) ao)))) aN)
 (aL (aK 8 (yg (gk (aj (cz (aj (aX (aa 3) (eC (.int 0))) (aj (aX (aa 3) (uo (eC (.int 1)))) ao))) ao)) (aq lZ (aa 6) (eC (.int 2)))))
 (aK 9 (eC (.str "name"))))
 bR)
theorem Tu {S:PV} {k c4 nw:Int} {n:Nat} {xs X:List Str} {P:List (Str×Str)} {o:Out} {l4 l5 l10 l11 l12:Option Lc} {mu:Mu} (e4:aM [S,.int (k+4)] mu=some (.sh (.int c4),mu)) (hn:∀ x∈xs,nameB x=true) (h2:2<=xs.length) (h7:xs.length<=7) (hX:X=xs\/(X=[]/\P=[])) (hp:∀ q∈P,q.1∈xs/\q.2∈xs) (hps:P.length<=20) (hc:∀ ts:List Str,ts.Perm X->Comes ts P o):
 ∃ X' l8 P' o' mu',UW (TQ S k n (zS xs) l4 l5 (zI nw) (zS X) (zP P) (yS (.str o.str)) l10 l11 l12 mu)=some (.nx (TQ S k n (zS xs) l4 l5 (zI nw) (yL (SS X')) (some l8) (zT (Out.str o')) l10 l11 l12 mu'))/\l8.pv=.lst (PP P')/\X'.length<=9/\∀ ts:List Str,ts.Perm X'->Comes ts P' o':=by
 let E:=fun l7 l8 l9 mu=>TQ S k n (zS xs) l4 l5 (zI nw) l7 l8 l9 l10 l11 l12 mu
 let E0:=E (zS X) (zP P) (yS (.str o.str)) mu
 have t1:dO (tT (aq Bt (eB cH (aj (aa 7) ao)) (eC (.int 0))) aN) (tT (dZ iu iu (eC (.int 0)) (aa 6) (eC (.int 6))) aN) E0=some (decide (((SS X).length:Int)>0)&&(decide (0<nw)&&decide (nw<6)),E0):=pC (bH (aR rfl rfl rfl rfl rfl) rfl rfl) (bH (uK rfl rfl rfl) rfl rfl)
 have t2:tT (aq gn (aa 6) (cz (aj (eC (.int 3)) (aj (eC (.int 4)) ao)))) aN E0=some (3==nw||(4==nw||false),E0):=bH (aR rfl rfl rfl rfl rfl) rfl rfl
 rw [List.length_map] at t1
 by_cases hb:X=xs/\0<nw/\nw<6
 . obtain ⟨rfl,w1,w2⟩:=hb
   obtain ⟨X',P',mu',e,Sp⟩:=Hx (mu:=mu) (z:=c4) hn (by omega) h7 hps hp w1 w2
   rw [decide_eq_true (by omega),decide_eq_true w1,decide_eq_true w2] at t1
   refine ⟨X',.sh (.lst (PP P')),P',.name,mu',(gU t1).trans (aF (ρ':=E (yL (SS X')) (yL (PP P')) (yS (.str o.str)) mu') (Fx (ρ1:=E (zS X) (zP P) (yS (.str o.str)) mu') (aP (ls:=[wS X,.sh (.lst (PP P)),.sh (.int nw),.sh (.int c4)]) (ρ1:=E0) (au rfl (au rfl (au rfl (au (aP (ls:=[.sh S,.sh (.int (k+4))]) (au rfl (au (aR rfl rfl rfl rfl rfl) rfl)) rfl rfl rfl e4) rfl)))) rfl rfl rfl e) rfl) rfl),rfl,Sp.l9,fun ts pm=>Sp.comes pm⟩
 . have f1:(decide ((X.length:Int)>0)&&(decide (0<nw)&&decide (nw<6)))=false:=by
    rcases hX with hX | ⟨hX,_⟩
    . have:¬ (0<nw/\nw<6):=fun h=>hb ⟨hX,h⟩
      by_cases g:0<nw
      . rw [decide_eq_false (p:=nw<6) (by omega),Bool.and_false,Bool.and_false]
      . rw [decide_eq_false g,Bool.false_and,Bool.and_false]
    . rw [hX]
      rfl
   rw [f1] at t1
   cases hw:(3==nw||(4==nw||false)) with
   | false=>
    rw [hw] at t2
    exact ⟨X,_,P,o,mu,(di t1).trans ((di t2).trans rfl),rfl,by (rcases hX with rfl | ⟨rfl,_⟩; omega; exact Nat.zero_le _),hc⟩
   | true=>
    rw [hw] at t2
    have hnw:nw=3\/nw=4:=by
     rw [Bool.or_eq_true,Bool.or_eq_true,beq_iff_eq,beq_iff_eq] at hw
     rcases hw with h | h | h
     . exact .inl h.symm
     . exact .inr h.symm
     . cases h
    have hX0:X=[]:=by
     rcases hX with h | h
     . exact absurd ⟨h,by omega,by omega⟩ hb
     . exact h.1
    subst hX0
    obtain ⟨x0,m0,h0⟩:=j7 (xs:=xs) (i:=0) (by omega)
    obtain ⟨xl,ml,hl⟩:=j7 (xs:=xs) (i:=xs.length-1) (by omega)
    have er:yg (gk (aj (cz (aj (aX (aa 3) (eC (.int 0))) (aj (aX (aa 3) (uo (eC (.int 1)))) ao))) ao)) (aq lZ (aa 6) (eC (.int 2))) E0=some (.own (.lst (PP (List.replicate (nw-2).toNat (x0,xl)))),E0):=by
     rw [show PP (List.replicate (nw-2).toNat (x0,xl))=(List.replicate (nw-2).toNat [PV.tup [.str x0,.str xl]]).flatten from by rw [pF]; exact List.map_replicate]
     exact Tt (ρ1:=E0) (y:=.sh (.int (nw-2))) (pD (ls:=[.sh (.tup [.str x0,.str xl])]) (au (jZ (ls:=[.sh (.str x0),.sh (.str xl)]) (au (v7 h0 rfl) (au (yF hl rfl) rfl)) rfl rfl) rfl) rfl rfl) (aR rfl rfl rfl rfl rfl) rfl (by show _/\_/\1*_<=_; omega)
    refine ⟨[],.own (.lst (PP (List.replicate (nw-2).toNat (x0,xl)))),List.replicate (nw-2).toNat (x0,xl),.name,mu,(di t1).trans ((gU t2).trans (aF (ρ':=E (zS []) (yO (PP (List.replicate (nw-2).toNat (x0,xl)))) (yS (.str o.str)) mu) (bf er rfl rfl) rfl)),rfl,by simp,fun ts pm=>?_⟩
    rw [List.perm_nil.mp pm]
    exact Hw (cI (hn _ m0)) (cI (hn _ ml)) (List.mem_replicate.mpr ⟨by omega,rfl⟩) fun q hq=>(List.mem_replicate.mp hq).2
noncomputable abbrev U0 (tl:SF):SF:=aL (aK 2 (aq bj (eC (.int 2)) (aq bF (aG aM (aj (aa 0) (aj (aa 1) ao))) (eC (.int 6)))))
 (aL (aK 3 (aG iU (aj (aq cA (aG aM (aj (aa 0) (aj (aa 1) ao))) (eC (.int 6))) (aj (aa 2) ao))))
 (aL (aK 4 (aG iV (aj (aa 3) (aj (aq eqP (aq bF (aG aM (aj (aa 0) (aj (aq bj (aa 1) (eC (.int 1))) ao))) (eC (.int 2))) (eC (.int 1))) ao))))
 (aL (aK 5 (aq bF (aG aM (aj (aa 0) (aj (aq bj (aa 1) (eC (.int 2))) ao))) (eC (.int 5))))
 (aL (aK 6 (aq bF (aG aM (aj (aa 0) (aj (aq bj (aa 1) (eC (.int 3))) ao))) (eC (.int 9))))
 (aL (ug (aG bN (aj (aa 3) (aj (aa 4) (aj (aa 5) ao)))) (eN 2 (aZ (aA 7) (aZ (aA 8) fu))))
 (aL (aK 9 (oV (tT (aq gn (aa 5) (cz (aj (eC (.int 1)) (aj (eC (.int 2)) (aj (eC (.int 3)) ao))))) aN) (eC (.str "order")) (eC (.str "made"))))
 (aL UW tl)))))))
theorem Qt {ns:List Int} {S:PV} (hS:S=.lst (ns.map .int)) {k:Int} {q2 q3 q4 q5 q6 q7 q8 q9 q10 q11 q12:Option Lc} {mu:Mu} (h0:0<=k):∃ p2 p3 p4 p5 p6 p7 p8 p9 p10 p11 p12 mu',U0 Tr ⟨[yS S,zI k,q2,q3,q4,q5,q6,q7,q8,q9,q10,q11,q12],mu⟩=some (.nx ⟨[yS S,zI k,p2,p3,p4,p5,p6,p7,p8,p9,p10,p11,p12],mu'⟩):=by
 obtain ⟨c0,_,e0⟩:=cell_eq (ns:=ns) (k:=k) (mu:=mu) h0
 obtain ⟨c1,_,e1⟩:=cell_eq (ns:=ns) (k:=k+1) (mu:=mu) (by omega)
 obtain ⟨c2,_,e2⟩:=cell_eq (ns:=ns) (k:=k+2) (mu:=mu) (by omega)
 obtain ⟨c3,_,e3⟩:=cell_eq (ns:=ns) (k:=k+3) (mu:=mu) (by omega)
 obtain ⟨c4,_,e4⟩:=cell_eq (ns:=ns) (k:=k+4) (mu:=mu) (by omega)
 have e5:∀ mu,∃ c,0<=c/\aM [.lst (ns.map .int),.int (k+5)] mu=some (.sh (.int c),mu):=fun mu=>cell_eq (by omega)
 rw [← hS] at e0 e1 e2 e3 e4 e5
 have m0:=Int.emod_nonneg c0 (b:=6) (by decide)
 have m1:=Int.emod_lt_of_pos c0 (b:=6) (by decide)
 obtain ⟨n,hn1⟩:∃ n:Nat,2+c0%6=(n:Int):=⟨(2+c0%6).toNat,by omega⟩
 have n2:2<=n:=by omega
 have n7:n<=7:=by omega
 obtain ⟨xs,en,lx,nd,hn⟩:=Mp (c:=c0/6) (n:=(n:Nat)) (mu:=mu) (by omega) (by omega)
 rw [Int.toNat_natCast] at lx
 subst lx
 let E:=fun l2 l3 l4 l5 l6 l7 l8 l9=>(⟨[yS S,zI k,l2,l3,l4,l5,l6,l7,l8,l9,q10,q11,q12],mu⟩:Ev)
 let N:Option Lc:=zI (xs.length:Nat)
 have ca:∀ {i c:Int} {l2 l3 l4 l5 l6 l7 l8 l9},aM [S,.int (k+i)] mu=some (.sh (.int c),mu)->aG aM (aj (aa 0) (aj (aq bj (aa 1) (eC (.int i))) ao)) (E l2 l3 l4 l5 l6 l7 l8 l9)=some (.sh (.int c),E l2 l3 l4 l5 l6 l7 l8 l9):=fun h=>aP (ls:=[.sh S,.sh (.int (k+_))]) (au rfl (au (aR rfl rfl rfl rfl rfl) rfl)) rfl rfl rfl h
 have s2:aK 2 (aq bj (eC (.int 2)) (aq bF (aG aM (aj (aa 0) (aj (aa 1) ao))) (eC (.int 6)))) (E q2 q3 q4 q5 q6 q7 q8 q9)=some (.nx (E N q3 q4 q5 q6 q7 q8 q9)):=by
  refine bf (l:=.sh (.int (xs.length:Nat))) (ρ1:=E q2 q3 q4 q5 q6 q7 q8 q9) (aR rfl rfl (aR (aP (ls:=[.sh S,.sh (.int k)]) (au rfl (au rfl rfl)) rfl rfl rfl e0) rfl rfl rfl (gq (by decide))) rfl ?_) rfl rfl
  rw [← hn1]
  rfl
 have s3:aK 3 (aG iU (aj (aq cA (aG aM (aj (aa 0) (aj (aa 1) ao))) (eC (.int 6))) (aj (aa 2) ao))) (E N q3 q4 q5 q6 q7 q8 q9)=some (.nx (E N (yO (SS xs)) q4 q5 q6 q7 q8 q9)):=
  bf (aP (ls:=[.sh (.int (c0/6)),.sh (.int (xs.length:Nat))]) (au (aR (aP (ls:=[.sh S,.sh (.int k)]) (au rfl (au rfl rfl)) rfl rfl rfl e0) rfl rfl rfl (qd (by decide) (by decide))) (au rfl rfl)) rfl rfl rfl en) rfl rfl
 let xl:Option Lc:=zS xs
 generalize hw:(c1%2==1)=wd
 let P0:=tell xs (wL wd xs.length (xs.length-1))
 have s4:aK 4 (aG iV (aj (aa 3) (aj (aq eqP (aq bF (aG aM (aj (aa 0) (aj (aq bj (aa 1) (eC (.int 1))) ao))) (eC (.int 2))) (eC (.int 1))) ao))) (E N (yO (SS xs)) q4 q5 q6 q7 q8 q9)=some (.nx (E N xl (yO (PP P0)) q5 q6 q7 q8 q9)):=by
  have eb:aq eqP (aq bF (aG aM (aj (aa 0) (aj (aq bj (aa 1) (eC (.int 1))) ao))) (eC (.int 2))) (eC (.int 1)) (E N xl q4 q5 q6 q7 q8 q9)=some (.sh (.bl wd),E N xl q4 q5 q6 q7 q8 q9):=by
   rw [← hw]
   exact aR (aR (ca e1) rfl rfl rfl (gq (by decide))) rfl rfl rfl rfl
  exact bf (aP (ls:=[wS xs,.sh (.bl wd)]) (ρ1:=E N xl q4 q5 q6 q7 q8 q9) (au rfl (au eb rfl)) rfl rfl rfl (Mw n2 (by omega))) rfl rfl
 let pl:Option Lc:=yO (PP P0)
 let O:Option Lc:=zI (c2%5)
 let W:Option Lc:=zI (c3%9)
 have s5:aK 5 (aq bF (aG aM (aj (aa 0) (aj (aq bj (aa 1) (eC (.int 2))) ao))) (eC (.int 5))) (E N xl pl q5 q6 q7 q8 q9)=some (.nx (E N xl pl O q6 q7 q8 q9)):=bf (aR (ca e2) rfl rfl rfl (gq (by decide))) rfl rfl
 have s6:aK 6 (aq bF (aG aM (aj (aa 0) (aj (aq bj (aa 1) (eC (.int 3))) ao))) (eC (.int 9))) (E N xl pl O q6 q7 q8 q9)=some (.nx (E N xl pl O W q7 q8 q9)):=bf (aR (ca e3) rfl rfl rfl (gq (by decide))) rfl rfl
 obtain ⟨X,P,es,hc,hX,hp,hps⟩:=Kg (wd:=wd) (ow:=c2%5) (mu:=mu) nd hn n2 n7
 let pz:Option Lc:=zP P0
 let X1:Option Lc:=zS X
 let P1:Option Lc:=zP P
 have s7:ug (aG bN (aj (aa 3) (aj (aa 4) (aj (aa 5) ao)))) (eN 2 (aZ (aA 7) (aZ (aA 8) fu))) (E N xl pl O W q7 q8 q9)=some (.nx (E N xl pz O W X1 P1 q9)):=Fx (ρ1:=E N xl pz O W q7 q8 q9) (aP (ls:=[wS xs,.sh (.lst (PP P0)),.sh (.int (c2%5))]) (ρ1:=E N xl pz O W q7 q8 q9) (au rfl (au rfl (au rfl rfl))) rfl rfl rfl es) rfl
 have t9:tT (aq gn (aa 5) (cz (aj (eC (.int 1)) (aj (eC (.int 2)) (aj (eC (.int 3)) ao))))) aN (E N xl pz O W X1 P1 q9)=some (oB (c2%5),E N xl pz O W X1 P1 q9):=bH (aR rfl rfl rfl rfl rfl) rfl rfl
 generalize ho:(if oB (c2%5)=true then Out.order else .made)=o at hc
 have s9:aK 9 (oV (tT (aq gn (aa 5) (cz (aj (eC (.int 1)) (aj (eC (.int 2)) (aj (eC (.int 3)) ao))))) aN) (eC (.str "order")) (eC (.str "made"))) (E N xl pz O W X1 P1 q9)=some (.nx (E N xl pz O W X1 P1 (yS (.str o.str)))):=by
  refine bf (l:=.sh (.str o.str)) (ρ1:=E N xl pz O W X1 P1 q9) ?_ rfl rfl
  unfold oV
  rw [t9,Option.bind_some,← ho]
  cases oB (c2%5)<;>rfl
 obtain ⟨X',l8,P',o',mu',em,h8,hX9,hc'⟩:=Tu (S:=S) (k:=k) (n:=xs.length) (nw:=c3%9) (l4:=pz) (l5:=O) (l10:=q10) (l11:=q11) (l12:=q12) e4 hn n2 n7 hX hp hps hc
 obtain ⟨c5,_,e5⟩:=e5 mu'
 obtain ⟨l7,p10,p11,p12,p8,p9,mu2,et⟩:=MF (n:=xs.length) (l5:=O) (l6:=W) (l10:=q10) (l11:=q11) (l12:=q12) h8 e5 hX9 hc' (zJ (wd:=wd) nd hn n2 (by omega) (List.Perm.refl xs))
 exact ⟨_,_,_,_,_,_,_,_,_,_,_,mu2,aF s2 (aF s3 (aF s4 (aF s5 (aF s6 (aF s7 (aF s9 (aF em et)))))))⟩
theorem law_true (ns:List Int) (hn:ns.length<=63):∃ mu,G5 [.lst (ns.map PV.int)] []=some (.sh (.bl true),mu):=by
 let S:=PV.lst (ns.map PV.int)
 obtain ⟨u,hu⟩:∃ u:Int,min2 [.int ((ns.map PV.int).length:Nat),.int 60]=zI u/\0<=u/\u<=60:=⟨_,rfl,by rw [List.length_map]; omega,by rw [List.length_map]; omega⟩
 have rg:u0 (aj (eC (.int 0)) (aj (aq bj (eB min2 (aj (eB cH (aj (aa 0) ao)) (aj (eC (.int 60)) ao))) (eC (.int 1))) (aj (eC (.int 6)) ao))) (env0 13 [S] [])=some (nP 0 6 (oO 0 (u+1) 6),env0 13 [S] []):=by
  have ea:aj (eC (.int 0)) (aj (aq bj (eB min2 (aj (eB cH (aj (aa 0) ao)) (aj (eC (.int 60)) ao))) (eC (.int 1))) (aj (eC (.int 6)) ao)) (env0 13 [S] [])=some ([.sh (.int 0),.sh (.int (u+1)),.sh (.int 6)],env0 13 [S] []):=au rfl (au (aR (LK (ls:=[.sh (.int ((ns.map PV.int).length:Nat)),.sh (.int 60)]) (au rfl (au rfl rfl)) rfl hu.1) rfl rfl rfl rfl) (au rfl rfl))
  unfold u0
  rw [ea,Option.bind_some]
  show (if -(2 ^ 61)<=(0:Int)/\(0:Int)<2 ^ 61/\-(2 ^ 61)<=u+1/\u+1<2 ^ 61/\(0:Int)<6/\(6:Int)<2 ^ 61 then some (nP 0 6 (oO 0 (u+1) 6),_) else none)=_
  rw [if_pos ⟨by decide,by decide,by omega,by omega,by decide,by decide⟩]
 obtain ⟨ρ',ef,q1,q2,q3,q4,q5,q6,q7,q8,q9,q10,q11,q12,mu,rfl⟩:=uW (b:=aA 1) (body:=U0 Tr) (xs:=nP 0 6 (oO 0 (u+1) 6)) (ρ:=env0 13 [S] []) (fun _ ρ=>∃ q1 q2 q3 q4 q5 q6 q7 q8 q9 q10 q11 q12 mu,ρ=⟨[yS S,q1,q2,q3,q4,q5,q6,q7,q8,q9,q10,q11,q12],mu⟩) ⟨_,_,_,_,_,_,_,_,_,_,_,_,_,rfl⟩ (by
  rintro i x ρ hx ⟨q1,q2,q3,q4,q5,q6,q7,q8,q9,q10,q11,q12,mu,rfl⟩
  obtain ⟨k,rfl,hk⟩:∃ k:Int,x=.int k/\0<=k:=by
   unfold nP at hx
   rw [List.getElem?_map] at hx
   obtain ⟨j,_,rfl⟩:=map_some hx
   exact ⟨_,rfl,by omega⟩
  obtain ⟨p2,p3,p4,p5,p6,p7,p8,p9,p10,p11,p12,mu',e⟩:=Qt (ns:=ns) (S:=S) rfl (k:=k) (q2:=q2) (q3:=q3) (q4:=q4) (q5:=q5) (q6:=q6) (q7:=q7) (q8:=q8) (q9:=q9) (q10:=q10) (q11:=q11) (q12:=q12) (mu:=mu) hk
  exact ⟨⟨[yS S,zI k,q2,q3,q4,q5,q6,q7,q8,q9,q10,q11,q12],mu⟩,rfl,_,.inl e,_,_,_,_,_,_,_,_,_,_,_,_,_,rfl⟩)
 exact ⟨mu,aQ (ρ:=⟨[yS S,q1,q2,q3,q4,q5,q6,q7,q8,q9,q10,q11,q12],mu⟩) (aF (jr rg ef) rfl)⟩
theorem jH {K:FG} {h:Heap} {mg:Str->Option Value} {x:Str} {st:Stmt} {ps:List Str} {f:Addr} {oc kV doc pm cdv ct:Value} {od an:Option Addr} {osl:Array (Option Value)} (X:K.In h) (G:h.Ns mainGlobals mg) (a:W.nsIn K mainGlobals x=some (some (.ref f))) (l:K.lookup f=some ⟨oc,od,.func (W.fnOf x x (bx st) (aU st) (az st) .none kV doc pm an cdv ct),osl⟩) (c:W.codeIn K cdv x=true) (k:W.keepIn K (.ref f)=true)
 (hb:∀ (kV doc pm:Value) (an:Option Addr) (cdv ct:Value) (us:List Value),us.length=ps.length->bindArgs (W.fnOf x x (bx st) (aU st) (az st) .none kV doc pm an cdv ct) ⟨us,[]⟩=pure (ps.zip us)):aW K mg x st ps:=⟨_,_,tU l c k,W.mg_of X G a,(tU l c k).binds hb⟩
theorem all_mk {l:W.OpenLaw} {w:World} {K:FG} {h:Heap} {mg:Str->Option Value} {fa f1 f2 f3 f4 f5 f6 f7 f8 f9 f10 f11 f12 f13 f14 f15 f16 f17 f18 f19 f20 f21 f22 f23 f24 f25:Addr} {tk_LETTERS:Tok} (X:K.In h) (G:h.Ns mainGlobals mg) (hfa:mg "law" = some (.ref fa))
 {od1 an1 od2 an2 od3 an3 od4 an4 od5 an5 od6 an6 od7 an7 od8 an8 od9 an9 od10 an10 od11 an11 od12 an12 od13 an13 od14 an14 od15 an15 od16 an16 od17 an17 od18 an18 od19 an19 od20 an20 od21 an21 od22 an22 od23 an23 od24 an24 od25 an25:Option Addr} {sl1 sl2 sl3 sl4 sl5 sl6 sl7 sl8 sl9 sl10 sl11 sl12 sl13 sl14 sl15 sl16 sl17 sl18 sl19 sl20 sl21 sl22 sl23 sl24 sl25:Array (Option Value)} {oc1 kV1 dc1 pm1 cd1 ct1 oc2 kV2 dc2 pm2 cd2 ct2 oc3 kV3 dc3 pm3 cd3 ct3 oc4 kV4 dc4 pm4 cd4 ct4 oc5 kV5 dc5 pm5 cd5 ct5 oc6 kV6 dc6 pm6 cd6 ct6 oc7 kV7 dc7 pm7 cd7 ct7 oc8 kV8 dc8 pm8 cd8 ct8 oc9 kV9 dc9 pm9 cd9 ct9 oc10 kV10 dc10 pm10 cd10 ct10 oc11 kV11 dc11 pm11 cd11 ct11 oc12 kV12 dc12 pm12 cd12 ct12 oc13 kV13 dc13 pm13 cd13 ct13 oc14 kV14 dc14 pm14 cd14 ct14 oc15 kV15 dc15 pm15 cd15 ct15 oc16 kV16 dc16 pm16 cd16 ct16 oc17 kV17 dc17 pm17 cd17 ct17 oc18 kV18 dc18 pm18 cd18 ct18 oc19 kV19 dc19 pm19 cd19 ct19 oc20 kV20 dc20 pm20 cd20 ct20 oc21 kV21 dc21 pm21 cd21 ct21 oc22 kV22 dc22 pm22 cd22 ct22 oc23 kV23 dc23 pm23 cd23 ct23 oc24 kV24 dc24 pm24 cd24 ct24 oc25 kV25 dc25 pm25 cd25 ct25:Value}
 {c_Order:Addr} (aC_Order:W.nsIn K mainGlobals "Order" = some (some (.ref c_Order))) (pg_Order:W.plainGet K c_Order Str.empty=true) (hd_Order:W.hasDictIn K c_Order=true) (po_Order:W.plainOver K c_Order=true) (sa_Order:W.findIn K (.ref c_Order) "__setattr__" = some (some (.builtin "object.__setattr__"))) (mk_Order:W.makesIn K c_Order=true) (kc_Order:W.keepIn K (.ref c_Order)=true)
 (n_Order_names:W.findIn K (.ref c_Order) "names" = some none)
 (n_Order_above:W.findIn K (.ref c_Order) "above" = some none)
 (n_Order_joins:W.findIn K (.ref c_Order) "joins" = some none)
 (n_Order_meets:W.findIn K (.ref c_Order) "meets" = some none)
 (n_Order_lowest:W.findIn K (.ref c_Order) "lowest" = some none)
 (n_Order_highest:W.findIn K (.ref c_Order) "highest" = some none)
 {c_HushError:Addr} (aC_HushError:W.nsIn K mainGlobals "HushError" = some (some (.ref c_HushError))) (ex_HushError:W.excIn K c_HushError eX eY=true)
 {c_NoName:Addr} (aC_NoName:W.nsIn K mainGlobals "NoName" = some (some (.ref c_NoName))) (ex_NoName:W.excIn K c_NoName eX eY=true)
 {c_NoOrder:Addr} (aC_NoOrder:W.nsIn K mainGlobals "NoOrder" = some (some (.ref c_NoOrder))) (ex_NoOrder:W.excIn K c_NoOrder eX eY=true)
 (mr_NoName_HushError:W.mroIn K c_NoName (.ref c_HushError)=some true)
 (mr_NoName_NoName:W.mroIn K c_NoName (.ref c_NoName)=some true)
 (mr_NoName_NoOrder:W.mroIn K c_NoName (.ref c_NoOrder)=some false)
 (mr_NoOrder_HushError:W.mroIn K c_NoOrder (.ref c_HushError)=some true)
 (mr_NoOrder_NoName:W.mroIn K c_NoOrder (.ref c_NoName)=some false)
 (mr_NoOrder_NoOrder:W.mroIn K c_NoOrder (.ref c_NoOrder)=some true)
 (xcg:W.specialIn K (.builtin "object.__class__") "__get__" = some (some (.builtin "getset_descriptor.__get__"))) (xtk:W.takesIn K (.builtin "object.__class__")=some true)
 (xga_NoName:W.findIn K (.ref c_NoName) "__getattribute__" = some (some (.builtin "BaseException.__getattribute__")))
 (xgt_NoName:W.findIn K (.ref c_NoName) "__getattr__" = some none)
 (xme_NoName:W.mroIn K c_NoName (.type "BaseException")=some true)
 (xmo_NoName:W.mroIn K c_NoName (.type "object")=some true)
 (xic_NoName:W.isClsIn K c_NoName=true)
 (xca_NoName:W.findIn K (.ref c_NoName) "__class__" = some (some (.builtin "object.__class__")))
 (xga_NoOrder:W.findIn K (.ref c_NoOrder) "__getattribute__" = some (some (.builtin "BaseException.__getattribute__")))
 (xgt_NoOrder:W.findIn K (.ref c_NoOrder) "__getattr__" = some none)
 (xme_NoOrder:W.mroIn K c_NoOrder (.type "BaseException")=some true)
 (xmo_NoOrder:W.mroIn K c_NoOrder (.type "object")=some true)
 (xic_NoOrder:W.isClsIn K c_NoOrder=true)
 (xca_NoOrder:W.findIn K (.ref c_NoOrder) "__class__" = some (some (.builtin "object.__class__")))
 {v_HushError:Addr} (aV_HushError:W.nsIn K mainGlobals "HushError" = some (some (.ref v_HushError))) (ty_HushError:W.typeIn K (.ref v_HushError)=some (.type "type")) (cl_HushError:W.isClsIn K v_HushError=true)
 (mv_NoName_HushError:W.mroIn K c_NoName (.ref v_HushError)=some true)
 (mv_NoOrder_HushError:W.mroIn K c_NoOrder (.ref v_HushError)=some true)
 {v_NoFit:Addr} (aV_NoFit:W.nsIn K mainGlobals "NoFit" = some (some (.ref v_NoFit))) (ty_NoFit:W.typeIn K (.ref v_NoFit)=some (.type "type")) (cl_NoFit:W.isClsIn K v_NoFit=true)
 (mv_NoName_NoFit:W.mroIn K c_NoName (.ref v_NoFit)=some false)
 (nq_NoName_NoFit:(Value.ref c_NoName==Value.ref v_NoFit)=false)
 (mv_NoOrder_NoFit:W.mroIn K c_NoOrder (.ref v_NoFit)=some false)
 (nq_NoOrder_NoFit:(Value.ref c_NoOrder==Value.ref v_NoFit)=false)
 {v_NoInput:Addr} (aV_NoInput:W.nsIn K mainGlobals "NoInput" = some (some (.ref v_NoInput))) (ty_NoInput:W.typeIn K (.ref v_NoInput)=some (.type "type")) (cl_NoInput:W.isClsIn K v_NoInput=true)
 (mv_NoName_NoInput:W.mroIn K c_NoName (.ref v_NoInput)=some false)
 (nq_NoName_NoInput:(Value.ref c_NoName==Value.ref v_NoInput)=false)
 (mv_NoOrder_NoInput:W.mroIn K c_NoOrder (.ref v_NoInput)=some false)
 (nq_NoOrder_NoInput:(Value.ref c_NoOrder==Value.ref v_NoInput)=false)
 {v_NoName:Addr} (aV_NoName:W.nsIn K mainGlobals "NoName" = some (some (.ref v_NoName))) (ty_NoName:W.typeIn K (.ref v_NoName)=some (.type "type")) (cl_NoName:W.isClsIn K v_NoName=true)
 (mv_NoName_NoName:W.mroIn K c_NoName (.ref v_NoName)=some true)
 (mv_NoOrder_NoName:W.mroIn K c_NoOrder (.ref v_NoName)=some false)
 (nq_NoOrder_NoName:(Value.ref c_NoOrder==Value.ref v_NoName)=false)
 {v_NoOrder:Addr} (aV_NoOrder:W.nsIn K mainGlobals "NoOrder" = some (some (.ref v_NoOrder))) (ty_NoOrder:W.typeIn K (.ref v_NoOrder)=some (.type "type")) (cl_NoOrder:W.isClsIn K v_NoOrder=true)
 (mv_NoName_NoOrder:W.mroIn K c_NoName (.ref v_NoOrder)=some false)
 (nq_NoName_NoOrder:(Value.ref c_NoName==Value.ref v_NoOrder)=false)
 (mv_NoOrder_NoOrder:W.mroIn K c_NoOrder (.ref v_NoOrder)=some true)
 {v_NoRow:Addr} (aV_NoRow:W.nsIn K mainGlobals "NoRow" = some (some (.ref v_NoRow))) (ty_NoRow:W.typeIn K (.ref v_NoRow)=some (.type "type")) (cl_NoRow:W.isClsIn K v_NoRow=true)
 (mv_NoName_NoRow:W.mroIn K c_NoName (.ref v_NoRow)=some false)
 (nq_NoName_NoRow:(Value.ref c_NoName==Value.ref v_NoRow)=false)
 (mv_NoOrder_NoRow:W.mroIn K c_NoOrder (.ref v_NoRow)=some false)
 (nq_NoOrder_NoRow:(Value.ref c_NoOrder==Value.ref v_NoRow)=false)
 {v_NoText:Addr} (aV_NoText:W.nsIn K mainGlobals "NoText" = some (some (.ref v_NoText))) (ty_NoText:W.typeIn K (.ref v_NoText)=some (.type "type")) (cl_NoText:W.isClsIn K v_NoText=true)
 (mv_NoName_NoText:W.mroIn K c_NoName (.ref v_NoText)=some false)
 (nq_NoName_NoText:(Value.ref c_NoName==Value.ref v_NoText)=false)
 (mv_NoOrder_NoText:W.mroIn K c_NoOrder (.ref v_NoText)=some false)
 (nq_NoOrder_NoText:(Value.ref c_NoOrder==Value.ref v_NoText)=false)
 (mv_NoName_ValueError:W.mroIn K c_NoName (.type "ValueError")=some true)
 (mv_NoOrder_ValueError:W.mroIn K c_NoOrder (.type "ValueError")=some true)
 (a1:W.nsIn K mainGlobals "is_name" = some (some (.ref f1))) (l1:K.lookup f1=some ⟨oc1,od1,.func (W.fnOf "is_name" "is_name" (bx jQ) (aU jQ) (az jQ) .none kV1 dc1 pm1 an1 cd1 ct1),sl1⟩) (c1:W.codeIn K cd1 "is_name" = true) (k1:W.keepIn K (.ref f1)=true)
 (a2:W.nsIn K mainGlobals "straight_above" = some (some (.ref f2))) (l2:K.lookup f2=some ⟨oc2,od2,.func (W.fnOf "straight_above" "straight_above" (bx dJ) (aU dJ) (az dJ) .none kV2 dc2 pm2 an2 cd2 ct2),sl2⟩) (c2:W.codeIn K cd2 "straight_above" = true) (k2:W.keepIn K (.ref f2)=true)
 (a3:W.nsIn K mainGlobals "ring_of" = some (some (.ref f3))) (l3:K.lookup f3=some ⟨oc3,od3,.func (W.fnOf "ring_of" "ring_of" (bx jb) (aU jb) (az jb) .none kV3 dc3 pm3 an3 cd3 ct3),sl3⟩) (c3:W.codeIn K cd3 "ring_of" = true) (k3:W.keepIn K (.ref f3)=true)
 (a4:W.nsIn K mainGlobals "ring_within" = some (some (.ref f4))) (l4:K.lookup f4=some ⟨oc4,od4,.func (W.fnOf "ring_within" "ring_within" (bx gK) (aU gK) (az gK) .none kV4 dc4 pm4 an4 cd4 ct4),sl4⟩) (c4:W.codeIn K cd4 "ring_within" = true) (k4:W.keepIn K (.ref f4)=true)
 (a5:W.nsIn K mainGlobals "climbed" = some (some (.ref f5))) (l5:K.lookup f5=some ⟨oc5,od5,.func (W.fnOf "climbed" "climbed" (bx lr) (aU lr) (az lr) .none kV5 dc5 pm5 an5 cd5 ct5),sl5⟩) (c5:W.codeIn K cd5 "climbed" = true) (k5:W.keepIn K (.ref f5)=true)
 (a6:W.nsIn K mainGlobals "all_above" = some (some (.ref f6))) (l6:K.lookup f6=some ⟨oc6,od6,.func (W.fnOf "all_above" "all_above" (bx jw) (aU jw) (az jw) .none kV6 dc6 pm6 an6 cd6 ct6),sl6⟩) (c6:W.codeIn K cd6 "all_above" = true) (k6:W.keepIn K (.ref f6)=true)
 (a7:W.nsIn K mainGlobals "all_beneath" = some (some (.ref f7))) (l7:K.lookup f7=some ⟨oc7,od7,.func (W.fnOf "all_beneath" "all_beneath" (bx fP) (aU fP) (az fP) .none kV7 dc7 pm7 an7 cd7 ct7),sl7⟩) (c7:W.codeIn K cd7 "all_beneath" = true) (k7:W.keepIn K (.ref f7)=true)
 (a8:W.nsIn K mainGlobals "bound" = some (some (.ref f8))) (l8:K.lookup f8=some ⟨oc8,od8,.func (W.fnOf "bound" "bound" (bx lu) (aU lu) (az lu) .none kV8 dc8 pm8 an8 cd8 ct8),sl8⟩) (c8:W.codeIn K cd8 "bound" = true) (k8:W.keepIn K (.ref f8)=true)
 (a9:W.nsIn K mainGlobals "bounds" = some (some (.ref f9))) (l9:K.lookup f9=some ⟨oc9,od9,.func (W.fnOf "bounds" "bounds" (bx mC) (aU mC) (az mC) .none kV9 dc9 pm9 an9 cd9 ct9),sl9⟩) (c9:W.codeIn K cd9 "bounds" = true) (k9:W.keepIn K (.ref f9)=true)
 (a10:W.nsIn K mainGlobals "unbound" = some (some (.ref f10))) (l10:K.lookup f10=some ⟨oc10,od10,.func (W.fnOf "unbound" "unbound" (bx lw) (aU lw) (az lw) .none kV10 dc10 pm10 an10 cd10 ct10),sl10⟩) (c10:W.codeIn K cd10 "unbound" = true) (k10:W.keepIn K (.ref f10)=true)
 (a11:W.nsIn K mainGlobals "lack_of" = some (some (.ref f11))) (l11:K.lookup f11=some ⟨oc11,od11,.func (W.fnOf "lack_of" "lack_of" (bx lA) (aU lA) (az lA) .none kV11 dc11 pm11 an11 cd11 ct11),sl11⟩) (c11:W.codeIn K cd11 "lack_of" = true) (k11:W.keepIn K (.ref f11)=true)
 (a12:W.nsIn K mainGlobals "refuse_names" = some (some (.ref f12))) (l12:K.lookup f12=some ⟨oc12,od12,.func (W.fnOf "refuse_names" "refuse_names" (bx fX) (aU fX) (az fX) .none kV12 dc12 pm12 an12 cd12 ct12),sl12⟩) (c12:W.codeIn K cd12 "refuse_names" = true) (k12:W.keepIn K (.ref f12)=true)
 (a13:W.nsIn K mainGlobals "refuse_order" = some (some (.ref f13))) (l13:K.lookup f13=some ⟨oc13,od13,.func (W.fnOf "refuse_order" "refuse_order" (bx fY) (aU fY) (az fY) .none kV13 dc13 pm13 an13 cd13 ct13),sl13⟩) (c13:W.codeIn K cd13 "refuse_order" = true) (k13:W.keepIn K (.ref f13)=true)
 (a14:W.nsIn K mainGlobals "_law_cell_at" = some (some (.ref f14))) (l14:K.lookup f14=some ⟨oc14,od14,.func (W.fnOf "_law_cell_at" "_law_cell_at" (bx fZ) (aU fZ) (az fZ) .none kV14 dc14 pm14 an14 cd14 ct14),sl14⟩) (c14:W.codeIn K cd14 "_law_cell_at" = true) (k14:W.keepIn K (.ref f14)=true)
 (a15:W.nsIn K mainGlobals "_law_names" = some (some (.ref f15))) (l15:K.lookup f15=some ⟨oc15,od15,.func (W.fnOf "_law_names" "_law_names" (bx fC) (aU fC) (az fC) .none kV15 dc15 pm15 an15 cd15 ct15),sl15⟩) (c15:W.codeIn K cd15 "_law_names" = true) (k15:W.keepIn K (.ref f15)=true)
 (a16:W.nsIn K mainGlobals "_law_pairs" = some (some (.ref f16))) (l16:K.lookup f16=some ⟨oc16,od16,.func (W.fnOf "_law_pairs" "_law_pairs" (bx iQ) (aU iQ) (az iQ) .none kV16 dc16 pm16 an16 cd16 ct16),sl16⟩) (c16:W.codeIn K cd16 "_law_pairs" = true) (k16:W.keepIn K (.ref f16)=true)
 (a17:W.nsIn K mainGlobals "_law_bad_name" = some (some (.ref f17))) (l17:K.lookup f17=some ⟨oc17,od17,.func (W.fnOf "_law_bad_name" "_law_bad_name" (bx fK) (aU fK) (az fK) .none kV17 dc17 pm17 an17 cd17 ct17),sl17⟩) (c17:W.codeIn K cd17 "_law_bad_name" = true) (k17:W.keepIn K (.ref f17)=true)
 (a18:W.nsIn K mainGlobals "_law_other" = some (some (.ref f18))) (l18:K.lookup f18=some ⟨oc18,od18,.func (W.fnOf "_law_other" "_law_other" (bx iR) (aU iR) (az iR) .none kV18 dc18 pm18 an18 cd18 ct18),sl18⟩) (c18:W.codeIn K cd18 "_law_other" = true) (k18:W.keepIn K (.ref f18)=true)
 (a19:W.nsIn K mainGlobals "_law_spoil_names" = some (some (.ref f19))) (l19:K.lookup f19=some ⟨oc19,od19,.func (W.fnOf "_law_spoil_names" "_law_spoil_names" (bx cW) (aU cW) (az cW) .none kV19 dc19 pm19 an19 cd19 ct19),sl19⟩) (c19:W.codeIn K cd19 "_law_spoil_names" = true) (k19:W.keepIn K (.ref f19)=true)
 (a20:W.nsIn K mainGlobals "_law_spoil_order" = some (some (.ref f20))) (l20:K.lookup f20=some ⟨oc20,od20,.func (W.fnOf "_law_spoil_order" "_law_spoil_order" (bx cX) (aU cX) (az cX) .none kV20 dc20 pm20 an20 cd20 ct20),sl20⟩) (c20:W.codeIn K cd20 "_law_spoil_order" = true) (k20:W.keepIn K (.ref f20)=true)
 (a21:W.nsIn K mainGlobals "_law_by_class" = some (some (.ref f21))) (l21:K.lookup f21=some ⟨oc21,od21,.func (W.fnOf "_law_by_class" "_law_by_class" (bx fL) (aU fL) (az fL) .none kV21 dc21 pm21 an21 cd21 ct21),sl21⟩) (c21:W.codeIn K cd21 "_law_by_class" = true) (k21:W.keepIn K (.ref f21)=true)
 (a22:W.nsIn K mainGlobals "_law_by_base" = some (some (.ref f22))) (l22:K.lookup f22=some ⟨oc22,od22,.func (W.fnOf "_law_by_base" "_law_by_base" (bx gb) (aU gb) (az gb) .none kV22 dc22 pm22 an22 cd22 ct22),sl22⟩) (c22:W.codeIn K cd22 "_law_by_base" = true) (k22:W.keepIn K (.ref f22)=true)
 (a23:W.nsIn K mainGlobals "_law_class" = some (some (.ref f23))) (l23:K.lookup f23=some ⟨oc23,od23,.func (W.fnOf "_law_class" "_law_class" (bx iT) (aU iT) (az iT) .none kV23 dc23 pm23 an23 cd23 ct23),sl23⟩) (c23:W.codeIn K cd23 "_law_class" = true) (k23:W.keepIn K (.ref f23)=true)
 (a24:W.nsIn K mainGlobals "law" = some (some (.ref f24))) (l24:K.lookup f24=some ⟨oc24,od24,.func (W.fnOf "law" "law" (bx mO) (aU mO) (az mO) .none kV24 dc24 pm24 an24 cd24 ct24),sl24⟩) (c24:W.codeIn K cd24 "law" = true) (k24:W.keepIn K (.ref f24)=true)
 (a25:W.findIn K (.ref c_Order) "__init__" = some (some (.ref f25))) (i25:W.isFn K (.ref f25)=true) (l25:K.lookup f25=some ⟨oc25,od25,.func (W.fnOf "__init__" "Order.__init__" (bx bT) (aU bT) (az bT) .none kV25 dc25 pm25 an25 cd25 ct25),sl25⟩) (c25:W.codeIn K cd25 "Order.__init__" = true) (k25:W.keepIn K (.ref f25)=true)
 (z0:W.nsIn K mainGlobals "ValueError" = some none)
 (z1:W.nsIn K mainGlobals "all" = some none)
 (z2:W.nsIn K mainGlobals "isinstance" = some none)
 (z3:W.nsIn K mainGlobals "len" = some none)
 (z4:W.nsIn K mainGlobals "list" = some none)
 (z5:W.nsIn K mainGlobals "min" = some none)
 (z6:W.nsIn K mainGlobals "range" = some none)
 (z7:W.nsIn K mainGlobals "tuple" = some none)
 (y_LETTERS:W.nsIn K mainGlobals "LETTERS" = some (some (.str "abcdefghijklmnopqrstuvwxyz" tk_LETTERS)))
 (HL:∀ ns:List Int,ns.length<=63->∃ mu,G5 [.lst (ns.map PV.int)] []=some (.sh (.bl true),mu))
 : ∃ fd:FuncData,(∀ (s:Shared) (v:Value),BindsTo s fd ⟨[v],[]⟩ [("_law_script",v)])/\∀ base:Heap,K.In base->base.Ns mainGlobals mg->lF l.prog w K mg base qN 9 fa fd ["_law_script"] (Ae K):=by
 have T_Order:yj K mg "Order" c_Order:=⟨aC_Order,⟨pg_Order,hd_Order,po_Order,sa_Order⟩,W.mg_of X G aC_Order⟩
 have N_Order:∀ f∈(["names", "above", "joins", "meets", "lowest", "highest"]:List Str),jX K c_Order f:=by
  intro x hx
  rcases List.mem_cons.mp hx with e | hx
  . rw [e]; exact n_Order_names
  rcases List.mem_cons.mp hx with e | hx
  . rw [e]; exact n_Order_above
  rcases List.mem_cons.mp hx with e | hx
  . rw [e]; exact n_Order_joins
  rcases List.mem_cons.mp hx with e | hx
  . rw [e]; exact n_Order_meets
  rcases List.mem_cons.mp hx with e | hx
  . rw [e]; exact n_Order_lowest
  rcases List.mem_cons.mp hx with e | hx
  . rw [e]; exact n_Order_highest
  cases hx
 have XT_HushError:qz K mg "HushError" c_HushError:=⟨aC_HushError,W.mg_of X G aC_HushError,ex_HushError⟩
 have XT_NoName:qz K mg "NoName" c_NoName:=⟨aC_NoName,W.mg_of X G aC_NoName,ex_NoName⟩
 have XT_NoOrder:qz K mg "NoOrder" c_NoOrder:=⟨aC_NoOrder,W.mg_of X G aC_NoOrder,ex_NoOrder⟩
 have Y_HushError:∀ C∈(["NoName", "NoOrder"]:List Str),∃ c,CN K C c/\W.excIn K c eX eY=true/\mroIn K c c_HushError=true:=by
  intro C hC
  rcases List.mem_cons.mp hC with e | hC
  . rw [e]; exact ⟨c_NoName,aC_NoName,ex_NoName,rP mr_NoName_HushError⟩
  rcases List.mem_cons.mp hC with e | hC
  . rw [e]; exact ⟨c_NoOrder,aC_NoOrder,ex_NoOrder,rP mr_NoOrder_HushError⟩
  cases hC
 have Z_HushError:∀ C∈([]:List Str),∃ c,CN K C c/\W.excIn K c eX eY=true/\mroIn K c c_HushError=false:=by
  intro C hC
  cases hC
 have Y_NoName:∀ C∈(["NoName"]:List Str),∃ c,CN K C c/\W.excIn K c eX eY=true/\mroIn K c c_NoName=true:=by
  intro C hC
  rcases List.mem_cons.mp hC with e | hC
  . rw [e]; exact ⟨c_NoName,aC_NoName,ex_NoName,rP mr_NoName_NoName⟩
  cases hC
 have Z_NoName:∀ C∈(["NoOrder"]:List Str),∃ c,CN K C c/\W.excIn K c eX eY=true/\mroIn K c c_NoName=false:=by
  intro C hC
  rcases List.mem_cons.mp hC with e | hC
  . rw [e]; exact ⟨c_NoOrder,aC_NoOrder,ex_NoOrder,rP mr_NoOrder_NoName⟩
  cases hC
 have Y_NoOrder:∀ C∈(["NoOrder"]:List Str),∃ c,CN K C c/\W.excIn K c eX eY=true/\mroIn K c c_NoOrder=true:=by
  intro C hC
  rcases List.mem_cons.mp hC with e | hC
  . rw [e]; exact ⟨c_NoOrder,aC_NoOrder,ex_NoOrder,rP mr_NoOrder_NoOrder⟩
  cases hC
 have Z_NoOrder:∀ C∈(["NoName"]:List Str),∃ c,CN K C c/\W.excIn K c eX eY=true/\mroIn K c c_NoOrder=false:=by
  intro C hC
  rcases List.mem_cons.mp hC with e | hC
  . rw [e]; exact ⟨c_NoName,aC_NoName,ex_NoName,rP mr_NoName_NoOrder⟩
  cases hC
 have Q_NoName:mQ K c_NoName:=⟨xga_NoName,xgt_NoName,xme_NoName,xmo_NoName,xic_NoName,xca_NoName,xcg,xtk⟩
 have Q_NoOrder:mQ K c_NoOrder:=⟨xga_NoOrder,xgt_NoOrder,xme_NoOrder,xmo_NoOrder,xic_NoOrder,xca_NoOrder,xcg,xtk⟩
 have V_HushError:=W.mg_of X G aV_HushError
 have I_HushError:∀ C∈(["NoName", "NoOrder"]:List Str),fJ K (.ref v_HushError) true C:=by
  intro C hC
  rcases List.mem_cons.mp hC with e | hC
  . rw [e]; exact ⟨c_NoName,_,aC_NoName,rfl,Q_NoName,Ah ty_HushError cl_HushError mv_NoName_HushError⟩
  rcases List.mem_cons.mp hC with e | hC
  . rw [e]; exact ⟨c_NoOrder,_,aC_NoOrder,rfl,Q_NoOrder,Ah ty_HushError cl_HushError mv_NoOrder_HushError⟩
  cases hC
 have J_HushError:∀ C∈([]:List Str),fJ K (.ref v_HushError) false C:=by
  intro C hC
  cases hC
 have V_NoFit:=W.mg_of X G aV_NoFit
 have I_NoFit:∀ C∈([]:List Str),fJ K (.ref v_NoFit) true C:=by
  intro C hC
  cases hC
 have J_NoFit:∀ C∈(["NoName", "NoOrder"]:List Str),fJ K (.ref v_NoFit) false C:=by
  intro C hC
  rcases List.mem_cons.mp hC with e | hC
  . rw [e]; exact ⟨c_NoName,_,aC_NoName,rfl,Q_NoName,mL ty_NoFit cl_NoFit mv_NoName_NoFit nq_NoName_NoFit⟩
  rcases List.mem_cons.mp hC with e | hC
  . rw [e]; exact ⟨c_NoOrder,_,aC_NoOrder,rfl,Q_NoOrder,mL ty_NoFit cl_NoFit mv_NoOrder_NoFit nq_NoOrder_NoFit⟩
  cases hC
 have V_NoInput:=W.mg_of X G aV_NoInput
 have I_NoInput:∀ C∈([]:List Str),fJ K (.ref v_NoInput) true C:=by
  intro C hC
  cases hC
 have J_NoInput:∀ C∈(["NoName", "NoOrder"]:List Str),fJ K (.ref v_NoInput) false C:=by
  intro C hC
  rcases List.mem_cons.mp hC with e | hC
  . rw [e]; exact ⟨c_NoName,_,aC_NoName,rfl,Q_NoName,mL ty_NoInput cl_NoInput mv_NoName_NoInput nq_NoName_NoInput⟩
  rcases List.mem_cons.mp hC with e | hC
  . rw [e]; exact ⟨c_NoOrder,_,aC_NoOrder,rfl,Q_NoOrder,mL ty_NoInput cl_NoInput mv_NoOrder_NoInput nq_NoOrder_NoInput⟩
  cases hC
 have V_NoName:=W.mg_of X G aV_NoName
 have I_NoName:∀ C∈(["NoName"]:List Str),fJ K (.ref v_NoName) true C:=by
  intro C hC
  rcases List.mem_cons.mp hC with e | hC
  . rw [e]; exact ⟨c_NoName,_,aC_NoName,rfl,Q_NoName,Ah ty_NoName cl_NoName mv_NoName_NoName⟩
  cases hC
 have J_NoName:∀ C∈(["NoOrder"]:List Str),fJ K (.ref v_NoName) false C:=by
  intro C hC
  rcases List.mem_cons.mp hC with e | hC
  . rw [e]; exact ⟨c_NoOrder,_,aC_NoOrder,rfl,Q_NoOrder,mL ty_NoName cl_NoName mv_NoOrder_NoName nq_NoOrder_NoName⟩
  cases hC
 have V_NoOrder:=W.mg_of X G aV_NoOrder
 have I_NoOrder:∀ C∈(["NoOrder"]:List Str),fJ K (.ref v_NoOrder) true C:=by
  intro C hC
  rcases List.mem_cons.mp hC with e | hC
  . rw [e]; exact ⟨c_NoOrder,_,aC_NoOrder,rfl,Q_NoOrder,Ah ty_NoOrder cl_NoOrder mv_NoOrder_NoOrder⟩
  cases hC
 have J_NoOrder:∀ C∈(["NoName"]:List Str),fJ K (.ref v_NoOrder) false C:=by
  intro C hC
  rcases List.mem_cons.mp hC with e | hC
  . rw [e]; exact ⟨c_NoName,_,aC_NoName,rfl,Q_NoName,mL ty_NoOrder cl_NoOrder mv_NoName_NoOrder nq_NoName_NoOrder⟩
  cases hC
 have V_NoRow:=W.mg_of X G aV_NoRow
 have I_NoRow:∀ C∈([]:List Str),fJ K (.ref v_NoRow) true C:=by
  intro C hC
  cases hC
 have J_NoRow:∀ C∈(["NoName", "NoOrder"]:List Str),fJ K (.ref v_NoRow) false C:=by
  intro C hC
  rcases List.mem_cons.mp hC with e | hC
  . rw [e]; exact ⟨c_NoName,_,aC_NoName,rfl,Q_NoName,mL ty_NoRow cl_NoRow mv_NoName_NoRow nq_NoName_NoRow⟩
  rcases List.mem_cons.mp hC with e | hC
  . rw [e]; exact ⟨c_NoOrder,_,aC_NoOrder,rfl,Q_NoOrder,mL ty_NoRow cl_NoRow mv_NoOrder_NoRow nq_NoOrder_NoRow⟩
  cases hC
 have V_NoText:=W.mg_of X G aV_NoText
 have I_NoText:∀ C∈([]:List Str),fJ K (.ref v_NoText) true C:=by
  intro C hC
  cases hC
 have J_NoText:∀ C∈(["NoName", "NoOrder"]:List Str),fJ K (.ref v_NoText) false C:=by
  intro C hC
  rcases List.mem_cons.mp hC with e | hC
  . rw [e]; exact ⟨c_NoName,_,aC_NoName,rfl,Q_NoName,mL ty_NoText cl_NoText mv_NoName_NoText nq_NoName_NoText⟩
  rcases List.mem_cons.mp hC with e | hC
  . rw [e]; exact ⟨c_NoOrder,_,aC_NoOrder,rfl,Q_NoOrder,mL ty_NoText cl_NoText mv_NoOrder_NoText nq_NoOrder_NoText⟩
  cases hC
 have I_ValueError:∀ C∈(["NoName", "NoOrder"]:List Str),fJ K (.ty "ValueError") true C:=by
  intro C hC
  rcases List.mem_cons.mp hC with e | hC
  . rw [e]; exact ⟨c_NoName,_,aC_NoName,rfl,Q_NoName,NK (by kernel_rfl) mv_NoName_ValueError⟩
  rcases List.mem_cons.mp hC with e | hC
  . rw [e]; exact ⟨c_NoOrder,_,aC_NoOrder,rfl,Q_NoOrder,NK (by kernel_rfl) mv_NoOrder_ValueError⟩
  cases hC
 have J_ValueError:∀ C∈([]:List Str),fJ K (.ty "ValueError") false C:=by
  intro C hC
  cases hC
 have F_is_name:aW K mg "is_name" jQ ["text"]:=jH X G a1 l1 c1 k1 fun _ _ _ _ _ _ us hl=>by obtain ⟨_,rfl⟩:=qP hl; rfl
 have F_straight_above:aW K mg "straight_above" dJ ["some", "pairs", "name"]:=jH X G a2 l2 c2 k2 fun _ _ _ _ _ _ us hl=>by obtain ⟨_,_,_,rfl⟩:=Ji hl; rfl
 have F_ring_of:aW K mg "ring_of" jb ["names", "pairs"]:=jH X G a3 l3 c3 k3 fun _ _ _ _ _ _ us hl=>by obtain ⟨_,_,rfl⟩:=ln2 hl; rfl
 have F_ring_within:aW K mg "ring_within" gK ["some", "pairs"]:=jH X G a4 l4 c4 k4 fun _ _ _ _ _ _ us hl=>by obtain ⟨_,_,rfl⟩:=ln2 hl; rfl
 have F_climbed:aW K mg "climbed" lr ["name", "pairs"]:=jH X G a5 l5 c5 k5 fun _ _ _ _ _ _ us hl=>by obtain ⟨_,_,rfl⟩:=ln2 hl; rfl
 have F_all_above:aW K mg "all_above" jw ["names", "pairs"]:=jH X G a6 l6 c6 k6 fun _ _ _ _ _ _ us hl=>by obtain ⟨_,_,rfl⟩:=ln2 hl; rfl
 have F_all_beneath:aW K mg "all_beneath" fP ["names", "pairs"]:=jH X G a7 l7 c7 k7 fun _ _ _ _ _ _ us hl=>by obtain ⟨_,_,rfl⟩:=ln2 hl; rfl
 have F_bound:aW K mg "bound" lu ["reach", "one", "other"]:=jH X G a8 l8 c8 k8 fun _ _ _ _ _ _ us hl=>by obtain ⟨_,_,_,rfl⟩:=Ji hl; rfl
 have F_bounds:aW K mg "bounds" mC ["reach"]:=jH X G a9 l9 c9 k9 fun _ _ _ _ _ _ us hl=>by obtain ⟨_,rfl⟩:=qP hl; rfl
 have F_unbound:aW K mg "unbound" lw ["reach"]:=jH X G a10 l10 c10 k10 fun _ _ _ _ _ _ us hl=>by obtain ⟨_,rfl⟩:=qP hl; rfl
 have F_lack_of:aW K mg "lack_of" lA ["names", "pairs"]:=jH X G a11 l11 c11 k11 fun _ _ _ _ _ _ us hl=>by obtain ⟨_,_,rfl⟩:=ln2 hl; rfl
 have F_refuse_names:aW K mg "refuse_names" fX ["names", "pairs"]:=jH X G a12 l12 c12 k12 fun _ _ _ _ _ _ us hl=>by obtain ⟨_,_,rfl⟩:=ln2 hl; rfl
 have F_refuse_order:aW K mg "refuse_order" fY ["names", "pairs"]:=jH X G a13 l13 c13 k13 fun _ _ _ _ _ _ us hl=>by obtain ⟨_,_,rfl⟩:=ln2 hl; rfl
 have F__law_cell_at:aW K mg "_law_cell_at" fZ ["_law_script", "_law_k"]:=jH X G a14 l14 c14 k14 fun _ _ _ _ _ _ us hl=>by obtain ⟨_,_,rfl⟩:=ln2 hl; rfl
 have F__law_names:aW K mg "_law_names" fC ["_law_cell", "_law_count"]:=jH X G a15 l15 c15 k15 fun _ _ _ _ _ _ us hl=>by obtain ⟨_,_,rfl⟩:=ln2 hl; rfl
 have F__law_pairs:aW K mg "_law_pairs" iQ ["_law_names_here", "_law_wide"]:=jH X G a16 l16 c16 k16 fun _ _ _ _ _ _ us hl=>by obtain ⟨_,_,rfl⟩:=ln2 hl; rfl
 have F__law_bad_name:aW K mg "_law_bad_name" fK ["_law_cell"]:=jH X G a17 l17 c17 k17 fun _ _ _ _ _ _ us hl=>by obtain ⟨_,rfl⟩:=qP hl; rfl
 have F__law_other:aW K mg "_law_other" iR ["_law_names_here"]:=jH X G a18 l18 c18 k18 fun _ _ _ _ _ _ us hl=>by obtain ⟨_,rfl⟩:=qP hl; rfl
 have F__law_spoil_names:aW K mg "_law_spoil_names" cW ["_law_names_here", "_law_pairs_here", "_law_way", "_law_cell"]:=jH X G a19 l19 c19 k19 fun _ _ _ _ _ _ us hl=>by obtain ⟨_,_,_,_,rfl⟩:=VL hl; rfl
 have F__law_spoil_order:aW K mg "_law_spoil_order" cX ["_law_names_here", "_law_pairs_here", "_law_way"]:=jH X G a20 l20 c20 k20 fun _ _ _ _ _ _ us hl=>by obtain ⟨_,_,_,rfl⟩:=Ji hl; rfl
 have F__law_by_class:aW K mg "_law_by_class" fL ["_law_names_here", "_law_pairs_here"]:=jH X G a21 l21 c21 k21 fun _ _ _ _ _ _ us hl=>by obtain ⟨_,_,rfl⟩:=ln2 hl; rfl
 have F__law_by_base:aW K mg "_law_by_base" gb ["_law_names_here", "_law_pairs_here"]:=jH X G a22 l22 c22 k22 fun _ _ _ _ _ _ us hl=>by obtain ⟨_,_,rfl⟩:=ln2 hl; rfl
 have F__law_class:aW K mg "_law_class" iT ["_law_e"]:=jH X G a23 l23 c23 k23 fun _ _ _ _ _ _ us hl=>by obtain ⟨_,rfl⟩:=qP hl; rfl
 have F_law:aW K mg "law" mO ["_law_script"]:=jH X G a24 l24 c24 k24 fun _ _ _ _ _ _ us hl=>by obtain ⟨_,rfl⟩:=qP hl; rfl
 have F_Order____init__:Nz K c_Order "__init__" "Order.__init__" bT ["self", "names", "pairs"]:=⟨_,_,tU (st:=bT) l25 c25 k25,a25,i25,(tU (st:=bT) l25 c25 k25).binds (ps:=["self", "names", "pairs"]) fun _ _ _ _ _ _ us hl=>by obtain ⟨_,_,_,rfl⟩:=Ji hl; rfl⟩
 have B:RW mg BL:=by
  intro x hx
  rcases List.mem_cons.mp hx with e | hx
  . rw [e]; exact W.mg_none_of X G z0
  rcases List.mem_cons.mp hx with e | hx
  . rw [e]; exact W.mg_none_of X G z1
  rcases List.mem_cons.mp hx with e | hx
  . rw [e]; exact W.mg_none_of X G z2
  rcases List.mem_cons.mp hx with e | hx
  . rw [e]; exact W.mg_none_of X G z3
  rcases List.mem_cons.mp hx with e | hx
  . rw [e]; exact W.mg_none_of X G z4
  rcases List.mem_cons.mp hx with e | hx
  . rw [e]; exact W.mg_none_of X G z5
  rcases List.mem_cons.mp hx with e | hx
  . rw [e]; exact W.mg_none_of X G z6
  rcases List.mem_cons.mp hx with e | hx
  . rw [e]; exact W.mg_none_of X G z7
  cases hx
 have C_LETTERS:∃ t,mg "LETTERS" = some (.str "abcdefghijklmnopqrstuvwxyz" t):=⟨_,W.mg_of X G y_LETTERS⟩
 have e:=hfa.symm.trans (W.mg_of X G a24)
 cases e
 refine ⟨W.fnOf "law" "law" (bx mO) (aU mO) (az mO) .none kV24 dc24 pm24 an24 cd24 ct24,fun s v=>.of_eq rfl,fun base _ _=>?_⟩
 have D_is_name:=Hb (P:=l.prog) (w:=w) (base:=base) B C_LETTERS T_Order N_Order XT_HushError XT_NoName XT_NoOrder Y_HushError Z_HushError Y_NoName Z_NoName Y_NoOrder Z_NoOrder V_HushError I_HushError J_HushError V_NoFit I_NoFit J_NoFit V_NoInput I_NoInput J_NoInput V_NoName I_NoName J_NoName V_NoOrder I_NoOrder J_NoOrder V_NoRow I_NoRow J_NoRow V_NoText I_NoText J_NoText I_ValueError J_ValueError F_is_name
 have D_straight_above:=vg (P:=l.prog) (w:=w) (base:=base) B C_LETTERS T_Order N_Order XT_HushError XT_NoName XT_NoOrder Y_HushError Z_HushError Y_NoName Z_NoName Y_NoOrder Z_NoOrder V_HushError I_HushError J_HushError V_NoFit I_NoFit J_NoFit V_NoInput I_NoInput J_NoInput V_NoName I_NoName J_NoName V_NoOrder I_NoOrder J_NoOrder V_NoRow I_NoRow J_NoRow V_NoText I_NoText J_NoText I_ValueError J_ValueError F_straight_above
 have D_ring_within:=yq (P:=l.prog) (w:=w) (base:=base) B C_LETTERS T_Order N_Order XT_HushError XT_NoName XT_NoOrder Y_HushError Z_HushError Y_NoName Z_NoName Y_NoOrder Z_NoOrder V_HushError I_HushError J_HushError V_NoFit I_NoFit J_NoFit V_NoInput I_NoInput J_NoInput V_NoName I_NoName J_NoName V_NoOrder I_NoOrder J_NoOrder V_NoRow I_NoRow J_NoRow V_NoText I_NoText J_NoText I_ValueError J_ValueError F_ring_within D_straight_above
 have D_ring_of:=Hc (P:=l.prog) (w:=w) (base:=base) B C_LETTERS T_Order N_Order XT_HushError XT_NoName XT_NoOrder Y_HushError Z_HushError Y_NoName Z_NoName Y_NoOrder Z_NoOrder V_HushError I_HushError J_HushError V_NoFit I_NoFit J_NoFit V_NoInput I_NoInput J_NoInput V_NoName I_NoName J_NoName V_NoOrder I_NoOrder J_NoOrder V_NoRow I_NoRow J_NoRow V_NoText I_NoText J_NoText I_ValueError J_ValueError F_ring_of D_ring_within D_straight_above
 have D_climbed:=Hd (P:=l.prog) (w:=w) (base:=base) B C_LETTERS T_Order N_Order XT_HushError XT_NoName XT_NoOrder Y_HushError Z_HushError Y_NoName Z_NoName Y_NoOrder Z_NoOrder V_HushError I_HushError J_HushError V_NoFit I_NoFit J_NoFit V_NoInput I_NoInput J_NoInput V_NoName I_NoName J_NoName V_NoOrder I_NoOrder J_NoOrder V_NoRow I_NoRow J_NoRow V_NoText I_NoText J_NoText I_ValueError J_ValueError F_climbed
 have D_all_above:=BW (P:=l.prog) (w:=w) (base:=base) B C_LETTERS T_Order N_Order XT_HushError XT_NoName XT_NoOrder Y_HushError Z_HushError Y_NoName Z_NoName Y_NoOrder Z_NoOrder V_HushError I_HushError J_HushError V_NoFit I_NoFit J_NoFit V_NoInput I_NoInput J_NoInput V_NoName I_NoName J_NoName V_NoOrder I_NoOrder J_NoOrder V_NoRow I_NoRow J_NoRow V_NoText I_NoText J_NoText I_ValueError J_ValueError F_all_above D_climbed
 have D_all_beneath:=yr (P:=l.prog) (w:=w) (base:=base) B C_LETTERS T_Order N_Order XT_HushError XT_NoName XT_NoOrder Y_HushError Z_HushError Y_NoName Z_NoName Y_NoOrder Z_NoOrder V_HushError I_HushError J_HushError V_NoFit I_NoFit J_NoFit V_NoInput I_NoInput J_NoInput V_NoName I_NoName J_NoName V_NoOrder I_NoOrder J_NoOrder V_NoRow I_NoRow J_NoRow V_NoText I_NoText J_NoText I_ValueError J_ValueError F_all_beneath D_all_above
 have D_bound:=Mh (P:=l.prog) (w:=w) (base:=base) B C_LETTERS T_Order N_Order XT_HushError XT_NoName XT_NoOrder Y_HushError Z_HushError Y_NoName Z_NoName Y_NoOrder Z_NoOrder V_HushError I_HushError J_HushError V_NoFit I_NoFit J_NoFit V_NoInput I_NoInput J_NoInput V_NoName I_NoName J_NoName V_NoOrder I_NoOrder J_NoOrder V_NoRow I_NoRow J_NoRow V_NoText I_NoText J_NoText I_ValueError J_ValueError F_bound
 have D_bounds:=JX (P:=l.prog) (w:=w) (base:=base) B C_LETTERS T_Order N_Order XT_HushError XT_NoName XT_NoOrder Y_HushError Z_HushError Y_NoName Z_NoName Y_NoOrder Z_NoOrder V_HushError I_HushError J_HushError V_NoFit I_NoFit J_NoFit V_NoInput I_NoInput J_NoInput V_NoName I_NoName J_NoName V_NoOrder I_NoOrder J_NoOrder V_NoRow I_NoRow J_NoRow V_NoText I_NoText J_NoText I_ValueError J_ValueError F_bounds D_bound
 have D_unbound:=Hf (P:=l.prog) (w:=w) (base:=base) B C_LETTERS T_Order N_Order XT_HushError XT_NoName XT_NoOrder Y_HushError Z_HushError Y_NoName Z_NoName Y_NoOrder Z_NoOrder V_HushError I_HushError J_HushError V_NoFit I_NoFit J_NoFit V_NoInput I_NoInput J_NoInput V_NoName I_NoName J_NoName V_NoOrder I_NoOrder J_NoOrder V_NoRow I_NoRow J_NoRow V_NoText I_NoText J_NoText I_ValueError J_ValueError F_unbound D_bounds
 have D_lack_of:=Hg (P:=l.prog) (w:=w) (base:=base) B C_LETTERS T_Order N_Order XT_HushError XT_NoName XT_NoOrder Y_HushError Z_HushError Y_NoName Z_NoName Y_NoOrder Z_NoOrder V_HushError I_HushError J_HushError V_NoFit I_NoFit J_NoFit V_NoInput I_NoInput J_NoInput V_NoName I_NoName J_NoName V_NoOrder I_NoOrder J_NoOrder V_NoRow I_NoRow J_NoRow V_NoText I_NoText J_NoText I_ValueError J_ValueError F_lack_of D_all_above D_all_beneath D_unbound
 have D_refuse_names:=xr (P:=l.prog) (w:=w) (base:=base) B C_LETTERS T_Order N_Order XT_HushError XT_NoName XT_NoOrder Y_HushError Z_HushError Y_NoName Z_NoName Y_NoOrder Z_NoOrder V_HushError I_HushError J_HushError V_NoFit I_NoFit J_NoFit V_NoInput I_NoInput J_NoInput V_NoName I_NoName J_NoName V_NoOrder I_NoOrder J_NoOrder V_NoRow I_NoRow J_NoRow V_NoText I_NoText J_NoText I_ValueError J_ValueError F_refuse_names D_is_name
 have D_refuse_order:=xx (P:=l.prog) (w:=w) (base:=base) B C_LETTERS T_Order N_Order XT_HushError XT_NoName XT_NoOrder Y_HushError Z_HushError Y_NoName Z_NoName Y_NoOrder Z_NoOrder V_HushError I_HushError J_HushError V_NoFit I_NoFit J_NoFit V_NoInput I_NoInput J_NoInput V_NoName I_NoName J_NoName V_NoOrder I_NoOrder J_NoOrder V_NoRow I_NoRow J_NoRow V_NoText I_NoText J_NoText I_ValueError J_ValueError F_refuse_order D_lack_of D_ring_of
 have D__law_cell_at:=xG (P:=l.prog) (w:=w) (base:=base) B C_LETTERS T_Order N_Order XT_HushError XT_NoName XT_NoOrder Y_HushError Z_HushError Y_NoName Z_NoName Y_NoOrder Z_NoOrder V_HushError I_HushError J_HushError V_NoFit I_NoFit J_NoFit V_NoInput I_NoInput J_NoInput V_NoName I_NoName J_NoName V_NoOrder I_NoOrder J_NoOrder V_NoRow I_NoRow J_NoRow V_NoText I_NoText J_NoText I_ValueError J_ValueError F__law_cell_at
 have D__law_names:=zV (P:=l.prog) (w:=w) (base:=base) B C_LETTERS T_Order N_Order XT_HushError XT_NoName XT_NoOrder Y_HushError Z_HushError Y_NoName Z_NoName Y_NoOrder Z_NoOrder V_HushError I_HushError J_HushError V_NoFit I_NoFit J_NoFit V_NoInput I_NoInput J_NoInput V_NoName I_NoName J_NoName V_NoOrder I_NoOrder J_NoOrder V_NoRow I_NoRow J_NoRow V_NoText I_NoText J_NoText I_ValueError J_ValueError F__law_names
 have D__law_pairs:=zW (P:=l.prog) (w:=w) (base:=base) B C_LETTERS T_Order N_Order XT_HushError XT_NoName XT_NoOrder Y_HushError Z_HushError Y_NoName Z_NoName Y_NoOrder Z_NoOrder V_HushError I_HushError J_HushError V_NoFit I_NoFit J_NoFit V_NoInput I_NoInput J_NoInput V_NoName I_NoName J_NoName V_NoOrder I_NoOrder J_NoOrder V_NoRow I_NoRow J_NoRow V_NoText I_NoText J_NoText I_ValueError J_ValueError F__law_pairs
 have D__law_bad_name:=v4 (P:=l.prog) (w:=w) (base:=base) B C_LETTERS T_Order N_Order XT_HushError XT_NoName XT_NoOrder Y_HushError Z_HushError Y_NoName Z_NoName Y_NoOrder Z_NoOrder V_HushError I_HushError J_HushError V_NoFit I_NoFit J_NoFit V_NoInput I_NoInput J_NoInput V_NoName I_NoName J_NoName V_NoOrder I_NoOrder J_NoOrder V_NoRow I_NoRow J_NoRow V_NoText I_NoText J_NoText I_ValueError J_ValueError F__law_bad_name
 have D__law_other:=zX (P:=l.prog) (w:=w) (base:=base) B C_LETTERS T_Order N_Order XT_HushError XT_NoName XT_NoOrder Y_HushError Z_HushError Y_NoName Z_NoName Y_NoOrder Z_NoOrder V_HushError I_HushError J_HushError V_NoFit I_NoFit J_NoFit V_NoInput I_NoInput J_NoInput V_NoName I_NoName J_NoName V_NoOrder I_NoOrder J_NoOrder V_NoRow I_NoRow J_NoRow V_NoText I_NoText J_NoText I_ValueError J_ValueError F__law_other
 have D__law_spoil_names:=tL (P:=l.prog) (w:=w) (base:=base) B C_LETTERS T_Order N_Order XT_HushError XT_NoName XT_NoOrder Y_HushError Z_HushError Y_NoName Z_NoName Y_NoOrder Z_NoOrder V_HushError I_HushError J_HushError V_NoFit I_NoFit J_NoFit V_NoInput I_NoInput J_NoInput V_NoName I_NoName J_NoName V_NoOrder I_NoOrder J_NoOrder V_NoRow I_NoRow J_NoRow V_NoText I_NoText J_NoText I_ValueError J_ValueError F__law_spoil_names D__law_bad_name D__law_other
 have D__law_spoil_order:=tM (P:=l.prog) (w:=w) (base:=base) B C_LETTERS T_Order N_Order XT_HushError XT_NoName XT_NoOrder Y_HushError Z_HushError Y_NoName Z_NoName Y_NoOrder Z_NoOrder V_HushError I_HushError J_HushError V_NoFit I_NoFit J_NoFit V_NoInput I_NoInput J_NoInput V_NoName I_NoName J_NoName V_NoOrder I_NoOrder J_NoOrder V_NoRow I_NoRow J_NoRow V_NoText I_NoText J_NoText I_ValueError J_ValueError F__law_spoil_order
 have D_Order____init__:=Su (uB (P:=l.prog) (w:=w) (base:=base) B C_LETTERS T_Order N_Order XT_HushError XT_NoName XT_NoOrder Y_HushError Z_HushError Y_NoName Z_NoName Y_NoOrder Z_NoOrder V_HushError I_HushError J_HushError V_NoFit I_NoFit J_NoFit V_NoInput I_NoInput J_NoInput V_NoName I_NoName J_NoName V_NoOrder I_NoOrder J_NoOrder V_NoRow I_NoRow J_NoRow V_NoText I_NoText J_NoText I_ValueError J_ValueError F_Order____init__ D_all_above D_all_beneath D_bounds D_refuse_names D_refuse_order) mk_Order kc_Order
 have D__law_by_class:=v5 (P:=l.prog) (w:=w) (base:=base) B C_LETTERS T_Order N_Order XT_HushError XT_NoName XT_NoOrder Y_HushError Z_HushError Y_NoName Z_NoName Y_NoOrder Z_NoOrder V_HushError I_HushError J_HushError V_NoFit I_NoFit J_NoFit V_NoInput I_NoInput J_NoInput V_NoName I_NoName J_NoName V_NoOrder I_NoOrder J_NoOrder V_NoRow I_NoRow J_NoRow V_NoText I_NoText J_NoText I_ValueError J_ValueError F__law_by_class D_Order____init__
 have D__law_class:=zY (P:=l.prog) (w:=w) (base:=base) B C_LETTERS T_Order N_Order XT_HushError XT_NoName XT_NoOrder Y_HushError Z_HushError Y_NoName Z_NoName Y_NoOrder Z_NoOrder V_HushError I_HushError J_HushError V_NoFit I_NoFit J_NoFit V_NoInput I_NoInput J_NoInput V_NoName I_NoName J_NoName V_NoOrder I_NoOrder J_NoOrder V_NoRow I_NoRow J_NoRow V_NoText I_NoText J_NoText I_ValueError J_ValueError F__law_class
 have D__law_by_base:=xH (P:=l.prog) (w:=w) (base:=base) B C_LETTERS T_Order N_Order XT_HushError XT_NoName XT_NoOrder Y_HushError Z_HushError Y_NoName Z_NoName Y_NoOrder Z_NoOrder V_HushError I_HushError J_HushError V_NoFit I_NoFit J_NoFit V_NoInput I_NoInput J_NoInput V_NoName I_NoName J_NoName V_NoOrder I_NoOrder J_NoOrder V_NoRow I_NoRow J_NoRow V_NoText I_NoText J_NoText I_ValueError J_ValueError F__law_by_base D_Order____init__ D__law_class
 exact RX (Sy (P:=l.prog) (w:=w) (base:=base) B C_LETTERS T_Order N_Order XT_HushError XT_NoName XT_NoOrder Y_HushError Z_HushError Y_NoName Z_NoName Y_NoOrder Z_NoOrder V_HushError I_HushError J_HushError V_NoFit I_NoFit J_NoFit V_NoInput I_NoInput J_NoInput V_NoName I_NoName J_NoName V_NoOrder I_NoOrder J_NoOrder V_NoRow I_NoRow J_NoRow V_NoText I_NoText J_NoText I_ValueError J_ValueError (tU (st:=mO) l24 c24 k24) D__law_by_base D__law_by_class D__law_cell_at D__law_names D__law_pairs D__law_spoil_names D__law_spoil_order) HL
theorem walk {l:W.OpenLaw} {q:Program} {loose:List Str} {XP:(Str->Option Value)->Heap->Prop} {YP:World->Heap->Prop} {d:DefRec} {K:Params->FG} (hn:l.most=some 63) (hdf:d.params.defaults=[])
 (hY:∀ (w:World) (h:Heap),YP w h->(K w.params).In h)
 (F:∀ (w:World) (mg:Str->Option Value) (fa:Addr) (h:Heap),(K w.params).In h->h.Ns mainGlobals mg->mg d.name=some (.ref fa)->
   ∃ fd:FuncData,(∀ (s:Shared) (u:Value),BindsTo s fd ⟨[u],[]⟩ [("_law_script",u)])/\∀ base:Heap,(K w.params).In base->base.Ns mainGlobals mg->lF l.prog w (K w.params) mg base qN 9 fa fd ["_law_script"] (Ae (K w.params))):
 W.WalkO q loose XP YP l.row.toRowW d [] (fun f vs=>PySem.call f vs):=
 L2.walk_of (n:=63) (k:=9) (x := "_law_script") (CX:=fun _=>qN) (sp:=fun w=>Ae (K w.params)) hn (by decide) hdf ⟨fun _=>rfl,by decide,by decide,rfl⟩ hY F (fun _ _ a ns hl _ hS=>⟨a,ns,rfl,hS,hl,fun _=>rfl⟩) fun _ _ _ _ _ z=>z
end Law
namespace PySem.W.Fast
def tw8372859827264443964:=0
def tw13438930814196613818:=0
def tw14880270275639154175:=0
def tw2705789877261575839:=0
def tw3006192794709122712:=0
def tw10933492730498222984:=0
def tw7205463788773420660:=0
def tw3460470387435456656:=0
def tw8086344358919821171:=0
def tw4502757573769523298:=0
def tw9873501686034042885:=0
def tw860425219232883930:=0
def tw10357830809487283716:=0
def tw1499424598038514714:=0
def tw10641582654570200535:=0
def tw17682857466269173859:=0
def tw6736351233124940089:=0
def tw16720377404808485333:=0
def tw15276869305077960590:=0
def tw14998275583038959183:=0
def tw4143972126418961030:=0
def tw7371477595542007245:=0
def tw14995108886784641341:=0
def tw11305319912260216576:=0
end PySem.W.Fast
open PySem PySem.W PyProof.Rows
set_option maxRecDepth 100000 in
set_option maxHeartbeats 0 in
theorem PySem.Challenge.cw_hushwise_k07_no_order_holds : PySem.Challenge.rw_hushwise_k07_no_order.Holds := by
 w_on; o_law; k_head; (case hw=>w_witness2)
 k_fill
 refine Law.walk (l:=PySem.Challenge.rw_hushwise_k07_no_order) rfl rfl (fun w h Y=>W.kIn_of Y) ?F
 case F=>
  intro w mg fa h KX G hmg
  refine' Law.all_mk KX G hmg ?aC_Order ?pg_Order ?hd_Order ?po_Order ?sa_Order ?mk_Order ?kc_Order ?n_Order_names ?n_Order_above ?n_Order_joins ?n_Order_meets ?n_Order_lowest ?n_Order_highest ?aC_HushError ?ex_HushError ?aC_NoName ?ex_NoName ?aC_NoOrder ?ex_NoOrder ?mr_NoName_HushError ?mr_NoName_NoName ?mr_NoName_NoOrder ?mr_NoOrder_HushError ?mr_NoOrder_NoName ?mr_NoOrder_NoOrder ?xcg ?xtk ?xga_NoName ?xgt_NoName ?xme_NoName ?xmo_NoName ?xic_NoName ?xca_NoName ?xga_NoOrder ?xgt_NoOrder ?xme_NoOrder ?xmo_NoOrder ?xic_NoOrder ?xca_NoOrder ?aV_HushError ?ty_HushError ?cl_HushError ?mv_NoName_HushError ?mv_NoOrder_HushError ?aV_NoFit ?ty_NoFit ?cl_NoFit ?mv_NoName_NoFit ?nq_NoName_NoFit ?mv_NoOrder_NoFit ?nq_NoOrder_NoFit ?aV_NoInput ?ty_NoInput ?cl_NoInput ?mv_NoName_NoInput ?nq_NoName_NoInput ?mv_NoOrder_NoInput ?nq_NoOrder_NoInput ?aV_NoName ?ty_NoName ?cl_NoName ?mv_NoName_NoName ?mv_NoOrder_NoName ?nq_NoOrder_NoName ?aV_NoOrder ?ty_NoOrder ?cl_NoOrder ?mv_NoName_NoOrder ?nq_NoName_NoOrder ?mv_NoOrder_NoOrder ?aV_NoRow ?ty_NoRow ?cl_NoRow ?mv_NoName_NoRow ?nq_NoName_NoRow ?mv_NoOrder_NoRow ?nq_NoOrder_NoRow ?aV_NoText ?ty_NoText ?cl_NoText ?mv_NoName_NoText ?nq_NoName_NoText ?mv_NoOrder_NoText ?nq_NoOrder_NoText ?mv_NoName_ValueError ?mv_NoOrder_ValueError ?a1 ?l1 ?c1 ?k1 ?a2 ?l2 ?c2 ?k2 ?a3 ?l3 ?c3 ?k3 ?a4 ?l4 ?c4 ?k4 ?a5 ?l5 ?c5 ?k5 ?a6 ?l6 ?c6 ?k6 ?a7 ?l7 ?c7 ?k7 ?a8 ?l8 ?c8 ?k8 ?a9 ?l9 ?c9 ?k9 ?a10 ?l10 ?c10 ?k10 ?a11 ?l11 ?c11 ?k11 ?a12 ?l12 ?c12 ?k12 ?a13 ?l13 ?c13 ?k13 ?a14 ?l14 ?c14 ?k14 ?a15 ?l15 ?c15 ?k15 ?a16 ?l16 ?c16 ?k16 ?a17 ?l17 ?c17 ?k17 ?a18 ?l18 ?c18 ?k18 ?a19 ?l19 ?c19 ?k19 ?a20 ?l20 ?c20 ?k20 ?a21 ?l21 ?c21 ?k21 ?a22 ?l22 ?c22 ?k22 ?a23 ?l23 ?c23 ?k23 ?a24 ?l24 ?c24 ?k24 ?a25 ?i25 ?l25 ?c25 ?k25 ?z0 ?z1 ?z2 ?z3 ?z4 ?z5 ?z6 ?z7 ?y_LETTERS Law.law_true
  case aC_Order=>k_is
  case pg_Order=>k_is
  case hd_Order=>k_is
  case po_Order=>k_is
  case sa_Order=>k_is
  case mk_Order=>k_is
  case kc_Order=>k_is
  case n_Order_names=>k_is
  case n_Order_above=>k_is
  case n_Order_joins=>k_is
  case n_Order_meets=>k_is
  case n_Order_lowest=>k_is
  case n_Order_highest=>k_is
  case aC_HushError=>k_is
  (case ex_HushError=>k_exc)
  case aC_NoName=>k_is
  (case ex_NoName=>k_exc)
  case aC_NoOrder=>k_is
  (case ex_NoOrder=>k_exc)
  case mr_NoName_HushError=>k_is
  case mr_NoName_NoName=>k_is
  case mr_NoName_NoOrder=>k_is
  case mr_NoOrder_HushError=>k_is
  case mr_NoOrder_NoName=>k_is
  case mr_NoOrder_NoOrder=>k_is
  case xcg=>k_is
  case xtk=>k_is
  case xga_NoName=>k_is
  case xgt_NoName=>k_is
  case xme_NoName=>k_is
  case xmo_NoName=>k_is
  case xic_NoName=>k_is
  case xca_NoName=>k_is
  case xga_NoOrder=>k_is
  case xgt_NoOrder=>k_is
  case xme_NoOrder=>k_is
  case xmo_NoOrder=>k_is
  case xic_NoOrder=>k_is
  case xca_NoOrder=>k_is
  case aV_HushError=>k_is
  case ty_HushError=>k_is
  case cl_HushError=>k_is
  case mv_NoName_HushError=>k_is
  case mv_NoOrder_HushError=>k_is
  case aV_NoFit=>k_is
  case ty_NoFit=>k_is
  case cl_NoFit=>k_is
  case mv_NoName_NoFit=>k_is
  (case nq_NoName_NoFit=>exact rfl)
  case mv_NoOrder_NoFit=>k_is
  (case nq_NoOrder_NoFit=>exact rfl)
  case aV_NoInput=>k_is
  case ty_NoInput=>k_is
  case cl_NoInput=>k_is
  case mv_NoName_NoInput=>k_is
  (case nq_NoName_NoInput=>exact rfl)
  case mv_NoOrder_NoInput=>k_is
  (case nq_NoOrder_NoInput=>exact rfl)
  case aV_NoName=>k_is
  case ty_NoName=>k_is
  case cl_NoName=>k_is
  case mv_NoName_NoName=>k_is
  case mv_NoOrder_NoName=>k_is
  (case nq_NoOrder_NoName=>exact rfl)
  case aV_NoOrder=>k_is
  case ty_NoOrder=>k_is
  case cl_NoOrder=>k_is
  case mv_NoName_NoOrder=>k_is
  (case nq_NoName_NoOrder=>exact rfl)
  case mv_NoOrder_NoOrder=>k_is
  case aV_NoRow=>k_is
  case ty_NoRow=>k_is
  case cl_NoRow=>k_is
  case mv_NoName_NoRow=>k_is
  (case nq_NoName_NoRow=>exact rfl)
  case mv_NoOrder_NoRow=>k_is
  (case nq_NoOrder_NoRow=>exact rfl)
  case aV_NoText=>k_is
  case ty_NoText=>k_is
  case cl_NoText=>k_is
  case mv_NoName_NoText=>k_is
  (case nq_NoName_NoText=>exact rfl)
  case mv_NoOrder_NoText=>k_is
  (case nq_NoOrder_NoText=>exact rfl)
  case mv_NoName_ValueError=>k_is
  case mv_NoOrder_ValueError=>k_is
  case a1=>k_is
  case l1=>k_is
  case c1=>k_is
  case k1=>k_is
  case a2=>k_is
  case l2=>k_is
  case c2=>k_is
  case k2=>k_is
  case a3=>k_is
  case l3=>k_is
  case c3=>k_is
  case k3=>k_is
  case a4=>k_is
  case l4=>k_is
  case c4=>k_is
  case k4=>k_is
  case a5=>k_is
  case l5=>k_is
  case c5=>k_is
  case k5=>k_is
  case a6=>k_is
  case l6=>k_is
  case c6=>k_is
  case k6=>k_is
  case a7=>k_is
  case l7=>k_is
  case c7=>k_is
  case k7=>k_is
  case a8=>k_is
  case l8=>k_is
  case c8=>k_is
  case k8=>k_is
  case a9=>k_is
  case l9=>k_is
  case c9=>k_is
  case k9=>k_is
  case a10=>k_is
  case l10=>k_is
  case c10=>k_is
  case k10=>k_is
  case a11=>k_is
  case l11=>k_is
  case c11=>k_is
  case k11=>k_is
  case a12=>k_is
  case l12=>k_is
  case c12=>k_is
  case k12=>k_is
  case a13=>k_is
  case l13=>k_is
  case c13=>k_is
  case k13=>k_is
  case a14=>k_is
  case l14=>k_is
  case c14=>k_is
  case k14=>k_is
  case a15=>k_is
  case l15=>k_is
  case c15=>k_is
  case k15=>k_is
  case a16=>k_is
  case l16=>k_is
  case c16=>k_is
  case k16=>k_is
  case a17=>k_is
  case l17=>k_is
  case c17=>k_is
  case k17=>k_is
  case a18=>k_is
  case l18=>k_is
  case c18=>k_is
  case k18=>k_is
  case a19=>k_is
  case l19=>k_is
  case c19=>k_is
  case k19=>k_is
  case a20=>k_is
  case l20=>k_is
  case c20=>k_is
  case k20=>k_is
  case a21=>k_is
  case l21=>k_is
  case c21=>k_is
  case k21=>k_is
  case a22=>k_is
  case l22=>k_is
  case c22=>k_is
  case k22=>k_is
  case a23=>k_is
  case l23=>k_is
  case c23=>k_is
  case k23=>k_is
  case a24=>k_is
  case l24=>k_is
  case c24=>k_is
  case k24=>k_is
  case a25=>k_is
  case i25=>k_is
  case l25=>k_is
  case c25=>k_is
  case k25=>k_is
  case z0=>k_is
  case z1=>k_is
  case z2=>k_is
  case z3=>k_is
  case z4=>k_is
  case z5=>k_is
  case z6=>k_is
  case z7=>k_is
  case y_LETTERS=>k_is
