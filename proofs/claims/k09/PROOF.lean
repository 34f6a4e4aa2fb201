import PyProof.Rows.All
import Wide.All
import OpenK.AllK
import Wide.FinOn
import Lean
import PyProof.EqAt
import PyProof.EqKinds
import PyProof.TupleCall
import PyProof.NeKinds
import PyProof.StrBlockI
import PyProof.WalksEnum
import PyProof.EnumMake
import PyProof.ZipIter
import PyProof.Rows.SortStr
import PyProof.Rows.SetFrom
import PyProof.CollectWalk
import PyProof.SetRoads
import PyProof.DictWalks
import PyProof.SumWalk
import PyProof.Rows.SumGenD
import PyProof.DictItems
import KE.KRevIter
import PyProof.Rows.FStrParts
import PyProof.StationsW
import PyProof.ReprRoads
import PyProof.ReprLen
import PyProof.ReprStr
import PyProof.StrLawsRepr
import PyProof.FString
import KE.KEqDict
import PyProof.AutoSeq1
import PySem.Challenge.RW_hushwise_k09_whole_orders
set_option Elab.async false
set_option linter.all false
set_option bootstrap.genMatcherCode false
set_option genSizeOf false
set_option compiler.extract_closed false
set_option maxRecDepth 100000
set_option maxHeartbeats 8000000
noncomputable abbrev FG:=PySem.W.Frag
namespace L2
open PySem PySem.Spec PyProof.Rows
variable {pins:List (Addr×Obj)} {E:Value->Shared->Prop} {s:Shared} {A:Around} {w:World} {P:Program}
noncomputable abbrev Key:=Sum Int Str
noncomputable def uX:Key->Value->Bool
 | .inl k,v=>Value.isInt k v
 | .inr x,v=>Value.isStrOf x v
noncomputable def Vt (w:World):Key->Int
 | .inl k=>hashInt k
 | .inr x=>hashStr w x
theorem eY:∀ {k:Key} {v:Value},uX k v=true->(∃ i t,k=Sum.inl i/\v=Value.int i t)\/(∃ x t,k=Sum.inr x/\v=Value.str x t)
 | .inl i,v,h=>by
  obtain ⟨t,e⟩:=Value.isInt_shape (k:=i) (v:=v) h
  exact .inl ⟨i,t,rfl,e⟩
 | .inr x,v,h=>by
  obtain ⟨t,e⟩:=Value.isStrOf_shape (x:=x) (v:=v) h
  exact .inr ⟨x,t,rfl,e⟩
theorem Im (i:Int) (t:Tok):uX (.inl i) (.int i t)=true:=by simp [uX,Value.isInt]
theorem Io (x:Str) (t:Tok):uX (.inr x) (.str x t)=true:=by simp [uX,Value.isStrOf]
theorem QX (a b:Int):decide ((Sum.inl a:Key)=Sum.inl b)=(a==b):=by
 by_cases e:a=b
 . subst e; simp
 . have h:¬ (Sum.inl a:Key)=Sum.inl b:=fun q=>e (Sum.inl.inj q)
   rw [decide_eq_false h]
   exact (beq_eq_false_iff_ne.mpr e).symm
theorem QZ (a b:Str):decide ((Sum.inr a:Key)=Sum.inr b)=decide (a=b):=by
 by_cases e:a=b
 . subst e; simp
 . have h:¬ (Sum.inr a:Key)=Sum.inr b:=fun q=>e (Sum.inr.inj q)
   rw [decide_eq_false h,decide_eq_false e]
theorem Q0 (a:Int) (b:Str):decide ((Sum.inl a:Key)=Sum.inr b)=false:=decide_eq_false (fun q=>nomatch q)
theorem Q3 (a:Str) (b:Int):decide ((Sum.inr a:Key)=Sum.inl b)=false:=decide_eq_false (fun q=>nomatch q)
noncomputable def di (prog:Program) (w:World):PySem.KeyKind prog w Key where
 is:=uX
 hash:=Vt w
 inj:=fun v a b ha hb=>by
  rcases eY ha with ⟨i,t,rfl,rfl⟩ | ⟨x,t,rfl,rfl⟩
  . rcases eY hb with ⟨j,u,rfl,e⟩ | ⟨y,u,rfl,e⟩
    . injection e with e1 _; rw [e1]
    . exact nomatch e
  . rcases eY hb with ⟨j,u,rfl,e⟩ | ⟨y,u,rfl,e⟩
    . exact nomatch e
    . injection e with e1 _; rw [e1]
 byValue:=fun k v h=>by
  rcases eY h with ⟨i,t,rfl,rfl⟩ | ⟨x,t,rfl,rfl⟩<;>rfl
 pyHash:=fun hv h=>by
  rcases eY hv with ⟨i,t,rfl,rfl⟩ | ⟨x,t,rfl,rfl⟩
  . exact wpAny_pyHash_int h
  . exact wpAny_pyHash_str h
 eqBool:=fun hu hv h=>by
  rcases eY hu with ⟨i,t,rfl,rfl⟩ | ⟨x,t,rfl,rfl⟩
  . rcases eY hv with ⟨j,u,rfl,rfl⟩ | ⟨y,u,rfl,rfl⟩
    . rw [QX] at h; exact wpAny_eqBool_int h
    . rw [Q0] at h; exact SeqAt.EqAt.int_str i t y u _ _ _ _ h
  . rcases eY hv with ⟨j,u,rfl,rfl⟩ | ⟨y,u,rfl,rfl⟩
    . rw [Q3] at h; exact SeqAt.EqAt.str_int x t j u _ _ _ _ h
    . rw [QZ] at h; exact wpAny_eqBool_str h
 «strs»:=fun k x t v h=>by
  rcases eY h with ⟨i,u,rfl,e⟩ | ⟨y,u,rfl,e⟩
  . exact nomatch e
  . injection e with e1 _
    subst e1
    cases v<;>rfl
theorem Ef (prog:Program) (w:World) (i:Int) (t:Tok):(di prog w).is (.inl i) (.int i t)=true:=Im i t
theorem Eg (prog:Program) (w:World) (x:Str) (t:Tok):(di prog w).is (.inr x) (.str x t)=true:=Io x t
inductive V where
 | non | bl (b:Bool) | int (i:Int) | str (x:Str) | byt (b:Array UInt8) | flt (b:UInt64) | ref (a:Addr) | ty (n:String)
 deriving DecidableEq
noncomputable def RelV:V->Value->Prop
 | .non,u=>u=Value.none
 | .bl b,u=>u=Value.bool b
 | .int i,u=>∃ t,u=Value.int i t
 | .str x,u=>∃ t,u=Value.str x t
 | .byt b,u=>∃ t,u=Value.bytes b t
 | .flt b,u=>∃ t,u=Value.float b t
 | .ref a,u=>u=Value.ref a
 | .ty n,u=>u=Value.type n
noncomputable abbrev Vals:List V->List Value->Prop:=Paired RelV
theorem Vals.length {xs:List V} {us:List Value} (r:Vals xs us):xs.length=us.length:=Paired.length r
theorem Vals.get:∀ {xs:List V} {us:List Value} {i:Nat} {x:V},Vals xs us->xs[i]?=some x->∃ u,us[i]?=some u/\RelV x u
 | _,_,_,_,.nil,e=>by simp at e
 | _,_,0,_,.cons r _,e=>by simp at e; subst e; exact ⟨_,rfl,r⟩
 | _,_,i+1,x,.cons _ t,e=>by
  obtain ⟨u,h1,h2⟩:=Vals.get (i:=i) (x:=x) t (by simpa using e)
  exact ⟨u,by simpa using h1,h2⟩
theorem Vals.set {x:V} {u:Value} (r:RelV x u):∀ {xs:List V} {us:List Value} (i:Nat),Vals xs us->Vals (xs.set i x) (us.set i u)
 | _,_,_,.nil=>.nil
 | _,_,0,.cons _ t=>.cons r t
 | _,_,i+1,.cons q t=>.cons q (Vals.set r i t)
theorem Vals.append:∀ {xs ys:List V} {us ws:List Value},Vals xs us->Vals ys ws->Vals (xs++ys) (us++ws)
 | _,_,_,_,.nil,s=>s
 | _,_,_,_,.cons r t,s=>.cons r (Vals.append t s)
theorem Vals.take:∀ {xs:List V} {us:List Value} (n:Nat),Vals xs us->Vals (xs.take n) (us.take n)
 | _,_,0,_=>.nil
 | _,_,_+1,.nil=>.nil
 | _,_,n+1,.cons r t=>.cons r (Vals.take n t)
theorem Vals.drop:∀ {xs:List V} {us:List Value} (n:Nat),Vals xs us->Vals (xs.drop n) (us.drop n)
 | _,_,0,r=>r
 | _,_,_+1,.nil=>.nil
 | _,_,n+1,.cons _ t=>Vals.drop n t
noncomputable def lG:Option V->Option Value->Prop
 | some v,some u=>RelV v u
 | none,none=>True
 | _,_=>False
noncomputable def KV {κ:Type}:List (κ×V)->List (κ×Value)->Prop:=Paired fun (p:κ×V) (q:κ×Value)=>p.1=q.1/\RelV p.2 q.2
noncomputable def kV:Key->V
 | .inl i=>.int i
 | .inr x=>.str x
inductive HO where
 | lst (xs:List V)
 | tup (xs:List V)
 | dK (kvs:List (Key×V)) | dT (kvs:List (List Key×V))
 | set (S:Int->Bool) (n:Nat)
 | ins (C dx:Addr) (fs:List (Str×V))
 | own (x:Addr)
 | xd (fs:List (Str×V))
 | met (f x:Addr)
 | rng (lo hi:Int)
 | frz (o:Obj) (u:HO)
 | tbl (ps:Array Value)
 | ext (φ:Heap->Prop)
noncomputable abbrev Hp:=Addr->Option HO
noncomputable def upd (H:Hp) (a:Addr) (o:HO):Hp:=fun b=>if b=a then some o else H b
theorem bC {H:Hp} {a:Addr} {o:HO}:upd H a o a=some o:=by unfold upd; rw [if_pos rfl]
theorem aY {H:Hp} {a b:Addr} {o:HO} (h:b≠a):upd H a o b=H b:=by unfold upd; rw [if_neg h]
theorem Up {H:Hp} {a b:Addr} {o u:HO} (h:H a=some o) (h':H b=some u) (d:o≠u):a≠b:=by
 intro e; subst e; rw [h] at h'; exact d (Option.some.inj h')
theorem bV {H:Hp} {a b:Addr} {o:HO} (h:H a=some o) (h':H b=none):a≠b:=by
 intro e; subst e; rw [h] at h'; cases h'
section
variable (P:Program) (w:World)
noncomputable def dF (H:Hp) (h:Heap) (a:Addr):HO->Prop
 | .lst xs=>xs.length<=sizeLine/\∃ (its:List Value) (n:Nat),Vals xs its/\h.get? a=some { cls:=.type "list",data:=.seq its.toArray n }
 | .tup xs=>xs.length<=sizeLine/\∃ its:List Value,Vals xs its/\IsTup h a its.toArray
 | .dK kvs=>kvs.length<=sizeLine/\(a==sysModules)=false/\∃ vs,KV kvs vs/\h.DictOf (di P w) a vs
 | .dT kvs=>kvs.length<=sizeLine/\(a==sysModules)=false/\∃ xs:List (List Key×Addr×Value),
  Paired (fun (p:List Key×V) (q:List Key×Addr×Value)=>p.1=q.1/\H q.2.1=some (.tup (p.1.map kV))/\RelV p.2 q.2.2) kvs xs/\
  ∃ o es ep,h.get? a=some o/\o.ExactDict/\o.data=.dict es ep/\es.toList=xs.map (entryOfKey (tupleKind (di P w)))/\(xs.map (·.1)).Nodup
 | .set S n=>h.SetOf (intKind P w) a S n
 | .ins C dx fs=>H dx=some (.own a)/\fs.length<=1000/\dx≠a/\h.get? a=some (W.instObj C dx)/\
  ∃ mA,h.Ns1 dx mA/\(∀ f,lG (fs.lookup f) (mA f))/\PySem.Within mA (fs.map (·.1))
 | .own _=>∃ o,h.get? a=some o
 | .xd fs=>∃ mA,h.Ns1 a mA/\∀ f,lG (fs.lookup f) (mA f)
 | .rng lo hi=>∃ t u v,h.get? a=some { cls:=.type "range",data:=.fields #[.int lo t,.int hi u,.int 1 v] }
 | .frz o u=>h.get? a=some o/\dF H h a u
 | .tbl ps=>h.get? a=some { cls:=.none,data:=.fields ps }
 | .met f x=>h.get? a=some (W.methodObj (.ref f) (.ref x))
 | .ext φ=>φ h/\(∃ o,h.get? a=some o)/\∀ h1 h2:Heap,φ h1->(∀ o,h1.get? a=some o->h2.get? a=some o)->φ h2
noncomputable def fY (H:Hp) (h:Heap):Prop:=∀ a o,H a=some o->dF P w H h a o
end
section
variable {P:Program} {w:World} {H H':Hp} {h h':Heap} {a:Addr} {o:HO}
theorem dF.lt (x:dF P w H h a o):a<h.objs.size:=by
 cases o with
 | lst xs=>obtain ⟨_,_,_,_,e⟩:=x; exact Heap.lt_size e
 | tup xs=>obtain ⟨_,_,_,p⟩:=x; exact p.lt
 | dK kvs=>obtain ⟨_,_,_,_,o,_,_,e,_⟩:=x; exact Heap.lt_size e
 | dT kvs=>obtain ⟨_,_,_,_,o,_,_,e,_⟩:=x; exact Heap.lt_size e
 | set S n=>obtain ⟨o,_,_,_,e,_⟩:=x; exact Heap.lt_size e
 | ins C dx fs=>obtain ⟨_,_,_,e,_⟩:=x; exact Heap.lt_size e
 | own y=>obtain ⟨_,e⟩:=x; exact Heap.lt_size e
 | xd fs=>obtain ⟨_,⟨_,_,_,e,_⟩,_⟩:=x; exact Heap.lt_size e
 | rng lo hi=>obtain ⟨_,_,_,e⟩:=x; exact Heap.lt_size e
 | frz ob u=>obtain ⟨e,_⟩:=x; exact Heap.lt_size e
 | tbl ps=>exact Heap.lt_size (show h.get? a=some _ from x)
 | met f y=>exact Heap.lt_size (show h.get? a=some _ from x)
 | ext φ=>obtain ⟨_,⟨_,e⟩,_⟩:=x; exact Heap.lt_size e
theorem Paired.mapP {α β:Type} {F G:α->β->Prop}:∀ {l₁:List α} {l₂:List β},Paired F l₁ l₂->(∀ a b,F a b->G a b)->Paired G l₁ l₂
 | _,_,.nil,_=>.nil
 | _,_,.cons r t,f=>.cons (f _ _ r) (Paired.mapP t f)
theorem dF.stay (x:dF P w H h a o) (k:∀ b u,(b=a\/H b=some (.own a))->h.get? b=some u->h'.get? b=some u)
 (ho:∀ b,H b=some (.own a)->H' b=some (.own a)) (ht:∀ b xs,H b=some (.tup xs)->H' b=some (.tup xs)):dF P w H' h' a o:=by
 induction o with
 | lst xs=>obtain ⟨z,its,n,r,e⟩:=x; exact ⟨z,its,n,r,k _ _ (.inl rfl) e⟩
 | tup xs=>obtain ⟨z,its,r,ob,e,c⟩:=x; exact ⟨z,its,r,ob,k _ _ (.inl rfl) e,c⟩
 | dK kvs=>obtain ⟨z,y,vs,r,ob,es,ep,e,c⟩:=x; exact ⟨z,y,vs,r,ob,es,ep,k _ _ (.inl rfl) e,c⟩
 | dT kvs=>
  obtain ⟨z,y,xs,r,ob,es,ep,e,c⟩:=x
  exact ⟨z,y,xs,Paired.mapP r fun p q z=>⟨z.1,ht _ _ z.2.1,z.2.2⟩,ob,es,ep,k _ _ (.inl rfl) e,c⟩
 | set S n=>obtain ⟨ob,es,ep,t,e,c⟩:=x; exact ⟨ob,es,ep,t,k _ _ (.inl rfl) e,c⟩
 | ins C dx fs=>
  obtain ⟨d,z,ne,e,mA,⟨od,es,ep,e2,c⟩,r⟩:=x
  exact ⟨ho _ d,z,ne,k _ _ (.inl rfl) e,mA,⟨od,es,ep,k _ _ (.inr d) e2,c⟩,r⟩
 | own y=>obtain ⟨ob,e⟩:=x; exact ⟨ob,k _ _ (.inl rfl) e⟩
 | xd fs=>obtain ⟨mA,⟨od,es,ep,e,c⟩,r⟩:=x; exact ⟨mA,⟨od,es,ep,k _ _ (.inl rfl) e,c⟩,r⟩
 | rng lo hi=>obtain ⟨t,u,v,e⟩:=x; exact ⟨t,u,v,k _ _ (.inl rfl) e⟩
 | frz ob u ih=>obtain ⟨e,q⟩:=x; exact ⟨k _ _ (.inl rfl) e,ih q⟩
 | tbl ps=>
  have e:h.get? a=some { cls:=.none,data:=.fields ps }:=x
  show h'.get? a=some { cls:=.none,data:=.fields ps }
  exact k a _ (.inl rfl) e
 | met f y=>
  have e:h.get? a=some (W.methodObj (.ref f) (.ref y)):=x
  show h'.get? a=some (W.methodObj (.ref f) (.ref y))
  exact k a _ (.inl rfl) e
 | ext φ=>obtain ⟨p,⟨o,e⟩,st⟩:=x; exact ⟨st _ _ p fun o q=>k _ _ (.inl rfl) q,⟨o,k _ _ (.inl rfl) e⟩,st⟩
theorem fY.lt (x:fY P w H h) (e:H a=some o):a<h.objs.size:=(x a o e).lt
theorem fY.fresh (x:fY P w H h) (e:h.objs.size<=a):H a=none:=by
 cases q:H a with
 | none=>rfl
 | some u=>exact absurd (Nat.lt_of_lt_of_le (x.lt q) e) (Nat.lt_irrefl _)
theorem fY.kept (x:fY P w H h) (k:∀ b u,h.get? b=some u->h'.get? b=some u):fY P w H h':=fun a o e=>
 (x a o e).stay (fun b u _ q=>k b u q) (fun _ q=>q) fun _ _ q=>q
theorem fY.laid (x:fY P w H h) (k:∀ b u,h.get? b=some u->h'.get? b=some u) (hp:h.objs.size<=a) (new:dF P w (upd H a o) h' a o):fY P w (upd H a o) h':=fun b u e=>by
 have hn:=x.fresh hp
 by_cases hb:b=a
 . subst hb; rw [bC] at e; cases e; exact new
 . rw [aY hb] at e
   exact (x b u e).stay (fun c v _ q=>k c v q) (fun c q=>by rw [aY (bV q hn)]; exact q) fun c xs q=>by rw [aY (bV q hn)]; exact q
end
noncomputable def Rd (H:Hp) (a:Addr) (u:HO):Prop:=H a=some u\/∃ o,H a=some (.frz o u)
theorem Rd.ok {H:Hp} {h:Heap} {a:Addr} {u:HO} (r:Rd H a u) (x:fY P w H h):dF P w H h a u:=by
 rcases r with r | ⟨o,r⟩
 . exact x a u r
 . obtain ⟨_,q⟩:=x a _ r
   exact q
noncomputable def Ip:Option HO->Prop
 | some (.lst _)=>True
 | some (.dK _)=>True
 | some (.dT _)=>True
 | some (.set _ _)=>True
 | some (.ins _ _ _)=>True
 | some (.ext _)=>True
 | _=>False
section
variable {P:Program} {w:World} {H:Hp} {h h':Heap} {x e:Addr} {o':HO}
theorem fY.write (ok:fY P w H h) (mu:Ip (H x)) (he:e=x\/H e=some (.own x)) (k:∀ b u,b≠e->h.get? b=some u->h'.get? b=some u) (heo:∃ u,h'.get? e=some u)
 (new:dF P w (upd H x o') h' x o'):fY P w (upd H x o') h':=fun b u q=>by
 have nown:∀ c y,H c=some (.own y)->c≠x:=fun c y r z=>by subst z; rw [r] at mu; exact mu
 have ntup:∀ c xs,H c=some (.tup xs)->c≠x:=fun c xs r z=>by subst z; rw [r] at mu; exact mu
 by_cases hb:b=x
 . subst hb; rw [bC] at q; cases q; exact new
 . rw [aY hb] at q
   by_cases hbe:b=e
   . have q':H b=some (.own x):=by
      rcases he with z | z
      . exact absurd (hbe.trans z) hb
      . rw [hbe]; exact z
     rw [q] at q'; cases q'
     obtain ⟨v,hv⟩:=heo
     exact ⟨v,by rw [hbe]; exact hv⟩
   . refine (ok b u q).stay (fun c v hc r=>k c v ?_ r) (fun c r=>by rw [aY (nown c b r)]; exact r) fun c xs r=>by rw [aY (ntup c xs r)]; exact r
     rcases hc with rfl | hc
     . exact hbe
     . rintro rfl
       rcases he with z | z
       . exact nown c b hc z
       . rw [hc] at z; cases z; exact hb rfl
end
structure Un (fs ex:List Addr) (H H':Hp) (h h':Heap):Prop where
 keep:∀ b o,h.get? b=some o->H b=none->b∉fs->b∉ex->h'.get? b=some o
 slot:∀ b o,h.get? b=some o->H b=none->b∈fs->b∉ex->∃ sl,h'.get? b=some { o with slots:=sl }
 free:∀ b o,h.get? b=some o->H b=none->b∉ex->H' b=none
 there:∀ b o,h.get? b=some o->b∉ex->∃ o',h'.get? b=some o'
 tups:∀ b xs,H b=some (.tup xs)->H' b=some (.tup xs)
 frzs:∀ b o u,H b=some (.frz o u)->H' b=some (.frz o u)
 tbls:∀ b ps,H b=some (.tbl ps)->∃ more,H' b=some (.tbl (ps++more))
section
variable {fs fs' ex ex':List Addr} {H H1 H2:Hp} {h h1 h2 h':Heap} {a x e:Addr} {o:HO}
theorem Un.any (u:Un fs ex H H1 h h1) {b:Addr} {ob:Obj} (q:h.get? b=some ob) (n:H b=none) (hx:b∉ex):∃ sl,h1.get? b=some { ob with slots:=sl }:=by
 by_cases hb:b∈fs
 . exact u.slot b ob q n hb hx
 . exact ⟨ob.slots,u.keep b ob q n hb hx⟩
theorem Un.kept (k:∀ b u,h.get? b=some u->h'.get? b=some u):Un fs ex H H h h':=
 ⟨fun b ob q _ _ _=>k b ob q,fun b ob q _ _ _=>⟨ob.slots,k b ob q⟩,fun _ _ _ n _=>n,fun b ob q _=>⟨ob,k b ob q⟩,fun _ _ q=>q,fun _ _ _ q=>q,fun _ ps q=>⟨#[],by rw [q]; simp⟩⟩
theorem Un.refl:Un fs ex H H h h:=Un.kept fun _ _ q=>q
theorem Un.laid (k:∀ b u,h.get? b=some u->h'.get? b=some u) (hp:h.objs.size<=a) (hn:H a=none):Un fs ex H (upd H a o) h h' where
 keep:=fun b u q _ _ _=>k b u q
 slot:=fun b u q _ _ _=>⟨u.slots,k b u q⟩
 free:=fun b u q n _=>by rw [aY (Nat.ne_of_lt (Nat.lt_of_lt_of_le (Heap.lt_size q) hp))]; exact n
 there:=fun b u q _=>⟨u,k b u q⟩
 tups:=fun b xs q=>by rw [aY (bV q hn)]; exact q
 frzs:=fun b u xs q=>by rw [aY (bV q hn)]; exact q
 tbls:=fun b ps q=>⟨#[],by rw [aY (bV q hn),q]; simp⟩
theorem Un.write (mu:Ip (H x)) (he:e=x\/H e=some (.own x)) (k:∀ b u,b≠e->h.get? b=some u->h'.get? b=some u) (heo:∃ u,h'.get? e=some u):Un fs ex H (upd H x o) h h':=by
 have hx:∀ b,H b=none->b≠x:=fun b n z=>by subst z; rw [n] at mu; exact mu
 have hb:∀ b,H b=none->b≠e:=fun b n z=>by
  subst z
  rcases he with r | r
  . exact hx b n r
  . rw [n] at r; cases r
 have hm:∀ b u,H b=some u->¬ Ip (some u)->b≠x:=fun b u q nm z=>by subst z; rw [q] at mu; exact nm mu
 refine ⟨fun b u q n _ _=>k b u (hb b n) q,fun b u q n _ _=>⟨u.slots,k b u (hb b n) q⟩,fun b u q n _=>by rw [aY (hx b n)]; exact n,fun b u q _=>?_,
  fun b xs q=>by rw [aY (hm b _ q fun z=>z)]; exact q,fun b u xs q=>by rw [aY (hm b _ q fun z=>z)]; exact q,fun b ps q=>⟨#[],by rw [aY (hm b _ q fun z=>z),q]; simp⟩⟩
 by_cases hbe:b=e
 . subst hbe; exact heo
 . exact ⟨u,k b u hbe q⟩
end
noncomputable def Ni (h:Heap) (H:Hp):List Addr:=(List.range h.objs.size).filter fun a=>(H a).isSome
noncomputable def sG (h:Heap) (H:Hp):Heap:=W.hideAll h (Ni h H)
theorem Ir (h:Heap) (H:Hp):(sG h H).objs.size=h.objs.size:=W.hideAll_size _ _
theorem Kw {h:Heap} {H:Hp} {b:Addr} {o:Obj} (e:h.get? b=some o) (n:H b=none):(sG h H).get? b=some o:=
 W.hideAll_get _ e fun hm=>by
  have q:(H b).isSome=true:=(List.mem_filter.mp hm).2
  rw [n] at q; simp at q
theorem Ov {h:Heap} {H:Hp} {b:Addr} {o:Obj} (e:(sG h H).get? b=some o):h.get? b=some o/\H b=none:=by
 have e':h.get? b=some o:=W.of_hideAll (Ni h H) e
 refine ⟨e',?_⟩
 cases q:H b with
 | none=>rfl
 | some x=>
  have hm:b∈Ni h H:=List.mem_filter.mpr ⟨List.mem_range.mpr (Heap.lt_size e'),by simp [q]⟩
  have z:(sG h H).get? b=none:=W.hideAll_none (Ni h H) hm
  rw [z] at e; cases e
noncomputable def Ow (g h:Heap) (L:Addr):List (Addr×Obj):=(List.range h.objs.size).filterMap fun a=>if a=L\/(g.get? a).isSome=true then none else (h.get? a).map fun o=>(a,o)
noncomputable def rest (g h:Heap) (L d:Addr):List (Addr×Obj):=(Ow g h L).filter fun p=>decide (p.1≠d)
structure Mod (K:FG) (mg:Str->Option Value) (base:Heap):Prop where
 kin:K.In base
 glob:base.Ns mainGlobals mg
 blt:∃ mb,base.Ns builtinsNs mb/\∀ x:Str,x ≠ "__name__" -> mb x=bootBuiltins x
 nolimit:base.NoLimit
structure Cx where
 prog:Program
 w:World
 K:FG
 mg:Str->Option Value
 base:Heap
 A:Around
 N:List Str
 s₀:Shared
 H0:Hp
 env:Env
 outer:List Env
 stack:List Env
 ex:List Addr
 fn:Str->Bool
 calm:Bool
 pn:List (Addr×Obj)
 xe:Value->Shared->Prop
noncomputable def frs (l:List Env):List Addr:=l.filterMap (·.frame)
noncomputable abbrev Cx.fs (X:Cx):List Addr:=frs X.outer
noncomputable def Iu (sc:Scope) (x:Str):Prop:=sc.names.lookup x=some .local\/sc.names.lookup x=some .cell\/sc.names.lookup x=some .free
noncomputable def Loc (sc:Scope) (x:Str):Prop:=sc.names.lookup x=some .local\/sc.names.lookup x=some .cell
noncomputable def Look (env:Env) (h:Heap) (m:Str->Option Value) (x:Str) (u:Value):Prop:=
 (env.kindOf x=some .local/\m x=some u)\/((env.kindOf x=some .cell\/env.kindOf x=some .free)/\∃ c,env.cells.lookup x=some c/\h.IsCell c (some u))
structure Cx.Ok (X:Cx):Prop where
 mod:Mod X.K X.mg X.base
 kind:X.env.scope.kind=.function
 glob:X.env.globals=mainGlobals
 blt:X.env.builtins=builtinsNs
 above:X.s₀.heap.objs.size<=X.env.locals
 inj:∀ x y c,X.env.cells.lookup x=some c->X.env.cells.lookup y=some c->x=y
 has:∀ x,(X.env.kindOf x=some .cell\/X.env.kindOf x=some .free)->∃ c,X.env.cells.lookup x=some c
 cab:∀ x c,X.fn x=true->X.env.cells.lookup x=some c->X.s₀.heap.objs.size<=c
 hd:X.calm=true->X.A.handled=none
 frames:X.A.frames=some X.stack
 stk:X.stack=X.outer\/(X.stack=X.env::X.outer/\X.env.frame=some X.env.locals)
 exf:∀ b∈X.ex,b≠X.env.locals/\∀ x c,X.env.cells.lookup x=some c->c≠b
 bs:∀ b o,X.base.get? b=some o->X.s₀.heap.get? b=some o/\X.H0 b=none
 bsz:X.base.objs.size<=X.s₀.heap.objs.size
 noex:∀ b o,X.base.get? b=some o->b∉X.ex
 exfs:∀ b∈X.ex,b∉X.fs
 funs:X.s₀.heap.FunFrames X.base X.outer
 frf:∀ b∈X.fs,X.H0 b=none
structure Inv (X:Cx) (pins:List (Addr×Obj)) (σ:List (Option V)) (H:Hp) (s:Shared):Prop where
 ok:X.Ok
 os:s.os=X.s₀.os
 bare:AllBare s.gens
 base:Un X.fs X.ex X.H0 H X.s₀.heap s.heap
 loc:∃ m,s.heap.Ns X.env.locals m/\∀ (i:Nat) (x:Str) (v:V),X.N[i]?=some x->σ[i]?=some (some v)->Iu X.env.scope x->∃ u,RelV v u/\Look X.env s.heap m x u
 cell:∀ x c,X.env.cells.lookup x=some c->∃ v,s.heap.IsCell c v
 free:H X.env.locals=none
 freeC:∀ x c,X.env.cells.lookup x=some c->H c=none
 pin:∀ p∈X.pn++pins,s.heap.get? p.1=some p.2/\H p.1=none/\p.1≠X.env.locals/\p.1∉X.fs/\∀ v,p.2.data≠.cell v
 hok:fY X.prog X.w H s.heap
 len:σ.length=X.N.length
section
variable {X:Cx} {pins:List (Addr×Obj)} {σ:List (Option V)} {H H':Hp} {s:Shared} {h':Heap}
theorem Cx.Ok.nofr (ok:X.Ok) {b:Addr} {o:Obj} (e:X.base.get? b=some o):b∉X.fs:=fun hb=>by
 have:=(ok.funs.mem hb).1
 rw [e] at this; cases this
theorem Inv.bs (I:Inv X pins σ H s):∀ b o,X.base.get? b=some o->s.heap.get? b=some o/\H b=none:=fun b o e=>
 ⟨I.base.keep b o (I.ok.bs b o e).1 (I.ok.bs b o e).2 (I.ok.nofr e) (I.ok.noex b o e),I.base.free b o (I.ok.bs b o e).1 (I.ok.bs b o e).2 (I.ok.noex b o e)⟩
theorem Inv.bk (I:Inv X pins σ H s):∀ b o,X.base.get? b=some o->s.heap.get? b=some o:=fun b o e=>(I.bs b o e).1
theorem Inv.mod (I:Inv X pins σ H s):Mod X.K X.mg X.base:=I.ok.mod
theorem Inv.kIn (I:Inv X pins σ H s):X.K.In s.heap:=I.ok.mod.kin.keeps I.bk
theorem Inv.lt (I:Inv X pins σ H s):X.env.locals<s.heap.objs.size:=let ⟨_,hn,_⟩:=I.loc; hn.lt
theorem Inv.sz (I:Inv X pins σ H s):X.s₀.heap.objs.size<=s.heap.objs.size:=Nat.le_trans I.ok.above (Nat.le_of_lt I.lt)
theorem Inv.nofs (I:Inv X pins σ H s) {a:Addr} (h:s.heap.objs.size<=a):a∉X.fs:=fun hb=>by
 obtain ⟨_,o,ho,_⟩:=I.ok.funs.mem hb
 exact absurd (Nat.lt_of_lt_of_le (Heap.lt_size ho) (Nat.le_trans I.sz h)) (Nat.lt_irrefl _)
theorem Inv.cne (I:Inv X pins σ H s):∀ x c,X.env.cells.lookup x=some c->c≠X.env.locals:=fun x c e z=>by
 obtain ⟨v,o,ho,hd⟩:=I.cell x c e
 obtain ⟨m,⟨o',es,ep,ho',hd',_⟩,_⟩:=I.loc
 rw [z,ho'] at ho; cases ho; rw [hd'] at hd; cases hd
theorem Inv.funs (I:Inv X pins σ H s):s.heap.FunFrames X.base X.outer:=by
 have all:∀ (l:List Env),(∀ b∈frs l,b∈X.fs)->X.s₀.heap.FunFrames X.base l->s.heap.FunFrames X.base l:=by
  intro l
  induction l with
  | nil=>intro _ _; trivial
  | cons env r ih=>
   intro hs hl
   obtain ⟨hk,⟨L,o,hf,hn,ho,hd⟩,hr⟩:=hl
   have hL:L∈X.fs:=hs L (by unfold frs; rw [List.filterMap_cons,hf]; exact List.mem_cons_self)
   obtain ⟨sl,e⟩:=I.base.slot L o ho (I.ok.frf L hL) hL fun z=>I.ok.exfs L z hL
   exact ⟨hk,⟨L,_,hf,hn,e,hd⟩,ih (fun b hb=>hs b (by unfold frs; rw [List.filterMap_cons,hf]; exact List.mem_cons_of_mem _ hb)) hr⟩
 exact all X.outer (fun _ hb=>hb) I.ok.funs
theorem Inv.stack (I:Inv X pins σ H s):s.heap.FunFrames X.base X.stack:=by
 rcases I.ok.stk with e | ⟨e,hf⟩
 . rw [e]; exact I.funs
 . rw [e]
   obtain ⟨m,hn,_⟩:=I.loc
   refine .cons (by rw [I.ok.kind]; decide) hf hn ?_ I.funs
   exact Heap.get?_none_of_le (Nat.le_trans I.ok.bsz I.ok.above)
theorem Inv.stkSub (I:Inv X pins σ H s):∀ b∈frs X.stack,b∈X.env.locals::X.fs:=fun b hb=>by
 rcases I.ok.stk with e | ⟨e,hf⟩
 . rw [e] at hb; exact List.mem_cons_of_mem _ hb
 . rw [e] at hb
   unfold frs at hb
   rw [List.filterMap_cons,hf] at hb
   exact hb
theorem Inv.stkFree (I:Inv X pins σ H s):∀ b∈frs X.stack,H b=none:=fun b hb=>by
 rcases List.mem_cons.mp (I.stkSub b hb) with e | hb
 . rw [e]; exact I.free
 . obtain ⟨_,o,ho,_⟩:=I.ok.funs.mem hb
   exact I.base.free b o ho (I.ok.frf b hb) fun z=>I.ok.exfs b z hb
theorem Inv.step {g':Array GenState} {t':Nat} {d':Drawn} {ch:List Addr} (I:Inv X pins σ H s)
 (hch:∀ b∈ch,(b∈X.ex\/X.s₀.heap.objs.size<=b)/\b≠X.env.locals/\(∀ x c,X.env.cells.lookup x=some c->c≠b)/\∀ p∈X.pn++pins,p.1≠b)
 (keep:∀ b o,b≠X.env.locals->b∉X.fs->b∉ch->s.heap.get? b=some o->H b=none->h'.get? b=some o)
 (slot:∀ b o,b≠X.env.locals->b∈X.fs->b∉ch->s.heap.get? b=some o->H b=none->∃ sl,h'.get? b=some { o with slots:=sl }) (free:∀ b o,b∉ch->s.heap.get? b=some o->H b=none->H' b=none)
 (there:∀ b o,b∉ch->s.heap.get? b=some o->∃ o',h'.get? b=some o')
 (tups:∀ b xs,H b=some (.tup xs)->H' b=some (.tup xs)) (frzs:∀ b o u,H b=some (.frz o u)->H' b=some (.frz o u)) (tbls:∀ b ps,H b=some (.tbl ps)->∃ more,H' b=some (.tbl (ps++more)))
 (ns:∀ m,s.heap.Ns X.env.locals m->h'.Ns X.env.locals m) (hok:fY X.prog X.w H' h') (hg:AllBare g'):
 Inv X pins σ H' { s with heap:=h',gens:=g',drawn:=d',toks:=t' }:=by
 have neL:∀ b o,X.s₀.heap.get? b=some o->b≠X.env.locals:=fun b o e=>Nat.ne_of_lt (Nat.lt_of_lt_of_le (Heap.lt_size e) I.ok.above)
 have neC:∀ b o,X.s₀.heap.get? b=some o->b∉X.ex->b∉ch:=fun b o e hx hb=>by
  rcases (hch b hb).1 with z | z
  . exact hx z
  . exact absurd (Nat.lt_of_lt_of_le (Heap.lt_size e) z) (Nat.lt_irrefl _)
 have cellK:∀ x c,X.env.cells.lookup x=some c->∀ v,s.heap.IsCell c v->h'.IsCell c v:=fun x c e v ⟨o,ho,hd⟩=>by
  have nch:c∉ch:=fun z=>(hch c z).2.2.1 x c e rfl
  by_cases hc:c∈X.fs
  . obtain ⟨sl,q⟩:=slot c o (I.cne x c e) hc nch ho (I.freeC x c e)
    exact ⟨_,q,hd⟩
  . exact ⟨o,keep c o (I.cne x c e) hc nch ho (I.freeC x c e),hd⟩
 refine ⟨I.ok,I.os,hg,⟨fun b o e n hb hx=>?_,fun b o e n hb hx=>?_,fun b o e n hx=>?_,fun b o e hx=>?_,fun b xs e=>tups b xs (I.base.tups b xs e),fun b o xs e=>frzs b o xs (I.base.frzs b o xs e),fun b ps e=>?_⟩,?_,fun x c e=>?_,?_,fun x c e=>?_,fun p hp=>?_,hok,I.len⟩
 . exact keep b o (neL b o e) hb (neC b o e hx) (I.base.keep b o e n hb hx) (I.base.free b o e n hx)
 . obtain ⟨sl,e1⟩:=I.base.slot b o e n hb hx
   obtain ⟨sl',e2⟩:=slot b _ (neL b o e) hb (neC b o e hx) e1 (I.base.free b o e n hx)
   exact ⟨sl',e2⟩
 . obtain ⟨o',e1⟩:=I.base.there b o e hx
   exact free b o' (neC b o e hx) e1 (I.base.free b o e n hx)
 . obtain ⟨o',e1⟩:=I.base.there b o e hx
   exact there b o' (neC b o e hx) e1
 . obtain ⟨m1,e1⟩:=I.base.tbls b ps e
   obtain ⟨m2,e2⟩:=tbls b _ e1
   exact ⟨m1++m2,by rw [e2,Array.append_assoc]⟩
 . obtain ⟨m,hn,hl⟩:=I.loc
   refine ⟨m,ns m hn,fun i x v e1 e2 e3=>?_⟩
   obtain ⟨u,r,l⟩:=hl i x v e1 e2 e3
   refine ⟨u,r,?_⟩
   rcases l with l | ⟨k,c,e,z⟩
   . exact .inl l
   . exact .inr ⟨k,c,e,cellK x c e _ z⟩
 . obtain ⟨v,z⟩:=I.cell x c e
   exact ⟨v,cellK x c e v z⟩
 . obtain ⟨m,⟨o,_,_,ho,_⟩,_⟩:=I.loc
   exact free _ o (fun z=>(hch _ z).2.1 rfl) ho I.free
 . obtain ⟨v,o,ho,hd⟩:=I.cell x c e
   exact free c o (fun z=>(hch c z).2.2.1 x c e rfl) ho (I.freeC x c e)
 . obtain ⟨e,n,ne,nf,d⟩:=I.pin p hp
   have nch:p.1∉ch:=fun z=>(hch p.1 z).2.2.2 p hp rfl
   exact ⟨keep p.1 p.2 ne nf nch e n,free p.1 p.2 nch e n,ne,nf,d⟩
theorem Inv.un {t':Nat} (I:Inv X pins σ H s) (u:Un X.fs [] H H' s.heap h') (hok:fY X.prog X.w H' h'):Inv X pins σ H' { s with heap:=h',toks:=t' }:=by
 obtain ⟨m,⟨o,es,ep,ho,r⟩,_⟩:=id I.loc
 obtain ⟨sl,hL⟩:=u.any ho I.free (by simp)
 exact I.step (g':=s.gens) (d':=s.drawn) (ch:=[]) (fun _ z=>nomatch z) (fun b o _ hb _ e n=>u.keep b o e n hb (by simp)) (fun b o _ hb _ e n=>u.slot b o e n hb (by simp)) (fun b o _ e n=>u.free b o e n (by simp)) (fun b o _ e=>u.there b o e (by simp)) u.tups u.frzs u.tbls (fun m' hm=>by
  obtain ⟨o',es',ep',ho',r'⟩:=hm
  rw [ho] at ho'; cases ho'
  exact ⟨_,es',ep',hL,r'⟩) hok I.bare
theorem Inv.call {g':Array GenState} {t':Nat} {d':Drawn} {ch:List Addr} (I:Inv X pins σ H s) (u:Un (frs X.stack) ch H H' s.heap h') (hok:fY X.prog X.w H' h') (hg:AllBare g')
 (hch:∀ b∈ch,(b∈X.ex\/X.s₀.heap.objs.size<=b)/\b≠X.env.locals/\(∀ x c,X.env.cells.lookup x=some c->c≠b)/\∀ p∈X.pn++pins,p.1≠b):
 Inv X pins σ H' { s with heap:=h',gens:=g',drawn:=d',toks:=t' }:=by
 obtain ⟨m,⟨o,es,ep,ho,r⟩,_⟩:=id I.loc
 obtain ⟨sl,hL⟩:=u.any ho I.free fun z=>(hch _ z).2.1 rfl
 exact I.step (ch:=ch) hch (fun b o hL hb hc e n=>u.keep b o e n (fun z=>(List.mem_cons.mp (I.stkSub b z)).elim hL hb) hc) (fun b o _ _ hc e n=>u.any e n hc) (fun b o hc e n=>u.free b o e n hc) (fun b o hc e=>u.there b o e hc) u.tups u.frzs u.tbls (fun m' hm=>by
  obtain ⟨o',es',ep',ho',r'⟩:=hm
  rw [ho] at ho'; cases ho'
  exact ⟨_,es',ep',hL,r'⟩) hok hg
theorem Inv.turned {t':Nat} {it:Addr} (I:Inv X pins σ H s) (k:∀ b o,b≠it->s.heap.get? b=some o->h'.get? b=some o) (hn:H it=none) (hL:it≠X.env.locals)
 (h1:it∈X.ex\/X.s₀.heap.objs.size<=it) (h2:∀ x c,X.env.cells.lookup x=some c->c≠it) (h3:∀ p∈X.pn++pins,p.1≠it):Inv X pins σ H { s with heap:=h',toks:=t' }:=by
 have nit:∀ b u,H b=some u->b≠it:=fun b u e z=>by rw [z,hn] at e; cases e
 refine I.step (g':=s.gens) (d':=s.drawn) (ch:=[it]) (fun b hb=>?_) (fun b o _ _ hc e _=>k b o (fun z=>hc (by simp [z])) e) (fun b o _ _ hc e _=>⟨o.slots,k b o (fun z=>hc (by simp [z])) e⟩) (fun _ _ _ _ n=>n)
  (fun b o hc e=>⟨o,k b o (fun z=>hc (by simp [z])) e⟩) (fun _ _ e=>e) (fun _ _ _ e=>e) (fun b ps e=>⟨#[],by rw [e]; simp⟩) (fun m hm=>?_) (fun b u e=>?_) I.bare
 . have e:b=it:=by simpa using hb
   subst e
   exact ⟨h1,hL,h2,h3⟩
 . obtain ⟨o,es,ep,ho,r⟩:=hm
   exact ⟨o,es,ep,k _ o (Ne.symm hL) ho,r⟩
 . refine (I.hok b u e).stay (fun c v hc q=>k c v ?_ q) (fun _ q=>q) fun _ _ q=>q
   rcases hc with z | z
   . rw [z]; exact nit b u e
   . exact nit c _ z
theorem Inv.tok (I:Inv X pins σ H s) (t:Nat):Inv X pins σ H { s with toks:=t }:=I.un (h':=s.heap) (t':=t) Un.refl I.hok
theorem Inv.kept {t':Nat} (I:Inv X pins σ H s) (k:∀ b u,s.heap.get? b=some u->h'.get? b=some u):Inv X pins σ H { s with heap:=h',toks:=t' }:=I.un (Un.kept k) (I.hok.kept k)
theorem Inv.laid {a:Addr} {o:HO} {t':Nat} (I:Inv X pins σ H s) (k:∀ b u,s.heap.get? b=some u->h'.get? b=some u) (hp:s.heap.objs.size<=a) (new:dF X.prog X.w (upd H a o) h' a o):
 Inv X pins σ (upd H a o) { s with heap:=h',toks:=t' }:=I.un (Un.laid k hp (I.hok.fresh hp)) (I.hok.laid k hp new)
theorem Inv.write {x e:Addr} {o:HO} {t':Nat} (I:Inv X pins σ H s) (mu:Ip (H x)) (he:e=x\/H e=some (.own x)) (k:∀ b u,b≠e->s.heap.get? b=some u->h'.get? b=some u) (heo:∃ u,h'.get? e=some u)
 (new:dF X.prog X.w (upd H x o) h' x o):Inv X pins σ (upd H x o) { s with heap:=h',toks:=t' }:=I.un (Un.write mu he k heo) (I.hok.write mu he k heo new)
theorem Inv.pins_of {pins':List (Addr×Obj)} (I:Inv X pins σ H s) (h:∀ p∈pins',s.heap.get? p.1=some p.2/\H p.1=none/\p.1≠X.env.locals/\p.1∉X.fs/\∀ v,p.2.data≠.cell v):Inv X pins' σ H s:=
 ⟨I.ok,I.os,I.bare,I.base,I.loc,I.cell,I.free,I.freeC,fun p hp=>(List.mem_append.mp hp).elim (fun z=>I.pin p (List.mem_append_left _ z)) (h p),I.hok,I.len⟩
theorem Bq {N:List Str} (hN:N.Nodup) {i j:Nat} {x:Str} (a:N[i]?=some x) (b:N[j]?=some x):i=j:=by
 obtain ⟨h1,e1⟩:=List.getElem?_eq_some_iff.mp a
 obtain ⟨h2,e2⟩:=List.getElem?_eq_some_iff.mp b
 exact (List.getElem_inj hN).mp (e1.trans e2.symm)
theorem zx {M:Model} {i:Nat} {x:Str} {v:V} {u:Value} {Q:Unit->Shared->Prop} (I:Inv X pins σ H s) (hN:X.N.Nodup) (hi:X.N[i]?=some x) (hx:Loc X.env.scope x) (r:RelV v u)
 (h:∀ s',Inv X pins (σ.set i (some v)) H s'->(∃ a,Heap.SameBut a s.heap s'.heap/\(a=X.env.locals\/X.env.cells.lookup x=some a))->Q () s') (hf:X.fn x=true\/X.env.scope.names.lookup x=some .local:=by first | exact .inl rfl | exact .inr rfl | assumption):wpAny M A (storeName X.env x u) Q E s:=by
 obtain ⟨m,hn,hl⟩:=id I.loc
 have hcls:(X.env.scope.kind==.class||(X.env.scope.kind==.module&&X.env.locals != X.env.globals))=false:=by rw [I.ok.kind]; rfl
 have hiσ:i<σ.length:=by rw [I.len]; exact (List.getElem?_eq_some_iff.mp hi).1
 have cne:=I.cne
 have tracked:∀ {a:Addr} {h':Heap},(∃ o,s.heap.get? a=some o/\H a=none)->Heap.SameBut a s.heap h'->fY X.prog X.w H h':=fun {a h'} ha hs b ob e=>by
  obtain ⟨_,_,hfree⟩:=ha
  refine (I.hok b ob e).stay (fun c w' hc q=>(hs.2 c ?_).trans q) (fun _ q=>q) fun _ _ q=>q
  rintro rfl
  rcases hc with rfl | hc
  . rw [hfree] at e; cases e
  . rw [hfree] at hc; cases hc
 rcases hx with hk | hk
 . refine wpAny_storeName_local hk hn (fun h' hn' hs=>?_) hcls
   obtain ⟨oL,_,_,hoL,_⟩:=id hn
   refine h _ ⟨I.ok,I.os,I.bare,⟨fun b o e n hb hx=>?_,fun b o e n hb hx=>?_,I.base.free,fun b o e hx=>?_,I.base.tups,I.base.frzs,I.base.tbls⟩,⟨_,hn',fun j y v' e1 e2 e3=>?_⟩,fun y c e=>?_,I.free,I.freeC,fun p hp=>?_,tracked ⟨oL,hoL,I.free⟩ hs,by simpa using I.len⟩ ⟨_,hs,.inl rfl⟩
   . exact (hs.2 b (Nat.ne_of_lt (Nat.lt_of_lt_of_le (Heap.lt_size e) I.ok.above))).trans (I.base.keep b o e n hb hx)
   . obtain ⟨sl,e1⟩:=I.base.slot b o e n hb hx
     exact ⟨sl,(hs.2 b (Nat.ne_of_lt (Nat.lt_of_lt_of_le (Heap.lt_size e) I.ok.above))).trans e1⟩
   . obtain ⟨o',e1⟩:=I.base.there b o e hx
     exact ⟨o',(hs.2 b (Nat.ne_of_lt (Nat.lt_of_lt_of_le (Heap.lt_size e) I.ok.above))).trans e1⟩
   . by_cases hj:j=i
     . subst hj
       rw [hi] at e1; cases e1
       rw [List.getElem?_set_self hiσ] at e2
       cases e2
       exact ⟨u,r,.inl ⟨hk,by simp⟩⟩
     . rw [List.getElem?_set_ne (Ne.symm hj)] at e2
       obtain ⟨u',r',q⟩:=hl j y v' e1 e2 e3
       refine ⟨u',r',?_⟩
       rcases q with ⟨k,e⟩ | ⟨k,c,e,z⟩
       . refine .inl ⟨k,?_⟩
         have:y≠x:=fun e=>hj (Bq hN e1 (e▸hi))
         simp [this,e]
       . exact .inr ⟨k,c,e,z.sameBut hs (cne y c e)⟩
   . obtain ⟨w',z⟩:=I.cell y c e
     exact ⟨w',z.sameBut hs (cne y c e)⟩
   . obtain ⟨e,n,ne,nf,d⟩:=I.pin p hp
     exact ⟨(hs.2 p.1 ne).trans e,n,ne,nf,d⟩
 . have hfn:X.fn x=true:=by
    rcases hf with z | z
    . exact z
    . rw [z] at hk; cases hk
   obtain ⟨c,hc⟩:=I.ok.has x (.inl hk)
   obtain ⟨w',z⟩:=I.cell x c hc
   refine wpAny_storeName_cell I.ok.kind hk hc z (fun h' hc' hs=>?_)
   obtain ⟨oc,hoc,hocd⟩:=id z
   refine h { s with heap:=h' } ⟨I.ok,I.os,I.bare,⟨fun b o e n hb hx=>?_,fun b o e n hb hx=>?_,I.base.free,fun b o e hx=>?_,I.base.tups,I.base.frzs,I.base.tbls⟩,⟨m,hn.sameBut hs (Ne.symm (cne x c hc)),fun j y v' e1 e2 e3=>?_⟩,fun y c' e=>?_,I.free,I.freeC,fun p hp=>?_,tracked ⟨oc,hoc,I.freeC x c hc⟩ hs,by simpa using I.len⟩ ⟨c,hs,.inr hc⟩
   . exact (hs.2 b (Nat.ne_of_lt (Nat.lt_of_lt_of_le (Heap.lt_size e) (I.ok.cab x c hfn hc)))).trans (I.base.keep b o e n hb hx)
   . obtain ⟨sl,e1⟩:=I.base.slot b o e n hb hx
     exact ⟨sl,(hs.2 b (Nat.ne_of_lt (Nat.lt_of_lt_of_le (Heap.lt_size e) (I.ok.cab x c hfn hc)))).trans e1⟩
   . obtain ⟨o',e1⟩:=I.base.there b o e hx
     exact ⟨o',(hs.2 b (Nat.ne_of_lt (Nat.lt_of_lt_of_le (Heap.lt_size e) (I.ok.cab x c hfn hc)))).trans e1⟩
   . by_cases hj:j=i
     . subst hj
       rw [hi] at e1; cases e1
       rw [List.getElem?_set_self hiσ] at e2
       cases e2
       exact ⟨u,r,.inr ⟨.inl hk,c,hc,hc'⟩⟩
     . rw [List.getElem?_set_ne (Ne.symm hj)] at e2
       obtain ⟨u',r',q⟩:=hl j y v' e1 e2 e3
       refine ⟨u',r',?_⟩
       rcases q with q | ⟨k,c',e,z'⟩
       . exact .inl q
       . refine .inr ⟨k,c',e,z'.sameBut hs ?_⟩
         rintro rfl
         exact hj (Bq hN e1 (I.ok.inj _ _ _ e hc▸hi))
   . by_cases hcc:c'=c
     . subst hcc; exact ⟨_,hc'⟩
     . obtain ⟨w2,z2⟩:=I.cell y c' e
       exact ⟨w2,z2.sameBut hs hcc⟩
   . obtain ⟨e,n,ne,nf,d⟩:=I.pin p hp
     refine ⟨(hs.2 p.1 ?_).trans e,n,ne,nf,d⟩
     intro q
     rw [q,hoc] at e
     have q':oc=p.2:=Option.some.inj e
     exact d w' (by rw [← q']; exact hocd)
theorem pZ {M:Model} {i:Nat} {x:Str} {v:V} {u:Value} {Q:Unit->Shared->Prop} (I:Inv X pins σ H s) (hN:X.N.Nodup) (hi:X.N[i]?=some x) (hx:Loc X.env.scope x) (r:RelV v u)
 (h:∀ s',Inv X pins (σ.set i (some v)) H s'->Q () s') (hf:X.fn x=true\/X.env.scope.names.lookup x=some .local:=by first | exact .inl rfl | exact .inr rfl | assumption):wpAny M A (storeName X.env x u) Q E s:=
 zx I hN hi hx r (fun s' I' _=>h s' I') hf
theorem Inv.call' {s':Shared} {ch:List Addr} (I:Inv X pins σ H s) (ho:s'.os=s.os) (u:Un (frs X.stack) ch H H' s.heap s'.heap) (hok:fY X.prog X.w H' s'.heap) (hg:AllBare s'.gens)
 (hch:∀ b∈ch,(b∈X.ex\/X.s₀.heap.objs.size<=b)/\b≠X.env.locals/\(∀ x c,X.env.cells.lookup x=some c->c≠b)/\∀ p∈X.pn++pins,p.1≠b):Inv X pins σ H' s':=by
 obtain ⟨h',g',d',t',o'⟩:=s'
 have e:o'=s.os:=ho
 subst e
 exact I.call (g':=g') (t':=t') (d':=d') u hok hg hch
end
noncomputable abbrev XK:=Value->Option Addr->Hp->Prop
noncomputable abbrev St:=List (Option V)
noncomputable abbrev VK:=V->Hp->Prop
noncomputable abbrev TE:=St->Hp->VK->Prop
noncomputable abbrev TT:=St->Hp->(Bool->Hp->Prop)->Prop
noncomputable abbrev TA:=St->Hp->(List V->Hp->Prop)->Prop
structure Ends where
 nx:St->Hp->Prop
 rt:VK
 bk:St->Hp->Prop:=fun _ _=>False
 ct:St->Hp->Prop:=fun _ _=>False
noncomputable abbrev TS:=Ends->St->Hp->Prop
noncomputable def EP (X:Cx) (pins:List (Addr×Obj)) (σ:St) (Q:VK) (u:Value) (s':Shared):Prop:=∃ v H',Inv X pins σ H' s'/\RelV v u/\Q v H'
noncomputable def TP (X:Cx) (pins:List (Addr×Obj)) (σ:St) (Q:Bool->Hp->Prop) (b:Bool) (s':Shared):Prop:=∃ H',Inv X pins σ H' s'/\Q b H'
noncomputable def AP (X:Cx) (pins:List (Addr×Obj)) (σ:St) (Q:List V->Hp->Prop) (us:List Value) (s':Shared):Prop:=∃ vs H',Inv X pins σ H' s'/\Vals vs us/\Q vs H'
noncomputable def SP (X:Cx) (pins:List (Addr×Obj)) (D:Ends) (f:Flow) (s':Shared):Prop:=
 match f with
 | .next=>∃ σ' H',Inv X pins σ' H' s'/\D.nx σ' H'
 | .brk=>∃ σ' H',Inv X pins σ' H' s'/\D.bk σ' H'
 | .cont=>∃ σ' H',Inv X pins σ' H' s'/\D.ct σ' H'
 | .ret u=>∃ v σ' H',Inv X pins σ' H' s'/\RelV v u/\D.rt v H'
noncomputable def PE (X:Cx) (e:Expr) (t:TE):Prop:=
 ∀ (pins:List (Addr×Obj)) (s:Shared) (σ:St) (H:Hp) (Q:VK),Inv X pins σ H s->t σ H Q->wpAny (model X.prog X.w) X.A (eval e X.env) (EP X pins σ Q) X.xe s
noncomputable def PT (X:Cx) (e:Expr) (t:TT):Prop:=
 ∀ (pins:List (Addr×Obj)) (s:Shared) (σ:St) (H:Hp) (Q:Bool->Hp->Prop),Inv X pins σ H s->t σ H Q->wpAny (model X.prog X.w) X.A (isTrue e X.env (eval e X.env)) (TP X pins σ Q) X.xe s
noncomputable def PW (X:Cx) (e:Expr) (t:TT):Prop:=
 ∀ (whole:Sem Value) (pins:List (Addr×Obj)) (s:Shared) (σ:St) (H:Hp) (Q:Bool->Hp->Prop),Inv X pins σ H s->t σ H Q->wpAny (model X.prog X.w) X.A (isTrue e X.env whole) (TP X pins σ Q) X.xe s
theorem PW.pt {X:Cx} {e:Expr} {t:TT} (h:PW X e t):PT X e t:=h _
noncomputable def PA (X:Cx) (es:List Expr) (t:TA):Prop:=
 ∀ (pos:Pos) (pins:List (Addr×Obj)) (s:Shared) (σ:St) (H:Hp) (Q:List V->Hp->Prop),Inv X pins σ H s->t σ H Q->wpAny (model X.prog X.w) X.A (spliced (backTo pos (starEach es X.env))) (AP X pins σ Q) X.xe s
noncomputable def PS (X:Cx) (st:Stmt) (t:TS):Prop:=
 ∀ (pins:List (Addr×Obj)) (s:Shared) (σ:St) (H:Hp) (D:Ends),Inv X pins σ H s->t D σ H->wpAny (model X.prog X.w) X.A (exec st X.env) (SP X pins D) X.xe s
noncomputable def dC (X:Cx) (st:List Stmt) (t:TS):Prop:=
 ∀ (pins:List (Addr×Obj)) (s:Shared) (σ:St) (H:Hp) (D:Ends),Inv X pins σ H s->t D σ H->wpAny (model X.prog X.w) X.A (execs st X.env) (SP X pins D) X.xe s
theorem bz {α:Type} {t:Sem α} {Q Q':α->Shared->Prop} {M:Model} (h:wpAny M A t Q E s) (hQ:∀ a s,Q a s->Q' a s):wpAny M A t Q' E s:=wpAny_mono h hQ fun _ _ x=>x
section
variable {X:Cx}
theorem bin {a b:Expr} {ta tb:TE} (ha:PE X a ta) (hb:PE X b tb) {σ:St} {H:Hp} {R:V->V->Hp->Prop} (I:Inv X pins σ H s) (h:ta σ H fun x H1=>tb σ H1 fun y H2=>R x y H2)
 {α:Type} {Q:α->Shared->Prop} {f:Value->Value->Sem α}
 (hf:∀ v u s2 x y H2,Inv X pins σ H2 s2->RelV x v->RelV y u->R x y H2->wpAny (model X.prog X.w) X.A (f v u) Q X.xe s2):
 wpAny (model X.prog X.w) X.A (eval a X.env) (fun v s₁=>wpAny (model X.prog X.w) X.A (eval b X.env) (fun u s₂=>wpAny (model X.prog X.w) X.A (f v u) Q X.xe s₂) X.xe s₁) X.xe s:=by
 refine bz (ha pins s σ H _ I h) fun v s1 ⟨x,H1,I1,r1,q1⟩=>?_
 refine bz (hb pins s1 σ H1 _ I1 q1) fun u s2 ⟨y,H2,I2,r2,q2⟩=>?_
 exact hf v u s2 x y H2 I2 r1 r2 q2
noncomputable def sH (i:Nat):TE:=fun σ H Q=>∃ v,σ[i]?=some (some v)/\Q v H
noncomputable def tC (v:V):TE:=fun _ H Q=>Q v H
theorem Q4 {i:Nat} {x:Str} {pos:Pos} (hN:X.N[i]?=some x) (hv:Iu X.env.scope x) (hd:(x==("__debug__" : Str))=false:=by decide) (hcd:(x==("__classdict__" : Str))=false:=by decide):PE X (.Name x pos) (sH i):=by
 intro pins s σ H Q I h
 obtain ⟨v,e,h⟩:=h
 obtain ⟨m,hn,hl⟩:=I.loc
 obtain ⟨u,r,l⟩:=hl i x v hN e hv
 have fin:EP X pins σ Q u s:=⟨v,H,I,r,h⟩
 rcases l with ⟨hk,hm⟩ | ⟨hk,c,hc,hcell⟩
 . exact wpAny_Name (wpAny_loadName_local I.ok.kind hk hn hm fin) hd
 . rcases hk with hk | hk
   . exact wpAny_Name (wpAny_loadName_cell I.ok.kind hk hc hcell fin) hd
   . exact wpAny_Name (wpAny_loadName_free I.ok.kind hk hc hcell fin hcd) hd
theorem Q5 {i j pos}:PE X (.Constant (.int i) j pos) (tC (.int i)):=fun _ _ _ H _ I h=>wpAny_Constant_int ⟨.int i,H,I.tok _,⟨_,rfl⟩,h⟩
theorem jC {b j pos}:PE X (.Constant (.bool b) j pos) (tC (.bl b)):=fun _ _ _ H _ I h=>Constant_bool ⟨.bl b,H,I,rfl,h⟩
theorem Q6 {j pos}:PE X (.Constant .none j pos) (tC .non):=fun _ _ _ H _ I h=>Constant_none ⟨.non,H,I,rfl,h⟩
theorem Iv {x j pos}:PE X (.Constant (.str x) j pos) (tC (.str x)):=fun _ _ _ H _ I h=>Calls.Constant_str ⟨.str x,H,I.tok _,⟨_,rfl⟩,h⟩
noncomputable def Gl (X:Cx) (x:Str):Prop:=X.env.kindOf x=some .globalImplicit
theorem rG {σ:St} {H:Hp} {x:Str} {u:Value} {pos:Pos} {Q:Value->Shared->Prop} (I:Inv X pins σ H s) (hg:Gl X x) (hm:X.mg x=some u) (h:Q u s)
 (hd:(x==("__debug__" : Str))=false:=by decide):wpAny (model X.prog X.w) X.A (eval (.Name x pos) X.env) Q E s:=
 Calls.Name_function_global I.ok.kind hg (Calls.loadGlobal_global (by rw [I.ok.glob]; exact I.mod.glob.keeps I.bk) hm h) hd
theorem wA {σ:St} {H:Hp} {x:Str} {u:Value} {pos:Pos} {Q:Value->Shared->Prop} (I:Inv X pins σ H s) (hg:Gl X x) (hm:X.mg x=none) (hv:bootBuiltins x=some u) (h:Q u s)
 (hn:x ≠ "__name__" := by decide) (hd:(x==("__debug__" : Str))=false:=by decide):wpAny (model X.prog X.w) X.A (eval (.Name x pos) X.env) Q E s:=by
 obtain ⟨mb,h1,h2⟩:=I.mod.blt
 exact Calls.Name_function_global I.ok.kind hg (Calls.loadGlobal_builtin (by rw [I.ok.glob]; exact I.mod.glob.keeps I.bk) hm (by rw [I.ok.blt]; exact h1.keeps I.bk) ((h2 x hn).trans hv) h) hd
theorem Ox {x:Str} {v:V} {u:Value} {pos:Pos} (hg:Gl X x) (hm:X.mg x=some u) (r:RelV v u) (hd:(x==("__debug__" : Str))=false:=by decide):PE X (.Name x pos) (tC v):=
 fun _ _ _ H _ I h=>rG I hg hm ⟨v,H,I,r,h⟩ hd
theorem Ep {x:Str} {v:V} {u:Value} {pos:Pos} (hg:Gl X x) (hm:X.mg x=none) (hv:bootBuiltins x=some u) (r:RelV v u) (hn:x ≠ "__name__" := by decide) (hd:(x==("__debug__" : Str))=false:=by decide):PE X (.Name x pos) (tC v):=
 fun _ _ _ H _ I h=>wA I hg hm hv ⟨v,H,I,r,h⟩ hn hd
variable {a b:Expr} {ta tb:TE} {pos:Pos}
variable {tA tB':TT} {rest:List Expr}
noncomputable def Q7 (t u:TT):TT:=fun σ H Q=>t σ H fun c H1=>if c=true then u σ H1 Q else Q false H1
noncomputable def Ve (t u:TT):TT:=fun σ H Q=>t σ H fun c H1=>if c=true then Q true H1 else u σ H1 Q
noncomputable def Vu (t:TT):TT:=fun σ H Q=>t σ H fun c H1=>Q (!c) H1
theorem Oz (ha:PT X a tA):PW X (.BoolOp .And [a] pos) tA:=by
 intro wh pins s σ H Q I h
 refine isTrue_and (bz (ha pins s σ H Q I h) fun c s1 e=>?_)
 cases c with
 | true=>exact isTrue_and_nil e
 | false=>exact e
theorem Q8 (ha:PT X a tA):PW X (.BoolOp .Or [a] pos) tA:=by
 intro wh pins s σ H Q I h
 refine isTrue_or (bz (ha pins s σ H Q I h) fun c s1 e=>?_)
 cases c with
 | false=>exact isTrue_or_nil e
 | true=>exact e
theorem Q9 (ha:PT X a tA) (hb:PW X (.BoolOp .And (b::rest) pos) tB'):PW X (.BoolOp .And (a::b::rest) pos) (Q7 tA tB'):=by
 intro wh pins s σ H Q I h
 refine isTrue_and (bz (ha pins s σ H _ I h) fun c s1 ⟨H1,I1,q1⟩=>?_)
 cases c with
 | true=>exact hb wh pins s1 σ H1 Q I1 q1
 | false=>exact ⟨H1,I1,q1⟩
theorem Uq (ha:PT X a tA) (hb:PW X (.BoolOp .Or (b::rest) pos) tB'):PW X (.BoolOp .Or (a::b::rest) pos) (Ve tA tB'):=by
 intro wh pins s σ H Q I h
 refine isTrue_or (bz (ha pins s σ H _ I h) fun c s1 ⟨H1,I1,q1⟩=>?_)
 cases c with
 | true=>exact ⟨H1,I1,q1⟩
 | false=>exact hb wh pins s1 σ H1 Q I1 q1
theorem Ra (ha:PT X a tA):PT X (.UnaryOp .Not a pos) (Vu tA):=by
 intro pins s σ H Q I h
 exact isTrue_not (ha pins s σ H (fun c H1=>Q (!c) H1) I h)
noncomputable def Ur (ta tb:TE):TE:=fun σ H Q=>ta σ H fun x H1=>∃ c,x=.bl c/\if c=true then tb σ H1 Q else Q (.bl false) H1
noncomputable def Vv (ta tb:TE):TE:=fun σ H Q=>ta σ H fun x H1=>∃ c,x=.bl c/\if c=true then Q (.bl true) H1 else tb σ H1 Q
theorem Rb {op} {t:TE} (h:PE X a t):PE X (.BoolOp op [a] pos) t:=fun pins s σ H Q I hw=>BoolOp_one (h pins s σ H Q I hw)
theorem Rc (ha:PE X a ta) (hb:PE X (.BoolOp .And (b::rest) pos) tb):PE X (.BoolOp .And (a::b::rest) pos) (Ur ta tb):=by
 intro pins s σ H Q I h
 refine BoolOp_and (bz (ha pins s σ H _ I h) fun v s1 ⟨x,H1,I1,r1,q1⟩=>?_)
 obtain ⟨c,rfl,q1⟩:=q1
 cases r1
 refine wpAny_truthy_bool ?_
 cases c with
 | true=>exact hb pins s1 σ H1 Q I1 q1
 | false=>exact ⟨.bl false,H1,I1,rfl,q1⟩
theorem Us (ha:PE X a ta) (hb:PE X (.BoolOp .Or (b::rest) pos) tb):PE X (.BoolOp .Or (a::b::rest) pos) (Vv ta tb):=by
 intro pins s σ H Q I h
 refine BoolOp_or (bz (ha pins s σ H _ I h) fun v s1 ⟨x,H1,I1,r1,q1⟩=>?_)
 obtain ⟨c,rfl,q1⟩:=q1
 cases r1
 refine wpAny_truthy_bool ?_
 cases c with
 | false=>exact hb pins s1 σ H1 Q I1 q1
 | true=>exact ⟨.bl true,H1,I1,rfl,q1⟩
end
noncomputable def b8 (K:FG) (H:Hp) (a:Addr) (xs:List V):Prop:=
 Rd H a (.lst xs)\/
  ∃ (o:Obj) (its:Array Value) (n:Nat),K.lookup a=some o/\o.cls=.type "list" /\ o.dict=none/\o.data=.seq its n/\its.size<=sizeLine/\Vals xs its.toList
noncomputable def dj (K:FG) (H:Hp) (a:Addr) (xs:List V):Prop:=
 Rd H a (.tup xs)\/
  ∃ (o:Obj) (its:Array Value) (n:Nat),K.lookup a=some o/\o.cls=.type "tuple" /\ o.data=.seq its n/\its.size<=sizeLine/\Vals xs its.toList
noncomputable def Vw:Value->Option V
 | .none=>some .non
 | .bool b=>some (.bl b)
 | .int i _=>some (.int i)
 | .str x _=>some (.str x)
 | .bytes b _=>some (.byt b)
 | .float b _=>some (.flt b)
 | .ref a=>some (.ref a)
 | .type n=>some (.ty n)
 | _=>none
theorem RelV.abs {x:V} {u:Value} (r:RelV x u):Vw u=some x:=by
 cases x with
 | non=>cases r; rfl
 | bl _=>cases r; rfl
 | int _=>obtain ⟨t,rfl⟩:=r; rfl
 | str _=>obtain ⟨t,rfl⟩:=r; rfl
 | byt _=>obtain ⟨t,rfl⟩:=r; rfl
 | flt _=>obtain ⟨t,rfl⟩:=r; rfl
 | ref _=>cases r; rfl
 | ty _=>cases r; rfl
theorem RelV.inj {x y:V} {u:Value} (r:RelV x u) (q:RelV y u):x=y:=Option.some.inj (r.abs.symm.trans q.abs)
theorem Vals.inj:∀ {xs ys:List V} {us:List Value},Vals xs us->Vals ys us->xs=ys
 | _,_,_,.nil,.nil=>rfl
 | _,_,_,.cons r t,.cons r' t'=>by rw [r.inj r',Vals.inj t t']
section
variable {X:Cx} {pins:List (Addr×Obj)} {σ:St} {H:Hp} {s:Shared} {a:Addr} {xs ys:List V}
theorem b8.of {K:FG} (h:H a=some (.lst xs)):b8 K H a xs:=.inl (.inl h)
theorem dj.of {K:FG} (h:H a=some (.tup xs)):dj K H a xs:=.inl (.inl h)
theorem Inv.list (I:Inv X pins σ H s) (h:b8 X.K H a xs):∃ its:List Value,Vals xs its/\PlainL s.heap a its.toArray/\xs.length<=sizeLine:=by
 rcases h with h | ⟨o,its,n,hk,hc,hd,hs,hz,r⟩
 . obtain ⟨z,its,n,r,e⟩:=h.ok I.hok
   exact ⟨its,r,⟨_,n,e,rfl,rfl,rfl⟩,z⟩
 . refine ⟨its.toList,r,⟨o,n,I.kIn a o hk,hc,hd,by simpa using hs⟩,?_⟩
   have e:=r.length
   simp only [Array.length_toList] at e
   omega
theorem Inv.tuple (I:Inv X pins σ H s) (h:dj X.K H a xs):∃ its:List Value,Vals xs its/\IsTup s.heap a its.toArray/\xs.length<=sizeLine:=by
 rcases h with h | ⟨o,its,n,hk,hc,hs,hz,r⟩
 . obtain ⟨z,its,r,p⟩:=h.ok I.hok
   exact ⟨its,r,p,z⟩
 . refine ⟨its.toList,r,⟨o,I.kIn a o hk,hc,n,by simpa using hs⟩,?_⟩
   have e:=r.length
   simp only [Array.length_toList] at e
   omega
theorem Inv.list_inj (I:Inv X pins σ H s) (h:b8 X.K H a xs) (h':b8 X.K H a ys):xs=ys:=by
 obtain ⟨its,r,⟨o,n,e,_,_,d⟩,_⟩:=I.list h
 obtain ⟨its',r',⟨o',n',e',_,_,d'⟩,_⟩:=I.list h'
 rw [e] at e'; cases e'
 rw [d] at d'
 injection d' with d1 _
 have:its=its':=by simpa using congrArg Array.toList d1
 subst this
 exact r.inj r'
theorem Inv.tuple_inj (I:Inv X pins σ H s) (h:dj X.K H a xs) (h':dj X.K H a ys):xs=ys:=by
 obtain ⟨its,r,⟨o,e,_,n,d⟩,_⟩:=I.tuple h
 obtain ⟨its',r',⟨o',e',_,n',d'⟩,_⟩:=I.tuple h'
 rw [e] at e'; cases e'
 rw [d] at d'
 injection d' with d1 _
 have:its=its':=by simpa using congrArg Array.toList d1
 subst this
 exact r.inj r'
end
noncomputable abbrev Cx.wish (X:Cx) (E:Value->Shared->Prop):Cx:={ X with xe:=E }
noncomputable abbrev Cx.nox (X:Cx):Cx:=X.wish fun _ _=>False
theorem Cx.Ok.wish {X:Cx} (ok:X.Ok) (E:Value->Shared->Prop):(X.wish E).Ok:=
 ⟨ok.mod,ok.kind,ok.glob,ok.blt,ok.above,ok.inj,ok.has,ok.cab,ok.hd,ok.frames,ok.stk,ok.exf,ok.bs,ok.bsz,ok.noex,ok.exfs,ok.funs,ok.frf⟩
theorem Cx.Ok.unwish {X:Cx} (ok:(X.wish E).Ok):X.Ok:=
 ⟨ok.mod,ok.kind,ok.glob,ok.blt,ok.above,ok.inj,ok.has,ok.cab,ok.hd,ok.frames,ok.stk,ok.exf,ok.bs,ok.bsz,ok.noex,ok.exfs,ok.funs,ok.frf⟩
section
variable {X:Cx} {pins:List (Addr×Obj)} {σ:St} {H:Hp} {s:Shared} {E:Value->Shared->Prop}
theorem Inv.wish (I:Inv X pins σ H s) (E:Value->Shared->Prop):Inv (X.wish E) pins σ H s:=⟨I.ok.wish E,I.os,I.bare,I.base,I.loc,I.cell,I.free,I.freeC,I.pin,I.hok,I.len⟩
theorem Inv.unwish (I:Inv (X.wish E) pins σ H s):Inv X pins σ H s:=⟨I.ok.unwish,I.os,I.bare,I.base,I.loc,I.cell,I.free,I.freeC,I.pin,I.hok,I.len⟩
theorem SP.unwish {D:Ends} {f:Flow} {s':Shared} (h:SP (X.wish E) pins D f s'):SP X pins D f s':=by
 cases f with
 | next=>obtain ⟨σ',H',I,q⟩:=h; exact ⟨σ',H',I.unwish,q⟩
 | brk=>obtain ⟨σ',H',I,q⟩:=h; exact ⟨σ',H',I.unwish,q⟩
 | cont=>obtain ⟨σ',H',I,q⟩:=h; exact ⟨σ',H',I.unwish,q⟩
 | ret u=>obtain ⟨v,σ',H',I,r,q⟩:=h; exact ⟨v,σ',H',I.unwish,r,q⟩
theorem dC.nox {st:List Stmt} {t:TS} (h:dC X.nox st t):dC X st t:=fun pins s σ H D I hw=>
 wpAny_mono (h pins s σ H D (I.wish _) hw) (fun _ _ q=>q.unwish) fun _ _ z=>False.elim z
end
section
variable {X:Cx} {st:Stmt} {rest:List Stmt} {t u:TS} {e:Expr} {te:TE} {pos:Pos}
noncomputable def Ut:TS:=fun D σ H=>D.nx σ H
noncomputable def Vx (t u:TS):TS:=fun D σ H=>t { D with nx:=u D } σ H
theorem Er:dC X [] Ut:=fun _ _ σ H _ I h=>wpAny_execs_nil ⟨σ,H,I,h⟩
theorem Br (h1:PS X st t) (h2:dC X rest u):dC X (st::rest) (Vx t u):=by
 intro pins s σ H D I h
 refine wpAny_execs_cons (bz (h1 pins s σ H { D with nx:=u D } I h) fun f s1 q=>?_)
 cases f with
 | next=>
  obtain ⟨σ',H',I',q⟩:=q
  exact h2 pins s1 σ' H' D I' q
 | ret v=>exact q
 | brk=>exact q
 | cont=>exact q
theorem Es (h1:PS X st t):dC X [st] t:=by
 intro pins s σ H D I h
 refine wpAny_execs_cons (bz (h1 pins s σ H D I h) fun f s1 q=>?_)
 cases f with
 | next=>exact wpAny_execs_nil q
 | ret v=>exact q
 | brk=>exact q
 | cont=>exact q
theorem Inv.quiet {σ:St} {H:Hp} (I:Inv X pins σ H s):interactive X.env=false:=by simp [interactive,I.ok.kind]
noncomputable def Nj (te:TE):TS:=fun D σ H=>te σ H fun _ H1=>D.nx σ H1
theorem yw (he:PE X e te) (hs:swapsWith e none pos.line X.env=pure false:=by rfl):PS X (.Expr e pos) (Nj te):=by
 intro pins s σ H D I h
 exact wpAny_Expr_any (bz (he pins s σ H _ I h) fun v s1 ⟨x,H1,I1,r1,q1⟩=>⟨σ,H1,I1,q1⟩) I.quiet hs
noncomputable def Vy (te:TE):TS:=fun D σ H=>te σ H D.rt
theorem Iw (he:PE X e te):PS X (.Return (some e) pos) (Vy te):=by
 intro pins s σ H D I h
 exact wpAny_Return_some (bz (he pins s σ H _ I h) fun v s1 ⟨x,H1,I1,r1,q1⟩=>⟨x,σ,H1,I1,r1,q1⟩)
noncomputable def Vz (c:TT) (t u:TS):TS:=fun D σ H=>c σ H fun b H1=>if b=true then t D σ H1 else u D σ H1
theorem Nk {c:Expr} {a b:List Stmt} {tc:TT} (hc:PT X c tc) (ha:dC X a t) (hb:dC X b u):PS X (.If c a b pos) (Vz tc t u):=by
 intro pins s σ H D I h
 refine wpAny_If (bz (hc pins s σ H _ I h) fun d s1 ⟨H1,I1,q1⟩=>?_)
 cases d with
 | true=>exact ha pins s1 σ H1 D I1 q1
 | false=>exact hb pins s1 σ H1 D I1 q1
end
noncomputable abbrev TG:=V->St->Hp->(St->Hp->Prop)->Prop
noncomputable abbrev tX:=List V->St->Hp->(St->Hp->Prop)->Prop
noncomputable def PG (X:Cx) (target:Expr) (t:TG):Prop:=
 ∀ (pins:List (Addr×Obj)) (s:Shared) (σ:St) (H:Hp) (v:V) (u:Value) (Q:St->Hp->Prop),Inv X pins σ H s->RelV v u->t v σ H Q->
  wpAny (model X.prog X.w) X.A (assign target X.env u) (fun _ s'=>∃ σ' H',Inv X pins σ' H' s'/\Q σ' H') X.xe s
noncomputable def Iz (X:Cx) (ts:List Expr) (t:tX):Prop:=
 ∀ (pins:List (Addr×Obj)) (s:Shared) (σ:St) (H:Hp) (vs:List V) (us:List Value) (Q:St->Hp->Prop),Inv X pins σ H s->Vals vs us->t vs σ H Q->
  wpAny (model X.prog X.w) X.A (assignInOrder ((assignEach ts X.env).map (·.2)) us) (fun _ s'=>∃ σ' H',Inv X pins σ' H' s'/\Q σ' H') X.xe s
noncomputable abbrev Ky:=V->V->V->Hp->(Hp->Prop)->Prop
noncomputable def Kz (X:Cx) (t:Ky):Prop:=
 ∀ (pins:List (Addr×Obj)) (s:Shared) (σ:St) (H:Hp) (o i v:V) (ov iv u:Value) (Q:Hp->Prop),Inv X pins σ H s->RelV o ov->RelV i iv->RelV v u->t o i v H Q->
  wpAny (model X.prog X.w) X.A (setItem ov iv u) (fun _ s'=>∃ H',Inv X pins σ H' s'/\Q H') X.xe s
section
variable {X:Cx} {pos:Pos}
noncomputable def wB (i:Nat):TG:=fun v σ H Q=>Q (σ.set i (some v)) H
theorem mK {i:Nat} {x:Str} (hN:X.N.Nodup) (hi:X.N[i]?=some x) (hx:Loc X.env.scope x) (hf:X.fn x=true\/X.env.scope.names.lookup x=some .local:=by first | exact .inl rfl | exact .inr rfl | assumption):PG X (.Name x pos) (wB i):=by
 intro pins s σ H v u Q I r h
 exact wpAny_assign_Name (pZ I hN hi hx r (fun s' I'=>⟨_,H,I',h⟩) hf)
noncomputable def Rf:tX:=fun vs σ H Q=>vs=[]/\Q σ H
noncomputable def Nm (t:TG) (u:tX):tX:=fun vs σ H Q=>∃ v r,vs=v::r/\t v σ H fun σ' H'=>u r σ' H' Q
theorem nT:Iz X [] Rf:=by
 intro pins s σ H vs us Q I r h
 obtain ⟨e,h⟩:=h
 subst e
 cases r
 exact assignInOrder_nil ⟨σ,H,I,h⟩
theorem eZ {e:Expr} {es:List Expr} {t:TG} {u:tX} (h1:PG X e t) (h2:Iz X es u)
 (hs:(assignEach (e::es) X.env).map (·.2)=assign e X.env::(assignEach es X.env).map (·.2):=by rfl):Iz X (e::es) (Nm t u):=by
 intro pins s σ H vs us Q I r h
 obtain ⟨v,vr,e1,h⟩:=h
 subst e1
 cases r with
 | cons r rr=>
  rw [hs]
  refine assignInOrder_cons (bz (h1 pins s σ H _ _ _ I r h) fun _ s1 ⟨σ1,H1,I1,q1⟩=>?_)
  exact h2 pins s1 σ1 H1 _ _ Q I1 rr q1
noncomputable def VB (K:FG) (n:Nat) (t:tX):TG:=fun v σ H Q=>∃ a xs,v=.ref a/\dj K H a xs/\xs.length=n/\t xs σ H Q
theorem Rh {es:List Expr} {k:Nat} {t:tX} {n:Nat} (hc:X.calm=true) (h:Iz X es t)
 (hn:(assignEach es X.env).length=n:=by rfl) (hst:(assignEach es X.env).findIdx? (·.1)=none:=by rfl):PG X (.Tuple es k pos) (VB X.K n t):=by
 intro pins s σ H v u Q I r hw
 obtain ⟨a,xs,e1,hq,hl,hw⟩:=hw
 subst e1
 cases r
 obtain ⟨its,rv,ht,hz⟩:=I.tuple hq
 refine assign_Tuple_tuple (I.ok.hd hc) ht (by simp [hn,← hl,rv.length]) hst fun h' hx=>?_
 have I1:Inv X pins σ H { s with heap:=h' }:=I.kept (t':=s.toks) fun b o e=>hx b o (Nat.ne_of_lt (Heap.lt_size e)) e
 exact h pins _ σ H xs _ Q I1 (by simpa using rv) hw
noncomputable def Bs (to ti:TE) (t:Ky):TG:=fun v σ H Q=>to σ H fun o H1=>ti σ H1 fun i H2=>t o i v H2 fun H3=>Q σ H3
theorem t6 {o i:Expr} {to ti:TE} {t:Ky} (ho:PE X o to) (hi:PE X i ti) (hs:Kz X t)
 (ha:∀ v,assign (.Subscript o i pos) X.env v=(do
   let ov ← holding [v] (eval o X.env)
   let iv ← holding [v,ov] (eval i X.env)
   standAt pos
   holding [v,ov,iv] (setItem ov iv v)
   release [v,ov,iv] []):=by intro _; rfl):PG X (.Subscript o i pos) (Bs to ti t):=by
 intro pins s σ H v u Q I r h
 rw [ha]
 refine wpAny_bind (wpAny_holding (bz (ho pins s σ H _ I h) fun ov s1 ⟨x,H1,I1,r1,q1⟩=>?_))
 refine wpAny_bind (wpAny_holding (bz (hi pins s1 σ H1 _ I1 q1) fun iv s2 ⟨y,H2,I2,r2,q2⟩=>?_))
 refine wpAny_bind (wpAny_standAt (wpAny_bind (wpAny_holding (bz (hs pins s2 σ H2 x y v ov iv u _ I2 r1 r2 r q2) fun _ s3 ⟨H3,I3,q3⟩=>?_))))
 exact wpAny_release ⟨σ,H3,I3,q3⟩
noncomputable def vP (te:TE) (g:TG):TS:=fun D σ H=>te σ H fun x H1=>g x σ H1 D.nx
theorem t7 {tg e:Expr} {te:TE} {g:TG} (he:PE X e te) (hg:PG X tg g) (hs:swapsWithSole [tg] e pos.line X.env=pure false:=by rfl) (hw:swappedStores [tg] e X.env=pure none:=by rfl)
 (h1:(assignEach [tg] X.env).map (·.2)=[assign tg X.env]:=by rfl):PS X (.Assign [tg] e pos) (vP te g):=by
 intro pins s σ H D I h
 refine wpAny_Assign_stores (bz (he pins s σ H _ I h) fun v s1 ⟨x,H1,I1,r1,q1⟩=>?_) hs hw
 rw [h1]
 exact bz (hg pins s1 σ H1 x v _ I1 r1 q1) fun _ s2 q=>q
theorem Ri {i:Nat} {x:Str} {e:Expr} {te:TE} {pos':Pos} (hN:X.N.Nodup) (hi:X.N[i]?=some x) (hx:Loc X.env.scope x) (he:PE X e te) (hs:swapsWith e (some (.Name x pos')) pos.line X.env=pure false:=by rfl) (hf:X.fn x=true\/X.env.scope.names.lookup x=some .local:=by first | exact .inl rfl | exact .inr rfl | assumption):
 PS X (.Assign [.Name x pos'] e pos) (vP te (wB i)):=by
 intro pins s σ H D I h
 refine wpAny_Assign_Name (bz (he pins s σ H _ I h) fun v s1 ⟨y,H1,I1,r1,q1⟩=>?_) hs
 exact pZ I1 hN hi hx r1 (fun s2 I2=>⟨_,H1,I2,q1⟩) hf
noncomputable def Rj (i j:Nat) (ta:TA):TS:=fun D σ H=>ta σ H fun vs H1=>∃ v w,vs=[v,w]/\D.nx ((σ.set i (some v)).set j (some w)) H1
theorem Rk {i j:Nat} {x y:Str} {a b:Expr} {ta:TA} {px py pt:Pos} {kt k2 pt2} (hc:X.calm=true) (hN:X.N.Nodup) (hi:X.N[i]?=some x) (hj:X.N[j]?=some y) (hij:i≠j)
 (hx:X.env.scope.names.lookup x=some .local) (hy:X.env.scope.names.lookup y=some .local) (ha:PA X [a,b] ta)
 (hw:swappedStores [.Tuple [.Name x px,.Name y py] kt pt] (.Tuple [a,b] k2 pt2) X.env=pure (some [x,y]))
 (hs:swapsWithSole [.Tuple [.Name x px,.Name y py] kt pt] (.Tuple [a,b] k2 pt2) pos.line X.env=pure false:=by rfl):
 PS X (.Assign [.Tuple [.Name x px,.Name y py] kt pt] (.Tuple [a,b] k2 pt2) pos) (Rj i j ta):=by
 intro pins s σ H D I h
 rw [exec_Assign_arm]
 refine wpAny_bind (wpAny_standAt ?_)
 rw [hs]
 refine wpAny_bind (wpAny_pure ?_)
 rw [if_neg (by decide)]
 refine wpAny_bind (Tuple_ (bz (ha _ pins s σ H _ I h) fun us s1 ⟨vs,H1,I1,r1,q1⟩=>?_))
 obtain ⟨v,w,e1,q1⟩:=q1
 subst e1
 obtain ⟨u1,u2,rfl,rv,rw'⟩:∃ u1 u2,us=[u1,u2]/\RelV v u1/\RelV w u2:=by
  cases r1 with
  | cons p q=>
   cases q with
   | cons p' q'=>
    cases q'
    exact ⟨_,_,rfl,p,p'⟩
 refine wpAny_newObj_type ?_ (by show 2<=sizeLine; decide)
 have I2:Inv X pins σ H1 { s1 with heap:=s1.heap.push { cls:=.type "tuple",data:=.seq [u1,u2].toArray } }:=I1.kept (t':=s1.toks) fun b o e=>Heap.get?_push_of_some _ e
 rw [hw]
 refine wpAny_bind (wpAny_pure ?_)
 show wpAny (model X.prog X.w) X.A (do rule "assign.swapped-stores"; let items ← unpackItems (.ref s1.heap.objs.size) 2 none; assignInOrder [fun v=>bindName X.env y v,fun v=>bindName X.env x v] items.reverse; pure Flow.next) _ _ _
 refine wpAny_bind (wpAny_rule (wpAny_bind (unpackItems_tuple (items:=#[u1,u2]) (I.ok.hd hc) (IsTup.new s1.heap _) fun h' hx'=>?_)))
 have I3:=I2.kept (h':=h') (t':=s1.toks) fun b o e=>hx' b o (Nat.ne_of_lt (Heap.lt_size e)) e
 show wpAny _ _ (assignInOrder [fun v=>bindName X.env y v,fun v=>bindName X.env x v] [u2,u1] >>= fun _=>pure Flow.next) _ _ _
 refine wpAny_bind (assignInOrder_cons (wpAny_bindName (pZ I3 hN hj (.inl hy) rw' (fun s2 I4=>?_) (.inr hy))))
 refine assignInOrder_cons (wpAny_bindName (pZ I4 hN hi (.inl hx) rv (fun s3 I5=>assignInOrder_nil (wpAny_pure ?_)) (.inr hx)))
 rw [List.set_comm _ _ (Ne.symm hij)] at I5
 exact ⟨_,H1,I5,q1⟩
noncomputable def Rm (c:TT) (tb:TS):TS:=fun D σ H=>∃ W:Nat->St->Hp->Prop,(∃ m,W m σ H)/\∀ m σ H,W m σ H->
 c σ H fun b H1=>if b=true then ∃ N:St->Hp->Prop,(∀ σ' H',N σ' H'->∃ m',m'<m/\W m' σ' H')/\tb { D with nx:=N,ct:=N,bk:=D.nx } σ H1 else D.nx σ H1
theorem KC {c:Expr} {body:List Stmt} {tc:TT} {tb:TS} (hp:PassesOwn (model X.prog X.w) X.A X.env X.xe) (hc:PT X c tc) (hb:dC X body tb):PS X (.While c body [] pos) (Rm tc tb):=by
 intro pins s σ H D I h
 obtain ⟨W,⟨m0,w0⟩,turn⟩:=h
 refine wpAny_While (codeAny_whileLoop (fun n s'=>∃ σ' H',Inv X pins σ' H' s'/\W n σ' H') ?_ m0 ⟨σ,H,I,w0⟩)
 rintro n s1 ⟨σ1,H1,I1,w1⟩
 refine wpAny_passesOwn hp (bz (hc pins s1 σ1 H1 _ I1 (turn n σ1 H1 w1)) fun b s2 ⟨H2,I2,q2⟩=>?_)
 cases b with
 | true=>
  obtain ⟨N,hN,q2⟩:=q2
  rw [if_pos rfl]
  refine wpAny_passesOwn hp (bz (hb pins s2 σ1 H2 _ I2 q2) fun f s3 q3=>?_)
  cases f with
  | next=>
   obtain ⟨σ3,H3,I3,n3⟩:=q3
   obtain ⟨m',hm,w3⟩:=hN σ3 H3 n3
   exact ⟨m',hm,σ3,H3,I3,w3⟩
  | cont=>
   obtain ⟨σ3,H3,I3,n3⟩:=q3
   obtain ⟨m',hm,w3⟩:=hN σ3 H3 n3
   exact ⟨m',hm,σ3,H3,I3,w3⟩
  | brk=>exact q3
  | ret v=>exact q3
 | false=>
  rw [if_neg Bool.false_ne_true]
  exact wpAny_execs_nil ⟨σ1,H2,I2,q2⟩
end
structure It where
 go:Nat->Hp->Prop
 yld:Nat->Hp->V->Hp->Prop
 stop:Nat->Hp->Prop
noncomputable def m8 (X:Cx) (pins:List (Addr×Obj)) (H:Hp) (b:Addr):Prop:=
 H b=none/\b≠X.env.locals/\b∉X.fs/\(b∈X.ex\/X.s₀.heap.objs.size<=b)/\(∀ x c,X.env.cells.lookup x=some c->c≠b)/\∀ p∈X.pn++pins,p.1≠b
theorem Inv.fpOk {X:Cx} {σ:St} {H H':Hp} {b:Addr} (I:Inv X pins σ H s) (hb:s.heap.objs.size<=b) (hn:H' b=none):m8 X pins H' b:=by
 refine ⟨hn,Nat.ne_of_gt (Nat.lt_of_lt_of_le I.lt hb),I.nofs hb,.inr (Nat.le_trans I.sz hb),fun x c e z=>?_,fun p hp z=>?_⟩
 . obtain ⟨v,q⟩:=I.cell x c e
   exact absurd (Nat.lt_of_lt_of_le q.lt (by rw [z]; exact hb)) (Nat.lt_irrefl _)
 . exact absurd (Nat.lt_of_lt_of_le (Heap.lt_size (I.pin p hp).1) (by rw [z]; exact hb)) (Nat.lt_irrefl _)
structure Turn (P:Program) (w:World) (K:FG) (tg:Expr) (J:It) (fp:List Addr) (it:Addr) (tn:Nat->Heap->Prop):Prop where
 mem:it∈fp
 obj:∀ i h,tn i h->∀ b∈fp,∃ o,h.get? b=some o/\∀ v,o.data≠.cell v
 keep:∀ i h h',tn i h->(∀ b∈fp,∀ o,h.get? b=some o->h'.get? b=some o)->tn i h'
 item:∀ (X:Cx),X.prog=P->X.w=w->X.K=K->X.calm=true->∀ (i:Nat) (pins:List (Addr×Obj)) (s:Shared) (σ:St) (H:Hp) (E:Value->Shared->Prop),Inv X pins σ H s->(∀ b∈fp,m8 X pins H b)->tn i s.heap->J.go i H->
  wpAny (model P w) X.A (pyNext (.ref it)) (fun r s1=>∃ u,r=some u/\
   wpAny (model P w) X.A (letOwnedTupleGo tg (.ref it) u) (fun _ s2=>∃ x H',Inv X pins σ H' s2/\RelV x u/\J.yld i H x H'/\tn (i+1) s2.heap/\∀ b∈fp,H' b=none) E s1) E s
 done:∀ (X:Cx),X.prog=P->X.w=w->X.K=K->X.calm=true->∀ (i:Nat) (pins:List (Addr×Obj)) (s:Shared) (σ:St) (H:Hp) (E:Value->Shared->Prop),Inv X pins σ H s->(∀ b∈fp,m8 X pins H b)->tn i s.heap->J.stop i H->
  wpAny (model P w) X.A (pyNext (.ref it)) (fun r s1=>r=none/\Inv X pins σ H s1) E s
 self:∀ (A:Around) (i:Nat) (s:Shared) (Q:Value->Shared->Prop) (E:Value->Shared->Prop),tn i s.heap->Q (.ref it) s->wpAny (model P w) A (pyIter (.ref it)) Q E s
noncomputable abbrev TI:=St->Hp->(It->Hp->Prop)->Prop
noncomputable def PIE (X:Cx) (pins:List (Addr×Obj)) (σ:St) (tg:Expr) (R:It->Hp->Prop) (itv:Value) (s2:Shared):Prop:=
 ∃ (it:Addr) (fp:List Addr) (tn:Nat->Heap->Prop) (J:It) (H':Hp),itv=.ref it/\Inv X pins σ H' s2/\Turn X.prog X.w X.K tg J fp it tn/\tn 0 s2.heap/\(∀ b∈fp,m8 X pins H' b)/\R J H'
noncomputable def PI (X:Cx) (tg iter:Expr) (wi:TI):Prop:=
 ∀ (pins:List (Addr×Obj)) (s:Shared) (σ:St) (H:Hp) (R:It->Hp->Prop),Inv X pins σ H s->wi σ H R->
  wpAny (model X.prog X.w) X.A (eval iter X.env) (fun v s1=>wpAny (model X.prog X.w) X.A (pyIter v) (PIE X pins σ tg R) X.xe s1) X.xe s
theorem Bd {M:Model} {tg:Expr} {it:Addr} {u:Value} {o:Obj} {n:String} {vs:Array Value} {Q:Unit->Shared->Prop} (ho:s.heap.get? it=some o) (hc:o.cls=.type n) (hd:o.data=.fields vs)
 (hn:["enumerate", "zip", "dict_itemiterator", "dict_reverseitemiterator", "odict_iterator", "itertools.zip_longest", "itertools.pairwise"].contains n=false) (hQ:Q () s):wpAny M A (letOwnedTupleGo tg (.ref it) u) Q E s:=by
 unfold letOwnedTupleGo
 cases tg<;>first
  | exact wpAny_pure hQ
  | (cases u<;>first
      | exact wpAny_pure hQ
      | (refine wpAny_bind (wpAny_load ho ?_)
         rw [hc,hd]
         show wpAny M A (if (["enumerate", "zip", "dict_itemiterator", "dict_reverseitemiterator", "odict_iterator", "itertools.zip_longest", "itertools.pairwise"].contains n&&vs[0]?==some (rawInt _))=true then _ else _) Q E s
         rw [if_neg (by intro h; rw [hn,Bool.false_and] at h; cases h)]
         exact wpAny_pure hQ))
noncomputable def Np (K:FG) (a:Addr):It:=
 ⟨fun i H=>∃ xs x,b8 K H a xs/\xs[i]?=some x,fun i H x H'=>H'=H/\∀ xs,b8 K H a xs->xs[i]?=some x,fun i H=>∃ xs,b8 K H a xs/\xs.length<=i⟩
noncomputable def Nq (K:FG) (a:Addr):It:=
 ⟨fun i H=>∃ xs x,dj K H a xs/\xs[i]?=some x,fun i H x H'=>H'=H/\∀ xs,dj K H a xs->xs[i]?=some x,fun i H=>∃ xs,dj K H a xs/\xs.length<=i⟩
noncomputable def Nr (lo:Int) (n:Nat):It:=⟨fun i _=>i<n,fun i H x H'=>H'=H/\x=.int (lo+i),fun i _=>n<=i⟩
theorem IK {K:FG} {tg:Expr} (a it:Addr):Turn P w K tg (Np K a) [it] it (fun i h=>h.IsListIter it a i) where
 mem:=by simp
 obj:=fun i h st b hb=>by
  have e:b=it:=by simpa using hb
  subst e
  obtain ⟨o,e,c,d⟩:=st
  exact ⟨o,e,fun v z=>by rw [d] at z; cases z⟩
 keep:=fun i h h' st k=>st.at fun o e=>k it (by simp) o e
 item:=by
  intro X hP hw hK hc i pins s σ H E I hf st hg
  subst hP hw hK
  obtain ⟨xs,x,hq,hx⟩:=hg
  obtain ⟨its,rv,p,hz⟩:=I.list hq
  obtain ⟨u,hu,ru⟩:=rv.get hx
  obtain ⟨f0,f1,f2,f3,f4,f5⟩:=hf it (by simp)
  refine wpAny_pyNext_list_item st p.isList (x:=u) (by simpa using hu) fun h' st' sb=>?_
  have I1:Inv X pins σ H { s with heap:=h' }:=I.turned (t':=s.toks) (fun b o hb e=>(sb.2 b hb).trans e) f0 f1 f3 f4 f5
  obtain ⟨o,e,c,d⟩:=id st'
  exact ⟨u,rfl,Bd (s:={ s with heap:=h' }) e c d (by decide) ⟨x,H,I1,ru,⟨rfl,fun ys hy=>by rw [I.list_inj hy hq]; exact hx⟩,st',fun b hb=>(hf b hb).1⟩⟩
 done:=by
  intro X hP hw hK hc i pins s σ H E I hf st hg
  subst hP hw hK
  obtain ⟨xs,hq,hx⟩:=hg
  obtain ⟨its,rv,p,hz⟩:=I.list hq
  obtain ⟨f0,f1,f2,f3,f4,f5⟩:=hf it (by simp)
  have hl:=rv.length
  exact wpAny_pyNext_list_end (I.ok.hd hc) st p.isList (by simp; omega) fun h' eb=>⟨rfl,I.turned (t':=s.toks) (fun b o hb e=>eb b o hb e) f0 f1 f3 f4 f5⟩
 self:=fun _ _ _ _ _ st h=>wpAny_pyIter_listiter st h
theorem Gy {K:FG} {tg:Expr} (a it:Addr):Turn P w K tg (Nq K a) [it] it (fun i h=>h.IsTupleIter it a i) where
 mem:=by simp
 obj:=fun i h st b hb=>by
  have e:b=it:=by simpa using hb
  subst e
  obtain ⟨o,e,c,d⟩:=st
  exact ⟨o,e,fun v z=>by rw [d] at z; cases z⟩
 keep:=fun i h h' st k=>st.at fun o e=>k it (by simp) o e
 item:=by
  intro X hP hw hK hc i pins s σ H E I hf st hg
  subst hP hw hK
  obtain ⟨xs,x,hq,hx⟩:=hg
  obtain ⟨its,rv,p,hz⟩:=I.tuple hq
  obtain ⟨u,hu,ru⟩:=rv.get hx
  obtain ⟨f0,f1,f2,f3,f4,f5⟩:=hf it (by simp)
  refine wpAny_pyNext_tuple_item st (show s.heap.IsTuple a its.toArray from p) (x:=u) (by simpa using hu) fun h' st' sb=>?_
  have I1:Inv X pins σ H { s with heap:=h' }:=I.turned (t':=s.toks) (fun b o hb e=>(sb.2 b hb).trans e) f0 f1 f3 f4 f5
  obtain ⟨o,e,c,d⟩:=id st'
  exact ⟨u,rfl,Bd (s:={ s with heap:=h' }) e c d (by decide) ⟨x,H,I1,ru,⟨rfl,fun ys hy=>by rw [I.tuple_inj hy hq]; exact hx⟩,st',fun b hb=>(hf b hb).1⟩⟩
 done:=by
  intro X hP hw hK hc i pins s σ H E I hf st hg
  subst hP hw hK
  obtain ⟨xs,hq,hx⟩:=hg
  obtain ⟨its,rv,p,hz⟩:=I.tuple hq
  obtain ⟨f0,f1,f2,f3,f4,f5⟩:=hf it (by simp)
  have hl:=rv.length
  exact wpAny_pyNext_tuple_end (I.ok.hd hc) st (show s.heap.IsTuple a its.toArray from p) (by simp; omega) fun h' eb=>⟨rfl,I.turned (t':=s.toks) (fun b o hb e=>eb b o hb e) f0 f1 f3 f4 f5⟩
 self:=fun _ _ _ _ _ st h=>wpAny_pyIter_tupleiter st h
theorem Gz {K:FG} {tg:Expr} (it:Addr) (lo:Int) (n:Nat):Turn P w K tg (Nr lo n) [it] it (fun i h=>IsRangeIter h it (lo+(i:Nat)*1) ((n:Int)-(i:Nat)) 1) where
 mem:=by simp
 obj:=fun i h st b hb=>by
  have e:b=it:=by simpa using hb
  subst e
  exact ⟨_,st,fun v z=>by
   have z':Data.fields _=Data.cell v:=z
   cases z'⟩
 keep:=fun i h h' st k=>k it (by simp) _ st
 item:=by
  intro X hP hw hK hc i pins s σ H E I hf st hg
  subst hP hw hK
  obtain ⟨f0,f1,f2,f3,f4,f5⟩:=hf it (by simp)
  have W:=Walks.range (prog:=X.prog) (w:=X.w) (I.ok.hd hc) it lo 1 n
  refine W.item i s _ _ hg st fun v h' tk hv st' kk=>?_
  obtain ⟨t,rfl⟩:=hv
  have I1:Inv X pins σ H { s with heap:=h',toks:=tk }:=I.turned (fun b o hb e=>kk b o (by simpa using hb) e) f0 f1 f3 f4 f5
  refine ⟨_,rfl,Bd (s:={ s with heap:=h',toks:=tk }) (n := "range_iterator") st' rfl rfl (by decide) ⟨.int (lo+i),H,I1,⟨t,?_⟩,⟨rfl,rfl⟩,st',fun b hb=>(hf b hb).1⟩⟩
  rw [Int.mul_one]
 done:=by
  intro X hP hw hK hc i pins s σ H E I hf st hg
  subst hP hw hK
  obtain ⟨f0,f1,f2,f3,f4,f5⟩:=hf it (by simp)
  exact wpAny_pyNext_range_end (I.ok.hd hc) st (by have:n<=i:=hg; omega) fun h' eb=>⟨rfl,I.turned (t':=s.toks) (fun b o hb e=>eb b o hb e) f0 f1 f3 f4 f5⟩
 self:=fun _ _ _ _ _ st h=>wpAny_pyIter_rangeiter st h
section
variable {X:Cx} {tg:Expr}
theorem KD {σ:St} {H:Hp} {R:It->Hp->Prop} {lo hi:Int} {t u v:Tok} {tk:Nat} (I:Inv X pins σ H s) (h1:-(2 ^ 62)<=lo) (h2:lo<2 ^ 62) (h3:-(2 ^ 62)<=hi) (h4:hi<2 ^ 62)
 (q:R (Nr lo (hi-lo).toNat) H):wpAny (model X.prog X.w) X.A (pyIter (.ref s.heap.objs.size)) (PIE X pins σ tg R) E { s with heap:=s.heap.push { cls:=.type "range",data:=.fields #[.int lo t,.int hi u,.int 1 v] },toks:=tk }:=by
 refine wpAny_pyIter_range (IsRange.new ..) (small_one h1 h2 h3 h4) ?_
 have I1:Inv X pins σ H { s with heap:=s.heap.push { cls:=.type "range",data:=.fields #[.int lo t,.int hi u,.int 1 v] },toks:=tk }:=I.kept fun b o e=>Heap.get?_push_of_some _ e
 refine ⟨(s.heap.push { cls:=.type "range",data:=.fields #[.int lo t,.int hi u,.int 1 v] }).objs.size,[(s.heap.push { cls:=.type "range",data:=.fields #[.int lo t,.int hi u,.int 1 v] }).objs.size],_,_,H,rfl,
  I1.kept (t':=tk) fun b o e=>Heap.get?_push_of_some _ e,Gz _ lo (hi-lo).toNat,?_,fun b hb=>?_,q⟩
 . have e1:lo+((0:Nat):Int)*1=lo:=by simp
   have e2:(((hi-lo).toNat:Nat):Int)-((0:Nat):Int)=Builtin.Range.rangeSize lo hi 1:=by rw [rangeSize_one]; split<;>omega
   show IsRangeIter _ _ (lo+((0:Nat):Int)*1) ((((hi-lo).toNat:Nat):Int)-((0:Nat):Int)) 1
   rw [e1,e2]
   exact Heap.get?_push_size _ rfl
 . have e:b=(s.heap.push { cls:=.type "range",data:=.fields #[.int lo t,.int hi u,.int 1 v] }).objs.size:=by simpa using hb
   subst e
   exact I1.fpOk (Nat.le_refl _) (I1.hok.fresh (Nat.le_refl _))
noncomputable def Uu (ta:TA):TI:=fun σ H R=>ta σ H fun vs H1=>∃ j:Int,vs=[.int j]/\-(2 ^ 62)<=j/\j<2 ^ 62/\R (Nr 0 j.toNat) H1
theorem IV {a:Expr} {ta:TA} {p pos:Pos} (hg:Gl X "range") (hm:X.mg "range" = none) (ha:PA X [a] ta) (hs:starEach [a] X.env=[(false,eval a X.env)]:=by rfl):PI X tg (.Call (.Name "range" p) [a] [] pos) (Uu ta):=by
 intro pins s σ H R I h
 refine Call_ (wA I hg hm boot_range (PyProof.Rows.callWith_type1 (bz (ha pos pins s σ H _ I h) fun us s1 ⟨vs,H1,I1,r1,q1⟩=>?_) hs rfl))
 obtain ⟨j,e,q1,q2,q⟩:=q1
 subst e
 cases r1 with
 | cons r rr=>
  cases rr
  obtain ⟨t,rfl⟩:=r
  exact call_range_1 (KD I1 (by omega) (by omega) q1 q2 (by simpa using q))
noncomputable def VD (wi:TI) (g:TG) (tb:TS):TS:=fun D σ H=>wi σ H fun J H1=>∃ W:Nat->Nat->St->Hp->Prop,(∃ m,W 0 m σ H1)/\∀ i m σ H,W i m σ H->
 (J.stop i H/\D.nx σ H)\/(J.go i H/\∃ N:St->Hp->Prop,(∀ σ' H',N σ' H'->∃ m',m'<m/\W (i+1) m' σ' H')/\∀ x H',J.yld i H x H'->g x σ H' fun σ2 H2=>tb { D with nx:=N,ct:=N,bk:=D.nx } σ2 H2)
noncomputable def uc (fp:List Addr) (h:Heap):List (Addr×Obj):=fp.filterMap fun b=>(h.get? b).map fun o=>(b,o)
theorem sI {fp:List Addr} {h:Heap} {b:Addr} {o:Obj} (hb:b∈fp) (e:h.get? b=some o):(b,o)∈uc fp h:=List.mem_filterMap.mpr ⟨b,hb,by rw [e]; rfl⟩
theorem IW {fp:List Addr} {h:Heap} {p:Addr×Obj} (hp:p∈uc fp h):p.1∈fp/\h.get? p.1=some p.2:=by
 obtain ⟨b,hb,e⟩:=List.mem_filterMap.mp hp
 cases q:h.get? b with
 | none=>rw [q] at e; cases e
 | some o=>
  rw [q] at e
  have e':(b,o)=p:=Option.some.inj e
  subst e'
  exact ⟨hb,q⟩
theorem Inv.pinned {σ:St} {H:Hp} {fp:List Addr} (I:Inv X pins σ H s) (hf:∀ b∈fp,m8 X pins H b) (ho:∀ b∈fp,∃ o,s.heap.get? b=some o/\∀ v,o.data≠.cell v):Inv X (pins++uc fp s.heap) σ H s:=
 I.pins_of fun p hp=>(List.mem_append.mp hp).elim (fun z=>I.pin p (List.mem_append_right _ z)) fun z=>by
  obtain ⟨hb,e⟩:=IW z
  obtain ⟨f0,f1,f2,_⟩:=hf p.1 hb
  obtain ⟨o,e',d⟩:=ho p.1 hb
  rw [e] at e'; cases e'
  exact ⟨e,f0,f1,f2,d⟩
theorem Inv.unpinned {pins pl:List (Addr×Obj)} {σ:St} {H:Hp} (I:Inv X (pins++pl) σ H s):Inv X pins σ H s:=I.pins_of fun p hp=>I.pin p (List.mem_append_right _ (List.mem_append_left _ hp))
theorem Bt {iter:Expr} {body:List Stmt} {wi:TI} {g:TG} {tb:TS} {pos:Pos} (hp:PassesOwn (model X.prog X.w) X.A X.env X.xe) (hc:X.calm=true) (hi:PI X tg iter wi) (hg:PG X tg g) (hb:dC X body tb)
 (hs:∀ x,foldedSetIterable iter X.env x=pure x:=by intro _; rfl):PS X (.For tg iter body [] pos) (VD wi g tb):=by
 intro pins s σ H D I h
 refine wpAny_For (bz (hi pins s σ H _ I h) fun v s1 h1=>bz h1 fun itv s2 h2=>?_) hs
 obtain ⟨it,fp,tn,J,H2,e,I2,T,st2,f2,W,⟨m0,w0⟩,turn⟩:=h2
 subst e
 have stat:∀ {H':Hp},(∀ b∈fp,H' b=none)->∀ b∈fp,m8 X pins H' b:=fun hn b hb=>⟨hn b hb,(f2 b hb).2⟩
 refine codeAny_forLoop_any (fun n s'=>∃ i σ' H',Inv X pins σ' H' s'/\tn i s'.heap/\(∀ b∈fp,H' b=none)/\W i n σ' H') ?_ m0 ⟨0,σ,H2,I2,st2,fun b hb=>(f2 b hb).1,w0⟩
 rintro n s3 ⟨i,σ3,H3,I3,st3,fr3,w3⟩
 rcases turn i n σ3 H3 w3 with ⟨stop,qn⟩ | ⟨go,N,hN,step⟩
 . refine wpAny_passesOwn hp (bz (T.done X rfl rfl rfl hc i pins s3 σ3 H3 X.xe I3 (stat fr3) st3 stop) fun r s4 ⟨hr,I4⟩=>?_)
   subst hr
   exact wpAny_execs_nil ⟨σ3,H3,I4,qn⟩
 . refine wpAny_passesOwn hp (bz (T.item X rfl rfl rfl hc i pins s3 σ3 H3 X.xe I3 (stat fr3) st3 go) fun r s4 ⟨u,hr,h4⟩=>?_)
   subst hr
   refine wpAny_passesOwn hp (bz h4 fun _ s5 ⟨x,H5,I5,r5,y5,st5,fr5⟩=>?_)
   have I5':=I5.pinned (stat fr5) (T.obj _ _ st5)
   refine wpAny_passesOwn hp (bz (hg _ s5 σ3 H5 x u _ I5' r5 (step x H5 y5)) fun _ s6 ⟨σ6,H6,I6,q6⟩=>?_)
   refine wpAny_passesOwn hp (bz (hb _ s6 σ6 H6 _ I6 q6) fun f s7 q7=>?_)
   have again:∀ {σ7:St} {H7:Hp},Inv X (pins++uc fp s5.heap) σ7 H7 s7->N σ7 H7->∃ m,m<n/\∃ i σ' H',Inv X pins σ' H' s7/\tn i s7.heap/\(∀ b∈fp,H' b=none)/\W i m σ' H':=fun {σ7 H7} I7 n7=>by
    obtain ⟨m',hm,w7⟩:=hN σ7 H7 n7
    refine ⟨m',hm,i+1,σ7,H7,I7.unpinned,T.keep _ _ _ st5 fun b hb o e=>(I7.pin (b,o) (List.mem_append_right _ (List.mem_append_right _ (sI hb e)))).1,fun b hb=>?_,w7⟩
    obtain ⟨o,e,d⟩:=T.obj _ _ st5 b hb
    exact (I7.pin (b,o) (List.mem_append_right _ (List.mem_append_right _ (sI hb e)))).2.1
   cases f with
   | next=>obtain ⟨σ7,H7,I7,n7⟩:=q7; exact again I7 n7
   | cont=>obtain ⟨σ7,H7,I7,n7⟩:=q7; exact again I7 n7
   | brk=>obtain ⟨σ7,H7,I7,q7⟩:=q7; exact ⟨σ7,H7,I7.unpinned,q7⟩
   | ret v=>obtain ⟨x7,σ7,H7,I7,r7,q7⟩:=q7; exact ⟨x7,σ7,H7,I7.unpinned,r7,q7⟩
end
noncomputable abbrev R2:=V->V->Hp->VK->Prop
noncomputable def fj (X:Cx) (f:Value->Value->Sem Value) (r:R2):Prop:=
 ∀ (pins:List (Addr×Obj)) (s:Shared) (σ:St) (H:Hp) (x y:V) (v u:Value) (Q:VK),Inv X pins σ H s->RelV x v->RelV y u->r x y H Q->
  wpAny (model X.prog X.w) X.A (f v u) (EP X pins σ Q) X.xe s
noncomputable def Rn (X:Cx) (f:Value->Sem Value) (r:V->Hp->VK->Prop):Prop:=
 ∀ (pins:List (Addr×Obj)) (s:Shared) (σ:St) (H:Hp) (x:V) (v:Value) (Q:VK),Inv X pins σ H s->RelV x v->r x H Q->
  wpAny (model X.prog X.w) X.A (f v) (EP X pins σ Q) X.xe s
noncomputable def m9 (X:Cx) (f:Value) (r:List V->Hp->VK->Prop):Prop:=
 ∀ (pins:List (Addr×Obj)) (s:Shared) (σ:St) (H:Hp) (xs:List V) (us:List Value) (Q:VK),Inv X pins σ H s->Vals xs us->r xs H Q->
  wpAny (model X.prog X.w) X.A (call f us) (EP X pins σ Q) X.xe s
noncomputable def VF (X:Cx) (r:V->Hp->(Bool->Hp->Prop)->Prop):Prop:=
 ∀ (pins:List (Addr×Obj)) (s:Shared) (σ:St) (H:Hp) (x:V) (v:Value) (Q:Bool->Hp->Prop),Inv X pins σ H s->RelV x v->r x H Q->
  wpAny (model X.prog X.w) X.A (truthy v) (TP X pins σ Q) X.xe s
noncomputable def Ja (r:R2) (ta tb:TE):TE:=fun σ H Q=>ta σ H fun x H1=>tb σ H1 fun y H2=>r x y H2 Q
noncomputable def Wf (r:V->Hp->VK->Prop) (ta:TE):TE:=fun σ H Q=>ta σ H fun x H1=>r x H1 Q
noncomputable def rI (C:Int->Int->Prop) (g:Int->Int->V):R2:=fun x y H Q=>∃ i j,x=.int i/\y=.int j/\C i j/\Q (g i j) H
noncomputable def rH (g:Int->Int->V):R2:=fun x y H Q=>∃ i j,x=.int i/\y=.int j/\Q (g i j) H
noncomputable def rU (g:Int->V):V->Hp->VK->Prop:=fun x H Q=>∃ i,x=.int i/\Q (g i) H
section
variable {X:Cx} {a b c:Expr} {ta tb tc:TE} {pos:Pos}
theorem KH (ha:PE X a ta) (hb:PE X b tb) {σ:St} {H:Hp} {R:V->V->Hp->Prop} (I:Inv X pins σ H s)
 (h:ta σ H fun x H1=>tb σ H1 fun y H2=>R x y H2) {Q:Value->Shared->Prop} {f:Value->Value->Sem Value}
 (hf:∀ v u s2 x y H2,Inv X pins σ H2 s2->RelV x v->RelV y u->R x y H2->wpAny (model X.prog X.w) X.A (f v u) Q X.xe s2):
 wpAny (model X.prog X.w) X.A (eval a X.env) (fun v s₁=>wpAny (model X.prog X.w) X.A (eval b X.env) (fun u s₂=>wpAny (model X.prog X.w) X.A (f v u) Q X.xe s₂) X.xe s₁) X.xe s:=by
 refine bz (ha pins s σ H _ I h) fun v s1 ⟨x,H1,I1,r1,q1⟩=>?_
 refine bz (hb pins s1 σ H1 _ I1 q1) fun u s2 ⟨y,H2,I2,r2,q2⟩=>?_
 exact hf v u s2 x y H2 I2 r1 r2 q2
theorem Uv {op:Operator} {r:R2} (ho:fj X (binaryOp op) r) (ha:PE X a ta) (hb:PE X b tb):PE X (.BinOp a op b pos) (Ja r ta tb):=by
 intro pins s σ H Q I h
 exact wpAny_BinOp (KH ha hb I h fun v u s2 x y H2 I2 rx ry q=>ho pins s2 σ H2 x y v u Q I2 rx ry q)
theorem Uw {op:UnaryOp} {r:V->Hp->VK->Prop} (ho:Rn X (unaryOp op) r) (ha:PE X a ta):PE X (.UnaryOp op a pos) (Wf r ta):=by
 intro pins s σ H Q I h
 exact UnaryOp_ (bz (ha pins s σ H _ I h) fun v s1 ⟨x,H1,I1,r1,q1⟩=>ho pins s1 σ H1 x v Q I1 r1 q1)
theorem Ro {f:Value->Value->Sem Value} {C:Int->Int->Prop} {g:Int->Int->Int}
 (rule:∀ (i j:Int) (t u:Tok) (s:Shared) (Q:Value->Shared->Prop) (E:Value->Shared->Prop),C i j->Q (.int (g i j) s.toks) { s with toks:=s.toks+1 }->wpAny (model X.prog X.w) X.A (f (.int i t) (.int j u)) Q E s):
 fj X f (rI C fun i j=>.int (g i j)):=by
 intro pins s σ H x y v u Q I rx ry h
 obtain ⟨i,j,rfl,rfl,hc,q⟩:=h
 obtain ⟨t,rfl⟩:=rx
 obtain ⟨t',rfl⟩:=ry
 exact rule i j t t' s _ _ hc ⟨.int (g i j),H,I.tok _,⟨_,rfl⟩,q⟩
theorem Rp {f:Value->Value->Sem Value} {g:Int->Int->Int}
 (rule:∀ (i j:Int) (t u:Tok) (s:Shared) (Q:Value->Shared->Prop) (E:Value->Shared->Prop),Q (.int (g i j) s.toks) { s with toks:=s.toks+1 }->wpAny (model X.prog X.w) X.A (f (.int i t) (.int j u)) Q E s):
 fj X f (rH fun i j=>.int (g i j)):=by
 intro pins s σ H x y v u Q I rx ry h
 obtain ⟨i,j,rfl,rfl,q⟩:=h
 obtain ⟨t,rfl⟩:=rx
 obtain ⟨t',rfl⟩:=ry
 exact rule i j t t' s _ _ ⟨.int (g i j),H,I.tok _,⟨_,rfl⟩,q⟩
theorem KJ {f:Value->Value->Sem Value} {g:Int->Int->Bool}
 (rule:∀ (i j:Int) (t u:Tok) (s:Shared) (Q:Value->Shared->Prop) (E:Value->Shared->Prop),Q (.bool (g i j)) s->wpAny (model X.prog X.w) X.A (f (.int i t) (.int j u)) Q E s):
 fj X f (rH fun i j=>.bl (g i j)):=by
 intro pins s σ H x y v u Q I rx ry h
 obtain ⟨i,j,rfl,rfl,q⟩:=h
 obtain ⟨t,rfl⟩:=rx
 obtain ⟨t',rfl⟩:=ry
 exact rule i j t t' s _ _ ⟨.bl (g i j),H,I,rfl,q⟩
noncomputable def Rq (i j:Int):Prop:=0<j/\j<1073741824
noncomputable def GC (i j:Int):Prop:=(-(2 ^ 64)<i/\i<2 ^ 64)\/(-(2 ^ 64)<j/\j<2 ^ 64)
theorem GC.ok {i j:Int} (h:GC i j):IntMulOk i j:=by
 rcases h with ⟨h1,h2⟩ | ⟨h1,h2⟩
 . exact .of_left (intBits_le_64 h1 h2)
 . exact .of_right (intBits_le_64 h1 h2)
theorem Rr:fj X (binaryOp .Add) (rH fun i j=>.int (i+j)):=Rp fun _ _ _ _ _ _ _ q=>add_int q
theorem Jb:fj X (binaryOp .Sub) (rH fun i j=>.int (i-j)):=Rp fun _ _ _ _ _ _ _ q=>sub_int q
theorem Jc:fj X (binaryOp .Mult) (rI GC fun i j=>.int (i*j)):=Ro fun _ _ _ _ _ _ _ hc q=>mul_int q hc.ok
theorem kW:fj X (binaryOp .FloorDiv) (rI Rq fun i j=>.int (i/j)):=Ro fun i j _ _ _ _ _ hc q=>by
 have h1:(0:Int)<j:=hc.1
 have h2:j<1073741824:=hc.2
 exact floordiv_int (by omega) (by rw [Int.fdiv_eq_ediv_of_nonneg i (by omega)]; exact q) (.inl (PyProof.noPylong_small (by omega)))
theorem gA:fj X (binaryOp .Mod) (rI (fun _ j=>0<j) fun i j=>.int (i%j)):=Ro fun i j _ _ _ _ _ hc q=>by
 have h1:(0:Int)<j:=hc
 exact mod_int' (by omega) (by rw [Int.fmod_eq_emod_of_nonneg i (by omega)]; exact q)
theorem Wg {f:Value->Sem Value} {g:Int->Int}
 (rule:∀ (i:Int) (t:Tok) (s:Shared) (Q:Value->Shared->Prop) (E:Value->Shared->Prop),Q (.int (g i) s.toks) { s with toks:=s.toks+1 }->wpAny (model X.prog X.w) X.A (f (.int i t)) Q E s):
 Rn X f (rU fun i=>.int (g i)):=by
 intro pins s σ H x v Q I rx h
 obtain ⟨i,rfl,q⟩:=h
 obtain ⟨t,rfl⟩:=rx
 exact rule i t s _ _ ⟨.int (g i),H,I.tok _,⟨_,rfl⟩,q⟩
theorem Ru:Rn X (unaryOp .USub) (rU fun i=>.int (-i)):=Wg fun _ _ _ _ _ q=>neg_int q
end
noncomputable def scal:V->V->Bool
 | .non,.non=>true | .non,.int _=>true | .int _,.non=>true | .non,.bl _=>true | .bl _,.non=>true | .non,.str _=>true | .str _,.non=>true
 | .int _,.int _=>true | .bl _,.bl _=>true | .str _,.str _=>true | .byt _,.byt _=>true
 | .int _,.str _=>true | .str _,.int _=>true | .bl _,.str _=>true | .str _,.bl _=>true
 | _,_=>false
section
variable {X:Cx} {a b c:Expr} {ta tb tc:TE} {pos:Pos}
theorem wC {σ:St} {H:Hp} {Q:VK} {k k':Bool} (I:Inv X pins σ H s) (q:Q (.bl k) H) (e:k=k'):EP X pins σ Q (.bool k') s:=by
 subst e
 exact ⟨.bl k,H,I,rfl,q⟩
theorem GD:fj X (compareOp .Lt) (rH fun i j=>.bl (decide (i<j))):=KJ fun _ _ _ _ _ _ _ q=>lt_int q
theorem Nt:fj X (compareOp .LtE) (rH fun i j=>.bl (decide (i<=j))):=KJ fun _ _ _ _ _ _ _ q=>le_int q
theorem GJ:fj X (compareOp .Gt) (rH fun i j=>.bl (decide (j<i))):=KJ fun _ _ _ _ _ _ _ q=>gt_int q
theorem Jd:fj X (compareOp .In) (fun x y H Q=>∃ i j,x=.str i/\y=.str j/\Q (.bl (!(Builtin.Str.occurrences j i 0 j.length 1).isEmpty)) H):=by
 intro pins s σ H x y v u Q I rx ry h
 obtain ⟨i,j,rfl,rfl,q⟩:=h
 obtain ⟨t,rfl⟩:=rx
 obtain ⟨t',rfl⟩:=ry
 exact in_str (wC I q rfl)
theorem Bu:fj X (compareOp .Is) (fun x y H Q=>y=.non/\Q (.bl (decide (x=.non))) H):=by
 intro pins s σ H x y v u Q I rx ry h
 obtain ⟨rfl,q⟩:=h
 cases ry
 refine is_none_gen (wC I q ?_)
 cases x<;>first
  | (cases rx; rfl)
  | (obtain ⟨t,rfl⟩:=rx; rfl)
theorem nU:fj X (compareOp .IsNot) (fun x y H Q=>y=.non/\Q (.bl (!decide (x=.non))) H):=by
 intro pins s σ H x y v u Q I rx ry h
 obtain ⟨rfl,q⟩:=h
 cases ry
 refine isnot_none_gen (wC I q ?_)
 cases x<;>first
  | (cases rx; rfl)
  | (obtain ⟨t,rfl⟩:=rx; rfl)
theorem Bv:fj X (compareOp .NotIn) (fun x y H Q=>∃ i j,x=.str i/\y=.str j/\Q (.bl (!(!(Builtin.Str.occurrences j i 0 j.length 1).isEmpty))) H):=by
 intro pins s σ H x y v u Q I rx ry h
 obtain ⟨i,j,rfl,rfl,q⟩:=h
 obtain ⟨t,rfl⟩:=rx
 obtain ⟨t',rfl⟩:=ry
 exact notIn_str (wC I q rfl)
theorem fj.or {f:Value->Value->Sem Value} {r r':R2} (h:fj X f r) (h':fj X f r'):fj X f (fun x y H Q=>r x y H Q\/r' x y H Q):=by
 intro pins s σ H x y v u Q I rx ry q
 rcases q with q | q
 . exact h pins s σ H x y v u Q I rx ry q
 . exact h' pins s σ H x y v u Q I rx ry q
theorem bZ (b:Expr) {op:CmpOp} (h:op≠.In:=by decide) (h2:op≠.NotIn:=by decide):behindInMarks op b=false:=by
 have e1:(op==CmpOp.In)=false:=by cases op<;>first | rfl | exact absurd rfl h
 have e2:(op==CmpOp.NotIn)=false:=by cases op<;>first | rfl | exact absurd rfl h2
 cases b<;>simp [behindInMarks,e1,e2]
theorem OD {op:CmpOp} {r:R2} (ho:fj X (compareOp op) r) (ha:PE X a ta) (hb:PE X b tb) (hm:behindInMarks op b=false):PE X (.Compare a [op] [b] pos) (Ja r ta tb):=by
 intro pins s σ H Q I h
 exact wpAny_Compare1 (KH ha hb I h fun v u s2 x y H2 I2 rx ry q=>ho pins s2 σ H2 x y v u Q I2 rx ry q) hm
noncomputable def Nu (t:TE):TT:=fun σ H Q=>t σ H fun x H'=>∃ k,x=.bl k/\Q k H'
theorem OJ {op:CmpOp} {r:R2} (ho:fj X (compareOp op) r) (ha:PE X a ta) (hb:PE X b tb) (hm:behindInMarks op b=false):PT X (.Compare a [op] [b] pos) (Nu (Ja r ta tb)):=by
 intro pins s σ H Q I h
 refine wpAny_isTrue_Compare1 (bz (ha pins s σ H _ I h) fun v s1 ⟨x,H1,I1,r1,q1⟩=>bz (hb pins s1 σ H1 _ I1 q1) fun u s2 ⟨y,H2,I2,r2,q2⟩=>
  bz (ho pins s2 σ H2 x y v u _ I2 r1 r2 q2) fun c s3 ⟨z,H3,I3,r3,k,e,q3⟩=>?_) hm
 subst e
 cases r3
 exact wpAny_truthy_bool ⟨H3,I3,q3⟩
noncomputable def Je (r r':R2) (ta tb tc:TE):TE:=fun σ H Q=>ta σ H fun x H1=>tb σ H1 fun y H2=>r x y H2 fun z H3=>∃ k,z=.bl k/\
 (if k=true then tc σ H3 fun w' H4=>r' y w' H4 Q else Q (.bl false) H3)
theorem KN {op op':CmpOp} {r r':R2} (ho:fj X (compareOp op) r) (ho':fj X (compareOp op') r') (ha:PE X a ta) (hb:PE X b tb) (hc:PE X c tc)
 (hm:lastMarks [op,op'] [b,c]=false:=by with_unfolding_all rfl):PE X (.Compare a [op,op'] [b,c] pos) (Je r r' ta tb tc):=by
 intro pins s σ H Q I h
 refine Compare_chain (bz (ha pins s σ H _ I h) fun v s1 ⟨x,H1,I1,r1,q1⟩=>chain_link (bz (hb pins s1 σ H1 _ I1 q1) fun u s2 ⟨y,H2,I2,r2,q2⟩=>
  bz (ho pins s2 σ H2 x y v u _ I2 r1 r2 q2) fun d s3 ⟨z,H3,I3,r3,k,e,q3⟩=>?_)) hm
 subst e
 cases r3
 refine wpAny_truthy_bool ?_
 cases k with
 | false=>exact ite_ff ⟨.bl false,H3,I3,rfl,q3⟩
 | true=>exact ite_tt (chain_last (bz (hc pins s3 σ H3 _ I3 q3) fun w' s4 ⟨z',H4,I4,r4,q4⟩=>ho' pins s4 σ H4 y z' u w' Q I4 r2 r4 q4))
noncomputable def KQ (K:FG) (x:V) (H:Hp) (k:Bool):Prop:=
 match x with
 | .non=>k=false
 | .bl b=>k=b
 | .int i=>k=(i != 0)
 | .str y=>y.length<=sizeLine/\k=((y.length:Int) != 0)
 | .byt y=>y.size<=sizeLine/\k=((y.size:Int) != 0)
 | .ref p=>(∃ xs,b8 K H p xs/\k=!xs.isEmpty)\/(∃ xs,dj K H p xs/\k=!xs.isEmpty)\/∃ kvs,H p=some (.dK kvs)/\k=!kvs.isEmpty
 | _=>False
theorem GK {κ:Type} {kvs:List (κ×V)} {vs:List (κ×Value)} (r:KV kvs vs):(!vs.isEmpty)=!kvs.isEmpty:=by
 cases r<;>rfl
theorem wD {xs:List V} {its:List Value} (r:Vals xs its):(!its.toArray.isEmpty)=!xs.isEmpty:=by
 cases r<;>simp
theorem rJ:(sizeLine:Nat)<2 ^ 63:=by rw [sizeLine_eq]; decide
theorem Rv:VF X (fun x H Q=>∃ k,KQ X.K x H k/\Q k H):=by
 intro pins s σ H x v Q I rx h
 obtain ⟨k,e,q⟩:=h
 have hl:=rJ
 have hs:sizeLine=16777216:=sizeLine_eq
 cases x with
 | non=>
  cases rx
  have e':k=false:=e
  subst e'
  exact truthy_none ⟨H,I,q⟩
 | bl b=>
  cases rx
  have e':k=b:=e
  subst e'
  exact wpAny_truthy_bool ⟨H,I,q⟩
 | int i=>
  obtain ⟨t,rfl⟩:=rx
  have e':k=(i != 0):=e
  subst e'
  exact PySem.P.truthy_int ⟨H,I,q⟩
 | str y=>
  obtain ⟨t,rfl⟩:=rx
  obtain ⟨hy,e'⟩:y.length<=sizeLine/\k=((y.length:Int) != 0):=e
  subst e'
  exact PySem.P.truthy_str (by omega) ⟨H,I.tok _,q⟩
 | byt y=>
  obtain ⟨t,rfl⟩:=rx
  obtain ⟨hy,e'⟩:y.size<=sizeLine/\k=((y.size:Int) != 0):=e
  subst e'
  exact W.truthy_bytes (by omega) ⟨H,I.tok _,q⟩
 | ref p=>
  cases rx
  have e':(∃ xs,b8 X.K H p xs/\k=!xs.isEmpty)\/(∃ xs,dj X.K H p xs/\k=!xs.isEmpty)\/∃ kvs,H p=some (.dK kvs)/\k=!kvs.isEmpty:=e
  rcases e' with ⟨xs,hx,e'⟩ | ⟨xs,hx,e'⟩ | ⟨kvs,hx,e'⟩
  . subst e'
    obtain ⟨its,r,pl,hz⟩:=I.list hx
    have hlen:=r.length
    exact wpAny_truthy_list pl.isList (by simp only [List.size_toArray]; omega) ⟨H,I.tok _,by rw [wD r]; exact q⟩
  . subst e'
    obtain ⟨its,r,pl,hz⟩:=I.tuple hx
    have hlen:=r.length
    exact truthy_tuple pl (by simp only [List.size_toArray]; omega) ⟨H,I.tok _,by rw [wD r]; exact q⟩
  . subst e'
    obtain ⟨hz,hS,vs,r,m⟩:kvs.length<=sizeLine/\(p==sysModules)=false/\∃ vs,KV kvs vs/\s.heap.DictOf (di X.prog X.w) p vs:=I.hok p _ hx
    have hlen:kvs.length=vs.length:=Paired.length r
    exact wpAny_truthy_dict hS m (by omega) ⟨H,I.tok _,by rw [GK r]; exact q⟩
 | _=>exact (show False from e).elim
theorem KR (ha:PE X a ta) (he:∀ whole,isTrue a X.env whole=(do let v ← whole; standAt a.pos; holding [v] (truthy v))):
 PT X a (fun σ H Q=>ta σ H fun x H'=>∃ k,KQ X.K x H' k/\Q k H'):=by
 intro pins s σ H Q I h
 exact isTrue_plain (bz (ha pins s σ H _ I h) fun v s1 ⟨x,H1,I1,r1,q1⟩=>Rv pins s1 σ H1 x v Q I1 r1 q1) (he _)
theorem GP:fj X (binaryOp .Add) (fun x y H Q=>∃ i j,x=.str i/\y=.str j/\i.length+j.length<=sizeLine/\Q (.str (i++j)) H):=by
 intro pins s σ H x y v u Q I rx ry h
 obtain ⟨i,j,rfl,rfl,hz,q⟩:=h
 obtain ⟨t,rfl⟩:=rx
 obtain ⟨t',rfl⟩:=ry
 exact add_str (fun t' tk=>⟨.str (i++j),H,I.tok _,⟨_,rfl⟩,q⟩) hz
theorem vals1 {x:V} {us:List Value} (r:Vals [x] us):∃ u,us=[u]/\RelV x u:=by
 cases r with
 | cons r1 r2=>cases r2; exact ⟨_,rfl,r1⟩
theorem vals2 {x y:V} {us:List Value} (r:Vals [x,y] us):∃ u w',us=[u,w']/\RelV x u/\RelV y w':=by
 cases r with
 | cons r1 r2=>
  cases r2 with
  | cons r3 r4=>cases r4; exact ⟨_,_,rfl,r1,r3⟩
theorem zy (hc:X.calm=true):m9 X (.builtin "max") (fun xs H Q=>∃ i j,xs=[.int i,.int j]/\Q (.int (if j>i then j else i)) H):=by
 intro pins s σ H xs us Q I r h
 obtain ⟨i,j,rfl,q⟩:=h
 obtain ⟨u,w',rfl,⟨t,rfl⟩,⟨t',rfl⟩⟩:=vals2 r
 refine max_two_ints (I.ok.hd hc) fun h' tk k=>⟨_,H,I.kept k,?_,q⟩
 by_cases hj:j>i
 . rw [if_pos hj,if_pos hj]; exact ⟨_,rfl⟩
 . rw [if_neg hj,if_neg hj]; exact ⟨_,rfl⟩
theorem zA (hc:X.calm=true):m9 X (.builtin "min") (fun xs H Q=>∃ i j,xs=[.int i,.int j]/\Q (.int (if j<i then j else i)) H):=by
 intro pins s σ H xs us Q I r h
 obtain ⟨i,j,rfl,q⟩:=h
 obtain ⟨u,w',rfl,⟨t,rfl⟩,⟨t',rfl⟩⟩:=vals2 r
 refine min_two_ints (I.ok.hd hc) fun h' tk k=>⟨_,H,I.kept k,?_,q⟩
 by_cases hj:j<i
 . rw [if_pos hj,if_pos hj]; exact ⟨_,rfl⟩
 . rw [if_neg hj,if_neg hj]; exact ⟨_,rfl⟩
noncomputable def KY (K:FG) (x:V) (H:Hp) (n:Nat):Prop:=
 match x with
 | .str y=>y.length<=sizeLine/\n=y.length
 | .byt y=>y.size<=sizeLine/\n=y.size
 | .ref p=>(∃ xs,b8 K H p xs/\n=xs.length)\/∃ xs,dj K H p xs/\n=xs.length
 | _=>False
theorem p8:m9 X (.builtin "len") (fun xs H Q=>∃ x n,xs=[x]/\KY X.K x H n/\Q (.int n) H):=by
 intro pins s σ H xs us Q I r h
 obtain ⟨x,n,rfl,e,q⟩:=h
 obtain ⟨u,rfl,rx⟩:=vals1 r
 have hl:=rJ
 have hs:sizeLine=16777216:=sizeLine_eq
 cases x with
 | str y=>
  obtain ⟨t,rfl⟩:=rx
  obtain ⟨hy,e'⟩:y.length<=sizeLine/\n=y.length:=e
  subst e'
  exact len_str (by omega) ⟨.int _,H,I.tok _,⟨_,rfl⟩,q⟩
 | byt y=>
  obtain ⟨t,rfl⟩:=rx
  obtain ⟨hy,e'⟩:y.size<=sizeLine/\n=y.size:=e
  subst e'
  exact W.len_bytes (by omega) ⟨.int _,H,I.tok _,⟨_,rfl⟩,q⟩
 | ref p=>
  cases rx
  have e':(∃ xs,b8 X.K H p xs/\n=xs.length)\/∃ xs,dj X.K H p xs/\n=xs.length:=e
  rcases e' with ⟨xs,hx,e'⟩ | ⟨xs,hx,e'⟩
  . subst e'
    obtain ⟨its,r',pl,hz⟩:=I.list hx
    have hlen:=r'.length
    exact Calls.call_len_list pl.isList (by simp only [List.size_toArray]; omega) ⟨.int xs.length,H,I.tok _,⟨_,by simp only [List.size_toArray]; rw [hlen]⟩,q⟩
  . subst e'
    obtain ⟨its,r',pl,hz⟩:=I.tuple hx
    have hlen:=r'.length
    exact len_tuple pl (by simp only [List.size_toArray]; omega) ⟨.int xs.length,H,I.tok _,⟨_,by simp only [List.size_toArray]; rw [hlen]⟩,q⟩
 | _=>exact (show False from e).elim
end
structure vQ (h:Heap) (x dx C:Addr) (mA:Str->Option Value):Prop where
 obj:h.get? x=some (W.instObj C dx)
 ns:h.Ns1 dx mA
 ne:dx≠x
theorem Jf {h:Heap} {dx:Addr} {mA:Str->Option Value} (n:h.Ns1 dx mA):∃ od,h.get? dx=some od/\∀ name,W.lookIn name od=some (mA name):=by
 obtain ⟨o,es,ep,ho,hd,hk,_,hm⟩:=n
 refine ⟨o,ho,fun name=>?_⟩
 have e:=hm name
 unfold nsFind findBy at e
 rw [← Array.find?_toList] at e
 unfold W.lookIn
 rw [hd]
 dsimp only
 split
 . rename_i y q
   rw [q] at e
   exact congrArg some e
 . rename_i q
   rw [q] at e
   have a:es.toList.any (·.refKey)=false:=by
    rw [List.any_eq_false]
    intro y hy
    obtain ⟨z,t,hkey⟩:=hk y (Array.mem_toList_iff.mp hy)
    simp [DictEntry.refKey,hkey]
   have a':¬ es.toList.any (·.refKey)=true:=by rw [a]; exact Bool.false_ne_true
   rw [if_neg a']
   exact congrArg some e
theorem vQ.look {h:Heap} {x dx C:Addr} {mA:Str->Option Value} (I:vQ h x dx C mA):∃ od,W.InstAt h x (W.instObj C dx) C (some od)/\∀ name,W.lookIn name od=some (mA name):=
 let ⟨od,ho,hl⟩:=Jf I.ns
 ⟨od,⟨I.obj,rfl,rfl,ho⟩,hl⟩
section
variable {prog:Program} {w:World} {A:Around} {E:Value->Shared->Prop} {s:Shared} {K:FG} {x dx C f:Addr} {mA:Str->Option Value} {name:Str} {v:Value}
theorem O1 {expr:Bool} {Q:Value->Shared->Prop} (X:K.In s.heap) (I:vQ s.heap x dx C mA) (hg:W.plainGet K C name=true) (hh:W.hasDictIn K C=true)
 (ha:W.findIn K (.ref C) name=some none) (hv:mA name=some v) (hv':W.handedIn v=true) (h:Q v { s with toks:=s.toks+1 }):
 wpAny (model prog w) A (getAttr (.ref x) name expr) Q E s:=by
 obtain ⟨od,J,hl⟩:=I.look
 exact W.get_value X J (W.plainGet_of hg).1 (W.findObj_own hh ha rfl (by rw [hl,hv])) hv' h
theorem KZ {pl:Sem Bool} {Q:Value×List Value->Shared->Prop} (X:K.In s.heap) (I:vQ s.heap x dx C mA) (hg:W.plainGet K C name=true)
 (hf:W.findIn K (.ref C) name=some (some (.ref f))) (ht:W.isFn K (.ref f)=true) (hv:mA name=none) (h:Q (.ref f,[.ref x]) s):
 wpAny (model prog w) A (getMethod (.ref x) name pl) Q E s:=by
 obtain ⟨od,J,hl⟩:=I.look
 exact W.method_fn X J (W.plainGet_of hg).1 (W.plainGet_of hg).2 hf (beq_iff_eq.mp ht) (by show (W.lookIn name od).map (·.isSome)=some false; rw [hl,hv]; rfl) h
theorem O2 {ns:List Str} {Q:Unit->Shared->Prop} (X:K.In s.heap) (I:vQ s.heap x dx C mA)
 (hs:W.findIn K (.ref C) "__setattr__" = some (some (.builtin "object.__setattr__"))) (hp:W.plainOver K C=true) (ht:W.takerIn K C name=some none) (hh:W.hasDictIn K C=true)
 (hw:PySem.Within mA ns) (hsz:ns.length<=sizeLine)
 (h:∀ h',vQ h' x dx C (fun y=>if y=name then some v else mA y)->Heap.SameBut dx s.heap h'->Q () { s with heap:=h',toks:=s.toks+2 }):
 wpAny (model prog w) A (setAttr (.ref x) name v) Q E s:=by
 obtain ⟨od,J,hl⟩:=I.look
 refine W.set_plain X J hs (W.osa_open (s:={ s with toks:=s.toks+1 }) (r:=none) X J hp ht fun b=>?_)
 obtain ⟨cd,hc,hd'⟩:=W.any_some hh
 have hx:s.heap.get? x=some ⟨.ref C,some dx,.plain,#[]⟩:=I.obj
 refine wpAny_bind (wpAny_pure (wpAny_bind (wpAny_bind (wpAny_loadPart hx (wpAny_bind (W.Looks.here (s:={ s with toks:=s.toks+1 }) (W.looks_clsIn X hc) ?_))))))
 rw [hd']
 refine wpAny_pure (a:=some dx) (wpAny_bind (wpAny_pure (wpAny_bind ?_)))
 refine wpAny_nsSet1 (s:={ s with toks:=s.toks+1 }) I.ns fun h' hn2 hs2=>?_
 obtain ⟨oD,esD,epD,hoD,hdD,hcD⟩:=hn2.count (PySem.Within.cons name v hw)
 refine wpAny_bind (wpAny_lookBehind hoD (by rw [hdD]; exact pastItsLine_dict (Nat.le_trans hcD (by rw [List.length_cons]; omega))) ?_)
 exact wpAny_pure (h _ ⟨(hs2.2 _ (Ne.symm I.ne)).trans I.obj,hn2,I.ne⟩ hs2)
theorem K1 {R:Result->Shared->Prop} {vs:List Value} {kw:List (Str×Value)} (X:K.In s.heap) (hm:W.makesIn K C=true)
 (hi:W.findIn K (.ref C) "__init__" = some (some (.ref f))) (hf:W.typeIn K (.ref f)=some (.type "function"))
 (h:codeAny (model prog w) (A.under (.builtin "type.__call__" ⟨.ref C::vs,kw⟩)) (.call (.ref f) ⟨.ref (s.heap.objs.size+1)::vs,kw⟩) (W.InitBack (s.heap.objs.size+1) R)
   { s with heap:=(s.heap.push W.emptyDict).push (W.instObj C s.heap.objs.size) }):
 codeAny (model prog w) A (.call (.ref C) ⟨vs,kw⟩) R s:=by
 obtain ⟨hh,g,d,t,os⟩:=s
 exact W.make_core (W.makes_of X hm) (W.looks_findIn X hi) (fun self=>W.bind_fn X self hf) (.inl rfl) h
end
noncomputable def iB (f:Str) (v:V):List (Str×V)->List (Str×V)
 | []=>[(f,v)]
 | (g,x)::r=>if g=f then (g,v)::r else (g,x)::iB f v r
theorem vD (f g:Str) (v:V):∀ fs:List (Str×V),(iB f v fs).lookup g=if g=f then some v else fs.lookup g
 | []=>by
  show List.lookup g [(f,v)]=_
  by_cases h:g=f
  . have hb:(g==f)=true:=beq_iff_eq.mpr h
    simp only [List.lookup,hb,if_pos h]
  . have hb:(g==f)=false:=beq_eq_false_iff_ne.mpr h
    simp only [List.lookup,hb,if_neg h]
 | (k,x)::r=>by
  have ih:=vD f g v r
  rw [show iB f v ((k,x)::r)=(if k=f then (k,v)::r else (k,x)::iB f v r) from rfl]
  by_cases hk:k=f
  . rw [if_pos hk]
    by_cases h:g=k
    . have hb:(g==k)=true:=beq_iff_eq.mpr h
      simp only [List.lookup,hb,if_pos (h.trans hk)]
    . have hb:(g==k)=false:=beq_eq_false_iff_ne.mpr h
      simp only [List.lookup,hb,if_neg (fun e:g=f=>h (e.trans hk.symm))]
  . rw [if_neg hk]
    by_cases h:g=k
    . have hb:(g==k)=true:=beq_iff_eq.mpr h
      simp only [List.lookup,hb,if_neg (fun e:g=f=>hk (h.symm.trans e))]
    . have hb:(g==k)=false:=beq_eq_false_iff_ne.mpr h
      simp only [List.lookup,hb]
      exact ih
theorem ud (f:Str) (v:V):∀ fs:List (Str×V),f∈(iB f v fs).map (·.1)/\∀ g,g∈fs.map (·.1)->g∈(iB f v fs).map (·.1)
 | []=>⟨by simp [iB],fun g h=>by simp at h⟩
 | (k,x)::r=>by
  obtain ⟨i1,i2⟩:=ud f v r
  rw [show iB f v ((k,x)::r)=(if k=f then (k,v)::r else (k,x)::iB f v r) from rfl]
  by_cases hk:k=f
  . rw [if_pos hk]
    subst hk
    exact ⟨by simp,fun g h=>by simpa using h⟩
  . rw [if_neg hk]
    refine ⟨?_,fun g h=>?_⟩
    . rw [List.map_cons]
      exact List.mem_cons_of_mem _ i1
    . rw [List.map_cons] at h ⊢
      rcases List.mem_cons.mp h with e | e
      . exact List.mem_cons.mpr (.inl e)
      . exact List.mem_cons_of_mem _ (i2 g e)
theorem vG (f:Str) (v:V):∀ fs:List (Str×V),(iB f v fs).length<=fs.length+1
 | []=>by simp [iB]
 | (k,x)::r=>by
  have ih:=vG f v r
  rw [show iB f v ((k,x)::r)=(if k=f then (k,v)::r else (k,x)::iB f v r) from rfl]
  by_cases hk:k=f
  . rw [if_pos hk,List.length_cons,List.length_cons]; omega
  . rw [if_neg hk,List.length_cons,List.length_cons]; omega
theorem lG.some_of {v:V} {o:Option Value} (r:lG (some v) o):∃ u,o=some u/\RelV v u:=by
 cases o with
 | none=>exact (show False from r).elim
 | some u=>exact ⟨u,rfl,r⟩
theorem lG.none_of {o:Option Value} (r:lG none o):o=none:=by
 cases o with
 | none=>rfl
 | some u=>exact (show False from r).elim
theorem Jg {v:V} {u:Value} (r:RelV v u):W.handedIn u=true:=by
 cases v with
 | non=>cases (show u=Value.none from r); rfl
 | bl b=>cases (show u=Value.bool b from r); rfl
 | int i=>obtain ⟨t,e⟩:=(show ∃ t,u=Value.int i t from r); cases e; rfl
 | str x=>obtain ⟨t,e⟩:=(show ∃ t,u=Value.str x t from r); cases e; rfl
 | byt b=>obtain ⟨t,e⟩:=(show ∃ t,u=Value.bytes b t from r); cases e; rfl
 | flt b=>obtain ⟨t,e⟩:=(show ∃ t,u=Value.float b t from r); cases e; rfl
 | ref a=>cases (show u=Value.ref a from r); rfl
 | ty n=>cases (show u=Value.type n from r); rfl
section
variable {P:Program} {w:World} {H H':Hp} {h h':Heap} {a C dx:Addr} {fs fs':List (Str×V)}
theorem yx (hok:fY P w H h) (e:H a=some (.ins C dx fs)):∃ mA,vQ h a dx C mA/\(∀ f,lG (fs.lookup f) (mA f))/\PySem.Within mA (fs.map (·.1))/\fs.length<=1000/\H dx=some (.own a):=by
 obtain ⟨d,z,ne,ob,mA,n,r,q⟩:=(show dF P w H h a (.ins C dx fs) from hok a _ e)
 exact ⟨mA,⟨ob,n,ne⟩,r,q,z,d⟩
end
structure ue (K:FG) (C:Addr):Prop where
 pg:W.plainGet K C Str.empty=true
 hd:W.hasDictIn K C=true
 po:W.plainOver K C=true
 sa:W.findIn K (.ref C) "__setattr__" = some (some (.builtin "object.__setattr__"))
theorem ue.get {K:FG} {C:Addr} (c:ue K C) (f:Str):W.plainGet K C f=true:=c.pg
noncomputable def lK (K:FG) (C:Addr) (f:Str):Prop:=W.findIn K (.ref C) f=some none
theorem lK.taker {K:FG} {C:Addr} {f:Str} (n:lK K C f):W.takerIn K C f=some none:=by
 unfold W.takerIn
 rw [show W.findIn K (.ref C) f=some none from n]
 rfl
structure Meth (K:FG) (C:Addr) (m:Str) (f:Addr):Prop where
 at_:W.findIn K (.ref C) m=some (some (.ref f))
 fn:W.isFn K (.ref f)=true
 kp:W.keepIn K (.ref f)=true
section
variable {X:Cx} {pins:List (Addr×Obj)} {σ:St} {H:Hp} {s:Shared} {a C dx:Addr} {fs:List (Str×V)} {f:Str} {v:V} {A:Around} {E:Value->Shared->Prop}
theorem GQ {b:Bool} {Q:Value->Shared->Prop} (I:Inv X pins σ H s) (e:H a=some (.ins C dx fs)) (c:ue X.K C) (n:lK X.K C f) (l:fs.lookup f=some v)
 (h:∀ u s',Inv X pins σ H s'->RelV v u->Q u s'):wpAny (model X.prog X.w) A (getAttr (.ref a) f b) Q E s:=by
 obtain ⟨mA,O,r,_,_,_⟩:=yx I.hok e
 obtain ⟨u,hu,ru⟩:=lG.some_of (v:=v) (o:=mA f) (by rw [← l]; exact r f)
 exact O1 I.kIn O (c.get f) c.hd n hu (Jg ru) (h u _ (I.tok _) ru)
theorem sJ {m:Str} {g:Addr} {pl:Sem Bool} {Q:Value×List Value->Shared->Prop} (I:Inv X pins σ H s) (e:H a=some (.ins C dx fs)) (c:ue X.K C) (k:Meth X.K C m g) (l:fs.lookup m=none)
 (h:Q (.ref g,[.ref a]) s):wpAny (model X.prog X.w) A (getMethod (.ref a) m pl) Q E s:=by
 obtain ⟨mA,O,r,_,_,_⟩:=yx I.hok e
 have hn:mA m=none:=lG.none_of (by rw [← l]; exact r m)
 exact KZ I.kIn O (c.get m) k.at_ k.fn hn h
theorem GR {y:V} {u:Value} {Q:Unit->Shared->Prop} (I:Inv X pins σ H s) (e:H a=some (.ins C dx fs)) (c:ue X.K C) (n:lK X.K C f) (hl:fs.length<1000) (ry:RelV y u)
 (h:∀ s',Inv X pins σ (upd H a (.ins C dx (iB f y fs))) s'->Q () s'):wpAny (model X.prog X.w) A (setAttr (.ref a) f u) Q E s:=by
 obtain ⟨mA,O,r,wi,_,ho⟩:=yx I.hok e
 have hz:(fs.map (·.1)).length<=sizeLine:=by rw [List.length_map,sizeLine_eq]; omega
 refine O2 I.kIn O c.sa c.po n.taker c.hd wi hz fun h' O' sb=>h _ ?_
 have hd:∃ o,h'.get? dx=some o:=let ⟨o,_,_,e',_⟩:=O'.ns; ⟨o,e'⟩
 refine I.write (x:=a) (e:=dx) (by rw [e]; exact True.intro) (.inr ho) (fun b q hb z=>(sb.2 b hb).trans z) hd ?_
 refine ⟨by rw [aY O.ne]; exact ho,?_,O.ne,O'.obj,_,O'.ns,fun g=>?_,fun g hg=>?_⟩
 . have:=vG f y fs; omega
 . show lG ((iB f y fs).lookup g) (if g=f then some u else mA g)
   rw [vD]
   by_cases q:g=f
   . rw [if_pos q,if_pos q]; exact ry
   . rw [if_neg q,if_neg q]; exact r g
 . by_cases q:g=f
   . rw [q]; exact (ud f y fs).1
   . refine (ud f y fs).2 g (wi g fun z=>hg ?_)
     show (if g=f then some u else mA g)=none
     rw [if_neg q]; exact z
theorem Inv.made (I:Inv X pins σ H s):Inv X pins σ (upd (upd H s.heap.objs.size (.own (s.heap.objs.size+1))) (s.heap.objs.size+1) (.ins C s.heap.objs.size []))
 { s with heap:=(s.heap.push W.emptyDict).push (W.instObj C s.heap.objs.size) }:=by
 have e1:(s.heap.push W.emptyDict).get? s.heap.objs.size=some W.emptyDict:=Heap.get?_push_size s.heap rfl
 have e2:((s.heap.push W.emptyDict).push (W.instObj C s.heap.objs.size)).get? (s.heap.objs.size+1)=some (W.instObj C s.heap.objs.size):=by
  have:=Heap.get?_push_size (s.heap.push W.emptyDict) (o:=W.instObj C s.heap.objs.size) rfl
  rwa [Heap.size_push] at this
 have e3:(s.heap.push W.emptyDict).Ns s.heap.objs.size (fun _=>none):=⟨W.emptyDict,#[],_,e1,rfl,(fun e he=>absurd he (by simp)),fun _=>rfl⟩
 have I1:=I.laid (a:=s.heap.objs.size) (o:=.own (s.heap.objs.size+1)) (h':=s.heap.push W.emptyDict) (t':=s.toks) (fun b u q=>Heap.get?_push_of_some _ q) (Nat.le_refl _) ⟨_,e1⟩
 refine I1.laid (a:=s.heap.objs.size+1) (o:=.ins C s.heap.objs.size []) (t':=s.toks) (fun b u q=>Heap.get?_push_of_some _ q) (Nat.le_of_eq (Heap.size_push _ _)) ?_
 have ne:s.heap.objs.size≠s.heap.objs.size+1:=Nat.ne_of_lt (Nat.lt_succ_self _)
 refine ⟨by rw [aY ne,bC],Nat.zero_le _,ne,e2,fun _=>none,(Heap.Ns1.of_empty e3).at fun o q=>Heap.get?_push_of_some _ q,fun _=>True.intro,fun y hy=>absurd rfl hy⟩
theorem O3 {prog:Program} {env:Env} {e:Expr} {f:Str} {pos:Pos} {Q:Value->Shared->Prop} (hb:attributeBase e f env (eval e env)=eval e env)
 (h:wpAny (model prog w) A (eval e env) (fun o s₁=>wpAny (model prog w) A (getAttr o f true) Q E s₁) E s):wpAny (model prog w) A (eval (.Attribute e f pos) env) Q E s:=
 Attribute_any_ h (by rw [arm_eval_Attribute,hb])
end
noncomputable def VG (K:FG) (ta:TE) (f:Str):TE:=fun σ H Q=>ta σ H fun x H1=>∃ a C dx fs v,x=.ref a/\H1 a=some (.ins C dx fs)/\ue K C/\lK K C f/\fs.lookup f=some v/\Q v H1
noncomputable def VH (K:FG) (ta tv:TE) (f:Str):TS:=fun D σ H=>tv σ H fun y H1=>ta σ H1 fun x H2=>∃ a C dx fs,x=.ref a/\H2 a=some (.ins C dx fs)/\ue K C/\lK K C f/\fs.length<1000/\
 D.nx σ (upd H2 a (.ins C dx (iB f y fs)))
section
variable {X:Cx} {o e value:Expr} {f:Str} {pos pos' tpos:Pos} {ta tv:TE}
theorem Rw (he:PE X e ta) (hb:attributeBase e f X.env (eval e X.env)=eval e X.env):PE X (.Attribute e f pos) (VG X.K ta f):=by
 intro pins s σ H Q I h
 refine O3 hb (bz (he pins s σ H _ I h) fun u s1 ⟨x,H1,I1,rx,a,C,dx,fs,v,ex,ea,c,n,l,q⟩=>?_)
 subst ex
 obtain rfl:u=Value.ref a:=rx
 exact GQ I1 ea c n l fun u' s2 I2 ru=>⟨v,H1,I2,ru,q⟩
theorem Rx (ha:PE X o ta) (hv:PE X value tv) (hs:swapsWith value (some (.Attribute o f pos')) pos.line X.env=pure false):PS X (.Assign [.Attribute o f pos'] value pos) (VH X.K ta tv f):=by
 intro pins s σ H D I h
 refine plainObj_wpAny_Assign_Attribute (bz (hv pins s σ H _ I h) fun u s1 ⟨y,H1,I1,ry,q⟩=>bz (ha pins s1 σ H1 _ I1 q) fun ov s2 ⟨x,H2,I2,rx,a,C,dx,fs,ex,ea,c,n,l,q2⟩=>?_) hs
 subst ex
 obtain rfl:ov=Value.ref a:=rx
 exact GR I2 ea c n l ry fun s3 I3=>⟨σ,_,I3,q2⟩
noncomputable def K3:V->V->Hp->VK->Prop:=fun x y H Q=>∃ i j,x=.int i/\y=.int j/\Q (.int (i+j)) H
theorem Uo {pl:Sem Bool} {m:Str} {apos:Pos} {args:List Expr} {σ:St} {H:Hp} {Q:Value->Shared->Prop} {te:TE} (he:PE X e te) (I:Inv X pins σ H s)
 (h:te σ H fun x H1=>∃ a C dx fs g,x=.ref a/\H1 a=some (.ins C dx fs)/\ue X.K C/\Meth X.K C m g/\fs.lookup m=none/\
   ∀ s1,Inv X pins σ H1 s1->wpAny (model X.prog X.w) X.A (callWith pos (.ref g) [.ref a] (backTo pos (starEach args X.env)) (backToKw pos (keywordEach [] X.env))) Q X.xe s1)
 (ht:eval (.Call (.Attribute e m apos) args [] pos) X.env=(do
   let ov ← eval e X.env
   standAt apos.atName
   let (f,first) ← holding [ov] (getMethod ov m pl)
   callWith pos f first (backTo pos (starEach args X.env)) (backToKw pos (keywordEach [] X.env)))):
 wpAny (model X.prog X.w) X.A (eval (.Call (.Attribute e m apos) args [] pos) X.env) Q X.xe s:=by
 refine W.methodCall_KW (pl:=pl) (bz (he pins s σ H _ I h) fun u s1 ⟨x,H1,I1,rx,a,C,dx,fs,g,ex,ea,c,k,l,q⟩=>?_) ht
 subst ex
 obtain rfl:u=Value.ref a:=rx
 exact sJ I1 ea c k l (q s1 I1)
end
section
variable {X:Cx} {pins:List (Addr×Obj)} {σ:St} {H:Hp} {s:Shared} {A:Around} {E:Value->Shared->Prop} {Q:Value->Shared->Prop} {c:Value} {b:Bool}
end
structure bR (k:Nat) (A:Around):Prop where
 hd:A.handled=none
 dp:A.depth+3*k+5<recursionLimit
 un:A.units+16*k+200<cLine
 gd:A.guards=some []
theorem bR.mono {j k:Nat} (r:bR k A) (h:j<=k):bR j A:=⟨r.hd,by have:=r.dp; omega,by have:=r.un; omega,r.gd⟩
theorem bR.deeper {k:Nat} (r:bR (k+1) A) (env:Env):bR k (A.deeper env):=
 ⟨r.hd,by have:=r.dp; show A.depth+1+3*k+5<_; omega,by have:=r.un; show A.units+3+16*k+200<_; omega,r.gd⟩
theorem GZ {C:Addr} {us:List Value} {kw:List (Str×Value)}:(A.under (.builtin "type.__call__" ⟨.ref C::us,kw⟩)).depth=A.depth+1:=by
 first | rfl | simp [Around.under,Code.weight,Code.isCreation,Code.isGuard,Code.isCaller,Code.frames,Code.isFrame,guardIds]
theorem G3 {C:Addr} {us:List Value} {kw:List (Str×Value)}:(A.under (.builtin "type.__call__" ⟨.ref C::us,kw⟩)).units=A.units+1:=by
 first | rfl | simp [Around.under,Code.cUnits,Code.frames,Code.isFrame]
theorem bR.make {k:Nat} (r:bR (k+1) A) (C:Addr) (us:List Value) (kw:List (Str×Value)):bR k (A.under (.builtin "type.__call__" ⟨.ref C::us,kw⟩)):=
 ⟨r.hd,by have:=r.dp; rw [GZ]; omega,by have:=r.un; rw [G3]; omega,by first | exact r.gd | (simpa [Around.under,Code.isGuard,guardIds] using r.gd)⟩
theorem bR.depth {k:Nat} (r:bR k A):A.depth<recursionLimit:=by have:=r.dp; omega
theorem bR.units {k:Nat} (r:bR k A):A.units+64<cLine:=by have:=r.un; omega
noncomputable def Bw:TA:=fun _ H Q=>Q [] H
noncomputable def wF (ta:TE) (tr:TA):TA:=fun σ H Q=>ta σ H fun x H1=>tr σ H1 fun xs H2=>Q (x::xs) H2
section
variable {X:Cx} {e:Expr} {es:List Expr} {te:TE} {t:TA} {pos:Pos}
theorem uf:PA X [] Bw:=fun _ _ _ _ H Q I h=>Calls.spliced_nil ⟨[],H,I,.nil,h⟩
theorem nW (ha:PE X e te) (hr:PA X es t) (hs:starEach (e::es) X.env=(false,eval e X.env)::starEach es X.env:=by rfl):PA X (e::es) (wF te t):=by
 intro pos pins s σ H Q I h
 rw [hs]
 show wpAny _ _ (spliced ((false,eval e X.env)::backTo pos (starEach es X.env))) _ _ s
 refine Calls.spliced_cons (bz (ha pins s σ H _ I h) fun u s1 ⟨x,H1,I1,r1,q1⟩=>?_)
 exact bz (hr pos pins s1 σ H1 _ I1 q1) fun us s2 ⟨xs,H2,I2,r2,q2⟩=>⟨x::xs,H2,I2,.cons r1 r2,q2⟩
noncomputable def Ry (t:TA):TE:=fun σ H Q=>t σ H fun xs H1=>xs.length<=sizeLine/\∀ p,H1 p=none->Q (.ref p) (upd H1 p (.tup xs))
noncomputable def VJ (t:TA):TE:=fun σ H Q=>t σ H fun xs H1=>xs.length<=sizeLine/\∀ p,H1 p=none->Q (.ref p) (upd H1 p (.lst xs))
theorem Bx {x1} (h:PA X es t):PE X (.Tuple es x1 pos) (Ry t):=by
 intro pins s σ H Q I hq
 refine wpAny_Tuple_spliced (bz (h pos pins s σ H _ I hq) fun us s1 ⟨xs,H1,I1,r,z,q⟩=>⟨by rw [← r.length]; exact z,?_⟩)
 have hf:H1 s1.heap.objs.size=none:=I1.hok.fresh (Nat.le_refl _)
 refine ⟨.ref s1.heap.objs.size,upd H1 s1.heap.objs.size (.tup xs),I1.laid (t':=s1.toks) (fun b u e=>Heap.get?_push_of_some _ e) (Nat.le_refl _) ?_,rfl,q _ hf⟩
 exact ⟨z,us,r,⟨_,Heap.get?_push_size _ rfl,rfl,_,rfl⟩⟩
theorem Rz (h:PA X es t):PE X (.List es pos) (VJ t):=by
 intro pins s σ H Q I hq
 refine wpAny_List_spliced (bz (h pos pins s σ H _ I hq) fun us s1 ⟨xs,H1,I1,r,z,q⟩=>⟨by rw [← r.length]; exact z,?_⟩)
 have hf:H1 s1.heap.objs.size=none:=I1.hok.fresh (Nat.le_refl _)
 refine ⟨.ref s1.heap.objs.size,upd H1 s1.heap.objs.size (.lst xs),I1.laid (t':=s1.toks) (fun b u e=>Heap.get?_push_of_some _ e) (Nat.le_refl _) ?_,rfl,q _ hf⟩
 exact ⟨z,us,0,r,Heap.get?_push_size _ rfl⟩
end
noncomputable abbrev Sp:=List V->Hp->VK->XK->Prop
noncomputable abbrev rK:=List Env->Hp->Shared->XK->Value->Shared->Prop
structure vR (P:Program) (w:World) (K:FG) (mg:Str->Option Value) (base:Heap) (A:Around) (outer:List Env) (s:Shared) (H:Hp):Prop where
 frames:A.frames=some outer
 mod:Mod K mg base
 bs:∀ b o,base.get? b=some o->s.heap.get? b=some o/\H b=none
 bsz:base.objs.size<=s.heap.objs.size
 funs:s.heap.FunFrames base outer
 frf:∀ b∈frs outer,H b=none
 hok:fY P w H s.heap
 bare:AllBare s.gens
noncomputable def CE (outer:List Env) (P:Program) (w:World) (H:Hp) (s:Shared) (Q:VK) (u:Value) (s':Shared):Prop:=
 ∃ v H',s'.os=s.os/\AllBare s'.gens/\Un (frs outer) [] H H' s.heap s'.heap/\fY P w H' s'.heap/\RelV v u/\Q v H'
noncomputable def CR (CX:rK) (outer:List Env) (P:Program) (w:World) (H:Hp) (s:Shared) (Q:VK) (E:XK) (r:Result) (s':Shared):Prop:=
 match r with
 | .ok (.ret u)=>CE outer P w H s Q u s'
 | .ok _=>False
 | .error e=>CX outer H s E e s'
structure gb (P:Program) (w:World) (K:FG) (mg:Str->Option Value) (base:Heap) (CX:rK) (k:Nat) (f:Addr) (fd:FuncData) (ps:List Str) (sp:Sp):Prop where
 len:∀ vs H Q E,sp vs H Q E->vs.length=ps.length
 run:∀ (A:Around) (outer:List Env) (s:Shared) (H:Hp) (args:Args) (us:List Value) (vs:List V) (Q:VK) (E:XK),bR k A->vR P w K mg base A outer s H->BindsTo s fd args (ps.zip us)->Vals vs us->sp vs H Q E->
  codeAny (model P w) A (.call (.ref f) args) (CR CX outer P w H s Q E) s
theorem gb.imp {K:FG} {mg:Str->Option Value} {base:Heap} {CX:rK} {k:Nat} {f:Addr} {fd:FuncData} {ps:List Str} {sp sp':Sp} (F:gb P w K mg base CX k f fd ps sp)
 (h:∀ vs H Q E,sp' vs H Q E->sp vs H Q E):gb P w K mg base CX k f fd ps sp':=
 ⟨fun vs H Q E q=>F.len vs H Q E (h _ _ _ _ q),fun A outer s H args us vs Q E hr he hb hv hs=>F.run A outer s H args us vs Q E hr he hb hv (h _ _ _ _ hs)⟩
theorem vR.make {K:FG} {mg:Str->Option Value} {base:Heap} {outer:List Env} {H:Hp} (e:vR P w K mg base A outer s H) (C:Addr) (us:List Value) (kw:List (Str×Value)):
 vR P w K mg base (A.under (.builtin "type.__call__" ⟨.ref C::us,kw⟩)) outer s H:=⟨by first | exact e.frames | (simpa [Around.under,Code.envs,Code.isFrame,pushEnvs] using e.frames),e.mod,e.bs,e.bsz,e.funs,e.frf,e.hok,e.bare⟩
section
variable {X:Cx} {pins:List (Addr×Obj)} {σ:St} {H:Hp} {s s':Shared}
theorem Inv.env0 (I:Inv X pins σ H s):vR X.prog X.w X.K X.mg X.base X.A X.stack s H:=
 ⟨I.ok.frames,I.ok.mod,I.bs,Nat.le_trans I.ok.bsz I.sz,I.stack,I.stkFree,I.hok,I.bare⟩
theorem Inv.after {Q:VK} {u:Value} (I:Inv X pins σ H s) (h:CE X.stack X.prog X.w H s Q u s'):EP X pins σ Q u s':=by
 obtain ⟨v,H',os,bare,un,hok,r,q⟩:=h
 obtain ⟨hh,g,d,t,os'⟩:=s'
 obtain rfl:os'=s.os:=os
 exact ⟨v,H',I.call (h':=hh) (g':=g) (d':=d) (t':=t) (ch:=[]) un hok bare (fun b z=>absurd z (by simp)),r,q⟩
end
noncomputable def G4 (sp:Sp) (dvs:List V) (E:XK) (t:TA):TE:=fun σ H Q=>t σ H fun vs H1=>sp (vs++dvs) H1 Q E
noncomputable def G5 (C:Addr) (m:Str) (sp:Sp) (dvs:List V) (E:XK) (ta:TE) (t:TA):TE:=fun σ H Q=>ta σ H fun x H1=>∃ a dx fs,x=.ref a/\H1 a=some (.ins C dx fs)/\fs.lookup m=none/\
 t σ H1 fun vs H2=>sp (x::(vs++dvs)) H2 Q E
noncomputable def Nv (C:Addr) (sp:Sp) (dvs:List V) (E:XK) (t:TA):TE:=fun σ H Q=>t σ H fun vs H1=>∀ x dx,H1 x=none->H1 dx=none->dx≠x->
 sp (.ref x::(vs++dvs)) (upd (upd H1 dx (.own x)) x (.ins C dx [])) (fun v H2=>v=.non/\Q (.ref x) H2) E
noncomputable def Binds (K:FG) (fd:FuncData) (ps:List Str) (ds:List Value):Prop:=
 ∀ (s:Shared) (us:List Value),K.In s.heap->(us++ds).length=ps.length->BindsTo s fd ⟨us,[]⟩ (ps.zip (us++ds))
theorem Binds.all {K:FG} {fd:FuncData} {ps:List Str} (h:∀ us:List Value,us.length=ps.length->bindArgs fd ⟨us,[]⟩=pure (ps.zip us)):Binds K fd ps []:=fun s us _ hl=>by
 rw [List.append_nil] at hl ⊢
 exact .of_eq (h us hl)
noncomputable def ni (CX:rK) (X:Cx) (E:XK):Prop:=∀ (pins:List (Addr×Obj)) (σ:St) (H:Hp) (s:Shared) (e:Value) (s':Shared),Inv X pins σ H s->CX X.stack H s E e s'->X.xe e s'
section
variable {X:Cx} {CX:rK} {k:Nat} {f C:Addr} {fd:FuncData} {ps:List Str} {sp:Sp} {dvs:List V} {ds:List Value} {E:XK} {x m:Str} {p pos apos:Pos} {e o:Expr} {es:List Expr} {ta:TE} {t:TA}
theorem By {σ:St} {H:Hp} {Q:VK} {us:List Value} {vs:List V} (F:gb X.prog X.w X.K X.mg X.base CX k f fd ps sp) (hr:bR k X.A) (hb:Binds X.K fd ps ds) (hd:Vals dvs ds) (hx:∀ H s e s',Inv X pins σ H s->CX X.stack H s E e s'->X.xe e s')
 (I:Inv X pins σ H s) (r:Vals vs us) (h:sp (vs++dvs) H Q E):wpAny (model X.prog X.w) X.A (call (.ref f) us) (EP X pins σ Q) X.xe s:=by
 have r2:Vals (vs++dvs) (us++ds):=r.append hd
 have hl:(us++ds).length=ps.length:=by rw [← r2.length]; exact F.len _ _ _ _ h
 refine wpAny_call (codeAny_mono (F.run X.A X.stack s H ⟨us,[]⟩ (us++ds) (vs++dvs) Q E hr I.env0 (hb s us I.kIn hl) r2 h) fun r s' hq=>?_)
 cases r with
 | error e=>exact hx H s e s' I hq
 | ok fl=>
  cases fl with
  | ret u=>exact I.after hq
  | next=>exact False.elim hq
  | brk=>exact False.elim hq
  | cont=>exact False.elim hq
theorem Et (F:gb X.prog X.w X.K X.mg X.base CX k f fd ps sp) (hr:bR k X.A) (hg:Gl X x) (hm:X.mg x=some (.ref f)) (hk:W.keepIn X.K (.ref f)=true) (hb:Binds X.K fd ps ds) (hd:Vals dvs ds) (hx:ni CX X E)
 (ha:PA X (e::es) t) (hdb:(x==("__debug__" : Str))=false:=by decide) (he:starEach (e::es) X.env=(false,eval e X.env)::starEach es X.env:=by rfl) (hpl:(backTo pos (starEach es X.env)).any (·.1)=false:=by rfl):
 PE X (.Call (.Name x p) (e::es) [] pos) (G4 sp dvs E t):=by
 intro pins s σ H Q I h
 refine wpAny_Call_Name_kw (rG I hg hm ?_ hdb)
 refine W.callWith_K (h₀:=X.base) I.ok.mod.kin hk (bz (ha pos pins s σ H _ I h) fun us s1 ⟨vs,H1,I1,r,q⟩=>⟨I1.kIn,?_⟩) he hpl
 exact By F hr hb hd (hx _ _) I1 r q
theorem O4 {pl:Sem Bool} (he:PE X o ta) (c:ue X.K C) (hm:Meth X.K C m f) (F:gb X.prog X.w X.K X.mg X.base CX k f fd ps sp) (hr:bR k X.A) (hb:Binds X.K fd ps ds) (hd:Vals dvs ds) (hx:ni CX X E) (ha:PA X (e::es) t)
 (hst:starEach (e::es) X.env=(false,eval e X.env)::starEach es X.env:=by rfl) (hpl:(backTo pos (starEach es X.env)).any (·.1)=false:=by rfl)
 (ht:eval (.Call (.Attribute o m apos) (e::es) [] pos) X.env=(do
   let ov ← eval o X.env
   standAt apos.atName
   let (f,first) ← holding [ov] (getMethod ov m pl)
   callWith pos f first (backTo pos (starEach (e::es) X.env)) (backToKw pos (keywordEach [] X.env))):=by rfl):
 PE X (.Call (.Attribute o m apos) (e::es) [] pos) (G5 C m sp dvs E ta t):=by
 intro pins s σ H Q I h
 refine W.methodCall_KW (pl:=pl) (bz (he pins s σ H _ I h) fun u s1 ⟨x,H1,I1,rx,a,dx,fs,ex,ea,l,q⟩=>?_) ht
 subst ex
 obtain rfl:u=Value.ref a:=rx
 refine sJ I1 ea c hm l ?_
 refine W.callWith_K (first:=[.ref a]) (h₀:=X.base) I.ok.mod.kin hm.kp (bz (ha pos pins s1 σ H1 _ I1 q) fun us s2 ⟨vs,H2,I2,r,q2⟩=>⟨I2.kIn,?_⟩) hst hpl
 exact By (us:=.ref a::us) (vs:=.ref a::vs) F hr hb hd (hx _ _) I2 (.cons rfl r) q2
theorem K4 {pl:Sem Bool} (he:PE X o ta) (c:ue X.K C) (hm:Meth X.K C m f) (F:gb X.prog X.w X.K X.mg X.base CX k f fd ps sp) (hr:bR k X.A) (hb:Binds X.K fd ps ds) (hd:Vals dvs ds) (hx:ni CX X E)
 (ht:eval (.Call (.Attribute o m apos) [] [] pos) X.env=(do
   let ov ← eval o X.env
   standAt apos.atName
   let (f,first) ← holding [ov] (getMethod ov m pl)
   callWith pos f first (backTo pos (starEach [] X.env)) (backToKw pos (keywordEach [] X.env))):=by rfl):
 PE X (.Call (.Attribute o m apos) [] [] pos) (G5 C m sp dvs E ta Bw):=by
 intro pins s σ H Q I h
 refine W.methodCall_KW (pl:=pl) (bz (he pins s σ H _ I h) fun u s1 ⟨x,H1,I1,rx,a,dx,fs,ex,ea,l,q⟩=>?_) ht
 subst ex
 obtain rfl:u=Value.ref a:=rx
 refine sJ I1 ea c hm l ?_
 exact W.callWith_K0 (first:=[.ref a]) I1.kIn hm.kp (By (us:=[.ref a]) (vs:=[.ref a]) F hr hb hd (hx _ _) I1 (.cons rfl .nil) q)
structure Mk (K:FG) (C f:Addr):Prop where
 makes:W.makesIn K C=true
 init:W.findIn K (.ref C) "__init__" = some (some (.ref f))
 fn:W.isFn K (.ref f)=true
 kp:W.keepIn K (.ref C)=true
theorem K5 {σ:St} {H:Hp} {Q:VK} {us:List Value} {vs:List V} (M:Mk X.K C f) (F:gb X.prog X.w X.K X.mg X.base CX k f fd ps sp) (hr:bR (k+1) X.A) (hb:Binds X.K fd ps ds) (hd:Vals dvs ds)
 (hx:∀ H s e s',Inv X pins σ H s->CX X.stack H s E e s'->X.xe e s') (I:Inv X pins σ H s) (r:Vals vs us)
 (h:∀ x dx,H x=none->H dx=none->dx≠x->sp (.ref x::(vs++dvs)) (upd (upd H dx (.own x)) x (.ins C dx [])) (fun v H2=>v=.non/\Q (.ref x) H2) E):
 wpAny (model X.prog X.w) X.A (call (.ref C) us) (EP X pins σ Q) X.xe s:=by
 have hq:=h (s.heap.objs.size+1) s.heap.objs.size (I.hok.fresh (Nat.le_succ _)) (I.hok.fresh (Nat.le_refl _)) (Nat.ne_of_lt (Nat.lt_succ_self _))
 have I2:=Inv.made (C:=C) I
 have r2:Vals (V.ref (s.heap.objs.size+1)::(vs++dvs)) (Value.ref (s.heap.objs.size+1)::(us++ds)):=.cons rfl (r.append hd)
 have hl:(Value.ref (s.heap.objs.size+1)::us++ds).length=ps.length:=by
  have e:=r2.length
  rw [F.len _ _ _ _ hq] at e
  exact e.symm
 refine wpAny_call (K1 (f:=f) I.kIn M.makes M.init (beq_iff_eq.mp M.fn) (codeAny_mono (F.run _ X.stack _ _ ⟨Value.ref (s.heap.objs.size+1)::us,[]⟩ (Value.ref (s.heap.objs.size+1)::(us++ds)) _ _ E (hr.make C us [])
  (I2.env0.make C us []) (hb _ (Value.ref (s.heap.objs.size+1)::us) I2.kIn hl) r2 hq) fun r s' hq'=>?_))
 cases r with
 | error e=>exact hx _ _ e s' I2 hq'
 | ok fl=>
  cases fl with
  | ret u=>
   obtain ⟨v,H',I3,rv,ev,q3⟩:=I2.after hq'
   subst ev
   exact ⟨rv,⟨V.ref (s.heap.objs.size+1),H',I3,rfl,q3⟩⟩
  | next=>exact False.elim hq'
  | brk=>exact False.elim hq'
  | cont=>exact False.elim hq'
end
section
variable {X:Cx} {CX:rK} {k:Nat} {f C:Addr} {fd:FuncData} {ps ks:List Str} {sp:Sp} {E:XK} {x m:Str} {p pos apos kpos:Pos} {e o:Expr} {es:List Expr} {kws:List Keyword} {te ta:TE} {t tk:TA} {nm:Option Str}
variable {g:List Value->List Value->List Value} {gV:List V->List V->List V}
end
structure aV (N P:List Str) (sc:Scope):Prop where
 kind:sc.kind=.function
 co:sc.isCoroutine=false
 gen:sc.isGenerator=false
 nd:N.Nodup
 pre:N.take P.length=P
 par:∀ x∈P,sc.names.lookup x=some .local\/sc.names.lookup x=some .cell
 nofree:∀ y∈sc.names,y.2≠.free
theorem zB {kindOf:Str->Option NameKind} {x:Str}:∀ {binds:List (Str×Value)} {m:Str->Option Value},(∀ v,(x,v)∉binds)->bindL kindOf binds m x=m x
 | [],_,_=>rfl
 | (n,v)::r,m,h=>by
  unfold bindL
  rw [zB fun w hw=>h w (List.mem_cons_of_mem _ hw)]
  split
  . have:x≠n:=by rintro rfl; exact h v List.mem_cons_self
    simp [this]
  . rfl
theorem zE {kindOf:Str->Option NameKind} {x:Str}:∀ {binds:List (Str×Value)} {m:Str->Option Value},(∀ v,(x,v)∉binds)->bindC kindOf binds m x=m x
 | [],_,_=>rfl
 | (n,v)::r,m,h=>by
  unfold bindC
  rw [zE fun w hw=>h w (List.mem_cons_of_mem _ hw)]
  split
  . rfl
  . have:x≠n:=by rintro rfl; exact h v List.mem_cons_self
    simp [this]
theorem zF {kindOf:Str->Option NameKind} {x:Str} {v:Value}:∀ {P:List Str} {vs:List Value} {i:Nat} {m:Str->Option Value},P.Nodup->P[i]?=some x->vs[i]?=some v->kindOf x=some .local->
 bindL kindOf (P.zip vs) m x=some v
 | [],_,_,_,_,h,_,_=>by simp at h
 | _::_,[],_,_,_,_,h,_=>by simp at h
 | p::P,w::vs,0,m,nd,h1,h2,hk=>by
  simp at h1 h2; subst h1; subst h2
  show bindL kindOf ((p,w)::P.zip vs) m p=_
  unfold bindL
  rw [zB fun v hv=>(List.nodup_cons.mp nd).1 (List.of_mem_zip hv).1,if_pos hk]
  simp
 | p::P,w::vs,i+1,m,nd,h1,h2,hk=>by
  show bindL kindOf ((p,w)::P.zip vs) m x=_
  unfold bindL
  exact zF (i:=i) (List.nodup_cons.mp nd).2 (by simpa using h1) (by simpa using h2) hk
theorem zG {kindOf:Str->Option NameKind} {x:Str} {v:Value}:∀ {P:List Str} {vs:List Value} {i:Nat} {m:Str->Option Value},P.Nodup->P[i]?=some x->vs[i]?=some v->kindOf x≠some .local->
 bindC kindOf (P.zip vs) m x=some v
 | [],_,_,_,_,h,_,_=>by simp at h
 | _::_,[],_,_,_,_,h,_=>by simp at h
 | p::P,w::vs,0,m,nd,h1,h2,hk=>by
  simp at h1 h2; subst h1; subst h2
  show bindC kindOf ((p,w)::P.zip vs) m p=_
  unfold bindC
  rw [zE fun v hv=>(List.nodup_cons.mp nd).1 (List.of_mem_zip hv).1,if_neg hk]
  simp
 | p::P,w::vs,i+1,m,nd,h1,h2,hk=>by
  show bindC kindOf ((p,w)::P.zip vs) m x=_
  unfold bindC
  exact zG (i:=i) (List.nodup_cons.mp nd).2 (by simpa using h1) (by simpa using h2) hk
noncomputable def start (N:List Str) (vs:List V):St:=vs.map some++List.replicate (N.length-vs.length) none
noncomputable def gH (CX:rK) (P:Program) (w:World) (K:FG) (mg:Str->Option Value) (base:Heap) (N:List Str) (qual:Str) (scope:Scope) (f:Addr) (cd:Value) (A:Around) (outer:List Env) (s:Shared) (H:Hp) (E:XK):Cx where
 prog:=P
 w:=w
 K:=K
 mg:=mg
 base:=base
 A:=A.deeper (envOfC qual scope s.heap.objs.size f cd)
 N:=N
 s₀:=s
 H0:=H
 env:=envOfC qual scope s.heap.objs.size f cd
 outer:=outer
 stack:=envOfC qual scope s.heap.objs.size f cd::outer
 ex:=[]
 calm:=true
 fn:=fun _=>true
 pn:=[]
 xe:=fun e s'=>wpAny (model P w) (A.deeper (envOfC qual scope s.heap.objs.size f cd)) (leaving (envOfC qual scope s.heap.objs.size f cd) e) (fun _ s''=>CX outer H s E e s'') (fun e' s''=>CX outer H s E e' s'') s'
theorem BJ {sc:Scope} {n:Nat} {x:Str} (h:sc.names.lookup x=some .cell):∃ c,(cellsFrom n sc.names []).lookup x=some c:=by
 have q:=W.cellsFrom_some sc.names n [] (.inl h)
 exact Option.isSome_iff_exists.mp q
theorem Jh {CX:rK} {K:FG} {mg:Str->Option Value} {base:Heap} {N ps:List Str} {qual:Str} {scope:Scope} {f:Addr} {cd:Value} {outer:List Env} {s s1:Shared} {H:Hp} {E:XK} {us:List Value} {vs:List V}
 (S:aV N ps scope) (hd:A.handled=none) (e0:vR P w K mg base A outer s H) (hl:vs.length=ps.length) (r:Vals vs us)
 (x:InCallC s s.heap.objs.size (bindL (envOfC qual scope s.heap.objs.size f cd).kindOf (ps.zip us) fun _=>none) (cellsFrom (s.heap.objs.size+1) scope.names []) (bindC (envOfC qual scope s.heap.objs.size f cd).kindOf (ps.zip us) fun _=>none) s1):
 Inv (gH CX P w K mg base N qual scope f cd A outer s H E) [] (start N vs) H s1:=by
 have hpl:ps.length<=N.length:=by have:=congrArg List.length S.pre; rw [List.length_take] at this; omega
 obtain ⟨h1,tk,rfl,hk⟩:=x.done
 have noA:∀ b:Addr,b∉(gH CX P w K mg base N qual scope f cd A outer s H E).ex:=fun b z=>absurd (show b∈([]:List Addr) from z) (by simp)
 refine ⟨⟨e0.mod,S.kind,rfl,rfl,Nat.le_refl _,fun y z c h1 h2=>?_,fun y hy=>?_,fun y c _ h=>?_,fun _=>hd,Around.frames_deeper e0.frames,.inr ⟨rfl,rfl⟩,fun b z=>absurd z (noA b),e0.bs,e0.bsz,fun b _ _=>noA b,fun b z=>absurd z (noA b),e0.funs,e0.frf⟩,
  rfl,e0.bare,Un.kept hk,⟨_,x.toInCall.ns,fun i y v h1 h2 h3=>?_⟩,fun y c h=>⟨_,x.cell y c h⟩,e0.hok.fresh (Nat.le_refl _),fun y c h=>?_,fun p hp=>absurd (show p∈([]:List (Addr×Obj)) from hp) (by simp),e0.hok.kept hk,?_⟩
 . exact name_of_addr x.apart (PySem.mem_of_lookup h1) (PySem.mem_of_lookup h2)
 . have hy:scope.names.lookup y=some .cell\/scope.names.lookup y=some .free:=hy
   rcases hy with hy | hy
   . exact BJ hy
   . exact absurd rfl (S.nofree _ (PySem.mem_of_lookup hy))
 . exact Nat.le_of_lt (x.above y c (PySem.mem_of_lookup h))
 . have hi:i<vs.length:=by
    unfold start at h2
    by_cases hi:i<vs.length
    . exact hi
    . rw [List.getElem?_append_right (by simpa using hi)] at h2
      rw [List.getElem?_replicate] at h2
      split at h2<;>cases h2
   have ha:vs[i]?=some v:=by
    unfold start at h2
    rw [List.getElem?_append_left (by simpa using hi),List.getElem?_map] at h2
    cases e:vs[i]? with
    | none=>rw [e] at h2; cases h2
    | some a=>rw [e] at h2; cases h2; rfl
   obtain ⟨u,hu,rv⟩:=r.get ha
   have hp:ps[i]?=some y:=by
    rw [← S.pre,List.getElem?_take_of_lt (by omega)]; exact h1
   have ndP:ps.Nodup:=by rw [← S.pre]; exact S.nd.sublist (List.take_sublist _ _)
   refine ⟨u,rv,?_⟩
   rcases S.par y (List.mem_of_getElem? hp) with k | k
   . exact .inl ⟨k,zF ndP hp hu k⟩
   . obtain ⟨c,e⟩:=BJ (n:=s.heap.objs.size+1) k
     refine .inr ⟨.inl k,c,e,?_⟩
     have q:=x.cell y c e
     rw [zG ndP hp hu (by show scope.names.lookup y≠_; rw [k]; decide)] at q
     exact q
 . exact e0.hok.fresh (Nat.le_of_lt (x.above y c (PySem.mem_of_lookup h)))
 . unfold start
   show _=N.length
   rw [List.length_append,List.length_map,List.length_replicate]
   omega
theorem Nx {CX:rK} {K:FG} {mg:Str->Option Value} {base:Heap} {k:Nat} {f:Addr} {name qual:Str} {params:Arguments} {body:List Stmt} {scope:Scope} {dV kV doc pm cdv ct oc:Value} {an od:Option Addr}
 {osl:Array (Option Value)} {N ps:List Str} {sp:Sp} (lk:K.lookup f=some ⟨oc,od,.func (W.fnOf name qual params body scope dV kV doc pm an cdv ct),osl⟩) (hcd:W.codeIn K cdv qual=true) (S:aV N ps scope)
 (len:∀ vs H Q E,sp vs H Q E->vs.length=ps.length)
 (hbody:∀ (A:Around) (outer:List Env) (s:Shared) (H:Hp) (vs:List V) (Q:VK) (E:XK),bR k (A.deeper (envOfC qual scope s.heap.objs.size f cdv))->sp vs H Q E->
   ∃ t,dC (gH CX P w K mg base N qual scope f cdv A outer s H E) body t/\t { nx:=fun _ H'=>Q .non H',rt:=Q } (start N vs) H):
 gb P w K mg base CX (k+1) f (W.fnOf name qual params body scope dV kV doc pm an cdv ct) ps sp:=by
 refine ⟨len,fun A outer s H args us vs Q E hr e0 hb r hsp=>?_⟩
 have hl:=len _ _ _ _ hsp
 have KX:K.In s.heap:=e0.mod.kin.keeps fun b o e=>(e0.bs b o e).1
 have lim:s.heap.NoLimit:=e0.mod.nolimit.keeps fun b o e=>(e0.bs b o e).1
 have hkind:∀ y∈ps.zip us,scope.names.lookup y.1=some .local\/(scope.names.lookup y.1=some .cell/\((cellsFrom (s.heap.objs.size+1) scope.names []).lookup y.1).isSome=true):=fun ⟨n,v⟩ hy=>by
  rcases S.par n (List.of_mem_zip hy).1 with q | q
  . exact .inl q
  . exact .inr ⟨q,W.cellsFrom_some _ _ _ (.inl q)⟩
 refine codeAny_call_function hr.depth (KX _ _ lk) rfl S.co S.gen rfl (W.codeRec_of KX hcd) (hb _ _ _ _ ?_)
 refine wpAny_newFunctionEnv_cells S.kind hkind fun env he s1 x=>?_
 subst he
 refine ⟨lim.keeps x.toInCall.keep,codeAny_func ?_⟩
 obtain ⟨t,ht,hq⟩:=hbody A outer s H vs Q E (hr.deeper _) hsp
 have I:Inv (gH CX P w K mg base N qual scope f cdv A outer s H E) [] (start N vs) H s1:=Jh S hr.hd e0 hl r x
 refine wpAny_mono (ht [] s1 (start N vs) H _ I hq) (fun fl s' hs=>?_) fun e s' hs=>hs
 have fin:∀ {σ':St} {H':Hp} {v:V} {u:Value},Inv (gH CX P w K mg base N qual scope f cdv A outer s H E) [] σ' H' s'->RelV v u->Q v H'->CE outer P w H s Q u s':=
  fun {σ' H' v u} J rv q=>⟨v,H',J.os,J.bare,J.base,J.hok,rv,q⟩
 cases fl with
 | ret u=>
  obtain ⟨v,σ',H',J,rv,q⟩:=hs
  exact fin J rv q
 | next=>
  obtain ⟨σ',H',J,q⟩:=hs
  exact fin (v:=V.non) (u:=Value.none) J rfl q
 | brk=>
  obtain ⟨_,_,_,q⟩:=hs
  exact False.elim q
 | cont=>
  obtain ⟨_,_,_,q⟩:=hs
  exact False.elim q
section
variable {X:Cx} {x:Str} {p pos:Pos} {e:Expr} {es:List Expr} {t:TA} {id T:String} {r:List V->Hp->VK->Prop}
noncomputable def zH (r:List V->Hp->VK->Prop) (t:TA):TE:=fun σ H Q=>t σ H fun vs H1=>r vs H1 Q
theorem fQ (hc:m9 X (.builtin id) r) (hg:Gl X x) (hm:X.mg x=none) (hv:bootBuiltins x=some (.builtin id)) (ha:PA X (e::es) t) (hn:x ≠ "__name__" := by decide) (hdb:(x==("__debug__" : Str))=false:=by decide)
 (he:starEach (e::es) X.env=(false,eval e X.env)::starEach es X.env:=by rfl) (hpl:(backTo pos (starEach es X.env)).any (·.1)=false:=by rfl):PE X (.Call (.Name x p) (e::es) [] pos) (zH r t):=by
 intro pins s σ H Q I h
 refine wpAny_Call_Name_kw (wA I hg hm hv ?_ hn hdb)
 exact PyProof.Rows.callWith_builtin1 (bz (ha pos pins s σ H _ I h) fun us s1 ⟨vs,H1,I1,r1,q1⟩=>hc pins s1 σ H1 vs us Q I1 r1 q1) he hpl
theorem gQ (hc:m9 X (.type T) r) (hg:Gl X x) (hm:X.mg x=none) (hv:bootBuiltins x=some (.type T)) (ha:PA X (e::es) t) (hn:x ≠ "__name__" := by decide) (hdb:(x==("__debug__" : Str))=false:=by decide)
 (he:starEach (e::es) X.env=(false,eval e X.env)::starEach es X.env:=by rfl) (hpl:(backTo pos (starEach es X.env)).any (·.1)=false:=by rfl):PE X (.Call (.Name x p) (e::es) [] pos) (zH r t):=by
 intro pins s σ H Q I h
 refine wpAny_Call_Name_kw (wA I hg hm hv ?_ hn hdb)
 exact PyProof.Rows.callWith_type1 (bz (ha pos pins s σ H _ I h) fun us s1 ⟨vs,H1,I1,r1,q1⟩=>hc pins s1 σ H1 vs us Q I1 r1 q1) he hpl
end
end L2
namespace HT
open PySem PyProof.Rows
section
open PySem.SeqAt
open PySem.AutoSeq1 (wpAny_loadPart')
open PySem.MeetsSeq PySem.MeetsSeq2 PySem.MeetsSeq3
end
section
variable {prog:Program} {w:World} {A:Around} {E:Value->Shared->Prop} {s:Shared}
theorem cat_tup {t b:Addr} {vs ws:List Value} {Q:Value->Shared->Prop} (ht:IsTup s.heap t vs.toArray) (hb:IsTup s.heap b ws.toArray) (hv:vs≠[])
 (h1:ws=[]->Q (.ref t) s) (h2:ws≠[]->Q (.ref s.heap.objs.size) { s with heap:=s.heap.push { cls:=.type "tuple",data:=.seq (vs++ws).toArray } })
 (hsz:vs.length+ws.length<=sizeLine):wpAny (model prog w) A (binaryOp .Add (.ref t) (.ref b)) Q E s:=by
 obtain ⟨⟨cls,dd,data,sl⟩,ho,hc,n,hd⟩:=id ht
 obtain ⟨⟨cls2,dd2,data2,sl2⟩,ho2,hc2,n2,hd2⟩:=id hb
 simp only at hc hd hc2 hd2
 subst hc hd hc2 hd2
 have e:vs.toArray++ws.toArray=(vs++ws).toArray:=by simp
 by_cases hw:ws=[]
 . exact concat_meets ⟨_,ho,rfl⟩ ⟨_,ho2,rfl⟩ noFill_tuple_add seq_tuple_add F.slot_tuple_add F.entry_tuple_add (F.args_tuple_add_2 _ _)
    (tuple_addW1 t b vs.toArray ws.toArray n n2 dd dd2 sl sl2 (by simpa using hv) (by simp [hw])) ⟨ho,ho2,h1 hw⟩
 . refine concat_meets ⟨_,ho,rfl⟩ ⟨_,ho2,rfl⟩ noFill_tuple_add seq_tuple_add F.slot_tuple_add F.entry_tuple_add (F.args_tuple_add_2 _ _)
    (tuple_addW2 t b vs.toArray ws.toArray n n2 dd dd2 sl sl2 (by simpa using hv) (by simpa using hw) (by rw [List.size_toArray,List.size_toArray]; exact hsz)) ⟨ho,ho2,?_⟩
   rw [e]
   exact h2 hw
noncomputable def sIx (n d:Nat):Option Int->Nat
 | none=>d
 | some v=>if v<0 then (v+(n:Int)).toNat else min v.toNat n
theorem sIx_none (n d:Nat):sIx n d none=d:=rfl
theorem sIx_nat (n d k:Nat):sIx n d (some (k:Int))=min k n:=by
 show (if (k:Int)<0 then ((k:Int)+(n:Int)).toNat else min (k:Int).toNat n)=min k n
 rw [if_neg (by omega),Int.toNat_natCast]
theorem sIx_le (n d:Nat) (hd:d<=n) (o:Option Int):sIx n d o<=n:=by
 cases o with
 | none=>exact hd
 | some v=>
  show (if v<0 then (v+(n:Int)).toNat else min v.toNat n)<=n
  by_cases hv:v<0
  . rw [if_pos hv]; omega
  . rw [if_neg hv]; exact Nat.min_le_right _ _
end
end HT
namespace L2
open PySem PySem.Spec PyProof.Rows
variable {pins:List (Addr×Obj)} {E:Value->Shared->Prop} {s:Shared} {A:Around} {w:World} {P:Program}
noncomputable abbrev TO:=St->Hp->(Option Int->Hp->Prop)->Prop
noncomputable def PO (X:Cx) (e:Option Expr) (t:TO):Prop:=
 ∀ (pins:List (Addr×Obj)) (s:Shared) (σ:St) (H:Hp) (Q:Option Int->Hp->Prop),Inv X pins σ H s->t σ H Q->
  wpAny (model X.prog X.w) X.A (evalPart e X.env) (fun u s'=>∃ o H',Inv X pins σ H' s'/\IsPart u o/\Q o H') X.xe s
noncomputable def O5:TO:=fun _ H Q=>Q none H
noncomputable def Ux (t:TE):TO:=fun σ H Q=>t σ H fun x H1=>∃ i,x=.int i/\Q (some i) H1
section
variable {X:Cx} {e:Expr} {te:TE} {lo hi:Option Expr} {tl th:TO} {pos p2:Pos}
theorem O6:PO X none O5:=by
 intro pins s σ H Q I h
 rw [evalPart_none]
 exact wpAny_pure ⟨none,H,I,.none,h⟩
theorem O7 (h:PE X e te):PO X (some e) (Ux te):=by
 intro pins s σ H Q I hw
 rw [evalPart_some]
 refine bz (h pins s σ H _ I hw) fun u s1 ⟨x,H1,I1,r1,q1⟩=>?_
 obtain ⟨i,rfl,q⟩:=q1
 obtain ⟨t,rfl⟩:=r1
 exact ⟨some i,H1,I1,.int i t,q⟩
noncomputable def BK (X:Cx) (r:V->Option Int->Option Int->Hp->VK->Prop):Prop:=
 ∀ (pins:List (Addr×Obj)) (s:Shared) (σ:St) (H:Hp) (x:V) (v vl vu:Value) (lo hi:Option Int) (sl:Addr) (Q:VK),Inv X pins σ H s->RelV x v->s.heap.IsSliceOf sl vl vu .none->IsPart vl lo->IsPart vu hi->r x lo hi H Q->
  ∃ T id,typeLookup (.type T) "__getitem__" = pure (some (.builtin id))/\s.TypeIs v T/\wpAny (model X.prog X.w) X.A (getItem v (.ref sl)) (EP X pins σ Q) X.xe s
theorem BK.or {r r':V->Option Int->Option Int->Hp->VK->Prop} (h:BK X r) (h':BK X r'):BK X (fun x lo hi H Q=>r x lo hi H Q\/r' x lo hi H Q):=by
 intro pins s σ H x v vl vu lo hi sl Q I rx hs pl pu q
 rcases q with q | q
 . exact h pins s σ H x v vl vu lo hi sl Q I rx hs pl pu q
 . exact h' pins s σ H x v vl vu lo hi sl Q I rx hs pl pu q
noncomputable def Wh (r:V->Option Int->Option Int->Hp->VK->Prop) (te:TE) (tl th:TO):TE:=fun σ H Q=>te σ H fun x H1=>tl σ H1 fun l H2=>th σ H2 fun u H3=>r x l u H3 Q
theorem K6 {r:V->Option Int->Option Int->Hp->VK->Prop} (hr:BK X r) (he:PE X e te) (hl:PO X lo tl) (hu:PO X hi th):PE X (.Subscript e (.Slice lo hi none p2) pos) (Wh r te tl th):=by
 intro pins s σ H Q I h
 refine Subscript_ (bz (he pins s σ H _ I h) fun v s1 ⟨x,H1,I1,r1,q1⟩=>?_)
 refine wpAny_Slice (bz (hl pins s1 σ H1 _ I1 q1) fun vl s2 ⟨l,H2,I2,pl,q2⟩=>bz (hu pins s2 σ H2 _ I2 q2) fun vu s3 ⟨u,H3,I3,pu,q3⟩=>?_)
 rw [evalPart_none]
 refine wpAny_pure ?_
 have I4:Inv X pins σ H3 { s3 with heap:=s3.heap.push { cls:=.type "slice",data:=.fields #[vl,vu,.none] } }:=I3.kept (t':=s3.toks) fun b ob q=>Heap.get?_push_of_some _ q
 obtain ⟨T,id,hT,ht,hg⟩:=hr pins { s3 with heap:=s3.heap.push { cls:=.type "slice",data:=.fields #[vl,vu,.none] } } σ H3 x v vl vu l u s3.heap.objs.size Q I4 r1 (Heap.IsSliceOf.new ..) pl pu q3
 show wpAny (model X.prog X.w) X.A (subscriptTail e (.Slice lo hi none p2) v (.ref s3.heap.objs.size)) (EP X pins σ Q) X.xe { s3 with heap:=s3.heap.push { cls:=.type "slice",data:=.fields #[vl,vu,.none] } }
 exact tail_any (ops:=[.ref s3.heap.objs.size,v]) ht hT hg (by with_unfolding_all rfl)
noncomputable def vU (xs:List V) (lo hi:Option Int):List V:=(xs.drop (HT.sIx xs.length 0 lo)).take (HT.sIx xs.length xs.length hi-HT.sIx xs.length 0 lo)
theorem Eh (xs:List V) (lo hi:Option Int):(vU xs lo hi).length<=xs.length:=by
 unfold vU
 rw [List.length_take,List.length_drop]
 omega
noncomputable def Ny (K:FG):R2:=fun x y H Q=>∃ a b xs ys,x=.ref a/\y=.ref b/\dj K H a xs/\dj K H b ys/\xs≠[]/\xs.length+ys.length<=sizeLine/\
 (ys=[]->Q (.ref a) H)/\(ys≠[]->∀ p,H p=none->Q (.ref p) (upd H p (.tup (xs++ys))))
theorem Vals.nil_iff {xs:List V} {us:List Value} (r:Vals xs us):us=[] ↔ xs=[]:=by
 cases r with
 | nil=>simp
 | cons _ _=>simp
theorem O8:fj X (binaryOp .Add) (Ny X.K):=by
 intro pins s σ H x y v u Q I rx ry h
 obtain ⟨a,b,xs,ys,rfl,rfl,ha,hb,hx,hz,q1,q2⟩:=h
 cases rx
 cases ry
 obtain ⟨its,r1,p1,_⟩:=I.tuple ha
 obtain ⟨its2,r2,p2,_⟩:=I.tuple hb
 refine HT.cat_tup p1 p2 (fun z=>hx (r1.nil_iff.mp z)) (fun z=>⟨.ref a,H,I,rfl,q1 (r2.nil_iff.mp z)⟩) (fun z=>?_) (by rw [← r1.length,← r2.length]; exact hz)
 refine ⟨.ref s.heap.objs.size,_,I.laid (t':=s.toks) (o:=.tup (xs++ys)) (fun b ob q=>Heap.get?_push_of_some _ q) (Nat.le_refl _) ?_,rfl,q2 (fun w=>z (r2.nil_iff.mpr w)) _ (I.hok.fresh (Nat.le_refl _))⟩
 exact ⟨by rw [List.length_append]; exact hz,_,r1.append r2,IsTup.new _ _⟩
end
noncomputable def oX (n:Nat) (i:Int):Option Nat:=if 0<=i then (if i<n then some i.toNat else none) else if -(n:Int)<=i then some (i+n).toNat else none
noncomputable def gn {α:Type} (xs:List α) (i:Int):Option α:=(oX xs.length i).bind fun j=>xs[j]?
theorem Eu {n:Nat} {i:Int} {j:Nat} (h:oX n i=some j):seqIndex? i n=some j/\j<n/\-(n:Int)<=i/\i<n:=by
 unfold oX at h
 by_cases h0:0<=i
 . rw [if_pos h0] at h
   by_cases h1:i<n
   . rw [if_pos h1] at h
     have e:i.toNat=j:=Option.some.inj h
     exact ⟨by rw [seqIndex_of h0 h1,e],by omega,by omega,h1⟩
   . rw [if_neg h1] at h; cases h
 . rw [if_neg h0] at h
   by_cases h1:-(n:Int)<=i
   . rw [if_pos h1] at h
     have e:(i+n).toNat=j:=Option.some.inj h
     exact ⟨by rw [seqIndex_neg (by omega) h1,e],by omega,h1,by omega⟩
   . rw [if_neg h1] at h; cases h
theorem yz {α:Type} {xs:List α} {i:Int} {v:α} (h:gn xs i=some v):∃ j,seqIndex? i xs.length=some j/\xs[j]?=some v/\j<xs.length/\-(xs.length:Int)<=i/\i<xs.length:=by
 unfold gn at h
 cases e:oX xs.length i with
 | none=>rw [e] at h; cases h
 | some j=>
  rw [e] at h
  obtain ⟨h1,h2,h3,h4⟩:=Eu e
  exact ⟨j,h1,h,h2,h3,h4⟩
noncomputable def uY (b:Expr):Prop:=∀ o i,subscripted b false o i=operate [o,i] (getItem o i)
noncomputable def vH (X:Cx) (r:R2):Prop:=
 ∀ (value slice:Expr) (pins:List (Addr×Obj)) (s:Shared) (σ:St) (H:Hp) (x y:V) (v u:Value) (Q:VK),Inv X pins σ H s->RelV x v->RelV y u->r x y H Q->
  subscripted slice false v u=operate [v,u] (getItem v u)->wpAny (model X.prog X.w) X.A (subscriptTail value slice v u) (EP X pins σ Q) X.xe s
noncomputable def Nz (X:Cx) (id:String) (r:V->List V->Hp->VK->Prop):Prop:=
 ∀ (pins:List (Addr×Obj)) (s:Shared) (σ:St) (H:Hp) (x:V) (xs:List V) (v:Value) (us:List Value) (Q:VK),Inv X pins σ H s->RelV x v->Vals xs us->r x xs H Q->
  wpAny (model X.prog X.w) X.A (call (.builtin id) (v::us)) (EP X pins σ Q) X.xe s
section
variable {X:Cx} {a b:Expr} {ta tb:TE} {pos:Pos}
theorem vH.or {r r':R2} (h:vH X r) (h':vH X r'):vH X (fun x y H Q=>r x y H Q\/r' x y H Q):=by
 intro value slice pins s σ H x y v u Q I rx ry q hs
 rcases q with q | q
 . exact h value slice pins s σ H x y v u Q I rx ry q hs
 . exact h' value slice pins s σ H x y v u Q I rx ry q hs
theorem G6 {r:R2} (hr:vH X r) (ha:PE X a ta) (hb:PE X b tb) (hs:uY b):PE X (.Subscript a b pos) (Ja r ta tb):=by
 intro pins s σ H Q I h
 exact Subscript_ (KH ha hb I h fun v u s2 x y H2 I2 rx ry q=>hr a b pins s2 σ H2 x y v u Q I2 rx ry q (hs _ _))
noncomputable def RB (K:FG):R2:=fun x y H Q=>∃ p xs i v,x=.ref p/\y=.int i/\b8 K H p xs/\gn xs i=some v/\Q v H
noncomputable def RC (K:FG):R2:=fun x y H Q=>∃ p xs i v,x=.ref p/\y=.int i/\dj K H p xs/\gn xs i=some v/\Q v H
noncomputable def RD:R2:=fun x y H Q=>∃ z i c,x=.str z/\y=.int i/\z.length<=sizeLine/\gn z.cps.toList i=some c/\Q (.str ⟨#[c]⟩) H
theorem O9:vH X (RB X.K):=by
 intro value slice pins s σ H x y v u Q I rx ry h hs
 obtain ⟨p,xs,i,z,rfl,rfl,hq,he,q⟩:=h
 cases rx
 obtain ⟨t,rfl⟩:=ry
 obtain ⟨its,r,pl,hz⟩:=I.list hq
 obtain ⟨j,h1,h2,h3,h4,h5⟩:=yz he
 obtain ⟨w,ew,rw'⟩:=r.get h2
 have hl:=r.length
 have hn:=rJ
 have fin:EP X pins σ Q w s:=⟨z,H,I,rw',q⟩
 by_cases h0:0<=i
 . have hj:i.toNat=j:=by
    rw [seqIndex_of h0 h5] at h1
    exact Option.some.inj h1
   exact item_listR pl.isList h0 (by omega) (by rw [hj]; simpa using ew) fin hs
 . have hj:(i+(its.toArray.size:Int)).toNat=j:=by
    rw [seqIndex_neg (by omega) h4] at h1
    rw [List.size_toArray,← hl]
    exact Option.some.inj h1
   exact subscriptTail_builtinR (x:=w) pl.isList.typeIs slot_list_getitem.lookup
    (wpAny_getItem_list_neg (Q:=fun r s'=>r=w/\EP X pins σ Q r s') pl.isList (by omega) (by rw [List.size_toArray]<;>omega) (by omega) (by rw [hj]; simpa using ew) ⟨rfl,fin⟩) hs
theorem RG:vH X (RC X.K):=by
 intro value slice pins s σ H x y v u Q I rx ry h hs
 obtain ⟨p,xs,i,z,rfl,rfl,hq,he,q⟩:=h
 cases rx
 obtain ⟨t,rfl⟩:=ry
 obtain ⟨its,r,pl,hz⟩:=I.tuple hq
 obtain ⟨j,h1,h2,h3,h4,h5⟩:=yz he
 obtain ⟨w,ew,rw'⟩:=r.get h2
 have hl:=r.length
 have hn:=rJ
 have fin:EP X pins σ Q w s:=⟨z,H,I,rw',q⟩
 exact subscriptTail_builtinR (x:=w) pl.typeIs slot_tuple_getitem.lookup
  (getItem_tuple (j:=j) (Q:=fun r s'=>r=w/\EP X pins σ Q r s') pl (by omega) (by omega) (by rw [List.size_toArray,← hl]; exact h1) (by simpa using ew) ⟨rfl,fin⟩) hs
theorem RJ:vH X RD:=by
 intro value slice pins s σ H x y v u Q I rx ry h hs
 obtain ⟨z,i,c,rfl,rfl,hz,he,q⟩:=h
 obtain ⟨t,rfl⟩:=rx
 obtain ⟨t',rfl⟩:=ry
 obtain ⟨j,h1,h2,h3,h4,h5⟩:=yz he
 have hl:z.cps.toList.length=z.length:=by simp [Str.length]
 rw [hl] at h1 h4 h5
 have hn:=rJ
 exact tail_any (typeIs_str s z t) slot_str_getitem.lookup (getItem_str (c:=c) (by
  have e1:decide (i < -(2 ^ 63:Int))=false:=decide_eq_false (by omega)
  have e2:decide (i ≥ 2 ^ 63)=false:=decide_eq_false (by omega)
  rw [e1,e2,Bool.or_false]) (by rw [h1]; simpa using h2) ⟨.str ⟨#[c]⟩,H,I.tok _,⟨_,rfl⟩,q⟩) hs
noncomputable def RK (K:FG):R2:=fun x y H Q=>RB K x y H Q\/RC K x y H Q\/RD x y H Q
theorem Ji:vH X (RK X.K):=O9.or (RG.or RJ)
theorem G7 (its:List Value) (n j:Nat) (u:Value):Obj.mapSeq (·.setIfInBounds j u) { cls:=.type "list",data:=.seq its.toArray n }={ cls:=.type "list",data:=.seq (its.set j u).toArray n }:=by
 simp [Obj.mapSeq]
theorem Inv.lst {σ:St} {H:Hp} {p:Addr} {xs:List V} (I:Inv X pins σ H s) (h:H p=some (.lst xs)):
 ∃ (its:List Value) (n:Nat),Vals xs its/\s.heap.get? p=some { cls:=.type "list",data:=.seq its.toArray n }/\xs.length<=sizeLine:=by
 obtain ⟨z,its,n,r,e⟩:=I.hok p _ h
 exact ⟨its,n,r,e,z⟩
theorem Inv.lstUpd {σ:St} {H:Hp} {p:Addr} {xs ys:List V} {its its':List Value} {n n':Nat} {f:Obj->Obj} (I:Inv X pins σ H s) (h:H p=some (.lst xs))
 (ho:s.heap.get? p=some { cls:=.type "list",data:=.seq its.toArray n }) (hf:f { cls:=.type "list",data:=.seq its.toArray n }={ cls:=.type "list",data:=.seq its'.toArray n' }) (r:Vals ys its') (hz:ys.length<=sizeLine) (t:Nat):
 Inv X pins σ (upd H p (.lst ys)) { s with heap:=s.heap.update p f,toks:=t }:=by
 have e:(s.heap.update p f).get? p=some { cls:=.type "list",data:=.seq its'.toArray n' }:=by
  rw [Heap.get?_update_self f ho (by rw [hf]<;>rfl),hf]
 refine I.write (x:=p) (e:=p) (by rw [h]; trivial) (.inl rfl) (fun b u hb q=>(Heap.get?_update_other _ _ (Ne.symm hb)).trans q) ⟨_,e⟩ ?_
 exact ⟨hz,its',n',r,e⟩
noncomputable def G8:V->V->V->Hp->(Hp->Prop)->Prop:=fun o i v H Q=>∃ p xs k j,o=.ref p/\i=.int k/\H p=some (.lst xs)/\oX xs.length k=some j/\Q (upd H p (.lst (xs.set j v)))
theorem set_list:Kz X G8:=by
 intro pins s σ H o i v ov iv u Q I ro ri rv h
 obtain ⟨p,xs,k,j,rfl,rfl,hp,hj,q⟩:=h
 cases ro
 obtain ⟨t,rfl⟩:=ri
 obtain ⟨its,n,r,ho,hz⟩:=I.lst hp
 obtain ⟨h1,h2,h3,h4⟩:=Eu hj
 have hl:=r.length
 have hn:=rJ
 have I':Inv X pins σ (upd H p (.lst (xs.set j v))) { s with heap:=s.heap.update p (Obj.mapSeq (·.setIfInBounds j u)) }:=
  I.lstUpd hp ho (G7 its n j u) (r.set rv j) (by rw [List.length_set]; exact hz) s.toks
 by_cases h0:0<=k
 . have hk:k.toNat=j:=by
    rw [seqIndex_of h0 h4] at h1
    exact Option.some.inj h1
   exact W.ki_setAt ho h0 (by omega) (by rw [List.size_toArray,← hl]; exact h4) (by rw [hk]; exact ⟨_,I',q⟩)
 . have hk:(k+(its.toArray.size:Int)).toNat=j:=by
    rw [seqIndex_neg (by omega) h3] at h1
    rw [List.size_toArray,← hl]
    exact Option.some.inj h1
   exact W.ki_setBack ho (by omega) (by rw [List.size_toArray,← hl]; exact h3) (by omega) (by rw [hk]; exact ⟨_,I',q⟩)
theorem BP (lo hi:Option Int) (n:Nat):(sliceBounds lo hi none n).1=((HT.sIx n 0 lo:Nat):Int)/\(sliceBounds lo hi none n).2.1=((HT.sIx n n hi:Nat):Int)/\(sliceBounds lo hi none n).2.2=1:=by
 refine ⟨?_,?_,rfl⟩
 . cases lo with
   | none=>simp [sliceBounds,HT.sIx]
   | some i=>
    simp only [sliceBounds,HT.sIx,Option.getD_none,show (1:Int)>0 by decide,if_true]
    by_cases h:i<0
    . simp only [h,if_true]<;>omega
    . simp only [h,if_false]<;>omega
 . cases hi with
   | none=>simp [sliceBounds,HT.sIx]
   | some i=>
    simp only [sliceBounds,HT.sIx,Option.getD_none,show (1:Int)>0 by decide,if_true]
    by_cases h:i<0
    . simp only [h,if_true]<;>omega
    . simp only [h,if_false]<;>omega
theorem Aw (its:List Value) (lo hi:Option Int):slicePick its.toArray lo hi none=((its.drop (HT.sIx its.length 0 lo)).take (HT.sIx its.length its.length hi-HT.sIx its.length 0 lo)).toArray:=by
 obtain ⟨h1,h2,h3⟩:=BP lo hi its.toArray.size
 unfold slicePick
 rw [h1,h2,h3]
 simp only [sliceRange_one,pick_run,List.size_toArray]<;>rfl
noncomputable def VL (K:FG):V->Option Int->Option Int->Hp->VK->Prop:=fun x lo hi H Q=>∃ a xs,x=.ref a/\b8 K H a xs/\∀ p,H p=none->Q (.ref p) (upd H p (.lst (vU xs lo hi)))
theorem Pa:BK X (VL X.K):=by
 intro pins s σ H x v vl vu lo hi sl Q I rx hs pl pu h
 obtain ⟨a,xs,rfl,hx,q⟩:=h
 cases rx
 obtain ⟨its,r,ht,hz⟩:=I.list hx
 have hlen:=r.length
 refine ⟨"list",_,slot_list_getitem.lookup,ht.isList.typeIs,?_⟩
 refine wpAny_getItem_list_slice ht.isList hs pl pu .none (by simp) ?_ (by rw [List.size_toArray]<;>omega)
 rw [Aw,← hlen]
 refine ⟨.ref s.heap.objs.size,_,I.laid (t':=s.toks) (o:=.lst (vU xs lo hi)) (fun b ob q=>Heap.get?_push_of_some _ q) (Nat.le_refl _) ?_,rfl,q _ (I.hok.fresh (Nat.le_refl _))⟩
 exact ⟨Nat.le_trans (Eh xs lo hi) hz,_,0,(r.drop (HT.sIx xs.length 0 lo)).take (HT.sIx xs.length xs.length hi-HT.sIx xs.length 0 lo),Heap.get?_push_size _ rfl⟩
noncomputable def NB:V->Bool
 | .non=>true
 | .bl _=>true
 | .int _=>true
 | .str _=>true
 | _=>false
theorem fu:m9 X (.type "list") (fun xs H Q=>∃ p ys,xs=[.ref p]/\(b8 X.K H p ys\/dj X.K H p ys)/\∀ l,H l=none->Q (.ref l) (upd H l (.lst ys))):=by
 intro pins s σ H xs us Q I r h
 obtain ⟨p,ys,rfl,hq,q⟩:=h
 obtain ⟨u,rfl,rx⟩:=vals1 r
 cases rx
 have fin:∀ (its:List Value),Vals ys its->ys.length<=sizeLine->∀ (h':Heap) (c':Nat),(∀ b o',s.heap.get? b=some o'->h'.get? b=some o')->
  h'.get? s.heap.objs.size=some { cls:=.type "list",dict:=none,data:=.seq its.toArray c',slots:=#[] }->EP X pins σ Q (.ref s.heap.objs.size) { s with heap:=h' }:=fun its r' hz h' c' kp e=>
  ⟨.ref s.heap.objs.size,_,I.laid (t':=s.toks) kp (Nat.le_refl _) (show dF X.prog X.w _ h' _ (.lst ys) from ⟨hz,its,c',r',e⟩),rfl,q _ (I.hok.fresh (Nat.le_refl _))⟩
 rcases hq with hq | hq
 . obtain ⟨its,r',pl,hz⟩:=I.list hq
   have hlen:=r'.length
   obtain ⟨o,ho,hc,n,hd⟩:=pl.isList
   exact call_list_seq p (.inl rfl) ho hc hd (fun h' c' kp e=>fin its r' hz h' c' kp e) (by simp only [List.size_toArray]<;>omega)
 . obtain ⟨its,r',pl,hz⟩:=I.tuple hq
   have hlen:=r'.length
   obtain ⟨o,ho,hc,n,hd⟩:=pl
   exact call_list_seq p (.inr rfl) ho hc hd (fun h' c' kp e=>fin its r' hz h' c' kp e) (by simp only [List.size_toArray]<;>omega)
noncomputable def Vf (K:FG) (T:String) (x:V) (H:Hp):Prop:=match x with
 | .str _=>T = "str"
 | .int _=>T = "int"
 | .ref p=>(T = "list" /\ ∃ xs,b8 K H p xs)\/(T = "tuple" /\ ∃ o,K.lookup p=some o/\o.cls=.type "tuple" /\ o.dict=none)\/
  (T = "dict" /\ ((∃ kvs,H p=some (.dK kvs))\/∃ kvs,H p=some (.dT kvs)))\/(T = "set" /\ ∃ S n,H p=some (.set S n))
 | _=>False
theorem RL {σ:St} {H:Hp} {T:String} {x:V} {v:Value} (I:Inv X pins σ H s) (r:RelV x v) (ty:Vf X.K T x H):
 s.TypeIs v T/\∀ a,v=.ref a->∃ ob,s.heap.get? a=some ob/\ob.dict=none:=by
 cases x with
 | str z=>
  obtain ⟨t,rfl⟩:=r
  cases (show T = "str" from ty)
  exact ⟨typeIs_str s z t,fun _ e=>nomatch e⟩
 | int i=>
  obtain ⟨t,rfl⟩:=r
  cases (show T = "int" from ty)
  exact ⟨typeIs_int s i t,fun _ e=>nomatch e⟩
 | ref p=>
  cases r
  rcases ty with ⟨rfl,xs,hq⟩ | ⟨rfl,o,hk,hc,hd⟩ | ⟨rfl,hk⟩ | ⟨rfl,S,n,hk⟩
  . obtain ⟨its,_,pl,_⟩:=I.list hq
    refine ⟨pl.isList.typeIs,fun a e=>?_⟩
    cases e
    obtain ⟨o,n,e,c,hd,_⟩:=pl
    exact ⟨o,e,hd⟩
  . refine ⟨⟨o,I.kIn p o hk,hc⟩,fun a e=>?_⟩
    cases e
    exact ⟨o,I.kIn _ o hk,hd⟩
  . have z:∃ o,s.heap.get? p=some o/\o.ExactDict:=by
     rcases hk with ⟨kvs,hk⟩ | ⟨kvs,hk⟩
     . obtain ⟨_,_,_,_,o,_,_,e,ex,_⟩:=I.hok p _ hk
       exact ⟨o,e,ex⟩
     . obtain ⟨_,_,_,_,o,_,_,e,ex,_⟩:=I.hok p _ hk
       exact ⟨o,e,ex⟩
    obtain ⟨o,e,ex⟩:=z
    refine ⟨⟨o,e,ex.1⟩,fun a e2=>?_⟩
    cases e2
    exact ⟨o,e,ex.2.1⟩
  . obtain ⟨o,_,_,_,e,ex,_⟩:=I.hok p _ hk
    refine ⟨⟨o,e,ex.1⟩,fun a e2=>?_⟩
    cases e2
    exact ⟨o,e,ex.2.1⟩
 | _=>exact False.elim ty
noncomputable def Jj (K:FG) (T:String) (r:V->List V->Hp->VK->Prop) (to:TE) (t:TA):TE:=fun σ H Q=>to σ H fun x H1=>Vf K T x H1/\t σ H1 fun xs H2=>r x xs H2 Q
variable {o e:Expr} {es:List Expr} {to:TE} {t:TA} {name:Str} {apos cpos:Pos} {T id:String} {r:V->List V->Hp->VK->Prop}
theorem nj (pa:PlainAttrs T) (slot:Slot T name id) (hty:typeOf (.builtin id)=pure (.type "method_descriptor")) (hm:Nz X id r) (ho:PE X o to) (ha:PA X (e::es) t)
 (hbase:attributeBase o name X.env (eval o X.env)=eval o X.env:=by rfl)
 (hfew:((backTo cpos (starEach (e::es) X.env)).all (fun x=>!x.1)&&(backToKw cpos (keywordEach [] X.env)).all (fun x=>x.1.isSome)
   && decide ((e::es).length+([]:List Keyword).length+(if ([]:List Keyword).isEmpty then 0 else 1)<30))=true:=by rfl)
 (hline:(apos.endLine==cpos.line)=true:=by rfl) (hs:starEach (e::es) X.env=(false,eval e X.env)::starEach es X.env:=by rfl) (hplain:(backTo cpos (starEach es X.env)).any (·.1)=false:=by rfl):
 PE X (.Call (.Attribute o name apos) (e::es) [] cpos) (Jj X.K T r to t):=by
 intro pins s σ H Q I h
 refine wpAny_Call_method_late hbase hfew hline rfl (bz (ho pins s σ H _ I h) fun v s1 ⟨x,H1,I1,r1,ty,q1⟩=>?_)
 obtain ⟨h1,h2⟩:=RL I1 r1 ty
 refine ⟨T,id,pa,slot,hty,h1,h2,?_⟩
 have hA:=ha cpos pins s1 σ H1 _ I1 q1
 rw [hs] at hA ⊢
 refine Calls.callWith_builtin (by show (false||(backTo cpos (starEach es X.env)).any (·.1))=false; rw [hplain]<;>rfl) (Calls.evalArgs_plain ?_)
 exact bz hA fun us s2 ⟨vs,H2,I2,r2,q2⟩=>hm pins s2 σ H2 x vs v us Q I2 r1 r2 q2
end
noncomputable def Vg (X:Cx) (id:String) (r:V->List V->Hp->VK->Prop):Prop:=
 ∀ (pins:List (Addr×Obj)) (s:Shared) (σ:St) (H:Hp) (x:V) (xs:List V) (v:Value) (us:List Value) (Q:VK),Inv X pins σ H s->RelV x v->Vals xs us->r x xs H Q->
  wpAny (model X.prog X.w) X.A (call (.builtin id) (v::us)) (EP X pins σ Q) X.xe s
theorem Vals.one:∀ {x:V} {us:List Value},Vals [x] us->∃ u,us=[u]/\RelV x u
 | _,_,.cons r .nil=>⟨_,rfl,r⟩
theorem Vals.zero:∀ {us:List Value},Vals [] us->us=[]
 | _,.nil=>rfl
section
variable {X:Cx} {pins:List (Addr×Obj)} {σ:St} {H:Hp} {s:Shared} {l b:Addr} {xs ys zs:List V}
theorem Inv.lset {its its':List Value} {n:Nat} {f:Array Value->Array Value} {t':Nat} (I:Inv X pins σ H s) (hH:H l=some (.lst xs))
 (e:s.heap.get? l=some { cls:=.type "list",data:=.seq its.toArray n }) (hf:f its.toArray=its'.toArray) (hv:Vals ys its') (hz:ys.length<=sizeLine):
 Inv X pins σ (upd H l (.lst ys)) { s with heap:=s.heap.update l (Obj.mapSeq f),toks:=t' }:=by
 have q:=PySem.IsL.update e f
 rw [hf] at q
 refine I.write (x:=l) (e:=l) (by rw [hH]; exact trivial) (.inl rfl) (fun b' u hb hu=>(Heap.get?_update_other s.heap (Obj.mapSeq f) (Ne.symm hb)).trans hu) ⟨_,q⟩ ?_
 exact ⟨hz,its',_,hv,q⟩
theorem Inv.lnew {its:List Value} {t':Nat} (I:Inv X pins σ H s) (hv:Vals ys its) (hz:ys.length<=sizeLine):
 Inv X pins σ (upd H s.heap.objs.size (.lst ys)) { s with heap:=s.heap.push { cls:=.type "list",data:=.seq its.toArray },toks:=t' }:=
 I.laid (fun _ _ q=>Heap.get?_push_of_some _ q) (Nat.le_refl _) ⟨hz,its,0,hv,Heap.get?_push_size _ rfl⟩
theorem Inv.fresh (I:Inv X pins σ H s):H s.heap.objs.size=none:=I.hok.fresh (Nat.le_refl _)
theorem Inv.lstM (I:Inv X pins σ H s) (hH:H l=some (.lst xs)):xs.length<=sizeLine/\∃ (its:List Value) (n:Nat),Vals xs its/\xs.length=its.length/\s.heap.get? l=some { cls:=.type "list",data:=.seq its.toArray n }:=by
 obtain ⟨z,its,n,r,e⟩:=I.hok l _ hH
 exact ⟨z,its,n,r,r.length,e⟩
end
section
variable {X:Cx}
noncomputable def Ew:V->List V->Hp->VK->Prop:=fun x vs H Q=>∃ l xs y,x=.ref l/\vs=[y]/\H l=some (.lst xs)/\xs.length<sizeLine/\Q .non (upd H l (.lst (xs++[y])))
theorem zJ:Vg X "list.append" Ew:=by
 intro pins s σ H x vs v us Q I rx rv h
 obtain ⟨l,xs,y,rfl,rfl,hH,hz,q⟩:=h
 cases rx
 obtain ⟨u,rfl,ru⟩:=rv.one
 obtain ⟨z,its,n,r,hl,e⟩:=I.lstM hH
 refine call_meets F.slot_list_append ⟨_,e,rfl⟩ F.entry_list_append (F.args_list_append_2 _ _) (PySem.list_append l its.toArray n u (by rw [List.size_toArray]; omega)) ⟨e,?_⟩
 refine ⟨.non,_,I.lset (its':=its++[u]) hH e (by simp) (r.append (.cons ru .nil)) ?_,rfl,q⟩
 rw [List.length_append,List.length_singleton]
 omega
end
section
variable {prog:Program}
end
section
variable {X:Cx}
end
end L2
namespace Att
open PySem PySem.W PySem.Calls PyProof.Rows
theorem wG {P:Params} {h:Heap}:∀ (ns:List Int) (vs:List Value),WellAll P h vs (ns.map WData.int)->IntsAre vs ns:=by
 intro ns
 induction ns with
 | nil=>
  intro vs w
  rw [List.map_nil] at w
  cases w
  exact .nil
 | cons n ns ih=>
  intro vs w
  rw [List.map_cons] at w
  cases w with
  | cons a b=>
   cases a
   exact .cons _ _ (ih _ b)
theorem Jk {l:OpenLaw} {n:Nat} (hn:l.most=some n) {P:Params} {h:Heap} {args:List WData} {vals:List Value}
 (hpre:l.row.toRowW.claim.pre args=true) (hwl:WellAll P h vals args):
 ∃ a vs ns,vals=[Value.ref a]/\args=[WData.list (ns.map WData.int)]/\h.get? a=some { cls:=.type "list",data:=.seq vs.toArray }/\IntsAre vs ns/\ns.length<=n:=by
 have hsh:WShape.hasAll [] args [.list .int]=true:=(pre_splitW hpre).1
 have hc:l.pre.holds [] { args:=args }=true:=(pre_splitW hpre).2
 obtain ⟨d,r,rfl,h1,h2⟩:=hasAllW_cons hsh
 obtain rfl:=hasAllW_nil h2
 obtain ⟨xs,rfl,h3⟩:=hasW_list h1
 obtain ⟨ns,rfl⟩:=items_int h3
 have hlen:ns.length<=n:=by
  unfold OpenLaw.pre at hc
  have h4:(WTm.not (.lt (.lit (.int (n:Int))) (.len (.arg 0)))).holds [] { args:=[.list (ns.map .int)] }=true:=by
   have h4:=(holds_andW hc).1
   rw [hn] at h4
   exact h4
  have h5:=condW_of h4 (w_not (w_lt w_lit (w_len_list (w_arg rfl))))
  rw [List.length_map] at h5
  refine Nat.le_of_not_lt fun q=>?_
  have q':(n:Int)<((ns.length:Nat):Int):=by omega
  first
   | (rw [decide_eq_true q'] at h5; exact absurd h5 (by decide))
   | (simp at h5; omega)
 cases hwl with
 | cons w1 w2=>
  cases w2
  cases w1 with
  | list ho hall=>exact ⟨_,_,ns,rfl,rfl,ho,wG ns _ hall,hlen⟩
theorem Jl (l:OpenLaw) (args:List WData):l.row.toRowW.claim.post args (.bool true) args=true:=
 postW_of (r:=l.row.toRowW) (X:=(true==true))
  (show WShape.has [] (.bool true) .bool=true by first | rfl | decide | simp [WShape.has,WShape.arms,WShape.armsAll])
  (show (WTm.eq .res (.lit (.bool true))).value [] { args:=args,res:=some (.bool true),after:=args }=some (.bool (true==true)) from w_eq_bool (w_res rfl) w_lit) rfl
theorem attach_call {l:OpenLaw} {n:Nat} {q:Program} {loose:List Str} {XP:(Str->Option Value)->Heap->Prop} {YP:World->Heap->Prop} {d:DefRec}
 (hn:l.most=some n) (hdf:d.params.defaults=[])
 (call:∀ (w:World) (s₀ s₁:Shared) (mg mb:Str->Option Value) (fa:Addr) (o:Obj) (pm cd doc:Value) (a:Addr) (vs:List Value) (ns:List Int),
   Ground q loose [] XP w s₀ mg mb s₁.heap->YP w s₁.heap->
   s₁.heap.get? fa=some o->o.data=.func (docDef d.name d.params d.body d.scope pm cd doc)->s₁.heap.CodeRec cd d.name->mg d.name=some (.ref fa)->
   s₁.heap.get? a=some { cls:=.type "list",data:=.seq vs.toArray }->IntsAre vs ns->ns.length<=n->s₁.gens=#[]->
   codeAny (model l.prog w) callerA (.call (.ref fa) ⟨[.ref a],[]⟩) (fun r s'=>r=.ok (.ret (.bool true))/\OldK s₁.heap s'.heap/\s'.os=s₁.os/\AllBare s'.gens) s₁):
 WalkO q loose XP YP l.row.toRowW d [] (fun f vs=>PySem.call f vs):=by
 intro w s₀ s₁ mg mb G Y fa o pm cd doc dV kV ho hd hcd hD hmg hg args vals as hpre hlay hrd hwl hlo
 obtain rfl:dV=.none:=Dflts.none hD hdf
 obtain rfl:kV=.none:=Dflts.noKw hD
 obtain ⟨a,vs,ns,rfl,rfl,hobj,hints,hlen⟩:=Jk hn hpre hwl
 refine enter_call (codeAny_mono (call w s₀ s₁ mg mb fa o pm cd doc a vs ns G Y ho (fd_plain hd) hcd hmg hobj hints hlen hg) fun r s' hq=>?_)
 obtain ⟨rfl,h2,h3,h4⟩:=hq
 exact ⟨.inl ⟨.bool true,.bool true,[],rfl,fun _=>rfl,.bool true,Jl l _,fun _=>⟨List.Pairwise.nil,fun _ hm=>(nomatch hm)⟩⟩,h2,h3,h4⟩
section
variable {prog:Program} {w:World} {A:Around} {E:Value->Shared->Prop} {s:Shared} {K:Frag}
end
end Att
namespace L2
open PySem PySem.Spec PyProof.Rows
variable {pins:List (Addr×Obj)} {E:Value->Shared->Prop} {s:Shared} {A:Around} {w:World} {P:Program}
theorem zK:∀ {vs:List Value} {ns:List Int},IntsAre vs ns->Vals (ns.map V.int) vs
 | _,_,.nil=>.nil
 | _,_,.cons n t h=>.cons ⟨t,rfl⟩ (zK h)
noncomputable def Only (H:Hp):Prop:=∀ b,H b=none\/∃ o xs,H b=some (.frz o (.lst xs))
theorem K7 {K:FG} {mg mb:Str->Option Value} {CX:rK} {k:Nat} {fa a:Addr} {fd:FuncData} {x:Str} {sp:Sp} {s₁:Shared} {vs:List Value} {ns:List Int}
 (KX:K.In s₁.heap) (hns:s₁.heap.Ns mainGlobals mg) (hb:s₁.heap.Ns builtinsNs mb) (hbb:∀ x:Str,x ≠ "__name__" -> mb x=bootBuiltins x) (hlim:s₁.heap.NoLimit) (hg:s₁.gens=#[])
 (ha:s₁.heap.get? a=some { cls:=.type "list",data:=.seq vs.toArray }) (hi:IntsAre vs ns) (hl:ns.length<=sizeLine) (hr:bR k callerA)
 (F:∀ base:Heap,K.In base->base.Ns mainGlobals mg->gb P w K mg base CX k fa fd [x] sp) (hbind:∀ (s:Shared) (u:Value),BindsTo s fd ⟨[u],[]⟩ [(x,u)])
 (hsp:∀ H:Hp,Only H->b8 K H a (ns.map V.int)->sp [.ref a] H (fun v _=>v=.bl true) fun _ _ _=>False)
 (hCX:∀ H e s',CX [] H s₁ (fun _ _ _=>False) e s'->False):
 codeAny (model P w) callerA (.call (.ref fa) ⟨[.ref a],[]⟩) (fun r s'=>r=.ok (.ret (.bool true))/\OldK s₁.heap s'.heap/\s'.os=s₁.os/\AllBare s'.gens) s₁:=by
 have rv:=zK hi
 have lenV:=hi.length
 have core:∀ H:Hp,Only H->b8 K H a (ns.map V.int)->fY P w H s₁.heap->(∀ b,H b≠none->b=a)->(H a≠none->K.lookup a=none)->
  codeAny (model P w) callerA (.call (.ref fa) ⟨[.ref a],[]⟩) (fun r s'=>r=.ok (.ret (.bool true))/\OldK s₁.heap s'.heap/\s'.os=s₁.os/\AllBare s'.gens) s₁:=by
  intro H hO hS hok hA hK
  have base_of:∀ {b:Addr} {o:Obj},s₁.heap.get? b=some o->H b=none->(sG s₁.heap H).get? b=some o:=fun e n=>Kw e n
  have noA:∀ {b:Addr} {o:Obj} {es:Array DictEntry} {ep:Nat},s₁.heap.get? b=some o->o.data=.dict es ep->H b=none:=fun {b o es ep} e d=>by
   cases q:H b with
   | none=>rfl
   | some u=>
    have e':b=a:=hA b (by rw [q]; simp)
    subst e'
    rw [ha] at e; cases e
    have d':Data.seq vs.toArray _=Data.dict es ep:=d
    cases d'
  have nsK:∀ {b:Addr} {m:Str->Option Value},s₁.heap.Ns b m->(sG s₁.heap H).Ns b m:=fun {b m} ⟨o,es,ep,e,d,r⟩=>⟨o,es,ep,base_of e (noA e d),d,r⟩
  have hKb:K.In (sG s₁.heap H):=fun b o e=>base_of (KX b o e) (by
   cases q:H b with
   | none=>rfl
   | some u=>
    have e':b=a:=hA b (by rw [q]; simp)
    subst e'
    rw [hK (by rw [q]; simp)] at e; cases e)
  have hM:Mod K mg (sG s₁.heap H):=⟨hKb,nsK hns,⟨mb,nsK hb,hbb⟩,let ⟨mc,h1,h2⟩:=hlim; ⟨mc,nsK h1,h2⟩⟩
  have e0:vR P w K mg (sG s₁.heap H) callerA [] s₁ H:=⟨rfl,hM,fun b o e=>Ov e,Nat.le_of_eq (Ir _ _),trivial,fun b hb=>absurd (show b∈([]:List Addr) from hb) (by simp),hok,.of_eq hg⟩
  refine codeAny_mono ((F _ hKb (nsK hns)).run callerA [] s₁ H ⟨[.ref a],[]⟩ [.ref a] [.ref a] _ _ hr e0 (hbind s₁ (.ref a)) (.cons rfl .nil) (hsp H hO hS)) fun r s' h=>?_
  cases r with
  | error e=>exact (hCX H e s' h).elim
  | ok fl=>
   cases fl with
   | next=>exact False.elim h
   | brk=>exact False.elim h
   | cont=>exact False.elim h
   | ret u=>
    obtain ⟨v,H',os,bare,un,hok',r',q⟩:=h
    have q':v=.bl true:=q
    subst q'
    obtain rfl:u=Value.bool true:=r'
    refine ⟨rfl,OldK.of_keep fun b o e=>?_,os,bare⟩
    cases q:H b with
    | none=>exact un.keep b o e q (by intro z; exact absurd (show b∈([]:List Addr) from z) (by simp)) (by simp)
    | some u=>
     rcases hO b with z | ⟨ob,xs,z⟩
     . rw [q] at z; cases z
     . have z2:=un.frzs b ob _ z
       obtain ⟨e1,_⟩:=hok b _ z
       obtain ⟨e2,_⟩:=hok' b _ z2
       rw [e] at e1; cases e1
       exact e2
 cases hk:K.lookup a with
 | some o=>
  have e:=KX a o hk
  rw [ha] at e
  cases e
  refine core (fun _=>none) (fun _=>.inl rfl) (.inr ⟨_,vs.toArray,_,hk,rfl,rfl,rfl,by rw [List.size_toArray,lenV]; exact hl,by simpa using rv⟩) (fun b u z=>by have z':(none:Option HO)=some u:=z; cases z') (fun b z=>absurd rfl z) fun z=>absurd rfl z
 | none=>
  refine core (fun b=>if b=a then some (.frz { cls:=.type "list",data:=.seq vs.toArray } (.lst (ns.map V.int))) else none) (fun b=>?_) (.inl (.inr ⟨{ cls:=.type "list",data:=.seq vs.toArray },if_pos rfl⟩)) (fun b u z=>?_) (fun b z=>?_) fun _=>hk
  . by_cases hb:b=a
    . exact .inr ⟨_,_,if_pos hb⟩
    . exact .inl (if_neg hb)
  . by_cases hb:b=a
    . have z':=(if_pos hb).symm.trans z
      cases z'
      subst hb
      exact ⟨ha,by rw [List.length_map]; exact hl,vs,_,rv,ha⟩
    . have z':=(if_neg hb).symm.trans z
      cases z'
  . by_cases hb:b=a
    . exact hb
    . exact absurd (if_neg hb) z
theorem walk_of {l:W.OpenLaw} {n k:Nat} {q:Program} {loose:List Str} {XP:(Str->Option Value)->Heap->Prop} {YP:World->Heap->Prop} {d:DefRec} {K:Params->FG} {CX:World->rK} {sp:World->Sp} {x:Str}
 (hn:l.most=some n) (hn2:n<=sizeLine) (hdf:d.params.defaults=[]) (hr:bR k callerA)
 (hY:∀ (w:World) (h:Heap),YP w h->(K w.params).In h)
 (F:∀ (w:World) (mg:Str->Option Value) (fa:Addr) (h:Heap),(K w.params).In h->h.Ns mainGlobals mg->mg d.name=some (.ref fa)->
   ∃ fd:FuncData,(∀ (s:Shared) (u:Value),BindsTo s fd ⟨[u],[]⟩ [(x,u)])/\
    ∀ base:Heap,(K w.params).In base->base.Ns mainGlobals mg->gb l.prog w (K w.params) mg base (CX w) k fa fd [x] (sp w))
 (hsp:∀ (w:World) (H:Hp) (a:Addr) (ns:List Int),ns.length<=n->Only H->b8 (K w.params) H a (ns.map V.int)->sp w [.ref a] H (fun v _=>v=.bl true) fun _ _ _=>False)
 (hCX:∀ (w:World) (H:Hp) (s:Shared) (e:Value) (s':Shared),CX w [] H s (fun _ _ _=>False) e s'->False):
 W.WalkO q loose XP YP l.row.toRowW d [] (fun f vs=>PySem.call f vs):=by
 refine Att.attach_call hn hdf fun w s₀ s₁ mg mb fa o pm cd doc a vs ns G Y ho hd hcd hmg hobj hints hlen hg=>?_
 have KX:=hY w _ Y
 obtain ⟨fd,hb,hF⟩:=F w mg fa _ KX G.T.g hmg
 exact K7 KX G.T.g G.T.b G.T.builtins G.T.nolimit hg hobj hints (Nat.le_trans hlen hn2) hr hF hb (fun H hO hS=>hsp w H a ns hlen hO hS) fun H e s'=>hCX w H s₁ e s'
noncomputable def inClass (s:Stmt) (j:Nat):Stmt:=match s with
 | .ClassDef _ _ _ body _ _ _ _ _ _ _=>body.getD j (.Pass ⟨0,0,0,0⟩)
 | _=>.Pass ⟨0,0,0,0⟩
noncomputable def bj (s:Stmt):Arguments:=match s with
 | .FunctionDef _ a _ _ _ _ _ _ _ _=>a
 | _=>{ posonlyargs:=[],args:=[],vararg:=none,kwonlyargs:=[],kw_defaults:=[],kwarg:=none,defaults:=[] }
noncomputable def aP (s:Stmt):List Stmt:=match s with
 | .FunctionDef _ _ b _ _ _ _ _ _ _=>b
 | _=>[]
noncomputable def aq (s:Stmt):Scope:=match s with
 | .FunctionDef _ _ _ _ _ _ sc _ _ _=>sc
 | _=>{ kind:=.function,names:=[],isGenerator:=false,isCoroutine:=false }
noncomputable abbrev oY:rK:=fun _ _ _ _ _ _=>False
noncomputable abbrev E0:XK:=fun _ _ _=>False
theorem G9 {X:Cx}:ni oY X E0:=fun _ _ _ _ _ _ _ h=>h.elim
structure nR (K:FG) (x qual:Str) (st:Stmt) (f:Addr) (fd:FuncData):Prop where
 ex:∃ (oc:Value) (od:Option Addr) (kV doc pm:Value) (an:Option Addr) (cdv ct:Value) (osl:Array (Option Value)),
  fd=W.fnOf x qual (bj st) (aP st) (aq st) .none kV doc pm an cdv ct/\K.lookup f=some ⟨oc,od,.func fd,osl⟩/\W.codeIn K cdv qual=true
 kp:W.keepIn K (.ref f)=true
section
variable {P:Program} {w:World} {K:FG} {mg:Str->Option Value} {base:Heap}
theorem nR.ok {x qual:Str} {st:Stmt} {f:Addr} {fd:FuncData} {N ps:List Str} {k:Nat} {sp:Sp} (F:nR K x qual st f fd) (S:aV N ps (aq st)) (len:∀ vs H Q E,sp vs H Q E->vs.length=ps.length)
 (hbody:∀ (cdv:Value) (A:Around) (outer:List Env) (s:Shared) (H:Hp) (vs:List V) (Q:VK) (E:XK),bR k (A.deeper (envOfC qual (aq st) s.heap.objs.size f cdv))->sp vs H Q E->
   ∃ t,dC (gH oY P w K mg base N qual (aq st) f cdv A outer s H E).nox (aP st) t/\t { nx:=fun _ H'=>Q .non H',rt:=Q } (start N vs) H):gb P w K mg base oY (k+1) f fd ps sp:=by
 obtain ⟨oc,od,kV,doc,pm,an,cdv,ct,osl,rfl,lk,hcd⟩:=F.ex
 refine Nx lk hcd S len fun A outer s H vs Q E hr hsp=>?_
 obtain ⟨t,h,q⟩:=hbody cdv A outer s H vs Q E hr hsp
 exact ⟨t,h.nox,q⟩
theorem nR.binds {x qual:Str} {st:Stmt} {f:Addr} {fd:FuncData} {ps:List Str} (F:nR K x qual st f fd)
 (h:∀ (kV doc pm:Value) (an:Option Addr) (cdv ct:Value) (us:List Value),us.length=ps.length->bindArgs (W.fnOf x qual (bj st) (aP st) (aq st) .none kV doc pm an cdv ct) ⟨us,[]⟩=pure (ps.zip us)):Binds K fd ps []:=by
 obtain ⟨oc,od,kV,doc,pm,an,cdv,ct,osl,rfl,lk,hcd⟩:=F.ex
 exact .all (h kV doc pm an cdv ct)
theorem dM {x qual:Str} {st:Stmt} {f:Addr} {oc:Value} {od an:Option Addr} {osl:Array (Option Value)} {kV doc pm cdv ct:Value} (l:K.lookup f=some ⟨oc,od,.func (W.fnOf x qual (bj st) (aP st) (aq st) .none kV doc pm an cdv ct),osl⟩)
 (c:W.codeIn K cdv qual=true) (k:W.keepIn K (.ref f)=true):nR K x qual st f (W.fnOf x qual (bj st) (aP st) (aq st) .none kV doc pm an cdv ct):=⟨⟨oc,od,kV,doc,pm,an,cdv,ct,osl,rfl,l,c⟩,k⟩
end
theorem lY {k:Nat} (hr:bR k A):A.units+1<cLine:=Nat.lt_of_le_of_lt (Nat.add_le_add_left (by decide:1<=64) _) hr.units
section
variable {X:Cx}
theorem pv (i:Nat) {x:Str} {pos:Pos} (hN:X.N[i]?=some x:=by rfl) (hv:Iu X.env.scope x:=by first | exact Or.inl rfl | exact Or.inr (Or.inl rfl) | exact Or.inr (Or.inr rfl)) (hd:(x==("__debug__" : Str))=false:=by decide)
 (hcd:(x==("__classdict__" : Str))=false:=by decide):PE X (.Name x pos) (sH i):=Q4 hN hv hd hcd
end
noncomputable def cJ (H H':Hp):Prop:=∀ b o,H b=some o->H' b=some o
theorem cJ.refl (H:Hp):cJ H H:=fun _ _ h=>h
theorem cJ.trans {H H1 H2:Hp} (a:cJ H H1) (b:cJ H1 H2):cJ H H2:=fun c o h=>b c o (a c o h)
theorem cJ.free {H H':Hp} (e:cJ H H') {l:Addr} (h:H' l=Option.none):H l=Option.none:=by
 cases q:H l with
 | none=>rfl
 | some o=>
  rw [e l o q] at h
  cases h
theorem cJ.seq {K:FG} {H H':Hp} {a:Addr} {xs:List V} (e:cJ H H') (h:b8 K H a xs):b8 K H' a xs:=by
 rcases h with (h | ⟨o,h⟩) | h
 . exact .inl (.inl (e _ _ h))
 . exact .inl (.inr ⟨o,e _ _ h⟩)
 . exact .inr h
section
variable {κ:Type} [DecidableEq κ]
noncomputable def mz (kvs:List (κ×V)) (k:κ):Option V:=(kvs.find? fun kv=>decide (kv.1=k)).map (·.2)
noncomputable def putK (kvs:List (κ×V)) (k:κ) (v:V):List (κ×V):=
 if (kvs.any fun kv=>decide (kv.1=k))=true then kvs.map (fun kv=>if kv.1=k then (kv.1,v) else kv) else kvs++[(k,v)]
theorem qd {p:κ×V} {r:List (κ×V)} {k:κ} (e:p.1=k):mz (p::r) k=some p.2:=by simp [mz,List.find?_cons,e]
theorem qe {p:κ×V} {r:List (κ×V)} {k:κ} (e:¬ p.1=k):mz (p::r) k=mz r k:=by simp [mz,List.find?_cons,e]
theorem qg (k:κ):∀ kvs:List (κ×V),(kvs.any fun kv=>decide (kv.1=k))=(mz kvs k).isSome
 | []=>rfl
 | p::r=>by
  rw [List.any_cons]
  by_cases e:p.1=k
  . simp only [qd e,decide_eq_true e,Bool.true_or,Option.isSome_some]
  . rw [qe e,decide_eq_false e,Bool.false_or]; exact qg k r
theorem vI (kvs:List (κ×V)) (k:κ) (v:V):(putK kvs k v).length<=kvs.length+1:=by
 unfold putK
 split
 . rw [List.length_map]; omega
 . rw [List.length_append,List.length_cons,List.length_nil]; omega
theorem BR {kvs:List (κ×V)} {k:κ} (v:V) (h:mz kvs k=none):putK kvs k v=kvs++[(k,v)]:=by
 unfold putK
 rw [qg,h]
 exact if_neg (by decide)
theorem lG.isSome_eq {o:Option V} {u:Option Value} (r:lG o u):o.isSome=u.isSome:=by
 cases o with
 | none=>cases u with
  | none=>rfl
  | some _=>exact (show False from r).elim
 | some _=>cases u with
  | none=>exact (show False from r).elim
  | some _=>rfl
theorem KV.val {kvs:List (κ×V)} {vs:List (κ×Value)} (r:KV kvs vs) (k:κ):lG (mz kvs k) (valueAt vs k):=by
 unfold KV at r
 induction r with
 | nil=>exact True.intro
 | @cons p q ps qs h t ih=>
  obtain ⟨h1,h2⟩:=h
  by_cases e:p.1=k
  . have e':q.1=k:=h1.symm.trans e
    have b:valueAt (q::qs) k=some q.2:=by simp [valueAt,List.find?_cons,e']
    rw [qd e,b]; exact h2
  . have e':¬ q.1=k:=fun z=>e (h1.trans z)
    have b:valueAt (q::qs) k=valueAt qs k:=by simp [valueAt,List.find?_cons,e']
    rw [qe e,b]; exact ih
theorem KV.any {kvs:List (κ×V)} {vs:List (κ×Value)} (r:KV kvs vs) (k:κ):(kvs.any fun kv=>decide (kv.1=k))=vs.any fun kv=>decide (kv.1=k):=by
 unfold KV at r
 induction r with
 | nil=>rfl
 | cons h t ih=>rw [List.any_cons,List.any_cons,ih,h.1]
theorem KV.repl {kvs:List (κ×V)} {vs:List (κ×Value)} (r:KV kvs vs) (k:κ) {y:V} {u:Value} (ry:RelV y u):
 KV (kvs.map fun kv=>if kv.1=k then (kv.1,y) else kv) (vs.map fun kv=>if kv.1=k then (kv.1,u) else kv):=by
 unfold KV at r ⊢
 induction r with
 | nil=>exact .nil
 | @cons p q ps qs h t ih=>
  rw [List.map_cons,List.map_cons]
  refine .cons ?_ ih
  obtain ⟨h1,h2⟩:=h
  by_cases e:p.1=k
  . rw [if_pos e,if_pos (h1.symm.trans e)]; exact ⟨h1,ry⟩
  . rw [if_neg e,if_neg (fun z=>e (h1.trans z))]; exact ⟨h1,h2⟩
theorem KV.put {kvs:List (κ×V)} {vs:List (κ×Value)} (r:KV kvs vs) (k:κ) {y:V} {u:Value} (ry:RelV y u):KV (putK kvs k y) (stored vs k u):=by
 unfold putK stored
 rw [r.any k]
 by_cases e:(vs.any fun kv=>decide (kv.1=k))=true
 . rw [if_pos e,if_pos e]; exact r.repl k ry
 . rw [if_neg e,if_neg e]; exact Paired.snoc r ⟨rfl,ry⟩
theorem KV.keys {kvs:List (κ×V)} {vs:List (κ×Value)} (r:KV kvs vs):kvs.map (·.1)=vs.map (·.1):=by
 unfold KV at r
 induction r with
 | nil=>rfl
 | cons h t ih=>rw [List.map_cons,List.map_cons,ih,h.1]
theorem KV.length {kvs:List (κ×V)} {vs:List (κ×Value)} (r:KV kvs vs):kvs.length=vs.length:=Paired.length r
end
theorem Ha {k:Key} {u:Value} (r:RelV (kV k) u):(di P w).is k u=true:=by
 cases k with
 | inl i=>obtain ⟨t,e⟩:=(show ∃ t,u=Value.int i t from r); subst e; exact Ef P w i t
 | inr x=>obtain ⟨t,e⟩:=(show ∃ t,u=Value.str x t from r); subst e; exact Eg P w x t
theorem zL:∀ {ks:List Key} {us:List Value},Vals (ks.map kV) us->ItemsAre (di P w) ks us
 | [],_,r=>by rw [List.map_nil] at r; cases r; exact .nil
 | k::ks,_,r=>by
  rw [List.map_cons] at r
  cases r with
  | cons h t=>exact .cons (Ha h) (zL t)
noncomputable abbrev KT (H:Hp):List (List Key×V)->List (List Key×Addr×Value)->Prop:=Paired fun p q=>p.1=q.1/\H q.2.1=some (.tup (p.1.map kV))/\RelV p.2 q.2.2
theorem KT.val {H:Hp} {kvs:List (List Key×V)} {xs:List (List Key×Addr×Value)} (r:KT H kvs xs) (k:List Key):lG (mz kvs k) ((atKey xs k).map (·.2)):=by
 induction r with
 | nil=>exact True.intro
 | @cons p q ps qs h t ih=>
  obtain ⟨h1,_,h2⟩:=h
  by_cases e:p.1=k
  . have e':q.1=k:=h1.symm.trans e
    have b:atKey (q::qs) k=some q.2:=by simp [atKey,List.find?_cons,e']
    rw [qd e,b]; exact h2
  . have e':¬ q.1=k:=fun z=>e (h1.trans z)
    have b:atKey (q::qs) k=atKey qs k:=by simp [atKey,List.find?_cons,e']
    rw [qe e,b]; exact ih
theorem KT.repl {H:Hp} {kvs:List (List Key×V)} {xs:List (List Key×Addr×Value)} (r:KT H kvs xs) (k:List Key) {y:V} {u:Value} (ry:RelV y u):
 KT H (kvs.map fun kv=>if kv.1=k then (kv.1,y) else kv) (xs.map (putAt k u)):=by
 induction r with
 | nil=>exact .nil
 | @cons p q ps qs h t ih=>
  rw [List.map_cons,List.map_cons]
  refine .cons ?_ ih
  obtain ⟨h1,h2,h3⟩:=h
  unfold putAt
  by_cases e:p.1=k
  . rw [if_pos e,if_pos (h1.symm.trans e)]; exact ⟨h1,h2,ry⟩
  . rw [if_neg e,if_neg (fun z=>e (h1.trans z))]; exact ⟨h1,h2,h3⟩
theorem KT.put {H:Hp} {kvs:List (List Key×V)} {xs:List (List Key×Addr×Value)} (r:KT H kvs xs) (k:List Key) {b:Addr} {y:V} {u:Value} (hb:H b=some (.tup (k.map kV))) (ry:RelV y u):
 KT H (putK kvs k y) (storedH xs k b u):=by
 have e:(kvs.any fun kv=>decide (kv.1=k))=(atKey xs k).isSome:=by
  rw [qg,(r.val k).isSome_eq,Option.isSome_map]
 unfold putK storedH
 rw [e]
 by_cases q:(atKey xs k).isSome=true
 . rw [if_pos q,if_pos q]; exact r.repl k ry
 . rw [if_neg q,if_neg q]; exact Paired.snoc r ⟨rfl,hb,ry⟩
theorem KT.keeps {H H':Hp} {kvs:List (List Key×V)} {xs:List (List Key×Addr×Value)} (r:KT H kvs xs) (ht:∀ b ys,H b=some (.tup ys)->H' b=some (.tup ys)):KT H' kvs xs:=
 Paired.mapP r fun _ _ z=>⟨z.1,ht _ _ z.2.1,z.2.2⟩
section
variable {P:Program} {w:World} {H:Hp} {h:Heap} {a:Addr}
theorem NK {u:HO} (ok:fY P w H h) (e:Rd H a u):dF P w H h a u:=e.ok ok
theorem Hb {kvs:List (Key×V)} (ok:fY P w H h) (e:Rd H a (.dK kvs)):kvs.length<=sizeLine/\(a==sysModules)=false/\∃ vs,KV kvs vs/\h.DictOf (di P w) a vs:=
 show dF P w H h a (.dK kvs) from NK ok e
theorem Hc {kvs:List (Key×V)} (ok:fY P w H h) (e:H a=some (.dK kvs)):kvs.length<=sizeLine/\(a==sysModules)=false/\∃ vs,KV kvs vs/\h.DictOf (di P w) a vs:=Hb ok (.inl e)
theorem BV {ks:List Key} (ok:fY P w H h) (e:H a=some (.tup (ks.map kV))):(tupleKind (di P w)).is h ks a:=by
 obtain ⟨_,its,r,o,h1,h2,n,h3⟩:=(show dF P w H h a (.tup (ks.map kV)) from ok a _ e)
 exact ⟨o,its.toArray,n,h1,h2,h3,by simpa using zL r⟩
theorem Hd {kvs:List (List Key×V)} (ok:fY P w H h) (e:Rd H a (.dT kvs)):kvs.length<=sizeLine/\(a==sysModules)=false/\
 ∃ xs,KT H kvs xs/\h.DictOfH (tupleKind (di P w)) a xs:=by
 obtain ⟨z,y,xs,r,o,es,ep,h1,h2,h3,h4,h5⟩:=(show dF P w H h a (.dT kvs) from NK ok e)
 refine ⟨z,y,xs,r,o,es,ep,h1,h2,h3,h4,fun x hx=>?_,h5⟩
 have all:∀ {l:List (List Key×V)} {m:List (List Key×Addr×Value)},KT H l m->∀ x∈m,(tupleKind (di P w)).is h x.1 x.2.1:=by
  intro l m q
  induction q with
  | nil=>intro x hx; exact nomatch hx
  | @cons p q ps qs hq t ih=>
   intro x hx
   rcases List.mem_cons.mp hx with e | hx
   . subst e
     exact BV ok (by rw [← hq.1]; exact hq.2.1)
   . exact ih x hx
 exact all r x hx
theorem Uy {kvs:List (List Key×V)} (ok:fY P w H h) (e:H a=some (.dT kvs)):kvs.length<=sizeLine/\(a==sysModules)=false/\
 ∃ xs,KT H kvs xs/\h.DictOfH (tupleKind (di P w)) a xs:=Hd ok (.inl e)
end
noncomputable def K8 (H:Hp) (a:Addr) (y:V) (r:Option V):Prop:=
 (∃ kvs k,Rd H a (.dK kvs)/\y=kV k/\r=mz kvs k)\/∃ kvs k b,Rd H a (.dT kvs)/\y=.ref b/\H b=some (.tup (k.map kV))/\r=mz kvs k
noncomputable def RM (H:Hp) (a:Addr) (y v:V) (H':Hp):Prop:=
 (∃ kvs k,H a=some (.dK kvs)/\y=kV k/\kvs.length<sizeLine/\H'=upd H a (.dK (putK kvs k v)))\/
 ∃ kvs k b,H a=some (.dT kvs)/\y=.ref b/\H b=some (.tup (k.map kV))/\kvs.length<sizeLine/\H'=upd H a (.dT (putK kvs k v))
section
variable {X:Cx} {pins:List (Addr×Obj)} {σ:St} {H:Hp} {s:Shared} {a:Addr} {y v:V} {u r:Value} {o:Option V} {A:Around} {E:Value->Shared->Prop}
theorem Inv.big (I:Inv X pins σ H s):sysModules<s.heap.objs.size:=by
 have h:mainGlobals<s.heap.objs.size:=(I.mod.glob.keeps I.bk).lt
 exact Nat.lt_trans (by decide) h
theorem Jm {Q:Value->Shared->Prop} (hu:A.units+1<cLine) (I:Inv X pins σ H s) (g:K8 H a y (some v)) (ry:RelV y u) (h:∀ w' s',Inv X pins σ H s'->RelV v w'->Q w' s'):
 wpAny (model X.prog X.w) A (getItem (.ref a) u) Q E s:=by
 rcases g with ⟨kvs,k,e,ey,l⟩ | ⟨kvs,k,b,e,ey,eb,l⟩
 . subst ey
   obtain ⟨z,hd,vs,rel,dd⟩:=Hb I.hok e
   obtain ⟨w',hw,rw'⟩:=lG.some_of (v:=v) (o:=valueAt vs k) (by rw [l]; exact rel.val k)
   exact wpAny_getItem_of (Ha ry) dd.mapOf hw (h w' _ (I.tok _) rw')
 . subst ey
   cases (show u=Value.ref b from ry)
   obtain ⟨z,hd,xs,rel,dd⟩:=Hd I.hok e
   obtain ⟨w',hw,rw'⟩:=lG.some_of (v:=v) (o:=(atKey xs k).map (·.2)) (by rw [l]; exact rel.val k)
   obtain ⟨p,hp,hp2⟩:=Option.map_eq_some_iff.mp hw
   refine wpAny_getItem_heap (tupleKind_room_in1 hu) (BV I.hok eb) dd hp ?_
   rw [hp2]
   exact h w' _ (I.tok _) rw'
theorem uZ {h':Heap} {t':Nat} {ob:HO} (I:Inv X pins σ H s) (mu:Ip (H a)) (hs:Heap.SameBut a s.heap h') (he:∃ q,h'.get? a=some q) (new:dF X.prog X.w (upd H a ob) h' a ob):
 Inv X pins σ (upd H a ob) { s with heap:=h',toks:=t' }:=
 I.write (x:=a) (e:=a) mu (.inl rfl) (fun b q hb z=>(hs.2 b hb).trans z) he new
theorem RN {H':Hp} {h':Heap} {kvs:List (Key×V)} {vs:List (Key×Value)} (z:kvs.length<=sizeLine) (hd:(a==sysModules)=false) (rel:KV kvs vs) (dd:h'.DictOf (di P w) a vs):
 dF P w H' h' a (.dK kvs):=⟨z,hd,vs,rel,dd⟩
theorem Jo {H':Hp} {Q:Unit->Shared->Prop} (hu:A.units+1<cLine) (I:Inv X pins σ H s) (g:RM H a y v H') (ry:RelV y u) (rv:RelV v r) (h:∀ s',Inv X pins σ H' s'->Q () s'):
 wpAny (model X.prog X.w) A (setItem (.ref a) u r) Q E s:=by
 rcases g with ⟨kvs,k,e,ey,l,eH⟩ | ⟨kvs,k,b,e,ey,eb,l,eH⟩
 . subst ey eH
   obtain ⟨z,hd,vs,rel,dd⟩:=Hc I.hok e
   have hz:vs.length<=sizeLine:=by rw [← rel.length]; exact z
   have hl:(putK kvs k v).length<=sizeLine:=by have:=vI kvs k v; omega
   refine wpAny_setItem_pairs (hsz:=hz) (Ha ry) dd fun h' dd' hs=>h _ ?_
   have he:∃ q,h'.get? a=some q:=let ⟨q,_,_,hq,_⟩:=dd'; ⟨q,hq⟩
   exact uZ I (by rw [e]; exact True.intro) hs he (RN hl hd (rel.put k rv) dd')
 . subst ey eH
   cases (show u=Value.ref b from ry)
   obtain ⟨z,hd,xs,rel,dd⟩:=Uy I.hok e
   have hz:xs.length<=sizeLine:=by rw [← Paired.length rel]; exact z
   have hl:(putK kvs k v).length<=sizeLine:=by have:=vI kvs k v; omega
   refine wpAny_setItem_heap (hsz:=hz) (tupleKind_room_in1 hu) (BV I.hok eb) dd fun h' dd' hs=>h _ ?_
   obtain ⟨q,es,ep,hq,h2,h3,h4,_,h5⟩:=dd'
   refine uZ I (by rw [e]; exact True.intro) hs ⟨q,hq⟩ ⟨hl,hd,_,(rel.put k eb rv).keeps fun c ys ec=>?_,q,es,ep,hq,h2,h3,h4,h5⟩
   rw [aY (Up ec e (fun z=>nomatch z))]
   exact ec
end
section
variable {X:Cx} {pins:List (Addr×Obj)} {σ:St} {H:Hp} {s:Shared} {a:Addr} {kvs:List (Key×V)} {k:Key} {u:Value} {A:Around} {E:Value->Shared->Prop}
end
theorem Ei {X:Cx} {σ:St} {H:Hp} {a:Addr} {y:V} {o:Option V} (I:Inv X pins σ H s) (g:K8 H a y o):s.TypeIs (.ref a) "dict" := by
 rcases g with ⟨kvs,k,e,_,_⟩ | ⟨kvs,k,b,e,_,_,_⟩
 . obtain ⟨_,_,vs,_,dd⟩:=Hb I.hok e
   exact dd.typeIs
 . obtain ⟨_,_,xs,_,dd⟩:=Hd I.hok e
   exact dd.typeIs
section
variable {X:Cx} {o i e value:Expr} {pos pos' tpos:Pos} {td ty tv:TE}
end
theorem K9 {H:Hp} (h:Heap) (hb:sysModules<h.objs.size):dF P w H (h.push { cls:=.type "dict",data:=.dict #[] }) h.objs.size (.dK []):=
 ⟨Nat.zero_le _,beq_eq_false_iff_ne.mpr (Ne.symm (Nat.ne_of_lt hb)),[],.nil,Heap.DictOf.new h⟩
theorem La {H:Hp} (h:Heap) (hb:sysModules<h.objs.size):dF P w H (h.push { cls:=.type "dict",data:=.dict #[] }) h.objs.size (.dT []):=
 ⟨Nat.zero_le _,beq_eq_false_iff_ne.mpr (Ne.symm (Nat.ne_of_lt hb)),[],.nil,_,#[],0,Heap.get?_push_size _ rfl,⟨rfl,rfl,rfl⟩,rfl,rfl,List.nodup_nil⟩
noncomputable def RP:TE:=fun _ H Q=>∀ p,H p=none->Q (.ref p) (upd H p (.dK []))
noncomputable def RQ:TE:=fun _ H Q=>∀ p,H p=none->Q (.ref p) (upd H p (.dT []))
section
variable {X:Cx} {pos:Pos}
theorem Lb:PE X (.Dict [] [] pos) RP:=fun pins s σ H Q I h=>
 wpAny_Dict_empty ⟨.ref s.heap.objs.size,_,I.laid (a:=s.heap.objs.size) (o:=.dK []) (t':=s.toks) (fun _ _ q=>Heap.get?_push_of_some _ q) (Nat.le_refl _) (K9 s.heap I.big),rfl,h _ (I.hok.fresh (Nat.le_refl _))⟩
theorem Ld:PE X (.Dict [] [] pos) RQ:=fun pins s σ H Q I h=>
 wpAny_Dict_empty ⟨.ref s.heap.objs.size,_,I.laid (a:=s.heap.objs.size) (o:=.dT []) (t':=s.toks) (fun _ _ q=>Heap.get?_push_of_some _ q) (Nat.le_refl _) (La s.heap I.big),rfl,h _ (I.hok.fresh (Nat.le_refl _))⟩
end
structure M1 (X:Cx) (o:Expr) (m:Str) (apos:Pos) (e:Expr) (cpos:Pos):Prop where
 base:attributeBase o m X.env (eval o X.env)=eval o X.env
 few:((backTo cpos (starEach [e] X.env)).all (fun x=>!x.1)&&(backToKw cpos (keywordEach [] X.env)).all (fun x=>x.1.isSome)
  && decide (([e]:List Expr).length+([]:List Keyword).length+(if ([]:List Keyword).isEmpty then 0 else 1)<30))=true
 line:(apos.endLine==cpos.line)=true
 trees:backTo cpos (starEach [e] X.env)=[(false,eval e X.env)]
structure M2 (X:Cx) (o:Expr) (m:Str) (apos:Pos) (e f:Expr) (cpos:Pos):Prop where
 base:attributeBase o m X.env (eval o X.env)=eval o X.env
 few:((backTo cpos (starEach [e,f] X.env)).all (fun x=>!x.1)&&(backToKw cpos (keywordEach [] X.env)).all (fun x=>x.1.isSome)
  && decide (([e,f]:List Expr).length+([]:List Keyword).length+(if ([]:List Keyword).isEmpty then 0 else 1)<30))=true
 line:(apos.endLine==cpos.line)=true
 trees:backTo cpos (starEach [e,f] X.env)=[(false,eval e X.env),(false,eval f X.env)]
section
variable {X:Cx} {pins:List (Addr×Obj)} {σ:St} {H:Hp} {s:Shared} {a:Addr} {y d:V} {u r:Value} {o:Option V} {A:Around} {E:Value->Shared->Prop}
end
section
variable {X:Cx} {o e f:Expr} {apos cpos:Pos} {td ty tx:TE}
end
section
variable {X:Cx} {pins:List (Addr×Obj)} {σ:St} {H:Hp} {s:Shared} {a:Addr} {kvs:List (Key×V)} {A:Around} {E:Value->Shared->Prop}
end
section
variable {X:Cx} {pins:List (Addr×Obj)} {σ:St} {H:Hp} {s:Shared} {a:Addr} {y:V} {u:Value} {A:Around} {E:Value->Shared->Prop}
end
section
variable {X:Cx}
end
section
variable {κ:Type} [DecidableEq κ]
end
noncomputable def qP (names:List (Str×NameKind)) (env:Env):List (Str×Addr):=names.foldl (fun cs p=>if (p.2==NameKind.free)=true then (p.1,(env.cells.lookup p.1).getD 0)::cs else cs) []
theorem ug {env:Env}:∀ (names:List (Str×NameKind)) (cs:List (Str×Addr)) (x:Str) (c:Addr),
 (∀ y d,cs.lookup y=some d->d=(env.cells.lookup y).getD 0)->
 (names.foldl (fun cs p=>if (p.2==NameKind.free)=true then (p.1,(env.cells.lookup p.1).getD 0)::cs else cs) cs).lookup x=some c->c=(env.cells.lookup x).getD 0
 | [],cs,x,c,h,e=>h x c e
 | (n,k)::r,cs,x,c,h,e=>by
  simp only [List.foldl_cons] at e
  refine ug r _ x c ?_ e
  intro y d q
  split at q
  . simp only [List.lookup_cons] at q
    split at q
    . rename_i z
      have z':y=n:=by simpa using z
      rw [z']; exact (Option.some.inj q).symm
    . exact h y d q
  . exact h y d q
theorem wH {env:Env}:∀ (names:List (Str×NameKind)) (cs:List (Str×Addr)) (x:Str) (c:Addr),
 (names.foldl (fun cs p=>if (p.2==NameKind.free)=true then (p.1,(env.cells.lookup p.1).getD 0)::cs else cs) cs).lookup x=some c->(∃ d,cs.lookup x=some d)\/(x,NameKind.free)∈names
 | [],cs,x,c,e=>.inl ⟨c,e⟩
 | (n,k)::r,cs,x,c,e=>by
  simp only [List.foldl_cons] at e
  rcases wH r _ x c e with ⟨d,q⟩ | q
  . split at q
    . rename_i hk
      simp only [List.lookup_cons] at q
      split at q
      . rename_i z
        have z':x=n:=by simpa using z
        have k':k=NameKind.free:=by simpa using hk
        right; rw [z',k']; exact List.mem_cons_self
      . exact .inl ⟨d,q⟩
    . exact .inl ⟨d,q⟩
  . exact .inr (List.mem_cons_of_mem _ q)
theorem uh {env:Env}:∀ (names:List (Str×NameKind)) (cs:List (Str×Addr)) (x:Str),
 ((∃ d,cs.lookup x=some d)\/(x,NameKind.free)∈names)->∃ c,(names.foldl (fun cs p=>if (p.2==NameKind.free)=true then (p.1,(env.cells.lookup p.1).getD 0)::cs else cs) cs).lookup x=some c
 | [],cs,x,h=>by
  rcases h with h | h
  . exact h
  . cases h
 | (n,k)::r,cs,x,h=>by
  simp only [List.foldl_cons]
  refine uh r _ x ?_
  rcases h with ⟨d,h⟩ | h
  . left
    split
    . simp only [List.lookup_cons]
      split
      . exact ⟨_,rfl⟩
      . exact ⟨d,h⟩
    . exact ⟨d,h⟩
  . rcases List.mem_cons.mp h with e | h
    . left
      cases e
      simp
    . exact .inr h
theorem pB {env:Env}:∀ (names:List (Str×NameKind)) (cs:List (Str×Addr)),(∀ p∈names,p.2=NameKind.free->∃ c,env.cells.lookup p.1=some c)->
 (forIn names cs fun p r=>if (p.2==NameKind.free)=true then do let a ← cellOf env p.1; pure (ForInStep.yield ((p.1,a)::r)) else pure (ForInStep.yield r):Sem (List (Str×Addr)))=
  pure (names.foldl (fun cs p=>if (p.2==NameKind.free)=true then (p.1,(env.cells.lookup p.1).getD 0)::cs else cs) cs)
 | [],cs,_=>by simp
 | (n,k)::r,cs,h=>by
  rw [List.forIn_cons,List.foldl_cons]
  by_cases hk:(k==NameKind.free)=true
  . obtain ⟨c,hc⟩:=h (n,k) List.mem_cons_self (by simpa using hk)
    have hc':List.lookup n env.cells=some c:=hc
    simp only [hk,if_true,cellOf,hc',pure_bind,Option.getD_some]
    exact pB r _ fun p hp=>h p (List.mem_cons_of_mem _ hp)
  . simp only [hk,pure_bind]
    exact pB r _ fun p hp=>h p (List.mem_cons_of_mem _ hp)
theorem tY {sc:Scope} {env:Env} (h:∀ p∈sc.names,p.2=NameKind.free->∃ c,env.cells.lookup p.1=some c):closureFor sc env=pure (qP sc.names env):=by
 have:=pB (env:=env) sc.names [] h
 unfold closureFor qP
 rw [← this]
 simp only [bind_pure]
theorem nY {env:Env}:∀ (names:List (Str×NameKind)) (x:Str),
 (names.map fun (n,k)=>if (k==NameKind.free&&env.scope.kind==.function&&env.kindOf n==some .cell) then (n,NameKind.cell) else (n,k)).lookup x=
  (names.lookup x).map fun k=>if (k==NameKind.free&&env.scope.kind==.function&&env.kindOf x==some .cell) then NameKind.cell else k
 | [],x=>rfl
 | (n,k)::r,x=>by
  have ih:=nY (env:=env) r x
  simp only [List.map_cons]
  by_cases hx:x=n
  . subst hx
    split<;>simp_all
  . have hb:(x==n)=false:=beq_eq_false_iff_ne.mpr hx
    split<;>simp only [List.lookup_cons,hb,ih]
theorem jd {x:Str} {a:Addr}:∀ (names:List (Str×NameKind)) (n:Nat) (acc:List (Str×Addr)),(cellsFrom n names acc).lookup x=some a->n<=a\/acc.lookup x=some a
 | [],_,_,h=>.inr h
 | (y,k)::r,n,acc,h=>by
  unfold cellsFrom at h
  split at h
  . rcases jd r _ _ h with q | q
    . exact .inl (Nat.le_of_succ_le q)
    . rw [List.lookup_cons] at q
      split at q
      . cases q; exact .inl (Nat.le_refl _)
      . exact .inr q
  . exact jd r _ _ h
theorem ul {x y:Str} {a:Addr}:∀ (names:List (Str×NameKind)) (n:Nat) (acc:List (Str×Addr)),(∀ z b,acc.lookup z=some b->b<n)->(cellsFrom n names acc).lookup x=some a->(cellsFrom n names acc).lookup y=some a->n<=a->x=y
 | [],_,_,h,h1,h2,h3=>absurd (h _ _ h1) (Nat.not_lt.mpr h3)
 | (z,k)::r,n,acc,h,h1,h2,h3=>by
  unfold cellsFrom at h1 h2
  split at h1
  . rename_i hk
    rw [if_pos hk] at h2
    have one:∀ {w:Str},(cellsFrom (n+1) r ((z,n)::acc)).lookup w=some a->a=n->w=z:=fun {w} e e'=>by
     rcases jd r _ _ e with q | q
     . exact absurd q (by rw [e']; exact Nat.not_succ_le_self n)
     . rw [List.lookup_cons] at q
       split at q
       . rename_i hw; exact beq_iff_eq.mp hw
       . exact absurd (h _ _ q) (by rw [e']; exact Nat.lt_irrefl _)
    by_cases e:a=n
    . exact (one h1 e).trans (one h2 e).symm
    . refine ul r (n+1) _ (fun w b q=>?_) h1 h2 (Nat.lt_of_le_of_ne h3 (Ne.symm e))
      rw [List.lookup_cons] at q
      split at q
      . cases q; exact Nat.lt_succ_self _
      . exact Nat.lt_succ_of_lt (h _ _ q)
  . rename_i hk
    rw [if_neg hk] at h2
    exact ul r n acc h h1 h2 h3
theorem um {x:Str} {a:Addr}:∀ (names:List (Str×NameKind)) (n:Nat) (acc:List (Str×Addr)),names.lookup x=some .cell->(cellsFrom n names acc).lookup x=some a->n<=a
 | [],_,_,h,_=>by cases h
 | (y,k)::r,n,acc,h,h1=>by
  rw [List.lookup_cons] at h
  unfold cellsFrom at h1
  split at h
  . rename_i hy
    cases h
    rw [if_pos (by decide)] at h1
    rcases jd r _ _ h1 with q | q
    . exact Nat.le_of_succ_le q
    . rw [List.lookup_cons,hy] at q; cases q; exact Nat.le_refl _
  . split at h1
    . exact Nat.le_of_succ_le (um r _ _ h h1)
    . exact um r _ _ h h1
theorem uo {x:Str}:∀ (names:List (Str×NameKind)) (n:Nat) (acc:List (Str×Addr)),(∀ p∈names,p.2=.cell->p.1≠x)->(cellsFrom n names acc).lookup x=acc.lookup x
 | [],_,_,_=>rfl
 | (y,k)::r,n,acc,h=>by
  unfold cellsFrom
  split
  . rename_i hk
    rw [uo r _ _ fun p hp=>h p (List.mem_cons_of_mem _ hp),List.lookup_cons,show (x==y)=false from beq_eq_false_iff_ne.mpr fun e=>h _ List.mem_cons_self (by simpa using hk) e.symm]
  . exact uo r _ _ fun p hp=>h p (List.mem_cons_of_mem _ hp)
theorem sO:∀ (names:List (Str×NameKind)) (h:Heap) (acc:List (Str×Addr)) (x:Str) (a:Addr),(cellsFrom h.objs.size names acc).lookup x=some a->h.objs.size<=a->(∀ z b,acc.lookup z=some b->b<h.objs.size)->(pushCells h names).IsCell a none
 | [],h,acc,x,a,e,hl,hb=>absurd (hb _ _ e) (Nat.not_lt.mpr hl)
 | (y,k)::r,h,acc,x,a,e,hl,hb=>by
  unfold cellsFrom at e
  unfold pushCells
  split at e
  . rename_i hk
    rw [if_pos hk]
    have hz:=Heap.size_push h ({ cls:=.type "cell",data:=.cell none }:Obj)
    by_cases q:a=h.objs.size
    . subst q
      exact ⟨_,pushCells_keeps r _ _ _ (Heap.get?_push_size _ rfl),rfl⟩
    . refine sO r _ ((y,h.objs.size)::acc) x a (by rw [hz]; exact e) (by rw [hz]; exact Nat.lt_of_le_of_ne hl (Ne.symm q)) fun z b q'=>?_
      rw [hz]
      rw [List.lookup_cons] at q'
      split at q'
      . cases q'; exact Nat.lt_succ_self _
      . exact Nat.lt_succ_of_lt (hb _ _ q')
  . rename_i hk
    rw [if_neg hk]
    exact sO r h acc x a e hl hb
noncomputable abbrev mC (sc:Scope) (C:Addr) (env:Env):List (Str×Addr):=cellsFrom (C+1) sc.names (qP sc.names env)
structure ig (X:Cx) (M F:List Str) (ixs:List Nat) (sc:Scope):Prop where
 kind:sc.kind=.function
 locs:∀ y∈sc.names,y.2=.local->sc.names.lookup y.1=some .local
 cel:∀ y∈sc.names,y.2=.cell->sc.names.lookup y.1=some .cell
 own:∀ p∈sc.names,p.2=.free->X.env.scope.names.lookup p.1=some .cell\/X.env.scope.names.lookup p.1=some .free
 frs:∀ x∈F,sc.names.lookup x=some .free
 ixl:ixs.length=F.length
 ixn:∀ (j i:Nat),ixs[j]?=some i->X.N[i]?=F[j]?
noncomputable abbrev uq (m:Nat) (ixs:List Nat) (σ:St):St:=List.replicate m none++ixs.map fun i=>(σ[i]?).join
noncomputable def eF (X:Cx) (M F:List Str) (sc:Scope) (C:Addr) (fp:List Addr) (s:Shared) (H:Hp):Cx where
 prog:=X.prog
 w:=X.w
 K:=X.K
 mg:=X.mg
 base:=X.base
 A:=X.A
 N:=M++F
 s₀:=s
 H0:=H
 env:=compEnvC sc (mC sc C X.env) C X.env
 outer:=X.stack
 stack:=X.stack
 ex:=fp
 fn:=fun x=>sc.names.lookup x==some .cell
 calm:=X.calm
 pn:=[]
 xe:=fun _ _=>False
section
variable {X:Cx} {pins:List (Addr×Obj)} {σ:St} {H:Hp} {s:Shared}
theorem ig.free_of {M F:List Str} {ixs:List Nat} {sc:Scope} (c:ig X M F ixs sc) {x:Str} {k:NameKind} (h:sc.names.lookup x=some k):(x,k)∈sc.names:=by
 generalize sc.names=l at h
 induction l with
 | nil=>cases h
 | cons p r ih=>
  rw [List.lookup_cons] at h
  split at h
  . rename_i z
    have z':x=p.1:=by simpa using z
    have e:p.2=k:=Option.some.inj h
    subst e
    rw [z']
    exact List.mem_cons_self
  . exact List.mem_cons_of_mem _ (ih h)
theorem vV (I:Inv X pins σ H s) {M F:List Str} {ixs:List Nat} {sc:Scope} (c:ig X M F ixs sc):∀ p∈sc.names,p.2=NameKind.free->∃ a,X.env.cells.lookup p.1=some a:=fun p hp e=>
 I.ok.has p.1 (by rcases c.own p hp e with h | h; exact .inl h; exact .inr h)
theorem gJ (I:Inv X pins σ H s) {M F:List Str} {ixs:List Nat} {sc:Scope} (c:ig X M F ixs sc) {x:Str} {a:Addr} (h:(qP sc.names X.env).lookup x=some a):X.env.cells.lookup x=some a:=by
 have e:=ug (env:=X.env) sc.names [] x a (fun y d q=>by cases q) h
 rcases wH sc.names [] x a h with ⟨d,q⟩ | q
 . cases q
 . obtain ⟨b,hb⟩:=vV I c _ q rfl
   have hb':X.env.cells.lookup x=some b:=hb
   rw [hb',Option.getD_some] at e
   rw [hb',e]
theorem Jp (I:Inv X pins σ H s) {M F:List Str} {ixs:List Nat} {sc:Scope} (c:ig X M F ixs sc) {x:Str} {a:Addr} (h:(qP sc.names X.env).lookup x=some a):a<s.heap.objs.size:=by
 obtain ⟨v,o,ho,_⟩:=I.cell x a (gJ I c h)
 exact Heap.lt_size ho
theorem Pb (I:Inv X pins σ H s) {M F:List Str} {ixs:List Nat} {sc:Scope} (c:ig X M F ixs sc) {C:Addr} {fp:List Addr} (hC:s.heap.objs.size<=C) (hf:∀ b∈fp,m8 X pins H b) (ho:∀ b∈fp,∃ o,s.heap.get? b=some o):(eF X M F sc C fp s H).Ok where
 mod:=I.ok.mod
 kind:=c.kind
 glob:=I.ok.glob
 blt:=I.ok.blt
 above:=hC
 inj:=fun x y a e1 e2=>by
  have e1':(mC sc C X.env).lookup x=some a:=e1
  have e2':(mC sc C X.env).lookup y=some a:=e2
  have lt:∀ z b,(qP sc.names X.env).lookup z=some b->b<C+1:=fun z b q=>Nat.lt_succ_of_lt (Nat.lt_of_lt_of_le (Jp I c q) hC)
  rcases jd _ _ _ e1' with q | q
  . exact ul _ _ _ lt e1' e2' q
  . rcases jd _ _ _ e2' with q' | q'
    . exact absurd (lt _ _ q) (Nat.not_lt.mpr q')
    . exact I.ok.inj x y a (gJ I c q) (gJ I c q')
 has:=fun x h=>by
  have h':((sc.names.lookup x).map fun k=>if (k==NameKind.free&&X.env.scope.kind==.function&&X.env.kindOf x==some .cell) then NameKind.cell else k)=some .cell\/((sc.names.lookup x).map fun k=>if (k==NameKind.free&&X.env.scope.kind==.function&&X.env.kindOf x==some .cell) then NameKind.cell else k)=some .free:=by
   rw [← nY]; exact h
  refine Option.isSome_iff_exists.mp (W.cellsFrom_some _ _ _ ?_)
  cases e:sc.names.lookup x with
  | none=>rw [e] at h'; rcases h' with h' | h'<;>cases h'
  | some k=>
   rw [e] at h'
   have m:=c.free_of e
   cases k with
   | free=>exact .inr (Option.isSome_iff_exists.mpr (uh sc.names [] x (.inr m)))
   | cell=>exact .inl rfl
   | _=>rcases h' with h' | h'<;>simp at h'
 cab:=fun x a h e=>Nat.le_trans hC (Nat.le_of_succ_le (um _ _ _ (beq_iff_eq.mp h) e))
 hd:=I.ok.hd
 frames:=I.ok.frames
 stk:=.inl rfl
 exf:=fun b hb=>⟨by
  obtain ⟨o,e⟩:=ho b hb
  exact Nat.ne_of_lt (Nat.lt_of_lt_of_le (Heap.lt_size e) hC),fun x a e=>by
  obtain ⟨o,eo⟩:=ho b hb
  rcases jd _ _ _ (show (mC sc C X.env).lookup x=some a from e) with q | q
  . exact Nat.ne_of_gt (Nat.lt_of_lt_of_le (Heap.lt_size eo) (Nat.le_trans hC (Nat.le_of_succ_le q)))
  . exact (hf b hb).2.2.2.2.1 x a (gJ I c q)⟩
 bs:=I.bs
 bsz:=Nat.le_trans I.ok.bsz I.sz
 noex:=fun b o e hb=>by
  obtain ⟨_,_,_,h,_⟩:=hf b hb
  rcases h with h | h
  . exact I.ok.noex b o e h
  . exact absurd (Nat.lt_of_lt_of_le (Heap.lt_size (I.ok.bs b o e).1) h) (Nat.lt_irrefl _)
 exfs:=fun b hb z=>by
  obtain ⟨_,h1,h2,_⟩:=hf b hb
  rcases List.mem_cons.mp (I.stkSub b z) with z | z
  . exact h1 z
  . exact h2 z
 funs:=I.stack
 frf:=I.stkFree
theorem Le (I:Inv X pins σ H s) {M F:List Str} {ixs:List Nat} {sc:Scope} (c:ig X M F ixs sc) {fp:List Addr} (hf:∀ b∈fp,m8 X pins H b) (ho:∀ b∈fp,∃ o,s.heap.get? b=some o)
 {h₁:Heap} {tk:Nat} {C:Addr} {m1:Str->Option Value} (hC:C=s.heap.objs.size+1) (hns:h₁.Ns C m1) (old:∀ b o,s.heap.get? b=some o->h₁.get? b=some o)
 (hD:h₁.get? s.heap.objs.size=some { cls:=.type "list",data:=.seq #[] 0 }) (hce:∀ x a,(mC sc C X.env).lookup x=some a->C+1<=a->h₁.IsCell a none):
 Inv (eF X M F sc C fp s H) [] (uq M.length ixs σ) (upd H s.heap.objs.size (.lst [])) { s with heap:=h₁,toks:=tk }:=by
 have hDn:H s.heap.objs.size=none:=I.hok.fresh (Nat.le_refl _)
 have hCle:s.heap.objs.size<=C:=by rw [hC]; exact Nat.le_succ _
 have hCn:H C=none:=I.hok.fresh hCle
 have hok:=Pb (X:=X) I c (C:=C) (fp:=fp) hCle hf ho
 refine ⟨hok,rfl,I.bare,Un.laid old (Nat.le_refl _) hDn,⟨m1,hns,?_⟩,?_,?_,?_,?_,?_,?_⟩
 . intro i x v e1 e2 hv
   have e1':(M++F)[i]?=some x:=e1
   by_cases hi:i<M.length
   . rw [List.getElem?_append_left (by simpa using hi)] at e2
     rw [List.getElem?_replicate] at e2
     simp [hi] at e2
   . rw [List.getElem?_append_right (by omega)] at e1'
     rw [List.getElem?_append_right (by simpa using Nat.le_of_not_lt hi)] at e2
     simp only [List.length_replicate,List.getElem?_map] at e2
     cases q:ixs[i-M.length]? with
     | none=>rw [q] at e2; cases e2
     | some i'=>
      rw [q] at e2
      have e2':(σ[i']?).join=some v:=by simpa using e2
      have e3:σ[i']?=some (some v):=by
       cases z:σ[i']? with
       | none=>rw [z] at e2'; cases e2'
       | some y=>rw [z] at e2'; simp at e2'; rw [e2']
      have xF:x∈F:=List.mem_of_getElem? e1'
      have hlk:=c.frs x xF
      have hm:=c.free_of hlk
      have hX:=c.own _ hm rfl
      have hN:X.N[i']?=some x:=by rw [c.ixn _ _ q]; exact e1'
      obtain ⟨m,hn,hl⟩:=I.loc
      have vis:Iu X.env.scope x:=by
       rcases hX with h | h
       . exact .inr (.inl h)
       . exact .inr (.inr h)
      obtain ⟨u,r,l⟩:=hl i' x v hN e3 vis
      refine ⟨u,r,.inr ⟨?_,?_⟩⟩
      . show (Env.kindOf (compEnvC sc (mC sc C X.env) C X.env) x=_)\/(Env.kindOf (compEnvC sc (mC sc C X.env) C X.env) x=_)
        have:Env.kindOf (compEnvC sc (mC sc C X.env) C X.env) x=(sc.names.lookup x).map fun k=>if (k==NameKind.free&&X.env.scope.kind==.function&&X.env.kindOf x==some .cell) then NameKind.cell else k:=nY sc.names x
        rw [this,hlk]
        simp only [Option.map_some]
        split
        . exact .inl rfl
        . exact .inr rfl
      . rcases l with ⟨hk,_⟩ | ⟨_,cc,hcc,hcell⟩
        . rcases hX with h | h
          . have hk':X.env.scope.names.lookup x=some .local:=hk
            have h':X.env.scope.names.lookup x=some .cell:=h
            rw [h'] at hk'; cases hk'
          . have hk':X.env.scope.names.lookup x=some .local:=hk
            have h':X.env.scope.names.lookup x=some .free:=h
            rw [h'] at hk'; cases hk'
        . obtain ⟨a,ha⟩:=uh (env:=X.env) sc.names [] x (.inr hm)
          have ha':=gJ I c (x:=x) (a:=a) ha
          rw [hcc] at ha'; cases ha'
          obtain ⟨oc,hoc,hd⟩:=hcell
          exact ⟨cc,(uo _ _ _ fun p hp e z=>by have:=c.cel p hp e; rw [z,hlk] at this; cases this).trans ha,oc,old _ _ hoc,hd⟩
 . intro x a e
   have e':(mC sc C X.env).lookup x=some a:=e
   rcases jd _ _ _ e' with q | q
   . exact ⟨none,hce x a e' q⟩
   . obtain ⟨v,oc,hoc,hd⟩:=I.cell x a (gJ I c q)
     exact ⟨v,oc,old _ _ hoc,hd⟩
 . show upd H s.heap.objs.size (.lst []) C=none
   rw [aY (by rw [hC]; exact Nat.succ_ne_self _)]; exact hCn
 . intro x a e
   rcases jd _ _ _ (show (mC sc C X.env).lookup x=some a from e) with q | q
   . have q':s.heap.objs.size<a:=Nat.lt_of_le_of_lt hCle q
     rw [aY (Nat.ne_of_gt q')]
     exact I.hok.fresh (Nat.le_of_lt q')
   . obtain ⟨v,oc,hoc,hd⟩:=I.cell x a (gJ I c q)
     rw [aY (Nat.ne_of_lt (Heap.lt_size hoc))]
     exact I.freeC x a (gJ I c q)
 . intro p hp; cases hp
 . exact I.hok.laid old (Nat.le_refl _) ⟨Nat.zero_le _,[],0,.nil,hD⟩
 . show (List.replicate M.length none++_).length=(M++F).length
   simp [c.ixl]
noncomputable def rA (X:Cx) (ifs:List Expr) (t:TT):Prop:=
 ∀ (pins:List (Addr×Obj)) (s:Shared) (σ:St) (H:Hp) (Q:Bool->Hp->Prop),Inv X pins σ H s->t σ H Q->
  wpAny (model X.prog X.w) X.A (forIn ifs true fun c r=>if r=true then do let ok ← isTrue c X.env (eval c X.env); pure (ForInStep.yield ok) else pure (ForInStep.yield r)) (TP X pins σ Q) X.xe s
theorem Lf {X:Cx}:rA X [] (fun _ H Q=>Q true H):=fun _ s σ H Q I h=>wpAny_tests_nil ⟨H,I,h⟩
theorem Lg {X:Cx} {c:Expr} {t:TT} (h:PT X c t):rA X [c] t:=fun pins s σ H Q I q=>wpAny_tests_one (h pins s σ H Q I q)
noncomputable def Hf (wi:TI) (m:Nat) (ixs:List Nat) (g:TG) (tc:TT) (te:TE):TE:=fun σ H Q=>wi σ H fun J H1=>∀ p,H1 p=none->
 ∃ W:Nat->Nat->St->Hp->Prop,(∃ n,W 0 n (uq m ixs σ) (upd H1 p (.lst [])))/\∀ i n σ' H',W i n σ' H'->
  ((J.stop i H'/\Q (.ref p) H')\/(J.go i H'/\∀ x H2,J.yld i H' x H2->g x σ' H2 fun σ3 H3=>tc σ3 H3 fun b H4=>
    if b=true then te σ3 H4 fun v H5=>∃ ys,H5 p=some (.lst ys)/\ys.length<sizeLine/\∃ n',n'<n/\W (i+1) n' σ3 (upd H5 p (.lst (ys++[v])))
    else ∃ n',n'<n/\W (i+1) n' σ3 H4))
noncomputable def CI (X:Cx) (fp:List Addr) (tn:Nat->Heap->Prop) (W:Nat->Nat->St->Hp->Prop) (n:Nat) (s:Shared):Prop:=∃ i σ H,Inv X [] σ H s/\tn i s.heap/\(∀ b∈fp,H b=none)/\W i n σ H
theorem vW {P:Prop} (h:∀ G:Prop,(P->G)->G):P:=h P id
theorem Jq {D it:Addr} {fp:List Addr} {tn:Nat->Heap->Prop} {J:It} {tg iter elt:Expr} {ifs:List Expr} {sc:Scope} {pos:Pos} {g:TG} {tc:TT} {te:TE} {W:Nat->Nat->St->Hp->Prop} {F:Hp->Prop} (hcalm:X.calm=true) (T:Turn X.prog X.w X.K tg J fp it tn) (hg:PG X tg g) (hc:rA X ifs tc) (he:PE X elt te) (hx:∀ u s,X.xe u s->False)
 (stat:∀ {H':Hp},(∀ b∈fp,H' b=none)->∀ b∈fp,m8 X [] H' b)
 (turn:∀ i n σ' H',W i n σ' H'->((J.stop i H'/\F H')\/(J.go i H'/\∀ x H2,J.yld i H' x H2->g x σ' H2 fun σ3 H3=>tc σ3 H3 fun b H4=>
   if b=true then te σ3 H4 fun v H5=>∃ ys,H5 D=some (.lst ys)/\ys.length<sizeLine/\∃ n',n'<n/\W (i+1) n' σ3 (upd H5 D (.lst (ys++[v])))
   else ∃ n',n'<n/\W (i+1) n' σ3 H4)))
 {R:Result->Shared->Prop} (hR:∀ σ' H' s',Inv X [] σ' H' s'->F H'->R (.ok .next) s') (n:Nat) (s':Shared) (hI:CI X fp tn W n s'):
 wpAny (model X.prog X.w) X.A (compTurn (.ListComp elt [⟨tg,iter,ifs,0⟩] sc pos) 0 (.ref it) (.ref D) X.env)
  (fun fin s'=>match fin with | .done f=>R (.ok f) s' | .again c'=>c'=.compLoop (.ListComp elt [⟨tg,iter,ifs,0⟩] sc pos) 0 (.ref it) (.ref D) X.env/\∃ m,m<n/\CI X fp tn W m s') (fun _ _=>False) s':=by
 refine vW fun G kG=>?_
 obtain ⟨i,σ',H',I',st',fr',w'⟩:=hI
 rw [compTurn_list] at kG
 rcases turn i n σ' H' w' with ⟨stop,qn⟩ | ⟨go,step⟩
 . refine kG (wpAny_bind (wpAny_standAt (wpAny_bind (wpAny_mono (T.done X rfl rfl rfl hcalm i [] s' σ' H' (fun _ _=>False) I' (stat fr') st' stop) (fun r s4 h4=>?_) fun _ _ f=>f))))
   obtain ⟨hr,I4⟩:=h4
   subst hr
   exact wpAny_pure (hR σ' H' _ I4 qn)
 . refine kG (wpAny_bind (wpAny_standAt (wpAny_bind (wpAny_mono (T.item X rfl rfl rfl hcalm i [] s' σ' H' (fun _ _=>False) I' (stat fr') st' go) (fun r s4 h4=>?_) fun _ _ f=>f))))
   obtain ⟨u,hr,h4⟩:=h4
   subst hr
   refine wpAny_bind (wpAny_mono h4 (fun _ s5 h5=>?_) fun _ _ f=>f)
   refine vW fun G kG=>?_
   obtain ⟨x,H5,I5,r5,y5,st5,fr5⟩:=h5
   have again:∀ {s7:Shared} {σ7:St} {H7:Hp} {n':Nat},Inv X ([]++uc fp s5.heap) σ7 H7 s7->W (i+1) n' σ7 H7->CI X fp tn W n' s7:=fun {s7 σ7 H7 n'} I7 w7=>by
    have pn:∀ b∈fp,∀ o,s5.heap.get? b=some o->s7.heap.get? b=some o/\H7 b=none:=fun b hb o e=>by
     have:=I7.pin (b,o) (List.mem_append_right _ (List.mem_append_right _ (sI hb e)))
     exact ⟨this.1,this.2.1⟩
    refine ⟨i+1,σ7,H7,I7.unpinned,T.keep _ _ _ st5 fun b hb o e=>(pn b hb o e).1,fun b hb=>?_,w7⟩
    obtain ⟨o,e,d⟩:=T.obj _ _ st5 b hb
    exact (pn b hb o e).2
   refine kG (wpAny_bind (wpAny_mono (hg _ s5 σ' H5 x u _ (I5.pinned (stat fr5) (T.obj _ _ st5)) r5 (step x H5 y5)) (fun _ s6 h6=>?_) hx))
   refine vW fun G kG=>?_
   obtain ⟨σ6,H6,I6,q6⟩:=h6
   refine kG (wpAny_bind (wpAny_mono (hc _ s6 σ6 H6 _ I6 q6) (fun ok s7 h7=>?_) hx))
   refine vW fun G kG=>?_
   obtain ⟨H7,I7,q7⟩:=h7
   cases ok with
   | false=>
    rw [if_neg Bool.false_ne_true] at q7
    obtain ⟨n',hn',w7⟩:=q7
    exact kG (wpAny_pure ⟨rfl,n',hn',again I7 w7⟩)
   | true=>
    rw [if_pos rfl] at q7
    refine kG (wpAny_bind (wpAny_bind (wpAny_mono (he _ s7 σ6 H7 _ I7 q7) (fun v s8 h8=>?_) hx)))
    refine vW fun G kG=>?_
    obtain ⟨y,H8,I8,r8,ys,hp8,hz,n',hn',w8⟩:=h8
    refine kG (wpAny_bind (wpAny_mono (zJ (X:=X) _ s8 σ6 H8 (.ref D) [y] (.ref D) [v] (fun _ H9=>W (i+1) n' σ6 H9) I8 rfl (.cons r8 .nil) ⟨_,ys,y,rfl,rfl,hp8,hz,w8⟩) (fun _ s9 h9=>?_) hx))
    obtain ⟨_,H9,I9,_,w9⟩:=h9
    exact wpAny_pure (wpAny_pure ⟨rfl,n',hn',again I9 w9⟩)
theorem Pg {Md:Model} {sc:Scope} {gl:Addr} {clo:List (Str×Addr)} {qual:Str} {env:Env} {Q:Env->Shared->Prop}
 (h:Q (newEnv sc s.heap.objs.size gl (cellsFrom (s.heap.objs.size+1) sc.names clo) qual none .none (some env) builtinsNs) { s with heap:=pushCells (s.heap.push { cls:=.type "dict",data:=.dict #[] }) sc.names }):
 wpAny Md A (newFunctionEnv sc gl clo [] qual none .none (some env)) Q E s:=by
 simp only [newFunctionEnv,Option.isSome_some,if_true]
 refine wpAny_bind (wpAny_alloc ?_)
 refine wpAny_bind (wpAny_layCells _ (fun name kind cells=>by cases hkc:kind==NameKind.cell<;>simp [hkc]) _ _ _ _ ?_)
 rw [show ({ s with heap:=s.heap.push { cls:=.type "dict",data:=.dict #[] } }:Shared).heap.objs.size=s.heap.objs.size+1 from Heap.size_push ..]
 exact wpAny_bind (wpAny_pure (wpAny_pure h))
theorem wI {M F:List Str} {ixs:List Nat} {sc:Scope} {tg iter elt:Expr} {ifs:List Expr} {g:TG} {tc:TT} {te:TE} {pos:Pos} (hcalm:X.calm=true) (c:ig X M F ixs sc)
 (hg:∀ C fp s H,PG (eF X M F sc C fp s H) tg g) (hc:∀ C fp s H,rA (eF X M F sc C fp s H) ifs tc) (he:∀ C fp s H,PE (eF X M F sc C fp s H) elt te)
 {fp:List Addr} {it:Addr} {tn:Nat->Heap->Prop} {J:It} {Q:VK} (I:Inv X pins σ H s) (T:Turn X.prog X.w X.K tg J fp it tn) (st:tn 0 s.heap) (hf:∀ b∈fp,m8 X pins H b)
 (h:∀ p,H p=none->∃ W:Nat->Nat->St->Hp->Prop,(∃ n,W 0 n (uq M.length ixs σ) (upd H p (.lst [])))/\∀ i n σ' H',W i n σ' H'->
   ((J.stop i H'/\Q (.ref p) H')\/(J.go i H'/\∀ x H2,J.yld i H' x H2->g x σ' H2 fun σ3 H3=>tc σ3 H3 fun b H4=>
     if b=true then te σ3 H4 fun v H5=>∃ ys,H5 p=some (.lst ys)/\ys.length<sizeLine/\∃ n',n'<n/\W (i+1) n' σ3 (upd H5 p (.lst (ys++[v])))
     else ∃ n',n'<n/\W (i+1) n' σ3 H4)))
 {RR:Value->Addr->Result->Shared->Prop} {E:Value->Shared->Prop}
 (hR:∀ D C s' H' m,s.heap.get? D=none->s.heap.get? C=none->s.heap.objs.size<=C->H D=none->D≠C->H' C=none->s'.heap.Ns C m->s'.os=s.os->AllBare s'.gens->Un (frs X.stack) fp H H' s.heap s'.heap->fY X.prog X.w H' s'.heap->Q (.ref D) H'->RR (.ref D) C (.ok .next) s'):
 wpAny (model X.prog X.w) X.A (newList []) (fun acc s₃=>wpAny (model X.prog X.w) X.A (newFunctionEnv sc X.env.globals (qP sc.names X.env) [] X.env.qual none .none (some X.env)) (fun cenv s₄=>
  codeAny (model X.prog X.w) X.A (.compStart (.ListComp elt [⟨tg,iter,ifs,0⟩] sc pos) 0 (.ref it) acc { cenv with scope:=relabel sc X.env }) (RR acc cenv.locals) s₄) E s₃) E s:=by
 refine wpAny_newObj_type (Pg ?_)
 dsimp only
 generalize hH2:s.heap.push { cls:=.type "list",dict:=none,data:=.seq ([]:List Value).toArray }=H2
 generalize hh1:pushCells (H2.push { cls:=.type "dict",data:=.dict #[] }) sc.names=h₁
 have kp:∀ b o,H2.get? b=some o->h₁.get? b=some o:=fun b o e=>by rw [← hh1]; exact pushCells_keeps _ _ _ _ (Heap.get?_push_of_some _ e)
 have hns₁:h₁.Ns H2.objs.size (fun _=>none):=by rw [← hh1]; exact (Heap.Ns.new H2 (.type "dict")).keeps (pushCells_keeps _ _)
 have hC:H2.objs.size=s.heap.objs.size+1:=by rw [← hH2,Heap.size_push]
 have hDC:s.heap.objs.size≠H2.objs.size:=by rw [hC]; exact Nat.ne_of_lt (Nat.lt_succ_self _)
 have below:∀ b,b<s.heap.objs.size->b≠H2.objs.size:=fun b hb=>by rw [hC]; exact Nat.ne_of_lt (Nat.lt_succ_of_lt hb)
 have old:∀ b o,s.heap.get? b=some o->h₁.get? b=some o:=fun b o e=>kp b o (hH2▸Heap.get?_push_of_some _ e)
 have hD:h₁.get? s.heap.objs.size=some { cls:=.type "list",data:=.seq #[] 0 }:=kp _ _ (hH2▸Heap.get?_push_size _ rfl)
 have fresh:∀ a,s.heap.objs.size<=a->s.heap.get? a=none:=fun a ha=>by
  cases e:s.heap.get? a with
  | none=>rfl
  | some o'=>exact absurd (Heap.lt_size e) (Nat.not_lt.mpr ha)
 have hDn:H s.heap.objs.size=none:=I.hok.fresh (Nat.le_refl _)
 have hfo:∀ b∈fp,∃ o,s.heap.get? b=some o:=fun b hb=>let ⟨o,e,_⟩:=T.obj 0 _ st b hb; ⟨o,e⟩
 have hz2:(H2.push { cls:=.type "dict",data:=.dict #[] }).objs.size=H2.objs.size+1:=Heap.size_push ..
 have hce:∀ x a,(mC sc H2.objs.size X.env).lookup x=some a->H2.objs.size+1<=a->h₁.IsCell a none:=fun x a e q=>by
  rw [← hh1]
  exact sO _ _ (qP sc.names X.env) x a (by rw [hz2]; exact e) (by rw [hz2]; exact q) fun z b q'=>by rw [hz2,hC]; exact Nat.lt_succ_of_lt (Nat.lt_succ_of_lt (Jp I c q'))
 have I0:=Le I c hf hfo (tk:=s.toks) hC hns₁ old hD hce
 obtain ⟨W,⟨n0,w0⟩,turn⟩:=h _ hDn
 have nf:∀ b∈fp,b≠s.heap.objs.size:=fun b hb=>by obtain ⟨o,e⟩:=hfo b hb; exact Nat.ne_of_lt (Heap.lt_size e)
 have stat:∀ {H':Hp},(∀ b∈fp,H' b=none)->∀ b∈fp,m8 (eF X M F sc H2.objs.size fp s H) [] H' b:=fun {H'} hn b hb=>by
  obtain ⟨f0,f1,f2,f3,f4,f5⟩:=hf b hb
  obtain ⟨o,e⟩:=hfo b hb
  refine ⟨hn b hb,below b (Heap.lt_size e),fun z=>?_,.inl hb,fun x a e'=>by
   rcases jd _ _ _ (show (mC sc H2.objs.size X.env).lookup x=some a from e') with q | q
   . exact Nat.ne_of_gt (Nat.lt_of_lt_of_le (Heap.lt_size e) (Nat.le_trans (by rw [hC]; exact Nat.le_succ _) (Nat.le_of_succ_le q)))
   . exact f4 x a (gJ I c q),fun p hp=>by cases hp⟩
  rcases List.mem_cons.mp (I.stkSub b z) with z | z
  . exact f1 z
  . exact f2 z
 have st1:tn 0 h₁:=T.keep 0 _ _ st fun b hb o e=>old b o e
 have loop:codeAny (model X.prog X.w) X.A (.compLoop (.ListComp elt [⟨tg,iter,ifs,0⟩] sc pos) 0 (.ref it) (.ref s.heap.objs.size) (compEnvC sc (mC sc H2.objs.size X.env) H2.objs.size X.env))
  (RR (.ref s.heap.objs.size) H2.objs.size) { s with heap:=h₁ }:=by
  refine codeAny_loop rfl (CI (eF X M F sc H2.objs.size fp s H) fp tn W) (fun n s' hI=>?_) n0 ⟨0,_,_,I0,st1,fun b hb=>by rw [aY (nf b hb)]; exact (hf b hb).1,w0⟩
  show wpAny _ X.A ((compTurn (.ListComp elt [⟨tg,iter,ifs,0⟩] sc pos) 0 (.ref it) (.ref s.heap.objs.size) (compEnvC sc (mC sc H2.objs.size X.env) H2.objs.size X.env)).onRaise (fun x=>do noteFrame x (compEnvC sc (mC sc H2.objs.size X.env) H2.objs.size X.env); theTreesLotGoes x)) _ _ s'
  refine wpAny_noted (wpAny_mono (Jq (X:=eF X M F sc H2.objs.size fp s H) hcalm T (hg _ fp s H) (hc _ fp s H) (he _ fp s H) (fun _ _ f=>f) stat turn (fun σ' H' s4 I4 qn=>?_) n s' hI) (fun _ _ h=>h) fun _ _ f=>f.elim)
  obtain ⟨m4,hn4,_⟩:=I4.loc
  exact hR _ _ _ H' m4 (fresh _ (Nat.le_refl _)) (fresh _ (by rw [hC]; exact Nat.le_succ _)) (by rw [hC]; exact Nat.le_succ _) hDn hDC I4.free hn4 I4.os I4.bare I4.base I4.hok qn
 exact codeAny_compStart_list loop (T.self _ 0 _ _ _ st1 loop)
end
section
variable {X:Cx}
theorem Ex {σ σ':St} {H H':Hp} {s s':Shared} {C:Addr} (I:Inv X pins σ H s) (hC:s.heap.get? C=none) (I':Inv X pins σ' H' s') (hn:H' C=none) {h':Heap} {m:Str->Option Value} (hs:Heap.SameBut C s'.heap h')
 (hsz:s.heap.objs.size<=C):Inv X pins σ' H' { s' with heap:=h' }:=by
 have ne:∀ a o,s.heap.get? a=some o->C≠a:=fun a o e z=>by rw [z,e] at hC; cases hC
 refine I'.turned (t':=s'.toks) (it:=C) (fun b o hb e=>(hs.2 b hb).trans e) hn ?_ (.inr (Nat.le_trans I.sz hsz)) (fun x c e=>?_) (fun p hp=>?_)
 . exact Nat.ne_of_gt (Nat.lt_of_lt_of_le I.lt hsz)
 . obtain ⟨v,o,ho,_⟩:=I.cell x c e
   exact Ne.symm (ne _ _ ho)
 . exact Ne.symm (ne _ _ (I.pin p hp).1)
theorem Ph (M F:List Str) (ixs:List Nat) {sc:Scope} {tg iter elt:Expr} {ifs:List Expr} {wi:TI} {g:TG} {tc:TT} {te:TE} {pos:Pos} (hcalm:X.calm=true) (c:ig X M F ixs sc) (hi:PI X tg iter wi)
 (hg:∀ C fp s H,PG (eF X M F sc C fp s H) tg g) (hc:∀ C fp s H,rA (eF X M F sc C fp s H) ifs tc) (he:∀ C fp s H,PE (eF X M F sc C fp s H) elt te)
 (hs:∀ x,foldedSetIterable iter X.env x=pure x:=by intro _; rfl):PE X (.ListComp elt [⟨tg,iter,ifs,0⟩] sc pos) (Hf wi M.length ixs g tc te):=by
 intro pins s σ H Q I h
 rw [eval_ListComp]
 refine wpAny_comprehension_free (use:=none) rfl hs (tY (vV I c)) c.kind c.locs (bz (hi pins s σ H _ I h) fun v s1 h1=>bz h1 fun itv s2 h2=>?_)
 obtain ⟨it,fp,tn,J,H2,e,I2,T,st2,f2,q⟩:=h2
 subst e
 refine wI (Q:=Q) hcalm c hg hc he I2 T st2 f2 q (RR:=fun acc C=>compPost (model X.prog X.w) X.A X.xe none (EP X pins σ Q) acc C) ?_
 intro D C s' H' m hD hC hsz hDn hDC hCn hns hos hbare hun hok q'
 have I3:Inv X pins σ H' s':=I2.call' hos hun hok hbare fun b hb=>by
  obtain ⟨_,g1,g2,g3,g4,g5⟩:=f2 b hb
  exact ⟨g3,g1,g4,g5⟩
 exact ⟨m,hns,fun h' hs'=>⟨.ref D,H',Ex (m:=m) I2 hC I3 hCn hs' hsz,rfl,q'⟩⟩
theorem Pj {i:Nat} (M F:List Str) (ixs:List Nat) {x:Str} {sc:Scope} {tg iter elt:Expr} {ifs:List Expr} {wi:TI} {g:TG} {tc:TT} {te:TE} {pos pos' pos2:Pos} (hN:X.N.Nodup) (hix:X.N[i]?=some x) (hx:X.env.scope.names.lookup x=some .local)
 (hcalm:X.calm=true) (c:ig X M F ixs sc) (hi:PI X tg iter wi)
 (hg:∀ C fp s H,PG (eF X M F sc C fp s H) tg g) (hc:∀ C fp s H,rA (eF X M F sc C fp s H) ifs tc) (he:∀ C fp s H,PE (eF X M F sc C fp s H) elt te)
 (hsw:swapsWith (.ListComp elt [⟨tg,iter,ifs,0⟩] sc pos) (some (.Name x pos')) pos2.line X.env=pure true:=by rfl)
 (hs:∀ x,foldedSetIterable iter X.env x=pure x:=by intro _; rfl):PS X (.Assign [.Name x pos'] (.ListComp elt [⟨tg,iter,ifs,0⟩] sc pos) pos2) (fun D σ H=>Hf wi M.length ixs g tc te σ H fun v H1=>D.nx (σ.set i (some v)) H1):=by
 intro pins s σ H D I h
 rw [exec_Assign_Name_used _ _ _ _ hsw]
 refine wpAny_bind (wpAny_standAt (wpAny_bind ?_))
 show wpAny _ X.A (do let _ ← comprehension (.ListComp elt [⟨tg,iter,ifs,0⟩] sc pos) sc X.env _ (newList []) false (eval iter X.env) (some (assign (.Name x pos') X.env))) _ _ s
 refine wpAny_bind (wpAny_mono (wpAny_comprehension_free (use:=some (assign (.Name x pos') X.env)) (Q:=fun _ s'=>SP X pins D .next s') rfl hs (tY (vV I c)) c.kind c.locs
  (bz (hi pins s σ H _ I h) fun v s1 h1=>bz h1 fun itv s2 h2=>?_)) (fun _ s' hq=>wpAny_pure (wpAny_pure hq)) fun _ _ e=>e)
 obtain ⟨it,fp,tn,J,H2,e,I2,T,st2,f2,q⟩:=h2
 subst e
 refine wI (Q:=fun v H1=>D.nx (σ.set i (some v)) H1) hcalm c hg hc he I2 T st2 f2 q (RR:=fun acc C=>compPost (model X.prog X.w) X.A X.xe (some (assign (.Name x pos') X.env)) (fun _ s'=>SP X pins D .next s') acc C) ?_
 intro D' C s' H' m hD hC hsz hDn hDC hCn hns hos hbare hun hok q'
 have I3:Inv X pins σ H' s':=I2.call' hos hun hok hbare fun b hb=>by
  obtain ⟨_,g1,g2,g3,g4,g5⟩:=f2 b hb
  exact ⟨g3,g1,g4,g5⟩
 have hLC:C≠X.env.locals:=Nat.ne_of_gt (Nat.lt_of_lt_of_le I2.lt hsz)
 show wpAny _ X.A (assign (.Name x pos') X.env (.ref D')) _ _ _
 refine wpAny_assign_Name (zx (v:=.ref D') I3 hN hix (.inl hx) rfl (fun s'' I4 ⟨a,hsb,ha⟩=>?_) (.inr hx))
 have hCa:C≠a:=by
  rcases ha with ha | ha
  . rw [ha]; exact hLC
  . obtain ⟨v,o,ho,_⟩:=I2.cell x a ha
    intro z; rw [z,ho] at hC; cases hC
 exact ⟨m,hns.sameBut hsb hCa,fun h' hs'=>⟨_,H',Ex (m:=m) I2 hC I4 hCn hs' hsz,q'⟩⟩
theorem Pk:fj X (binaryOp .Add) (fun x y H Q=>∃ a b xs ys,x=.ref a/\y=.ref b/\b8 X.K H a xs/\b8 X.K H b ys/\xs.length+ys.length<=sizeLine/\∀ p,H p=none->Q (.ref p) (upd H p (.lst (xs++ys)))):=by
 intro pins s σ H x y v u Q I rx ry h
 obtain ⟨a,b,xs,ys,rfl,rfl,ha,hb,hz,q⟩:=h
 cases rx
 cases ry
 obtain ⟨its,r1,⟨⟨c1,d1,dt1,s1⟩,n1,g1,e1,e2,e3⟩,_⟩:=I.list ha
 obtain ⟨its2,r2,⟨⟨c2,d2,dt2,s2⟩,n2,g2,f1,f2,f3⟩,_⟩:=I.list hb
 simp only at e1 e2 e3 f1 f2 f3
 subst e1 e2 e3 f1 f2 f3
 have hl1:=r1.length
 have hl2:=r2.length
 refine concat_meets ⟨_,g1,rfl⟩ ⟨_,g2,rfl⟩ noFill_list_add seq_list_add F.slot_list_add F.entry_list_add (F.args_list_add_2 _ _) (list_addW a b its.toArray its2.toArray n1 n2 none none s1 s2 (by rw [List.size_toArray,List.size_toArray]; omega)) ⟨g1,g2,?_⟩
 have ea:its.toArray++its2.toArray=(its++its2).toArray:=by simp
 rw [ea]
 exact ⟨.ref _,_,I.lnew (t':=s.toks) (r1.append r2) (by rw [List.length_append]; omega),rfl,q _ I.fresh⟩
end
noncomputable def j6 (z:Str) (lo hi:Option Int):Str:=⟨((z.cps.toList.drop (HT.sIx z.length 0 lo)).take (HT.sIx z.length z.length hi-HT.sIx z.length 0 lo)).toArray⟩
theorem Uz (lo hi:Option Int) (n:Nat):Builtin.Str.strSliceIndices lo hi 1 n=(List.range (HT.sIx n n hi-HT.sIx n 0 lo)).map (HT.sIx n 0 lo+·):=by
 have e1:∀ (o:Option Int) (d:Nat),d<=n->(match o with | none=>(d:Int) | some i=>max 0 (min (if i<0 then i+(n:Int) else i) (n:Int)))=((HT.sIx n d o:Nat):Int):=fun o d hd=>by
  cases o with
  | none=>rfl
  | some i=>
   simp only [HT.sIx]
   by_cases h:i<0
   . simp only [h,if_true]<;>omega
   . simp only [h,if_false]<;>omega
 rw [← sliceRange_one]
 have a1:=e1 lo 0 (Nat.zero_le _)
 have a2:=e1 hi n (Nat.le_refl _)
 unfold Builtin.Str.strSliceIndices
 rw [← a1,← a2]
 cases lo<;>cases hi<;>simp
theorem Jr (z:Str) (lo hi:Option Int):Txt.slice z lo hi=j6 z lo hi:=by
 unfold Txt.slice j6
 rw [Uz]
 have hp:=pick_run z.cps (HT.sIx z.length 0 lo) (HT.sIx z.length z.length hi-HT.sIx z.length 0 lo)
 split
 . rename_i h
   have h2:(List.map (HT.sIx z.length 0 lo+·) (List.range (HT.sIx z.length z.length hi-HT.sIx z.length 0 lo))).length=z.length:=by simpa using h
   rw [List.length_map,List.length_range] at h2
   have hh:HT.sIx z.length z.length hi<=z.length:=HT.sIx_le _ _ (Nat.le_refl _) hi
   have hl0:HT.sIx z.length 0 lo<=z.length:=HT.sIx_le _ _ (Nat.zero_le _) lo
   have hl:HT.sIx z.length 0 lo=0:=by omega
   rw [h2,hl,List.drop_zero,List.take_of_length_le (by rw [Array.length_toList]; exact Nat.le_refl _)]
 . rw [hp]
noncomputable def VM:V->Option Int->Option Int->Hp->VK->Prop:=fun x lo hi H Q=>∃ z,x=.str z/\z.length<=sizeLine/\Q (.str (j6 z lo hi)) H
section
variable {X:Cx}
theorem RT:BK X VM:=by
 intro pins s σ H x v vl vu lo hi sl Q I rx hs pl pu h
 obtain ⟨z,rfl,hz,q⟩:=h
 obtain ⟨t,rfl⟩:=rx
 refine ⟨"str",_,F.slot_str_getitem.lookup,typeIs_str _ _ _,?_⟩
 have go:∀ (l u:Option (Int×Tok)),vl=partValue l->vu=partValue u->l.map (·.1)=lo->u.map (·.1)=hi->wpAny (model X.prog X.w) X.A (getItem (.str z t) (.ref sl)) (EP X pins σ Q) X.xe s:=fun l u e1 e2 e3 e4=>by
  subst e1 e2 e3 e4
  refine wpAny_getItem_str_slice (l:=l) (u:=u) (st:=none) hs rfl (post_val_or_str ⟨Nat.le_trans (Txt.slice_le z _ _) hz,fun t' k=>?_⟩)
  refine ⟨.str (j6 z (l.map (·.1)) (u.map (·.1))),H,I.tok _,⟨t',?_⟩,q⟩
  rw [← Jr]
  rfl
 cases pl with
 | none=>cases pu with
  | none=>exact go none none rfl rfl rfl rfl
  | int j tj=>exact go none (some (j,tj)) rfl rfl rfl rfl
 | int i ti=>cases pu with
  | none=>exact go (some (i,ti)) none rfl rfl rfl rfl
  | int j tj=>exact go (some (i,ti)) (some (j,tj)) rfl rfl rfl rfl
end
section
variable {X:Cx} {pins:List (Addr×Obj)} {σ:St} {H:Hp} {s:Shared} {h':Heap}
end
section
variable {X:Cx}
noncomputable def UG:R2:=fun x y H Q=>∃ a v,x=.ref a/\K8 H a y (some v)/\Q v H
theorem Ey (hu:X.A.units+1<cLine):vH X UG:=by
 intro value slice pins s σ H x y v u Q I rx ry h hs
 obtain ⟨a,z,rfl,g,q⟩:=h
 cases rx
 exact tail_any (Ei I g) F.slot_dict_getitem.lookup (Jm hu I g ry fun w' s3 I3 rw'=>⟨z,H,I3,rw',q⟩) hs
noncomputable def Hg:V->V->V->Hp->(Hp->Prop)->Prop:=fun o i v H Q=>∃ a H',o=.ref a/\RM H a i v H'/\Q H'
theorem set_dict (hu:X.A.units+1<cLine):Kz X Hg:=by
 intro pins s σ H o i v ov iv u Q I ro ri rv h
 obtain ⟨a,H',rfl,g,q⟩:=h
 cases ro
 exact Jo hu I g ri rv fun s4 I4=>⟨H',I4,q⟩
noncomputable def Wi (t:TE):TE:=fun σ H Q=>t σ H fun v H1=>∃ a kvs,v=.ref a/\H1 a=some (.dK kvs)/\∀ o,Q v (upd H1 a (.frz o (.dK kvs)))
theorem Inv.fz {σ:St} {H:Hp} {a:Addr} {kvs:List (Key×V)} (I:Inv X pins σ H s) (e:H a=some (.dK kvs)):∃ o,Inv X pins σ (upd H a (.frz o (.dK kvs))) s:=by
 obtain ⟨z,hd,vs,r,ob,es,ep,h1,h2⟩:=I.hok a _ e
 refine ⟨ob,?_⟩
 exact uZ (h':=s.heap) (t':=s.toks) (ob:=.frz ob (.dK kvs)) I (by rw [e]; exact True.intro) (Heap.SameBut.refl ..) ⟨ob,h1⟩ ⟨h1,z,hd,vs,r,ob,es,ep,h1,h2⟩
theorem UJ {e:Expr} {t:TE} (h:PE X e t):PE X e (Wi t):=fun pins s σ H Q I q=>bz (h pins s σ H _ I q) fun u s1 ⟨v,H1,I1,rv,a,kvs,ev,ea,k⟩=>by
 obtain ⟨o,I2⟩:=I1.fz ea
 exact ⟨v,_,I2,rv,k o⟩
noncomputable def RV (a:Addr) (o:Obj) (kvs:List (Key×V)):It:=
 ⟨fun i H=>H a=some (.frz o (.dK kvs))/\i<kvs.length,fun i H x H'=>H'=H/\∃ k,(kvs.map (·.1))[i]?=some k/\x=kV k,fun i H=>H a=some (.frz o (.dK kvs))/\kvs.length<=i⟩
theorem RW {k:Key} {u:Value} (h:(di P w).is k u=true):RelV (kV k) u:=by
 rcases eY h with ⟨i,t,rfl,rfl⟩ | ⟨x,t,rfl,rfl⟩
 . exact ⟨t,rfl⟩
 . exact ⟨t,rfl⟩
theorem vX {σ:St} {H:Hp} {a:Addr} {o:Obj} {kvs:List (Key×V)} (I:Inv X pins σ H s) (e:H a=some (.frz o (.dK kvs))):
 (a==sysModules)=false/\∃ vs ep es,KV kvs vs/\o.data=.dict es ep/\s.heap.DictAt (di X.prog X.w) a vs ep:=by
 obtain ⟨h1,z,hd,vs,r,ob,es,ep,h2,h3,h4,h5⟩:=I.hok a _ e
 rw [h1] at h2
 cases h2
 exact ⟨hd,vs,ep,es,r,h4,o,es,h1,h3,h4,h5⟩
theorem Js {K:FG} {tg:Expr} (a it:Addr) (o:Obj) (kvs:List (Key×V)) (ep:Nat) (he:∃ es,o.data=.dict es ep):Turn P w K tg (RV a o kvs) [it] it (fun i h=>h.IsKeyIter it a i kvs.length ep) where
 mem:=by simp
 obj:=fun i h st b hb=>by
  have e:b=it:=by simpa using hb
  subst e
  obtain ⟨o,e,c,d⟩:=st
  exact ⟨o,e,fun v z=>by rw [d] at z; cases z⟩
 keep:=fun i h h' st k=>by
  obtain ⟨o,e,c,d⟩:=st
  exact ⟨o,k it (by simp) o e,c,d⟩
 item:=by
  intro X hP hw hK hc i pins s σ H E I hf st hg
  subst hP hw hK
  obtain ⟨hg,hi⟩:=hg
  obtain ⟨hd,vs,ep',es,r,hdat,dd⟩:=vX I hg
  obtain ⟨es0,he⟩:=he
  rw [hdat] at he
  cases he
  have hl:kvs.length=vs.length:=r.length
  obtain ⟨f0,f1,f2,f3,f4,f5⟩:=hf it (by simp)
  rw [hl] at st
  have hx:vs[i]?=some (vs[i]'(by omega)):=List.getElem?_eq_getElem (by omega)
  refine wpAny_pyNext_dict_item (k:=(vs[i]'(by omega)).1) (v:=(vs[i]'(by omega)).2) st dd hx fun key h' hk st' sb=>?_
  have I1:Inv X pins σ H { s with heap:=h' }:=I.turned (t':=s.toks) (fun b o hb e=>(sb.2 b hb).trans e) f0 f1 f3 f4 f5
  have ek:=r.keys
  have e1:(kvs.map (·.1))[i]?=some (vs[i]'(by omega)).1:=by rw [ek,List.getElem?_map,hx]; rfl
  obtain ⟨ob,e,c,d⟩:=id st'
  refine ⟨key,rfl,Bd (s:={ s with heap:=h' }) e c d (by decide) ⟨kV (vs[i]'(by omega)).1,H,I1,RW hk,⟨rfl,_,e1,rfl⟩,by rw [hl]; exact st',fun b hb=>(hf b hb).1⟩⟩
 done:=by
  intro X hP hw hK hc i pins s σ H E I hf st hg
  subst hP hw hK
  obtain ⟨hg,hi⟩:=hg
  obtain ⟨hd,vs,ep',es,r,hdat,dd⟩:=vX I hg
  obtain ⟨es0,he⟩:=he
  rw [hdat] at he
  cases he
  have hl:kvs.length=vs.length:=r.length
  obtain ⟨f0,f1,f2,f3,f4,f5⟩:=hf it (by simp)
  rw [hl] at st
  exact wpAny_pyNext_dict_end (I.ok.hd hc) st dd (List.getElem?_eq_none (by omega)) fun h' eb=>⟨rfl,I.turned (t':=s.toks) (fun b o hb e=>eb b o hb e) f0 f1 f3 f4 f5⟩
 self:=fun _ _ _ _ _ st h=>wpAny_pyIter_keyiter st h
noncomputable def UL (tl:TE):TI:=fun σ H R=>tl σ H fun x H1=>∃ a o kvs,x=.ref a/\H1 a=some (.frz o (.dK kvs))/\R (RV a o kvs) H1
theorem Pn {tg l:Expr} {tl:TE} (hl:PE X l tl):PI X tg l (UL tl):=by
 intro pins s σ H R I h
 refine bz (hl pins s σ H _ I h) fun v s1 ⟨x,H1,I1,r1,q1⟩=>?_
 obtain ⟨a,o,kvs,e,hq,q⟩:=q1
 subst e
 cases r1
 obtain ⟨hd,vs,ep,es,r,hdat,dd⟩:=vX I1 hq
 refine wpAny_pyIter_dict hd dd ?_
 have hln:kvs.length=vs.length:=r.length
 refine ⟨s1.heap.objs.size,[s1.heap.objs.size],_,_,H1,rfl,I1.kept (t':=s1.toks) fun b o e=>Heap.get?_push_of_some _ e,Js a _ o kvs ep ⟨es,hdat⟩,⟨_,Heap.get?_push_size _ rfl,rfl,?_⟩,fun b hb=>?_,q⟩
 . rw [hln]; rfl
 . have e:b=s1.heap.objs.size:=by simpa using hb
   subst e
   exact I1.fpOk (Nat.le_refl _) (I1.hok.fresh (Nat.le_refl _))
end
section
variable {X:Cx} {pins:List (Addr×Obj)} {σ:St} {H:Hp} {s:Shared} {h':Heap}
theorem Inv.turnedL {t':Nat} {fp:List Addr} (I:Inv X pins σ H s) (k:∀ b o,b∉fp->s.heap.get? b=some o->h'.get? b=some o) (f:∀ b∈fp,m8 X pins H b):Inv X pins σ H { s with heap:=h',toks:=t' }:=by
 have nit:∀ b u,H b=some u->b∉fp:=fun b u e z=>by rw [(f b z).1] at e; cases e
 refine I.step (g':=s.gens) (d':=s.drawn) (ch:=fp) (fun b hb=>⟨(f b hb).2.2.2.1,(f b hb).2.1,(f b hb).2.2.2.2.1,(f b hb).2.2.2.2.2⟩) (fun b o _ _ hc e _=>k b o hc e) (fun b o _ _ hc e _=>⟨o.slots,k b o hc e⟩) (fun _ _ _ _ n=>n)
  (fun b o hc e=>⟨o,k b o hc e⟩) (fun _ _ e=>e) (fun _ _ _ e=>e) (fun b ps e=>⟨#[],by rw [e]; simp⟩) (fun m hm=>?_) (fun b u e=>?_) I.bare
 . obtain ⟨o,es,ep,ho,r⟩:=hm
   exact ⟨o,es,ep,k _ o (fun z=>(f _ z).2.1 rfl) ho,r⟩
 . refine (I.hok b u e).stay (fun c v hc q=>k c v ?_ q) (fun _ q=>q) fun _ _ q=>q
   rcases hc with z | z
   . rw [z]; exact nit b u e
   . exact nit c _ z
end
theorem Inv.madeT {X:Cx} {σ:St} {H:Hp} {fp:List Addr} {xs:List V} {us:List Value} {g2:Heap} {t':Nat} (I:Inv X pins σ H s) (hl:xs.length<=sizeLine) (rv:Vals xs us) (hf:∀ c∈fp,m8 X pins H c) (lt:∀ c∈fp,∃ o,s.heap.get? c=some o)
 (hT:g2.get? s.heap.objs.size=some { cls:=.type "tuple",data:=.seq us.toArray }) (k:∀ c o,c∉fp->s.heap.get? c=some o->g2.get? c=some o):
 Inv X pins σ (upd H s.heap.objs.size (.tup xs)) { s with heap:=g2,toks:=t' }/\∀ c∈fp,upd H s.heap.objs.size (.tup xs) c=none:=by
 have up:∀ c∈fp,upd H s.heap.objs.size (.tup xs) c=none:=fun c hc=>by
  obtain ⟨o,e⟩:=lt c hc
  rw [aY (Nat.ne_of_lt (Heap.lt_size e))]
  exact (hf c hc).1
 have I1:Inv X pins σ (upd H s.heap.objs.size (.tup xs)) { s with heap:=s.heap.push { cls:=.type "tuple",data:=.seq us.toArray },toks:=t' }:=
  I.laid (fun b o q=>Heap.get?_push_of_some _ q) (Nat.le_refl _) ⟨hl,us,rv,⟨_,Heap.get?_push_size s.heap rfl,rfl,0,rfl⟩⟩
 refine ⟨Inv.turnedL (s:={ s with heap:=s.heap.push { cls:=.type "tuple",data:=.seq us.toArray },toks:=t' }) (h':=g2) (t':=t') I1 (fp:=fp) (fun c o hc q=>?_) (fun c hc=>⟨up c hc,(hf c hc).2⟩),up⟩
 have q':(s.heap.push { cls:=.type "tuple",data:=.seq us.toArray }).get? c=some o:=q
 by_cases hbT:c=s.heap.objs.size
 . subst hbT
   rw [Heap.get?_push_size s.heap rfl] at q'
   exact q'▸hT
 . rw [Heap.get?_push_ne s.heap c _ hbT] at q'
   exact k c o hc q'
theorem ut {a b:V}:[a,b].length<=sizeLine:=by rw [sizeLine_eq]; exact Nat.le_of_ble_eq_true rfl
section
variable {X:Cx}
end
noncomputable def dY (es:Array (Int×Value)):List Str:=es.toList.map fun e=>strOf e.2
structure pC (prog:Program) (w:World) (h:Heap) (a:Addr) (es:Array (Int×Value)) (ep:Nat) (t:SetTable) (led:Bool):Prop where
 at_:h.get? a=some { cls:=.type "set",dict:=none,data:=.set es ep t,slots:=#[] }
 el:ElemsOf (PySem.strKind prog w) es.toList
 nd:(dY es).Nodup
 bd:es.size<scanBound
 fits:t.fits es.size=true
 led:t.led=led
 plain:0<es.size->t.plain=false
theorem Hi {t:SetTable} {es:Array (Int×Value)} {h:Int} {x:Value}:(layNew t es h x).2.1.led=t.led:=by
 unfold layNew
 split
 . show (SetTable.orStandIn _ _).led=_
   unfold SetTable.orStandIn
   split<;>rfl
 . rfl
theorem wJ {t t':SetTable} {hs:Array Int} {n:Nat} {o:Array Nat} (e:t.relaid hs n=some (t',o)):t'.led=t.led/\t'.plain=t.plain:=by
 unfold SetTable.relaid SetTable.laid at e
 obtain ⟨ow,h1,h2⟩:=Option.bind_eq_some_iff.mp e
 cases h2
 exact ⟨rfl,rfl⟩
theorem BW {t:SetTable} {es:Array (Int×Value)} {n:Nat}:(relayAll t es n).2.1.led=t.led:=by
 unfold relayAll
 split
 . rename_i e
   dsimp only
   split
   . exact (wJ e).1
   . rfl
 . rfl
theorem yC {t:SetTable} {es:Array (Int×Value)} {n:Nat} (hp:t.plain=false):(relayAll t es n).2.1.plain=false:=by
 unfold relayAll
 split
 . rename_i e
   dsimp only
   split
   . exact (wJ e).2.trans hp
   . rfl
 . rfl
theorem Jt {h:Heap} {a:Addr} {es es':Array (Int×Value)} {ep:Nat} {t t':SetTable} (e:h.get? a=some { cls:=.type "set",dict:=none,data:=.set es ep t,slots:=#[] }):(h.update a (Obj.putSet es' t')).get? a=some { cls:=.type "set",dict:=none,data:=.set es' (ep+1) t',slots:=#[] }:=
 Heap.get?_update_self (Obj.putSet es' t') e rfl
section
variable {prog:Program}
theorem add_str {a:Addr} {x:Str} {tk:Tok} {es:Array (Int×Value)} {ep:Nat} {t:SetTable} {led:Bool} {Q:Bool->Shared->Prop} (S:pC prog w s.heap a es ep t led) (room:es.size+1<scanBound)
 (h:∀ b h' es' ep' t',Heap.SameBut a s.heap h'->pC prog w h' a es' ep' t' led->(∀ y,y∈dY es' ↔ y∈dY es\/y=x)->es'.size<=es.size+1->Q b { s with heap:=h' }):
 wpAny (model prog w) A (setAddHashed a (.str x tk) (hashStr w x)) Q E s:=by
 have hk:(PySem.strKind prog w).is x (.str x tk)=true:=by show Value.isStrOf x (.str x tk)=true; simp [Value.isStrOf]
 unfold setAddHashed setAddHashedIn
 refine wpAny_holding (wpAny_bind (wpAny_setState_of S.at_ rfl S.fits ?_))
 dsimp only
 rw [byScan_of (knd:=PySem.strKind prog w) (x:=.str x tk) rfl S.bd S.el]
 simp only [↓reduceIte]
 unfold setAddByScan
 refine wpAny_bind (wpAny_bind (wpAny_rule (wpAny_bind ?_)))
 refine wpAny_setScan_of (knd:=PySem.strKind prog w) (k:=x) hk S.at_ rfl S.fits S.el ?_
 have key:∀ e∈es.toList,(PySem.strKind prog w).is x e.2=true ↔ strOf e.2=x:=fun e he=>by
  obtain ⟨⟨k,h1,_⟩,_⟩:=S.el e he
  obtain ⟨u,hu⟩:=Value.isStrOf_shape (x:=k) (v:=e.2) h1
  rw [hu]
  show Value.isStrOf x (.str k u)=true ↔ k=x
  simp [Value.isStrOf]
 cases hr:List.findIdx? (fun e=>(PySem.strKind prog w).is x e.2) es.toList with
 | some j=>
  dsimp only
  obtain ⟨hj,hpj,_⟩:=List.findIdx?_eq_some_iff_getElem.mp hr
  have hm:x∈dY es:=List.mem_map.mpr ⟨es.toList[j],List.getElem_mem hj,(key _ (List.getElem_mem hj)).mp hpj⟩
  refine wpAny_pure (wpAny_pure ?_)
  exact h false s.heap es ep t (Heap.SameBut.refl a s.heap) S (fun y=>⟨.inl,fun q=>q.elim id fun q=>q▸hm⟩) (Nat.le_succ _)
 | none=>
  dsimp only
  have hm:x∉dY es:=fun q=>by
   obtain ⟨e,he,q⟩:=List.mem_map.mp q
   have:=List.findIdx?_eq_none_iff.mp hr e he
   rw [(key e he).mpr q] at this
   cases this
  have way:∀ (b:Bool) {s₁:Shared} {Q':Unit->Shared->Prop},Q' () s₁->wpAny (model prog w) A (match b with | true=>rule "set.scan.the-table-gave-way" | false=>pure ()) Q' E s₁:=fun b s₁ Q' q=>by
   cases b
   . exact wpAny_pure q
   . exact wpAny_rule q
  have hp:=layNew_perm t es (hashStr w x) (.str x tk)
  have hf:=layNew_fits t es (hashStr w x) (.str x tk)
  have hl:(layNew t es (hashStr w x) (.str x tk)).2.1.led=led:=Hi.trans S.led
  have k1:∀ es1:Array (Int×Value),List.Perm es1.toList (es.push (hashStr w x,.str x tk)).toList->ElemsOf (PySem.strKind prog w) es1.toList/\(dY es1).Nodup/\es1.size=es.size+1/\∀ y,y∈dY es1 ↔ y∈dY es\/y=x:=fun es1 q=>by
   rw [Array.toList_push] at q
   have q2:List.Perm (dY es1) (dY es++[x]):=by
    have:=q.map fun e=>strOf e.2
    simpa [dY,strOf] using this
   refine ⟨(S.el.push (k:=x) hk rfl).perm q,q2.nodup_iff.mpr (List.nodup_append.mpr ⟨S.nd,by simp,fun a ha b hb=>?_⟩),?_,fun y=>?_⟩
   . rw [List.mem_singleton.mp hb]
     exact fun z=>hm (z▸ha)
   . have:=q.length_eq
     simpa using this
   . rw [q2.mem_iff]
     simp
  generalize layNew t es (hashStr w x) (.str x tk)=L at hp hf hl ⊢
  obtain ⟨es1,t1,wd,gv⟩:=L
  obtain ⟨k11,k12,k13,k14⟩:=k1 es1 hp
  dsimp only at hp hf hl ⊢
  refine wpAny_bind (way gv ?_)
  have fin:∀ t2:SetTable,t2.fits es1.size=true->t2.led=led->t2.plain=false->wpAny (model prog w) A (do
   storeSet a es1 t2
   if (!wd&&t2.tooFull)=true then do
    (match (relayAll t2 es1 (SetTable.grown es1.size)).2.2 with | true=>rule "set.scan.the-table-gave-way" | false=>pure ())
    storeSet a (relayAll t2 es1 (SetTable.grown es1.size)).1 (relayAll t2 es1 (SetTable.grown es1.size)).2.1
    pure (some true)
    else pure (some true)) (fun r s'=>∃ h',s'={ s with heap:=h' }/\r=some true/\∃ es' ep' t',Heap.SameBut a s.heap h'/\pC prog w h' a es' ep' t' led/\(∀ y,y∈dY es' ↔ y∈dY es\/y=x)/\es'.size<=es.size+1) E s:=by
   intro t2 f2 l2 p2
   have b1:es1.size<scanBound:=by omega
   refine wpAny_bind (wpAny_storeSet_of S.at_ rfl ?_ (fits_of_scanBound b1))
   have g1:=Jt (es':=es1) (t':=t2) S.at_
   have sb1:=Heap.SameBut.update s.heap a (Obj.putSet es1 t2)
   split
   . refine wpAny_bind (way _ ?_)
     have q:=relayAll_perm t2 es1 (SetTable.grown es1.size)
     have qf:=relayAll_fits t2 es1 (SetTable.grown es1.size)
     have ql:(relayAll t2 es1 (SetTable.grown es1.size)).2.1.led=led:=BW.trans l2
     have qp:=yC (es:=es1) (n:=SetTable.grown es1.size) p2
     generalize relayAll t2 es1 (SetTable.grown es1.size)=R at q qf ql qp ⊢
     obtain ⟨es2,t3,g3⟩:=R
     dsimp only at q qf ql qp ⊢
     obtain ⟨m1,m2,m3,m4⟩:=k1 es2 (q.trans hp)
     refine wpAny_bind (wpAny_storeSet_of g1 rfl ?_ (fits_of_scanBound (by omega)))
     exact wpAny_pure ⟨_,rfl,rfl,es2,_,t3,sb1.trans (Heap.SameBut.update _ a _),⟨Jt g1,m1,m2,by omega,qf,ql,fun _=>qp⟩,m4,by omega⟩
   . exact wpAny_pure ⟨_,rfl,rfl,es1,_,t2,sb1,⟨g1,k11,k12,b1,f2,l2,fun _=>p2⟩,k14,by omega⟩
  have out:∀ r s',(∃ h',s'={ s with heap:=h' }/\r=some true/\∃ es' ep' t',Heap.SameBut a s.heap h'/\pC prog w h' a es' ep' t' led/\(∀ y,y∈dY es' ↔ y∈dY es\/y=x)/\es'.size<=es.size+1)->r=some true/\Q true s':=fun r s' q=>by
   obtain ⟨h',rfl,rfl,es',ep',t',q1,q2,q3,q4⟩:=q
   exact ⟨rfl,h true h' es' ep' t' q1 q2 q3 q4⟩
  split
  . refine wpAny_bind ?_
    rw [hashByValue_scannable 8 (x:=.str x tk) rfl]
    refine wpAny_pure ?_
    refine wpAny_mono (fin { t1 with plain:=false } (SetTable.fits_plain_off hf) hl rfl) (fun r s' q=>?_) fun _ _ e=>e
    obtain ⟨rfl,q'⟩:=out r s' q
    exact wpAny_pure q'
  . rename_i np
    refine wpAny_bind (wpAny_pure ?_)
    simp only [↓reduceIte]
    refine wpAny_mono (fin t1 hf hl (by simpa using np)) (fun r s' q=>?_) fun _ _ e=>e
    obtain ⟨rfl,q'⟩:=out r s' q
    exact wpAny_pure q'
theorem pC.moved {h h':Heap} {a:Addr} {es:Array (Int×Value)} {ep:Nat} {t:SetTable} {led:Bool} (S:pC prog w h a es ep t led) (k:∀ o,h.get? a=some o->h'.get? a=some o):pC prog w h' a es ep t led:=⟨k _ S.at_,S.el,S.nd,S.bd,S.fits,S.led,S.plain⟩
end
section
variable {prog:Program} {w:World} {A:Around} {R:Result->Shared->Prop} {I:Addr} {fp wr:List Addr} {G:Array GenState->Array GenState->Prop} {n:Nat} {P:Nat->Value->Prop} {St:Nat->Shared->Prop}
theorem Ju (W:WalksS prog w A.in1 I fp wr G n P St) (D:Addr) (hD:D∉fp) (val:Nat->Str) (hv:∀ i v,P i v->∃ t,v=.str (val i) t) (hb:n+1<scanBound) (led:Bool):
 ∀ (k i:Nat) (s:Shared) (es:Array (Int×Value)) (ep:Nat) (t:SetTable),n-i=k->i<=n->St i s->pC prog w s.heap D es ep t led->es.size<=i->(∀ y,y∈dY es ↔ ∃ j,j<i/\val j=y)->
  (∀ s' es' ep' t',Moved (D::wr) G s s'->pC prog w s'.heap D es' ep' t' led->(∀ y,y∈dY es' ↔ ∃ j,j<n/\val j=y)->es'.size<=n->R (.ok (.ret .none)) s')->
  codeAny (model prog w) A (.builtin "set.update.loop" ⟨[.ref D,.ref I],[]⟩) R s:=by
 have nw:D∉wr:=fun q=>hD (W.sub _ q)
 have mw:∀ b∈wr,b∈D::wr:=fun b q=>List.mem_cons_of_mem _ q
 intro k
 induction k with
 | zero=>
  intro i s es ep t hk hi st S sz mem hR
  obtain rfl:i=n:=by omega
  refine codeAny_builtin F.entry_set_update_loop ?_
  rw [Around.under_plainId F.plain_set_update_loop _]
  refine wpAny_bind (m:=pyNext (.ref I)) (W.done s _ _ st fun s' m=>?_)
  exact wpAny_pure (hR s' es ep t (m.mono mw) (S.moved fun o q=>m.heap D o nw q) mem sz)
 | succ k ih=>
  intro i s es ep t hk hi st S sz mem hR
  have lt:i<n:=by omega
  refine codeAny_builtin F.entry_set_update_loop ?_
  rw [Around.under_plainId F.plain_set_update_loop _]
  refine wpAny_bind (m:=pyNext (.ref I)) (W.item i s _ _ lt st fun v s' hP st' m=>?_)
  obtain ⟨u,rfl⟩:=hv i v hP
  have S':=S.moved fun o q=>m.heap D o nw q
  refine wpAny_bind (m:=holding [Value.str (val i) u] (setAdd D (.str (val i) u))) (wpAny_holding ?_)
  unfold setAdd
  refine wpAny_holding (wpAny_bind (wpAny_pyHash_str ?_))
  refine add_str (s:={ s' with toks:=s'.toks+1 }) S' (by omega) fun b h' es' ep' t' sb S2 mem2 sz2=>?_
  refine wpAny_pure ⟨plainId_quiet F.plain_set_update_loop _,ih (i+1) _ es' ep' t' (by omega) lt (W.frame _ s' _ _ st' (Nat.le_succ _) fun c hc o q=>?_) S2 (by omega) (fun y=>?_) fun s'' es'' ep'' t'' m2 S3 mem3 sz3=>?_⟩
  . rw [sb.2 c (fun z=>hD (z▸hc))]
    exact q
  . rw [mem2 y,mem y]
    constructor
    . rintro (⟨j,hj,q⟩ | q)
      . exact ⟨j,by omega,q⟩
      . exact ⟨i,by omega,q.symm⟩
    . rintro ⟨j,hj,q⟩
      rcases Nat.lt_or_ge j i with g | g
      . exact .inl ⟨j,g,q⟩
      . obtain rfl:j=i:=by omega
        exact .inr q.symm
  . refine hR s'' es'' ep'' t'' (Moved.trans W.gtrans ((m.mono mw).then_heap (Nat.le_succ _) fun c o hc q=>?_) m2) S3 mem3 sz3
    rw [sb.2 c (fun z=>hc (z▸List.mem_cons_self))]
    exact q
end
noncomputable def byText (w:World):Bool:=w.params.followText "set-order"
noncomputable abbrev rB (w:World):Obj:={ cls:=.type "set",dict:=none,data:=.set #[] 0 (.fresh 0 0 (!byText w)),slots:=#[] }
section
variable {prog:Program}
theorem Pq (a:Value) {Q:Value->Shared->Prop} (h:Q (.ref s.heap.objs.size) { s with heap:=s.heap.push (rB w) }):
 codeAny (model prog w) A (.call (.builtin "set.__new__") ⟨[.type "set",a],[]⟩) (wants Q E) s:=by
 refine codeAny_of_tree (show wpAny _ A.in1 (do checkBuiltinCall "set.__new__" ⟨[.type "set",a],[]⟩; again (.builtin "set.__new__" ⟨[.type "set",a],[]⟩)) _ _ s from ?_)
 refine wpAny_bind (wpAny_of_eq (F.newCall_set_1 a) (wpAny_pure ⟨plainId_quiet F.plain_set_new _,codeAny_builtin F.entry_set_new (?_:wpAny _ _ _ _ _ _)⟩))
 rw [Around.under_plainId F.plain_set_new _]
 unfold Builtin.«set.__new__»; unfold Builtin.Frozenset.newClass
 have hs:=sub_set_self
 obtain ⟨x1,x2,x3,x4,x5⟩:=s
 dsimp only
 wp_walk
 refine wpAny_askSetting (wpAny_pure ?_); dsimp only; simp only [newObj]
 refine wpAny_bind (wpAny_alloc (wpAny_pure (wpAny_pure ?_)))
 exact h
theorem Ez:∀ {vs:List Value} {ss:List Str},StrsAre vs ss->∀ (i:Nat) (v:Value),vs[i]?=some v->∃ t,v=.str (ss.getD i ⟨#[]⟩) t
 | _,_,.nil,i,v,h=>by simp at h
 | _,_,.cons y t r,0,v,h=>by cases h; exact ⟨t,rfl⟩
 | _,_,.cons y t r,i+1,v,h=>by
  obtain ⟨u,e⟩:=Ez r i v (by simpa using h)
  exact ⟨u,by simpa using e⟩
theorem nZ:∀ {vs:List Value} {ss:List Str},StrsAre vs ss->vs.length=ss.length
 | _,_,.nil=>rfl
 | _,_,.cons y t r=>by simp [nZ r]
theorem Ej {l:Addr} {items:Array Value} {ss:List Str} {Q:Value->Shared->Prop} (hh:A.handled=none) (hl:s.heap.IsList l items) (hi:StrsAre items.toList ss) (hb:items.size+1<scanBound)
 (h:∀ (h':Heap) (tk:Nat) es ep t,pC prog w h' s.heap.objs.size es ep t (!byText w)->(∀ y,y∈dY es ↔ y∈ss)->es.size<=items.size->(∀ b o,b<s.heap.objs.size->s.heap.get? b=some o->h'.get? b=some o)->Q (.ref s.heap.objs.size) { s with heap:=h',toks:=tk }):
 wpAny (model prog w) A (call (.type "set") [.ref l]) Q E s:=by
 obtain ⟨c,tl,hmro⟩:=F.called_set.mro
 have m1:=F.called_set.made; have m2:=F.called_set.sub
 refine wpAny_call (codeAny_of_tree (show wpAny _ _ (callAny (.type "set") _) _ _ _ from wpAny_pure ⟨Code.quiet_builtin _ (by decide +kernel),codeAny_builtin F.entry_type_call (?_:wpAny _ _ _ _ _ _)⟩))
 rw [Around.under_plain (weight_type_call_type "set" [.ref l] []) rfl]
 have m3:=F.called_set.notType; have m4:=F.called_set.canCreate
 have m5:=F.typeCall_set_1 (.ref l)
 repeat any_goals first | assumption | wp_step
 refine codeAny_mono (Pq (.ref l) (E:=E) (Q:=fun o s₁=>o=.ref s.heap.objs.size/\s₁={ s with heap:=s.heap.push (rB w) }) ⟨rfl,rfl⟩) fun r s₁ hr=>?_
 cases r with
 | error e=>exact hr
 | ok fl=>
  cases fl with
  | ret obj=>
   obtain ⟨rfl,rfl⟩:=hr
   have g0:(s.heap.push (rB w)).get? s.heap.objs.size=some (rB w):=Heap.get?_push_size _ rfl
   have hT:Shared.TypeIs { s with heap:=s.heap.push (rB w) } (.ref s.heap.objs.size) "set" := ⟨_,g0,rfl⟩
   have m6:=F.called_set.init.lookup; have m7:=F.called_set.init.bind (.ref s.heap.objs.size)
   repeat any_goals first | assumption | wp_step
   refine codeAny_mono (codeAny_call_builtin (R:=wants (fun r s₂=>r=.none/\∃ h' tk es ep t,s₂={ s with heap:=h',toks:=tk }/\pC prog w h' s.heap.objs.size es ep t (!byText w)/\(∀ y,y∈dY es ↔ y∈ss)/\es.size<=items.size/\(∀ b o,b<s.heap.objs.size->s.heap.get? b=some o->h'.get? b=some o)) E) F.called_set.init.plain F.entry_set_init (check_set_init_1 hT ?_)) fun r₂ s₂ hr₂=>?_
   . obtain ⟨⟨c1,c2,c3,c4⟩,ho,hc,nl,hd⟩:=hl
     simp only at hc hd
     subst hc; subst hd
     have ho':(s.heap.push (rB w)).get? l=some { cls:=.type "list",dict:=c2,data:=.seq items nl,slots:=c4 }:=Heap.get?_push_of_some _ ho
     have n1:=F.sub_list_set; have n2:=F.sub_list_frozenset
     have n3:(Value.type "list" == Value.type "dict")=false:=by decide
     have hl1:(s.heap.push (rB w)).IsList l items:=⟨_,ho',rfl,nl,rfl⟩
     unfold Builtin.«set.__init__»; unfold noKeywords; unfold Builtin.Frozenset.updateFrom
     generalize hPI:pyIter=PI
     wp_walk
     subst hPI
     refine wpAny_pyIter_list hl1 (wpAny_bind (wpAny_runValue ?_))
     have lS:l<s.heap.objs.size:=Heap.lt_size ho
     have h3:A.in1.in1.in1.handled=none:=by simp [hh]
     have nI:l≠(s.heap.push (rB w)).objs.size:=by rw [Heap.size_push]; exact Nat.ne_of_lt (Nat.lt_succ_of_lt lS)
     have nS:s.heap.objs.size∉[(s.heap.push (rB w)).objs.size,l]:=by
      rw [Heap.size_push]; simp only [List.mem_cons,List.not_mem_nil,or_false,not_or]
      exact ⟨Nat.ne_of_lt (Nat.lt_succ_self _),Nat.ne_of_gt lS⟩
     refine Ju ((Walks.list h3 _ l nI items).toS) s.heap.objs.size nS (fun i=>ss.getD i ⟨#[]⟩) (fun i v q=>Ez hi i v (by rw [Array.getElem?_toList]; exact q)) hb (!byText w) (items.size-0) 0 _ #[] 0 (.fresh 0 0 (!byText w)) (by omega) (Nat.zero_le _) ⟨⟨_,Heap.get?_push_size _ rfl,rfl,rfl⟩,(hl1.push _)⟩ ?S0 (Nat.zero_le _) (fun y=>?M0) ?hR
     case S0=>exact ⟨Heap.get?_push_of_some _ g0,fun e q=>by simp at q,by simp [dY],by decide,rfl,rfl,fun q=>by simp at q⟩
     case M0=>simp [dY]
     case hR=>
      intro s' es ep t m S' mem sz
      obtain ⟨h',g',d',tk',os'⟩:=s'
      obtain rfl:g'=s.gens:=m.gens
      obtain rfl:d'=s.drawn:=m.drawn
      obtain rfl:os'=s.os:=m.os
      refine wpAny_pure (show wpAny _ _ (ret Value.none) _ _ _ from wpAny_pure ⟨rfl,h',tk',es,ep,t,rfl,S',fun y=>?_,sz,fun b o hb q=>?_⟩)
      . rw [mem y]
        have e0:=nZ hi
        rw [Array.length_toList] at e0
        have gd:∀ j (hj:j<ss.length),ss.getD j ⟨#[]⟩=ss[j]:=fun j hj=>by simp [hj]
        constructor
        . rintro ⟨j,hj,rfl⟩
          rw [gd j (by omega)]
          exact List.getElem_mem _
        . intro q
          obtain ⟨j,hj,rfl⟩:=List.mem_iff_getElem.mp q
          exact ⟨j,by omega,gd j hj⟩
      . have b1:b≠s.heap.objs.size:=Nat.ne_of_lt hb
        have b2:b≠(s.heap.push (rB w)).objs.size:=by rw [Heap.size_push]; exact Nat.ne_of_lt (Nat.lt_succ_of_lt hb)
        exact m.heap b o (by simp only [List.mem_cons,List.not_mem_nil,or_false,not_or]; exact ⟨b1,b2⟩) (Heap.get?_push_of_some _ (Heap.get?_push_of_some _ q))
   . cases r₂ with
     | error e=>exact hr₂
     | ok fl₂=>
      cases fl₂ with
      | ret r=>
       obtain ⟨rfl,h',tk,es,ep,t,rfl,q1,q2,q3,q4⟩:=hr₂
       repeat any_goals first | assumption | wp_step
       exact h _ _ _ _ _ q1 q2 q3 q4
      | _=>exact hr₂.elim
  | _=>exact hr.elim
theorem Lh {α:Type} {Q':α->Shared->Prop} (hh:A.handled=none) (h:∀ h' e,(∀ b o,s.heap.get? b=some o->h'.get? b=some o)->(∃ o,h'.get? e=some o/\o.cls=.type "StopIteration")->E (.ref e) { s with heap:=h' }):
 wpAny (model prog w) A (newExc (.type "StopIteration") [] >>= fun e=>(raiseNew e:Sem α)) Q' E s:=by
 refine wpAny_bind ?_
 simp only [newExc,newTuple]
 refine wpAny_bind (wpAny_newObj_type (wpAny_bind (m:=firstArgMember _ _) (wpAny_of_eq (a:=Value.none) (by first | rfl | (simp only [firstArgMember]; rfl)) (wpAny_newObj_type ?_ (by size_fits)))) (by size_fits))
 simp only [raiseNew]
 refine wpAny_bind (wpAny_handled ?_)
 rw [hh]
 exact wpAny_bind (wpAny_pure (wpAny_throw (h _ _ (fun b o q=>Heap.get?_push_of_some _ (Heap.get?_push_of_some _ q)) ⟨_,Heap.get?_push_size _ rfl,rfl⟩)))
end
section
variable {X:Cx} {pins:List (Addr×Obj)} {σ:St} {H:Hp} {s:Shared}
theorem zM:∀ {ss:List Str} {its:List Value},Vals (ss.map V.str) its->StrsAre its ss
 | [],its,r=>by cases r; exact .nil
 | x::ss,its,r=>by
  cases r with
  | cons a b=>
   obtain ⟨t,rfl⟩:=a
   exact .cons x t (zM b)
noncomputable def BX (P:Program) (w:World) (a:Addr) (ss:List Str):Heap->Prop:=fun h=>∃ es ep t,pC P w h a es ep t (!byText w)/\(∀ y,y∈dY es ↔ y∈ss)/\es.size<=ss.length
noncomputable def RX (X:Cx):List V->Hp->VK->Prop:=fun xs H Q=>∃ a ss,xs=[.ref a]/\b8 X.K H a (ss.map V.str)/\ss.length<4000/\∀ l,H l=none->Q (.ref l) (upd H l (.ext (BX X.prog X.w l ss)))
theorem Li (hc:X.calm=true):m9 X (.type "set") (RX X):=by
 intro pins s σ H xs us Q I r h
 obtain ⟨a,ss,rfl,hq,hl,q⟩:=h
 obtain ⟨u,rfl,rx⟩:=vals1 r
 cases rx
 obtain ⟨its,rv,pl,hz⟩:=I.list hq
 have hs:=zM rv
 have e0:=nZ hs
 refine Ej (ss:=ss) (I.ok.hd hc) pl.isList (by simpa using hs) (by show its.toArray.size+1<4096; rw [List.size_toArray]; omega) fun h' tk es ep t S mem sz kp=>?_
 have sz':es.size<=ss.length:=by
  have e9:its.toArray.size=its.length:=by simp
  omega
 refine ⟨.ref s.heap.objs.size,_,I.laid (t':=tk) (fun b o e=>kp b o (Heap.lt_size e) e) (Nat.le_refl _) (show dF X.prog X.w _ h' _ (.ext (BX X.prog X.w s.heap.objs.size ss)) from ⟨⟨es,ep,t,S,mem,sz'⟩,⟨_,S.at_⟩,fun h1 h2 ⟨es,ep,t,S,r⟩ k=>⟨es,ep,t,S.moved k,r⟩⟩),rfl,q _ (I.hok.fresh (Nat.le_refl _))⟩
end
section
variable {X:Cx}
end
section
variable {prog:Program}
theorem Hj {d:Addr} {Q:Value->Shared->Prop} (hd:(d==sysModules)=false) (hT:s.TypeIs (.ref d) "dict")
 (h:Q (.ref s.heap.objs.size) { s with heap:=s.heap.push { cls:=.type "dict_items",data:=.fields #[.ref d] } }):wpAny (model prog w) A (Builtin.«dict.items» ⟨[.ref d],[]⟩) (fun fin s'=>∃ v,fin=.done (.ret v)/\Q v s') E s:=by
 unfold Builtin.«dict.items»
 refine wpAny_bind ?_
 unfold Builtin.Dict.noArgs
 refine wpAny_bind (wpAny_notOrdered_dict hT (show wpAny _ _ (pure d) _ _ s from wpAny_pure (show wpAny _ _ (Builtin.Dict.showsAll d >>= _) _ _ s from ?_)))
 unfold Builtin.Dict.showsAll
 rw [if_neg (by rw [hd]; simp)]
 exact wpAny_bind (wpAny_pure (wpAny_bind (wpAny_newObj_type (wpAny_pure ⟨_,rfl,h⟩))))
theorem Hk {v d:Addr} {od:Obj} {es:Array DictEntry} {ep:Nat} {Q:Value->Shared->Prop} (hv:s.heap.IsItemsView v d) (ho:s.heap.get? d=some od) (hd:od.data=.dict es ep)
 (h:Q (.ref s.heap.objs.size) { s with heap:=s.heap.push { cls:=.type "dict_itemiterator",data:=.fields #[.none,.bool false,.ref d,.int 0 0,.int es.size 0,.int ep 0,.none,.none] } }):wpAny (model prog w) A (pyIter (.ref v)) Q E s:=by
 obtain ⟨ov,q1,q2,q3⟩:=id hv
 refine wpAny_pyIter_slot hv.typeIs F.slot_dict_items_iter (wpAny_call_entry F.slot_dict_items_iter hv.typeIs F.entry_dict_items_iter ?_ (F.args_dict_items_iter_1 _))
 unfold Builtin.«dict_items.__iter__»
 refine wpAny_bind (wpAny_pure (wpAny_bind ?_))
 unfold Builtin.Dict_items.dictOf
 refine wpAny_bind (wpAny_field q1 q3 (x:=.ref d) rfl (wpAny_pure (wpAny_bind ?_)))
 unfold Builtin.Dict_items.newIterator
 refine wpAny_bind (wpAny_dictEntries ho hd (wpAny_bind (wpAny_dictEpoch ho hd ?_)))
 simp only [show Builtin.Dict_items.ownsTuple "dict_itemiterator" = true from by decide,if_true]
 refine wpAny_newObj_type (wpAny_pure ⟨_,rfl, "dict_itemiterator",_,⟨_,Heap.get?_push_size _ rfl,rfl⟩,F.slot_dict_itemiterator_next.lookup,?_⟩) (by simp only [sizeOk,Builtin.Dict_items.ownedTupleFields,List.size_toArray,List.length_append,List.length_cons,List.length_nil,sizeLine_eq]; omega)
 simpa [rawInt,Builtin.Dict_items.ownedTupleFields] using h
theorem Hl {it d:Addr} {od:Obj} {es:Array DictEntry} {i ep:Nat} {ok ov:Value} {Q:Option Value->Shared->Prop} (hit:IsItemIter s.heap it d i es.size ep ok ov) (ho:s.heap.get? d=some od) (hd:od.data=.dict es ep) (hlt:i<es.size)
 (hQ:∀ h',IsItemIterOut h' it d (i+1) es.size ep es[i].key es[i].val s.heap.objs.size->h'.get? s.heap.objs.size=some { cls:=.type "tuple",data:=.seq #[es[i].key,es[i].val] }->h'.objs.size=s.heap.objs.size+1->(∀ b o,b≠it->s.heap.get? b=some o->h'.get? b=some o)->Q (some (.ref s.heap.objs.size)) { s with heap:=h' }):
 wpAny (model prog w) A (pyNext (.ref it)) Q E s:=by
 have hT:s.TypeIs (.ref it) "dict_itemiterator" := ⟨_,hit,rfl⟩
 have il:it<s.heap.objs.size:=Heap.lt_size hit
 unfold pyNext
 refine wpAny_bind (wpAny_attempt (wpAny_callSpecial?_slot (name:=Str.ofString "__next__") hT F.slot_dict_itemiterator_next (wpAny_call_entry F.slot_dict_itemiterator_next hT F.entry_dict_itemiterator_next ?_ (F.args_dict_itemiterator_next_1 _))))
 refine wpAny_bind (wpAny_pure (wpAny_bind (wpAny_bind ?_)))
 first | refine wpAny_bind (wpAny_typeNameOfWhole_itemiter hT (wpAny_pure (wpAny_bind (wpAny_fieldsOf hit rfl ?_)))) | refine wpAny_bind (wpAny_typeNameOf_itemiter hT (wpAny_pure (wpAny_bind (wpAny_fieldsOf hit rfl ?_))))
 simp only [show Builtin.Dict_items.ownsTuple "dict_itemiterator" = true from by decide,if_true]
 refine (show wpAny _ _ (if (Value.ref d==Value.none)=true then _ else _) _ _ _ from ?_)
 rw [if_neg (show ¬ ((Value.ref d==Value.none)=true) from fun q=>nomatch q)]
 refine wpAny_bind (wpAny_pure (wpAny_bind (wpAny_dictEntries ho hd ?_)))
 rw [if_neg (by simp)]
 refine wpAny_bind (wpAny_pure (wpAny_bind (wpAny_dictEpoch ho hd ?_)))
 rw [if_neg (by simp)]
 refine wpAny_pure ?_
 simp only [show ¬ ((i:Int)<0) from by omega,if_false,Int.toNat_natCast,Array.getElem?_eq_getElem hlt]
 refine wpAny_bind ?_
 first | refine wpAny_bind (wpAny_typeNameOfWhole_itemiter hT (wpAny_pure (wpAny_bind (wpAny_isOneOf_itemiter hT ?_)))) | refine wpAny_bind (wpAny_typeNameOf_itemiter hT (wpAny_pure (wpAny_bind (wpAny_isOneOf_itemiter hT ?_))))
 refine (show wpAny _ _ (setField (.ref it) 3 (rawInt ((i:Int)+1)) >>= _) _ _ s from wpAny_bind (wpAny_setField_rec hit (by simp) fun g1 e1 b1=>?_))
 have e1':IsItemIter g1 it d (i+1) es.size ep ok ov:=e1
 have T1:Shared.TypeIs { s with heap:=g1 } (.ref it) "dict_itemiterator" := ⟨_,e1',rfl⟩
 refine wpAny_bind (wpAny_holding (wpAny_bind (wpAny_isOneOf_itemiter T1 (wpAny_bind (wpAny_isOneOf_itemiter T1 ?_)))))
 refine (show wpAny _ _ (Builtin.Dict_items.pairFromOwner (.ref it) 6 es[i].key es[i].val) _ _ { s with heap:=g1 } from ?_)
 unfold Builtin.Dict_items.pairFromOwner
 refine wpAny_bind (wpAny_newTuple ?_)
 have z1:g1.objs.size=s.heap.objs.size:=b1.1
 have e2:IsItemIter (g1.push { cls:=.type "tuple",data:=.seq #[es[i].key,es[i].val] }) it d (i+1) es.size ep ok ov:=Heap.get?_push_of_some _ e1'
 have t2:(g1.push { cls:=.type "tuple",data:=.seq #[es[i].key,es[i].val] }).get? s.heap.objs.size=some { cls:=.type "tuple",data:=.seq #[es[i].key,es[i].val] }:=by rw [← z1]; exact Heap.get?_push_size _ rfl
 have z2:(g1.push { cls:=.type "tuple",data:=.seq #[es[i].key,es[i].val] }).objs.size=s.heap.objs.size+1:=by rw [Heap.size_push,z1]
 have k2:∀ b o,b≠it->s.heap.get? b=some o->(g1.push { cls:=.type "tuple",data:=.seq #[es[i].key,es[i].val] }).get? b=some o:=fun b o hb q=>Heap.get?_push_of_some _ (b1.extBut b o hb q)
 refine (show wpAny _ _ (Builtin.Dict_items.ownedTupleIsFree (.ref it) >>= _) _ _ { s with heap:=g1.push { cls:=.type "tuple",data:=.seq #[es[i].key,es[i].val] } } from ?_)
 generalize g1.push { cls:=.type "tuple",data:=.seq #[es[i].key,es[i].val] }=g2 at e2 t2 z2 k2 ⊢
 have n0:s.heap.objs.size≠it:=Nat.ne_of_gt il
 refine wpAny_bind ?_
 unfold Builtin.Dict_items.ownedTupleIsFree
 refine wpAny_bind (wpAny_field e2 rfl (x:=.none) rfl (wpAny_pure ?_))
 simp only [if_true]
 refine wpAny_bind (wpAny_field e2 rfl (x:=ok) rfl (wpAny_bind (wpAny_field e2 rfl (x:=ov) rfl ?_)))
 refine wpAny_bind (wpAny_setField_rec (s:={ s with heap:=g2 }) e2 (by simp) fun g3 e3 b3=>wpAny_bind (wpAny_setField_rec (s:={ s with heap:=g3 }) e3 (by simp) fun g4 e4 b4=>wpAny_bind (wpAny_setField_rec (s:={ s with heap:=g4 }) e4 (by simp) fun g5 e5 b5=>wpAny_bind (wpAny_setField_rec (s:={ s with heap:=g5 }) e5 (by simp) fun g6 e6 b6=>?_))))
 rw [z1] at e6 ⊢
 refine wpAny_bind (wpAny_letGo (wpAny_pure (wpAny_pure ⟨_,rfl,wpAny_pure (hQ g6 e6 ?_ ?_ ?_)⟩)))
 . exact b6.extBut _ _ n0 (b5.extBut _ _ n0 (b4.extBut _ _ n0 (b3.extBut _ _ n0 t2)))
 . show g6.objs.size=_
   rw [b6.1,b5.1,b4.1,b3.1]
   exact z2
 . exact fun b o hb q=>b6.extBut b o hb (b5.extBut b o hb (b4.extBut b o hb (b3.extBut b o hb (k2 b o hb q))))
theorem Jv {it d:Addr} {od:Obj} {es:Array DictEntry} {i ep:Nat} {ok ov:Value} {Q:Option Value->Shared->Prop} (hh:A.handled=none) (hit:IsItemIter s.heap it d i es.size ep ok ov) (ho:s.heap.get? d=some od) (hd:od.data=.dict es ep) (hge:es.size<=i)
 (hQ:∀ h',Heap.ExtBut it s.heap h'->Q none { s with heap:=h' }):wpAny (model prog w) A (pyNext (.ref it)) Q E s:=by
 have hT:s.TypeIs (.ref it) "dict_itemiterator" := ⟨_,hit,rfl⟩
 unfold pyNext
 refine wpAny_bind (wpAny_attempt (wpAny_callSpecial?_slot (name:=Str.ofString "__next__") hT F.slot_dict_itemiterator_next (wpAny_call_entry F.slot_dict_itemiterator_next hT F.entry_dict_itemiterator_next ?_ (F.args_dict_itemiterator_next_1 _))))
 refine wpAny_bind (wpAny_pure (wpAny_bind (wpAny_bind ?_)))
 first | refine wpAny_bind (wpAny_typeNameOfWhole_itemiter hT (wpAny_pure (wpAny_bind (wpAny_fieldsOf hit rfl ?_)))) | refine wpAny_bind (wpAny_typeNameOf_itemiter hT (wpAny_pure (wpAny_bind (wpAny_fieldsOf hit rfl ?_))))
 simp only [show Builtin.Dict_items.ownsTuple "dict_itemiterator" = true from by decide,if_true]
 refine (show wpAny _ _ (if (Value.ref d==Value.none)=true then _ else _) _ _ _ from ?_)
 rw [if_neg (show ¬ ((Value.ref d==Value.none)=true) from fun q=>nomatch q)]
 refine wpAny_bind (wpAny_pure (wpAny_bind (wpAny_dictEntries ho hd ?_)))
 rw [if_neg (by simp)]
 refine wpAny_bind (wpAny_pure (wpAny_bind (wpAny_dictEpoch ho hd ?_)))
 rw [if_neg (by simp)]
 refine wpAny_pure ?_
 simp only [show ¬ ((i:Int)<0) from by omega,if_false,Int.toNat_natCast,Array.getElem?_eq_none hge]
 refine wpAny_bind ?_
 first | refine wpAny_bind (wpAny_typeNameOfWhole_itemiter hT (wpAny_pure ?_)) | refine wpAny_bind (wpAny_typeNameOf_itemiter hT (wpAny_pure ?_))
 refine (show wpAny _ _ (setField (.ref it) 2 .none >>= fun _=>newExc (.type "StopIteration") [] >>= fun e=>raiseNew e) _ _ s from wpAny_bind (wpAny_setField_rec hit (by simp) fun g1 q1 b1=>Lh (s:={ s with heap:=g1 }) hh fun g2 e k ⟨o,q,hc⟩=>?_))
 refine wpAny_bind (wpAny_isInstance (T := "StopIteration") (b:=true) (show Shared.TypeIs { s with heap:=g2 } (.ref e) "StopIteration" from ⟨o,q,hc⟩) isSubtype_stop (?_:wpAny _ _ _ _ _ _))
 exact wpAny_pure (hQ _ fun b o hb z=>k b o (b1.extBut b o hb z))
end
theorem zN {α β:Type} {F:α->β->Prop}:∀ {l:List α} {m:List β},Paired F l m->∀ (i:Nat) (h1:i<l.length) (h2:i<m.length),F l[i] m[i]
 | _,_,.nil,i,h1,h2=>absurd h1 (Nat.not_lt_zero _)
 | _,_,.cons a t,0,h1,h2=>a
 | _,_,.cons a t,i+1,h1,h2=>zN t i (by simpa using h1) (by simpa using h2)
theorem Pr:entryFor table "dict_itemiterator.__iter__" = some Builtin.«dict_keyiterator.__iter__»:=entryFor_alias (id' := "dict_keyiterator.__iter__") (by kernel_rfl) (by first | rfl | decide +kernel | (unfold String.splitOn; simp +decide [String.splitOnAux])) (by decide +kernel) (by kernel_rfl)
theorem wK {prog:Program} {it d:Addr} {i n ep:Nat} {u v:Value} {Q:Value->Shared->Prop} (q:IsItemIter s.heap it d i n ep u v) (h:Q (.ref it) s):wpAny (model prog w) A (pyIter (.ref it)) Q E s:=by
 have hT:s.TypeIs (.ref it) "dict_itemiterator" := ⟨_,q,rfl⟩
 refine wpAny_pyIter_slot hT F.slot_dict_itemiterator_iter (wpAny_call_entry F.slot_dict_itemiterator_iter hT Pr ?_ (F.args_dict_itemiterator_iter_1 _))
 exact show wpAny _ _ (ret (.ref it)) _ _ s from wpAny_pure ⟨_,rfl, "dict_itemiterator",_,hT,F.slot_dict_itemiterator_next.lookup,h⟩
noncomputable def RZ (a:Addr) (o:Obj) (kvs:List (List Key×V)):It:=
 ⟨fun i H=>H a=some (.frz o (.dT kvs))/\i<kvs.length,fun i H x H'=>∃ T kb kv,H T=none/\x=.ref T/\kvs[i]?=some kv/\H kb=some (.tup (kv.1.map kV))/\H'=upd H T (.tup [.ref kb,kv.2]),fun i H=>H a=some (.frz o (.dT kvs))/\kvs.length<=i⟩
theorem wL {X:Cx} {σ:St} {H:Hp} {a:Addr} {o:Obj} {kvs:List (List Key×V)} (I:Inv X pins σ H s) (e:H a=some (.frz o (.dT kvs))):
 (a==sysModules)=false/\s.heap.get? a=some o/\o.cls=.type "dict" /\ ∃ (es:Array DictEntry) (ep:Nat),o.data=.dict es ep/\es.size=kvs.length/\∀ i (h:i<es.size),∃ kb kv,kvs[i]?=some kv/\es[i].key=.ref kb/\H kb=some (.tup (kv.1.map kV))/\RelV kv.2 es[i].val:=by
 obtain ⟨h1,z,hd,xs,pr,ob,es,ep,h2,h3,h4,h5,h6⟩:=I.hok a _ e
 rw [h1] at h2
 cases h2
 have hl:es.size=xs.length:=by
  have:=congrArg List.length h5
  simpa using this
 refine ⟨hd,h1,h3.1,es,ep,h4,by rw [hl]; exact pr.length.symm,fun i hi=>?_⟩
 have hx:i<xs.length:=by omega
 have e1:es[i]=entryOfKey (tupleKind (di X.prog X.w)) xs[i]:=by
  have q:es.toList[i]?=(xs.map (entryOfKey (tupleKind (di X.prog X.w))))[i]?:=by rw [h5]
  rw [Array.getElem?_toList,Array.getElem?_eq_getElem hi,List.getElem?_map,List.getElem?_eq_getElem hx] at q
  exact Option.some.inj q
 have hk:i<kvs.length:=by have:=pr.length; omega
 obtain ⟨q1,q2,q3⟩:=zN pr i hk hx
 exact ⟨xs[i].2.1,kvs[i],List.getElem?_eq_getElem hk,by rw [e1]; rfl,q2,by rw [e1]; exact q3⟩
theorem Hm {K:FG} {elts:List Expr} {x1} {pos:Pos} (a it:Addr) (o:Obj) (kvs:List (List Key×V)) (ep:Nat) (he:∃ es,o.data=.dict es ep):Turn P w K (.Tuple elts x1 pos) (RZ a o kvs) [it] it (fun i h=>∃ u v,IsItemIter h it a i kvs.length ep u v) where
 mem:=by simp
 obj:=fun i h st b hb=>by
  have e:b=it:=by simpa using hb
  subst e
  obtain ⟨u,v,q⟩:=st
  exact ⟨_,q,fun v z=>by
   have z':Data.fields _=Data.cell v:=z
   cases z'⟩
 keep:=fun i h h' st k=>by
  obtain ⟨u,v,q⟩:=st
  exact ⟨u,v,k it (by simp) _ q⟩
 item:=by
  intro X hP hw hK hc i pins s σ H E I hf st hg
  subst hP hw hK
  refine vW fun G kG=>?_
  obtain ⟨hg,hi⟩:=hg
  obtain ⟨u,v,q⟩:=st
  obtain ⟨hd,ho,hcl,es,ep',hdat,hsz,ent⟩:=wL I hg
  obtain ⟨es0,he⟩:=he
  rw [hdat] at he
  cases he
  have hie:i<es.size:=by omega
  obtain ⟨kb,kv,k1,k2,k3,k4⟩:=ent i hie
  have il:it<s.heap.objs.size:=Heap.lt_size q
  have hTn:H s.heap.objs.size=none:=I.hok.fresh (Nat.le_refl _)
  have n0:s.heap.objs.size≠it:=Nat.ne_of_gt il
  rw [← hsz] at q
  refine kG (Hl q ho hdat hie fun g1 a1 a2 a3 a4=>⟨_,rfl,wpAny_letOwnedTupleGo_items a1 fun g2 b1 b2=>?_⟩)
  obtain ⟨I2,up⟩:=I.madeT (xs:=[.ref kb,kv.2]) (us:=[es[i].key,es[i].val]) (g2:=g2) (t':=s.toks) (fp:=[it]) ut (.cons (by rw [k2]; exact rfl) (.cons k4 .nil)) hf (fun c hc=>by rw [List.mem_singleton.mp hc]; exact ⟨_,q⟩) ((b2.2 _ n0).trans a2) fun c o hc z=>by
   have hc':c≠it:=fun e=>hc (List.mem_singleton.mpr e)
   exact (b2.2 c hc').trans (a4 c o hc' z)
  exact ⟨.ref s.heap.objs.size,_,I2,rfl,⟨s.heap.objs.size,kb,kv,hTn,rfl,k1,k3,rfl⟩,⟨_,_,by rw [← hsz]; exact b1⟩,up⟩
 done:=by
  intro X hP hw hK hc i pins s σ H E I hf st hg
  subst hP hw hK
  refine vW fun G kG=>?_
  obtain ⟨hg,hi⟩:=hg
  obtain ⟨u,v,q⟩:=st
  obtain ⟨hd,ho,hcl,es,ep',hdat,hsz,ent⟩:=wL I hg
  obtain ⟨es0,he⟩:=he
  rw [hdat] at he
  cases he
  rw [← hsz] at q
  refine kG (Jv (I.ok.hd hc) q ho hdat (by omega) fun g k=>⟨rfl,?_⟩)
  exact I.turnedL (h':=g) (t':=s.toks) (fp:=[it]) (fun c o hc z=>k c o (fun e=>hc (by simp [e])) z) hf
 self:=fun _ _ _ _ _ st h=>by
  obtain ⟨u,v,q⟩:=st
  exact wK q h
noncomputable def Hn (v a:Addr):Heap->Prop:=fun h=>h.IsItemsView v a
section
variable {X:Cx}
noncomputable def R0 (tl:TE):TI:=fun σ H R=>tl σ H fun x H1=>∃ v a o kvs,x=.ref v/\H1 v=some (.ext (Hn v a))/\H1 a=some (.frz o (.dT kvs))/\R (RZ a o kvs) H1
theorem Lj {l:Expr} {tl:TE} {elts:List Expr} {x1} {tpos:Pos} (hl:PE X l tl):PI X (.Tuple elts x1 tpos) l (R0 tl):=by
 intro pins s σ H R I h
 refine bz (hl pins s σ H _ I h) fun v s1 ⟨x,H1,I1,r1,q1⟩=>?_
 obtain ⟨v,a,o,kvs,rfl,hv,hq,q⟩:=q1
 cases r1
 obtain ⟨vw,_⟩:=I1.hok v _ hv
 obtain ⟨hd,ho,hcl,es,ep,hdat,hsz,ent⟩:=wL I1 hq
 refine Hk vw ho hdat ?_
 refine ⟨s1.heap.objs.size,[s1.heap.objs.size],_,_,H1,rfl,I1.kept (t':=s1.toks) fun b o e=>Heap.get?_push_of_some _ e,Hm a _ o kvs ep ⟨es,hdat⟩,⟨.none,.none,?_⟩,fun b hb=>?_,q⟩
 . rw [← hsz]
   exact Heap.get?_push_size _ rfl
 . have e:b=s1.heap.objs.size:=by simpa using hb
   subst e
   exact I1.fpOk (Nat.le_refl _) (I1.hok.fresh (Nat.le_refl _))
noncomputable def Jw:V->List V->Hp->VK->Prop:=fun x vs H Q=>∃ a o kvs,x=.ref a/\vs=[]/\H a=some (.frz o (.dT kvs))/\∀ l,H l=none->Q (.ref l) (upd H l (.ext (Hn l a)))
theorem Lk:Nz X "dict.items" Jw:=by
 intro pins s σ H x vs v us Q I rx rv h
 obtain ⟨a,o,kvs,rfl,rfl,hH,q⟩:=h
 cases rx
 have hus:=rv.zero
 subst hus
 obtain ⟨hd,ho,hcl,es,ep,hdat,hsz,ent⟩:=wL I hH
 have hT:s.TypeIs (.ref a) "dict" := ⟨o,ho,hcl⟩
 refine wpAny_call_entry F.slot_dict_items hT F.entry_dict_items (Hj hd hT ?_) (F.args_dict_items_1 _)
 exact ⟨.ref s.heap.objs.size,_,I.laid (t':=s.toks) (fun b o q=>Heap.get?_push_of_some _ q) (Nat.le_refl _) (show dF X.prog X.w _ _ _ (.ext (Hn s.heap.objs.size a)) from ⟨⟨_,Heap.get?_push_size _ rfl,rfl,rfl⟩,⟨_,Heap.get?_push_size _ rfl⟩,fun h1 h2 ⟨o,q1,q2⟩ k=>⟨o,k _ q1,q2⟩⟩),rfl,q _ (I.hok.fresh (Nat.le_refl _))⟩
theorem wM {α β:Type} {F G:α->β->Prop} (h:∀ a b,F a b->G a b):∀ {l:List α} {m:List β},Paired F l m->Paired G l m
 | _,_,.nil=>.nil
 | _,_,.cons a t=>.cons (h _ _ a) (wM h t)
noncomputable def VN (t:TE):TE:=fun σ H Q=>t σ H fun v H1=>∃ a kvs,v=.ref a/\H1 a=some (.dT kvs)/\∀ o,Q v (upd H1 a (.frz o (.dT kvs)))
theorem Inv.fzT {σ:St} {H:Hp} {a:Addr} {kvs:List (List Key×V)} (I:Inv X pins σ H s) (e:H a=some (.dT kvs)):∃ o,Inv X pins σ (upd H a (.frz o (.dT kvs))) s:=by
 obtain ⟨z,hd,xs,pr,ob,es,ep,h1,h2,h3,h4,h5⟩:=I.hok a _ e
 refine ⟨ob,?_⟩
 refine uZ (h':=s.heap) (t':=s.toks) (ob:=.frz ob (.dT kvs)) I (by rw [e]; exact True.intro) (Heap.SameBut.refl ..) ⟨ob,h1⟩ ⟨h1,z,hd,xs,?_,ob,es,ep,h1,h2,h3,h4,h5⟩
 refine wM (fun p q ⟨q1,q2,q3⟩=>⟨q1,?_,q3⟩) pr
 rw [aY (fun n=>by rw [n,e] at q2; cases q2)]
 exact q2
theorem R3 {e:Expr} {t:TE} (h:PE X e t):PE X e (VN t):=fun pins s σ H Q I q=>bz (h pins s σ H _ I q) fun u s1 ⟨v,H1,I1,rv,a,kvs,ev,ea,k⟩=>by
 obtain ⟨o,I2⟩:=I1.fzT ea
 exact ⟨v,_,I2,rv,k o⟩
theorem Ln {o:Expr} {to:TE} {apos cpos:Pos} (ho:PE X o to)
 (hbase:attributeBase o "items" X.env (eval o X.env)=eval o X.env:=by rfl) (hline:(apos.endLine==cpos.line)=true:=by rfl):PE X (.Call (.Attribute o "items" apos) [] [] cpos) (fun σ H Q=>to σ H fun x H1=>Jw x [] H1 Q):=by
 intro pins s σ H Q I h
 refine wpAny_Call_method0_late hbase hline (bz (ho pins s σ H _ I h) fun v s1 ⟨x,H1,I1,r1,q1⟩=>?_)
 have q1':=q1
 obtain ⟨a,ob,kvs,rfl,_,hH,_⟩:=q1
 cases r1
 have hz:∃ o,s1.heap.get? a=some o/\o.ExactDict:=by
  obtain ⟨h1,z,hd,xs,pr,ob',es,ep,h2,h3,h4,h5,h6⟩:=I1.hok a _ hH
  exact ⟨_,h2,h3⟩
 obtain ⟨o2,e2,ex⟩:=hz
 exact ⟨"dict", "dict.items",F.plainAttrs_dict,F.slot_dict_items,F.type_dict_items,⟨o2,e2,ex.1⟩,fun b e=>(by cases e; exact ⟨o2,e2,ex.2.1⟩),Calls.callWith_builtin rfl (PySem.evalArgs_none (Lk pins s1 σ H1 (.ref a) [] (.ref a) [] Q I1 rfl .nil q1'))⟩
end
section
variable {prog:Program}
end
section
variable {X:Cx} {pins:List (Addr×Obj)} {σ:St} {H:Hp} {s:Shared}
end
section
variable {X:Cx}
end
noncomputable abbrev uv:=Option Key
noncomputable def Vh:uv->V
 | none=>.non
 | some k=>kV k
section
variable {prog:Program}
end
noncomputable abbrev XD:=List (List uv×Addr×V)
noncomputable abbrev XV:=List (List uv×Addr×Value)
noncomputable def XR:XD->XV->Prop:=Paired fun x y=>x.1=y.1/\x.2.1=y.2.1/\RelV x.2.2 y.2.2
noncomputable def Vi (hk:List uv->Int) (a:Addr) (xs:XD):Heap->Prop:=fun h=>xs.length<=sizeLine/\(a==sysModules)=false/\∃ ys:XV,XR xs ys/\(ys.map (·.1)).Nodup/\
 ∃ o es ep,h.get? a=some o/\o.ExactDict/\o.data=.dict es ep/\es.toList=ys.map fun y=>⟨hk y.1,.ref y.2.1,y.2.2⟩
section
variable {prog:Program} {w:World} {A:Around} {E:Value->Shared->Prop} {s:Shared} {K:Type} [DecidableEq K] {knd:HeapKind prog w K}
end
section
variable {X:Cx}
end
noncomputable def vJ (G:Addr->Prop) (e:Addr) (cls:Value) (h:Heap):Prop:=
 ∃ oe vs,h.get? e=some oe/\oe.cls=cls/\oe.data=.fields vs/\¬ G e/\
  (vs[1]?=some .none\/∃ T oT ts,vs[1]?=some (.ref T)/\¬ G T/\T≠e/\h.get? T=some oT/\oT.data=.fields ts/\ts[3]?=some .none)
noncomputable def Left (G:Addr->Prop) (fs:List Addr) (h h':Heap):Prop:=
 h.objs.size<=h'.objs.size/\(∀ b o,G b->h.get? b=some o->(b∉fs->h'.get? b=some o)/\∃ sl,h'.get? b=some { o with slots:=sl })/\
  ∀ b o,h.get? b=some o->(∀ vs,o.data≠.fields vs)->∃ o',h'.get? b=some o'/\o'.data=o.data
section
variable {M:Model} {A:Around} {E:Value->Shared->Prop} {s:Shared} {base:Heap} {env:Env} {outer:List Env} {L e:Addr} {G:Addr->Prop} {Q:Unit->Shared->Prop}
theorem zO {oe:Obj} {vs:Array Value} {head:Value} {hn:Bool} (hfr:A.frames=some (env::outer)) (hl:s.heap.FunFrames base (env::outer)) (hf:env.frame=some L)
 (he:s.heap.get? e=some oe) (hd:oe.data=.fields vs) (hz:1<vs.size) (hne:¬ G e) (hG:∀ b,G b->b<s.heap.objs.size)
 (h:∀ h',Left G ((env::outer).filterMap (·.frame)) s.heap h'->vJ G e oe.cls h'->Q () { s with heap:=h' }):
 wpAny M A (do let a ← frameOf env; let pl ← entryPlaceOf L hn; let b ← EntryCells.newEntry head a .none (rawInt L) .none pl; setField (.ref e) 1 b) (fun _ s'=>wpAny M A (setFlight (.ref e) none) Q E s') E s:=by
 have hm:e∉(env::outer).filterMap (·.frame):=fun hm=>by
  obtain ⟨_,o,ho,hnf⟩:=hl.mem hm
  rw [he] at ho
  cases ho
  exact hnf vs hd
 refine wpAny_bind (wpAny_frameOf_fun hfr hl hf fun g k=>wpAny_bind (wpAny_entryPlaceOf fun pl hp=>?_))
 unfold EntryCells.newEntry newFields
 refine wpAny_bind (wpAny_newObj_type ?_ (hp.sizeOk5 _ _ _ _ _))
 have e1:g.get? e=some oe:=(k.2.1 e hm).trans he
 generalize hob:({ cls:=.type "traceback",dict:=none,data:=.fields ([head,.ref L,.none,rawInt L,.none]++(if pl.isEmpty then List.replicate 6 Value.none else pl)).toArray }:Obj)=ob
 have hdb:ob.data=.fields ([head,.ref L,.none,rawInt L,.none]++(if pl.isEmpty then List.replicate 6 Value.none else pl)).toArray:=by rw [← hob]
 have e2:=Heap.get?_push_of_some (h:=g) ob e1
 refine wpAny_setField e2 hd hz ?_
 have hT:g.objs.size≠e:=Nat.ne_of_gt (Heap.lt_size e1)
 have hd3:=Obj.data_mapFields hd (·.setIfInBounds 1 (Value.ref g.objs.size))
 have e3:=Heap.get?_update_self (Obj.mapFields (·.setIfInBounds 1 (Value.ref g.objs.size))) e2 (Obj.isFreed_of_fields hd3)
 have t3:=(Heap.get?_update_other (g.push ob) (Obj.mapFields (·.setIfInBounds 1 (Value.ref g.objs.size))) (Ne.symm hT)).trans (Heap.get?_push_size g (by rw [← hob]; rfl))
 unfold setFlight
 refine wpAny_bind (wpAny_field e3 hd3 (x:=.ref g.objs.size) (by simp [hz]) ?_)
 rw [if_pos (show (Value.ref g.objs.size != Value.none)=true from by simp)]
 have hsz:3<([head,.ref L,.none,rawInt L,.none]++(if pl.isEmpty then List.replicate 6 Value.none else pl)).toArray.size:=by
  simp only [List.size_toArray,List.length_append,List.length_cons,List.length_nil]; omega
 have keep:∀ b o,b≠e->g.get? b=some o->(((g.push ob).update e (Obj.mapFields (·.setIfInBounds 1 (Value.ref g.objs.size)))).update g.objs.size (Obj.mapFields (·.setIfInBounds 3 ((none:Option Addr).elim Value.none fun f=>rawInt f)))).get? b=some o:=fun b o hb q=>by
  rw [Heap.get?_update_other _ _ (Nat.ne_of_gt (Heap.lt_size q)),Heap.get?_update_other _ _ (Ne.symm hb)]
  exact Heap.get?_push_of_some _ q
 have nb:∀ b,G b->b≠e:=fun b hb z=>hne (z▸hb)
 refine wpAny_setField t3 hdb hsz (h _ ⟨?_,fun b o hb q=>⟨fun hs=>?_,?_⟩,fun b o q nf=>?_⟩ ?_)
 . rw [Heap.size_update,Heap.size_update,← k.1]
   show g.objs.size<=(g.objs.push ob).size
   rw [Array.size_push]; exact Nat.le_succ _
 . exact keep b o (nb b hb) ((k.2.1 b hs).trans q)
 . obtain ⟨sl,q'⟩:=k.2.2 b o q
   exact ⟨sl,keep b _ (nb b hb) q'⟩
 . obtain ⟨sl,q'⟩:=k.2.2 b o q
   refine ⟨_,keep b _ (fun z=>?_) q',rfl⟩
   rw [z,he] at q
   cases q
   exact nf vs hd
 . refine ⟨_,_,(Heap.get?_update_other _ _ hT).trans e3,Obj.cls_mapFields _ _,hd3,hne,.inr ⟨g.objs.size,_,_,by simp [hz],fun z=>by have:=hG _ z; rw [k.1] at this; exact Nat.lt_irrefl _ this,hT,Heap.get?_update_self _ t3 (Obj.isFreed_of_fields (Obj.data_mapFields hdb _)),Obj.data_mapFields hdb _,?_⟩⟩
   simp
theorem Left.frames {h h':Heap} {fs:List Addr} {l:List Env} (x:Left G fs h h') (hl:h.FunFrames base l):h'.FunFrames base l:=hl.of_keeps fun b o q nf=>x.2.2 b o q nf
theorem Left.trans {h h1 h2:Heap} {fs:List Addr} (x:Left G fs h h1) (y:Left G fs h1 h2):Left G fs h h2:=
 ⟨Nat.le_trans x.1 y.1,fun b o hb q=>by
  obtain ⟨a1,sl,a2⟩:=x.2.1 b o hb q
  obtain ⟨b1,sl',b2⟩:=y.2.1 b _ hb a2
  exact ⟨fun hs=>(y.2.1 b o hb (a1 hs)).1 hs,sl',b2⟩,fun b o q nf=>by
  obtain ⟨o1,q1,d1⟩:=x.2.2 b o q nf
  obtain ⟨o2,q2,d2⟩:=y.2.2 b o1 q1 (fun vs z=>nf vs (d1▸z))
  exact ⟨o2,q2,d2.trans d1⟩⟩
theorem Jx {cls:Value} (hfr:A.frames=some (env::outer)) (hl:s.heap.FunFrames base (env::outer)) (hf:env.frame=some L) (hG:∀ b,G b->b<s.heap.objs.size) (hy:vJ G e cls s.heap)
 (h:∀ h',Left G ((env::outer).filterMap (·.frame)) s.heap h'->vJ G e cls h'->Q () { s with heap:=h' }):wpAny M A (noteFrame (.ref e) env) (fun _ s1=>wpAny M A (setFlight (.ref e) none) Q E s1) E s:=by
 obtain ⟨oe,vs,he,rfl,hd,hne,h1⟩:=hy
 unfold noteFrame
 simp only [hf]
 rcases h1 with h1 | ⟨T,oT,ts,h1,hnT,hTe,hT,hdT,h3⟩
 . refine wpAny_bind (wpAny_field he hd h1 ?_)
   rw [if_neg (by decide)]
   exact zO hfr hl hf he hd (Array.getElem?_eq_some_iff.mp h1).1 hne hG h
 . refine wpAny_bind (wpAny_field he hd h1 ?_)
   rw [if_pos (show (Value.ref T != Value.none)=true from by simp)]
   refine wpAny_bind (wpAny_field hT hdT h3 ?_)
   rw [if_neg (show ¬ ((Value.none==rawInt L)=true) from by simp [rawInt])]
   refine wpAny_bind (wpAny_setField hT hdT (Array.getElem?_eq_some_iff.mp h3).1 ?_)
   have other:∀ b,b≠T->(s.heap.update T (Obj.mapFields (·.setIfInBounds 3 Value.none))).get? b=s.heap.get? b:=fun b hb=>Heap.get?_update_other _ _ (Ne.symm hb)
   have x:Left G ((env::outer).filterMap (·.frame)) s.heap (s.heap.update T (Obj.mapFields (·.setIfInBounds 3 Value.none))):=
    ⟨by rw [Heap.size_update]; exact Nat.le_refl _,fun b o hb q=>by
     have z:=(other b (fun z=>hnT (z▸hb))).trans q
     exact ⟨fun _=>z,o.slots,z⟩,fun b o q nf=>⟨o,(other b fun z=>by rw [z,hT] at q; cases q; exact nf ts hdT).trans q,rfl⟩⟩
   exact zO hfr (x.frames hl) hf ((other e (Ne.symm hTe)).trans he) hd (Array.getElem?_eq_some_iff.mp h1).1 hne (fun b hb=>Nat.lt_of_lt_of_le (hG b hb) x.1) fun h' y f=>h h' (x.trans y) f
theorem leave {cls:Value} (hfr:A.frames=some (env::outer)) (hl:s.heap.FunFrames base (env::outer)) (hf:env.frame=some L) (hG:∀ b,G b->b<s.heap.objs.size) (hy:vJ G e cls s.heap)
 (h:∀ h',Left G ((env::outer).filterMap (·.frame)) s.heap h'->vJ G e cls h'->Q () { s with heap:=h' }):wpAny M A (leaving env (.ref e)) Q E s:=wpAny_bind (Jx hfr hl hf hG hy h)
end
noncomputable def iK (P:Program) (w:World):rK:=fun outer H s E x s'=>
 ∃ (e C:Addr) (H':Hp) (G:Addr->Prop),x=.ref e/\s'.os=s.os/\AllBare s'.gens/\Un (frs outer) [] H H' s.heap s'.heap/\fY P w H' s'.heap/\(∀ b o,s.heap.get? b=some o->G b)/\(∀ b o,H' b=some o->G b)/\(∀ b,G b->b<s'.heap.objs.size)/\vJ G e (.ref C) s'.heap/\E (.ref C) none H'
theorem fY.left {H:Hp} {h h':Heap} {fs:List Addr} {G:Addr->Prop} (x:fY P w H h) (y:Left G fs h h') (hn:∀ b o,H b=some o->G b) (hf:∀ b∈fs,H b=none):fY P w H h':=fun a o q=>
 (x a o q).stay (fun b u hb hg=>by
   have ht:∃ o',H b=some o':=by
    rcases hb with rfl | hb
    . exact ⟨_,q⟩
    . exact ⟨_,hb⟩
   obtain ⟨o',ht⟩:=ht
   exact (y.2.1 b u (hn b o' ht) hg).1 fun hb'=>by rw [hf b hb'] at ht; cases ht) (fun _ z=>z) fun _ _ z=>z
theorem Un.left {H H':Hp} {h h1 h2:Heap} {fs gs:List Addr} {G:Addr->Prop} (u:Un fs [] H H' h h1) (y:Left G gs h1 h2) (hn:∀ b o,h.get? b=some o->G b) (hg:∀ b∈gs,b∈fs\/h.objs.size<=b):Un fs [] H H' h h2 where
 keep:=fun b o q hb hf hx=>(y.2.1 b o (hn b _ q) (u.keep b o q hb hf hx)).1 fun z=>by
  rcases hg b z with z | z
  . exact hf z
  . exact absurd (Heap.lt_size q) (Nat.not_lt.mpr z)
 slot:=fun b o q hb hf hx=>by
  obtain ⟨sl,e1⟩:=u.slot b o q hb hf hx
  obtain ⟨_,sl',e2⟩:=y.2.1 b _ (hn b _ q) e1
  exact ⟨sl',e2⟩
 free:=u.free
 there:=fun b o q hx=>by
  obtain ⟨o',e1⟩:=u.there b o q hx
  obtain ⟨_,sl',e2⟩:=y.2.1 b _ (hn b _ q) e1
  exact ⟨_,e2⟩
 tups:=u.tups
 frzs:=u.frzs
 tbls:=u.tbls
theorem Jy {K:FG} {mg:Str->Option Value} {base:Heap} {N:List Str} {qual:Str} {sc:Scope} {f:Addr} {cd:Value} {outer:List Env} {H:Hp} {E:XK}
 {pins:List (Addr×Obj)} {σ:St} {H1:Hp} {s1:Shared} {e C:Addr} {G:Addr->Prop} (I:Inv (gH (iK P w) P w K mg base N qual sc f cd A outer s H E) pins σ H1 s1)
 (hs:∀ b o,s.heap.get? b=some o->G b) (hn:∀ b o,H1 b=some o->G b) (hG:∀ b,G b->b<s1.heap.objs.size) (hy:vJ G e (.ref C) s1.heap) (hE:E (.ref C) none H1):
 (gH (iK P w) P w K mg base N qual sc f cd A outer s H E).xe (.ref e) s1:=by
 have hfr:(A.deeper (envOfC qual sc s.heap.objs.size f cd)).frames=some (envOfC qual sc s.heap.objs.size f cd::outer):=I.ok.frames
 show wpAny (model P w) (A.deeper (envOfC qual sc s.heap.objs.size f cd)) (leaving (envOfC qual sc s.heap.objs.size f cd) (.ref e)) (fun _ s''=>iK P w outer H s E (.ref e) s'') (fun e' s''=>iK P w outer H s E e' s'') s1
 refine leave (G:=G) (L:=s.heap.objs.size) (cls:=.ref C) hfr I.stack rfl hG hy fun h2 y fl=>?_
 have hf:∀ b∈frs (envOfC qual sc s.heap.objs.size f cd::outer),H1 b=none:=I.stkFree
 refine ⟨e,C,H1,G,rfl,I.os,I.bare,?_,I.hok.left y hn hf,hs,hn,fun b hb=>Nat.lt_of_lt_of_le (hG b hb) y.1,fl,hE⟩
 have u:Un (frs outer) [] H H1 s.heap s1.heap:=I.base
 refine u.left y hs fun b hb=>?_
 have hb':b∈frs (envOfC qual sc s.heap.objs.size f cd::outer):=hb
 rcases List.mem_filterMap.mp hb' with ⟨v,hv,hve⟩
 rcases List.mem_cons.mp hv with rfl | hv
 . right; cases hve; exact Nat.le_refl _
 . left; exact List.mem_filterMap.mpr ⟨v,hv,hve⟩
theorem Pu {K:FG} {mg:Str->Option Value} {base:Heap} {N:List Str} {qual:Str} {sc:Scope} {f:Addr} {cd:Value} {outer:List Env} {H:Hp} {E:XK}:
 ni (iK P w) (gH (iK P w) P w K mg base N qual sc f cd A outer s H E) E:=fun pins σ H1 s1 x s' I h=>by
 obtain ⟨e,C,H2,G,rfl,os,bare,un,hok,hn,hb,hG,fl,hE⟩:=h
 obtain ⟨hh,g,d,t,os'⟩:=s'
 obtain rfl:os'=s1.os:=os
 have I2:=I.call (h':=hh) (g':=g) (d':=d) (t':=t) (ch:=[]) un hok bare (fun b z=>absurd z (by simp))
 exact Jy I2 (fun b o q=>by
  obtain ⟨o',q'⟩:=I.base.there b o q (by intro z; cases z)
  exact hn b o' q') hb hG fl hE
theorem dF.known {H:Hp} {h:Heap} {a:Addr} {o:HO} (x:dF P w H h a o):∃ ob,h.get? a=some ob:=by
 cases o with
 | lst xs=>obtain ⟨_,_,_,_,z⟩:=x; exact ⟨_,z⟩
 | tup xs=>obtain ⟨_,_,_,_,z,_⟩:=x; exact ⟨_,z⟩
 | dK kvs=>obtain ⟨_,_,_,_,_,_,_,z,_⟩:=x; exact ⟨_,z⟩
 | dT kvs=>obtain ⟨_,_,_,_,_,_,_,z,_⟩:=x; exact ⟨_,z⟩
 | set S n=>obtain ⟨_,_,_,_,z,_⟩:=x; exact ⟨_,z⟩
 | ins C dx fs=>obtain ⟨_,_,_,z,_⟩:=x; exact ⟨_,z⟩
 | own y=>obtain ⟨_,z⟩:=x; exact ⟨_,z⟩
 | xd fs=>obtain ⟨_,⟨_,_,_,z,_⟩,_⟩:=x; exact ⟨_,z⟩
 | rng lo hi=>obtain ⟨_,_,_,z⟩:=x; exact ⟨_,z⟩
 | frz ob u=>obtain ⟨z,_⟩:=x; exact ⟨_,z⟩
 | tbl ps=>exact ⟨_,(show h.get? a=some _ from x)⟩
 | met f y=>exact ⟨_,(show h.get? a=some _ from x)⟩
 | ext φ=>obtain ⟨_,⟨_,z⟩,_⟩:=x; exact ⟨_,z⟩
theorem Px {K:FG} {mg:Str->Option Value} {base:Heap} {N:List Str} {qual:Str} {sc:Scope} {f:Addr} {cd:Value} {outer:List Env} {H:Hp} {E:XK}
 {pins:List (Addr×Obj)} {σ:St} {H1:Hp} {s1:Shared} {h':Heap} {e C:Addr} {args:List Value} (I:Inv (gH (iK P w) P w K mg base N qual sc f cd A outer s H E) pins σ H1 s1)
 (hm:Heap.MadeExcOf s1.heap h' e (.ref C) args) (hE:E (.ref C) none H1):
 (gH (iK P w) P w K mg base N qual sc f cd A outer s H E).xe (.ref e) { s1 with heap:=h' }:=by
 obtain ⟨t,ht,_,_⟩:=hm.there
 have I2:=I.call (h':=h') (g':=s1.gens) (d':=s1.drawn) (t':=s1.toks) (ch:=[]) (Un.kept hm.keeps) (I.hok.kept hm.keeps) I.bare (fun b z=>absurd z (by simp))
 refine Jy (G:=fun b=>∃ o,s1.heap.get? b=some o) I2 (fun b o q=>I.base.there b o q (by intro z; cases z)) (fun b o q=>?_) (fun b ⟨o,q⟩=>Heap.lt_size (hm.keeps b o q)) ⟨_,_,ht,rfl,rfl,(fun ⟨o,q⟩=>by rw [hm.new] at q; cases q),.inl rfl⟩ hE
 exact (I.hok b o q).known
noncomputable def iM (x:Str):Bool:=decide (x.length<=1000)&&x.cps.toList.all fun c=>decide (c<16 ^ 8)
noncomputable def Ho (K:FG) (H:Hp) (v:V):Prop:=(∃ x,v=.str x/\iM x=true)\/∃ (a:Addr) (xs:List Str),v=.ref a/\(b8 K H a (xs.map V.str)\/dj K H a (xs.map V.str))/\xs.length<=64/\xs.all iM=true
theorem zQ {x:Str} (h:iM x=true):(reprText x).length<=10002:=by
 unfold iM at h
 rw [Bool.and_eq_true,decide_eq_true_eq,List.all_eq_true] at h
 have:=StrLaws.reprText_len x fun c hc=>by simpa using h.2 c hc
 omega
theorem sS {h:Heap}:∀ {xs:List Str} {us:List Value},Vals (xs.map V.str) us->ReadsAll h us (xs.map PyData.str) []
 | [],_,.nil=>.nil
 | x::xs,_,.cons r t=>by
  obtain ⟨tk,rfl⟩:=r
  exact ReadsAll.cons (as:=[]) (.str x tk) (sS t)
theorem wN:∀ xs:List Str,xs.all iM=true->PyData.showableAll (xs.map PyData.str)=true/\PyData.hasDictAll (xs.map PyData.str)=false/\PyData.depthAll (xs.map PyData.str)<=1/\(((PyData.shownAll (xs.map PyData.str)).map (·.length)).sum<=10002*xs.length)/\(PyData.shownAll (xs.map PyData.str)).length=xs.length
 | [],_=>⟨rfl,rfl,Nat.zero_le _,Nat.le_refl _,rfl⟩
 | x::xs,h=>by
  rw [List.all_cons,Bool.and_eq_true] at h
  obtain ⟨h1,h2,h3,h4,h5⟩:=wN xs h.2
  have:=zQ h.1
  simp only [List.map_cons,PyData.showableAll,PyData.showable,PyData.hasDictAll,PyData.hasDict,PyData.depthAll,PyData.depth,PyData.shownAll,PyData.shown,List.sum_cons,List.length_cons,h1,h2,h5]
  refine ⟨rfl,rfl,by omega,by omega,trivial⟩
section
variable {X:Cx} {pins:List (Addr×Obj)} {σ:St} {H:Hp} {s:Shared}
theorem Lp {k:Nat} {v:V} {u:Value} {Q:Value->Shared->Prop} (hr:bR k X.A) (I:Inv X pins σ H s) (r:RelV v u) (h:Ho X.K H v) (q:∀ z tk s',z.length<=700000->Inv X pins σ H s'->Q (.str z tk) s'):wpAny (model X.prog X.w) X.A (pyReprObj u) Q E s:=by
 have un:=hr.units
 rcases h with ⟨x,rfl,hx⟩ | ⟨a,xs,rfl,hs,hl,hx⟩
 . obtain ⟨tk,rfl⟩:=r
   have:=zQ hx
   exact wpAny_pyReprObj_str (q _ _ _ (by omega) (I.tok _)) (by rw [sizeLine_eq]; omega)
 . obtain rfl:u=Value.ref a:=r
   obtain ⟨h1,h2,h3,h4,h5⟩:=wN xs hx
   rcases hs with hs | hs
   . obtain ⟨its,rv,⟨o,n,e1,e2,_,e3⟩,_⟩:=I.list hs
     have hz:=listText_len_le (PyData.shownAll (xs.map PyData.str))
     rw [h5] at hz
     have hz':(PyData.list (xs.map PyData.str)).shown.length<=700000:=by show (listText _).length<=_; omega
     exact pyReprObj_of_reads (d:=.list (xs.map PyData.str)) (.list e1 e2 e3 (sS rv)) (by simpa [PyData.showable] using h1) (PyData.noDict_hsm (by simpa [PyData.hasDict] using h2)) hr.gd (by show X.A.units+(PyData.depthAll _+1)<_; omega) (fun _ _ z=>z) (fun h' u tk hk=>q _ _ _ hz' (I.kept hk)) (by rw [sizeLine_eq]; omega)
   . obtain ⟨its,rv,⟨o,e1,e2,n,e3⟩,_⟩:=I.tuple hs
     have hz:=tupleText_len_le (PyData.shownAll (xs.map PyData.str))
     rw [h5] at hz
     have hz':(PyData.tuple (xs.map PyData.str)).shown.length<=700000:=by show (tupleText _).length<=_; omega
     exact pyReprObj_of_reads (d:=.tuple (xs.map PyData.str)) (.tuple e1 e2 e3 (sS rv)) (by simpa [PyData.showable] using h1) (PyData.noDict_hsm (by simpa [PyData.hasDict] using h2)) hr.gd (by show X.A.units+(PyData.depthAll _+1)<_; omega) (fun _ _ z=>z) (fun h' u tk hk=>q _ _ _ hz' (I.kept hk)) (by rw [sizeLine_eq]; omega)
end
noncomputable abbrev TJ:=St->Hp->(Hp->Prop)->Prop
noncomputable def PJ (X:Cx) (es:List Expr) (n:Nat) (t:TJ):Prop:=∀ (pins:List (Addr×Obj)) (s:Shared) (σ:St) (H:Hp) (Q:Hp->Prop) (acc:Str),Inv X pins σ H s->acc.length+n<=sizeLine->t σ H Q->
 wpAny (model X.prog X.w) X.A (joinParts acc (evalEach es X.env)) (fun u s'=>∃ z tk H',u=.str z tk/\Inv X pins σ H' s'/\Q H') X.xe s
section
variable {X:Cx} {es:List Expr} {n:Nat} {t:TJ}
theorem R4:PJ X [] 0 (fun _ H Q=>Q H):=fun pins s σ H Q acc I h q=>joinParts_nilE (joinParts_nil ⟨_,_,H,rfl,I.tok _,q⟩ h)
theorem VP {c:Str} {j:Nat} {p:Pos} (hc:c.length<=100) (h:PJ X es n t):PJ X (.Constant (.str c) j p::es) (n+100) t:=fun pins s σ H Q acc I hl q=>by
 refine joinParts_cons (Calls.Constant_str ?_)
 have e:=strLen_append acc c
 exact ⟨by omega,h pins _ σ H Q _ (I.tok _) (by omega) q⟩
theorem VV {k:Nat} {e:Expr} {p:Pos} {te:TE} (hr:bR k X.A) (he:PE X e te) (h:PJ X es n t):PJ X (.FormattedValue e 114 none p::es) (n+700000) (fun σ H Q=>te σ H fun v H'=>Ho X.K H' v/\t σ H' Q):=fun pins s σ H Q acc I hl q=>by
 refine joinParts_cons (wpAny_FormattedValue_repr (bz (he pins s σ H _ I q) fun u s1 ⟨v,H1,I1,r1,hs,q1⟩=>?_))
 refine Lp hr I1 r1 hs fun z tk s2 hz I2=>formatField_str (fun t' tk'=>?_) (by rw [sizeLine_eq]; omega)
 have e:=strLen_append acc z
 exact ⟨by omega,h pins _ σ H1 Q _ (I2.tok _) (by omega) q1⟩
theorem Jz {v1 v2:Expr} {p:Pos} (h:PJ X (v1::v2::es) n t) (hn:n<=sizeLine):PE X (.JoinedStr (v1::v2::es) p) (fun σ H Q=>t σ H fun H'=>∀ z,Q (.str z) H'):=fun pins s σ H Q I q=>by
 refine JoinedStr_many (bz (h pins s σ H _ Str.empty I (by show 0+n<=_; omega) q) fun u s' ⟨z,tk,H',e,I',q'⟩=>?_)
 subst e
 exact ⟨.str z,H',I',⟨tk,rfl⟩,q' z⟩
end
abbrev n6:List Value:=[.type "ValueError",.type "Exception",.type "BaseException",.type "object"]
abbrev oh:String := "ValueError.__new__"
noncomputable def Raises (X:Cx) (E:XK):Prop:=∀ (pins:List (Addr×Obj)) (σ:St) (H:Hp) (s:Shared) (h':Heap) (e C:Addr) (args:List Value),Inv X pins σ H s->Heap.MadeExcOf s.heap h' e (.ref C) args->E (.ref C) none H->X.xe (.ref e) { s with heap:=h' }
theorem yD {K:FG} {h:Heap} {C:Addr} {bmB:List Value} {newId:String} (X:K.In h) (q:W.excIn K C bmB newId=true):∃ bm N nm qn bs hdct sn sub ab col dd k0 k1 k2 k3 k5,∃ mN:Str->Option Value,h.get? C=some (excClassObj nm qn C N bs bm hdct sn sub ab col dd k0 k1 k2 k3 k5 newId)/\h.Ns N mN/\mN "__init__" = none/\OwnTail h bmB bm:=by
 unfold W.excIn at q
 split at q
 . rename_i dd cd sl ho
   split at q
   . rename_i C' bm k0 k1 k2 k3 n k5 hm hs
     simp only [Bool.and_eq_true,beq_iff_eq,Bool.not_eq_true'] at q
     obtain ⟨⟨⟨⟨⟨rfl,rfl⟩,hdel⟩,ht⟩,hok⟩,hni⟩:=q
     obtain ⟨nm,bs,mro,ns,qn,hd,sn,sub,ab,col,del⟩:=cd
     dsimp only at hm hdel hok hni
     subst hm hdel
     have hsl:sl=#[k0,k1,k2,k3,some (.builtin n),k5]:=by
      obtain ⟨l⟩:=sl
      simp only at hs
      rw [hs]
     subst hsl
     exact ⟨bm,ns,nm,qn,bs,hd,sn,sub,ab,col,dd,k0,k1,k2,k3,k5,_,X _ _ ho,.of_isNs (W.isNs_of_in X hok),W.nsMap_none_of_in X hok hni,W.tail_of_in X ht⟩
   . cases q
 . cases q
section
variable {X:Cx}
theorem BZ {x:Str} {C:Addr} {np cpos pos:Pos} {a:Expr} {t:TE} {E:XK} {k:Nat} (R:Raises X E) (hr:bR k X.A) (hg:Gl X x) (hm:X.mg x=some (.ref C)) (hx:W.excIn X.K C n6 oh=true) (ha:PE X a t)
 (hdb:(x==("__debug__" : Str))=false:=by decide) (hst:starEach [a] X.env=[(false,eval a X.env)]:=by rfl) (hpl:(backTo cpos (starEach [a] X.env)).any (·.1)=false:=by rfl):
 PS X (.Raise (some (.Call (.Name x np) [a] [] cpos)) none pos) (fun _ σ H=>wF t Bw σ H fun vs H1=>vs.length=1/\E (.ref C) none H1):=fun pins s σ H D I q=>by
 obtain ⟨bm,N,nm,qn,bs,hdct,sn,sub,ab,col,dd,k0,k1,k2,k3,k5,mN,hC,hN,hni,T⟩:=yD I.mod.kin hx
 refine wpAny_Raise_call_subT (F:=F.excBase_ValueError) (C:=C) (mN:=mN) (nm:=nm) (q:=qn) (N:=N) (bs:=bs) (hdct:=hdct) (sn:=sn) (sub:=sub) (ab:=ab) (col:=col) (dd:=dd) (k0:=k0) (k1:=k1) (k2:=k2) (k3:=k3) (k5:=k5) (T.hasType (by decide +kernel)) hr.hd hpl hni (rG I hg hm ⟨rfl,?_⟩ hdb)
 have ha':=nW ha uf (hs:=hst)
 rw [hst]
 have hw:=ha' cpos pins s σ H _ I q
 rw [hst] at hw
 refine Calls.evalArgs_plain (bz hw fun us s1 ⟨vs,H1,I1,r1,q1⟩=>?_)
 refine ⟨rfl,by rw [← r1.length,q1.1]; decide,I1.bk _ _ hC,hN.keeps I1.bk,T.keeps I1.bk,fun h' e hm=>R pins σ H1 s1 h' e C us I1 hm q1.2⟩
end
theorem Left.refl {G:Addr->Prop} {fs:List Addr} {h:Heap}:Left G fs h h:=⟨Nat.le_refl _,fun b o hb q=>⟨fun _=>q,o.slots,q⟩,fun b o q nf=>⟨o,q,rfl⟩⟩
theorem Py {M:Model} {e:Addr} {G:Addr->Prop} {Q:Unit->Shared->Prop} {cls:Value} {fs:List Addr} (hy:vJ G e cls s.heap) (h:∀ h',Left G fs s.heap h'->vJ G e cls h'->Q () { s with heap:=h' }):wpAny M A (setFlight (.ref e) none) Q E s:=by
 obtain ⟨oe,vs,he,hc,hd,hne,h1⟩:=id hy
 unfold setFlight
 rcases h1 with h1 | ⟨T,oT,ts,h1,hnT,hTe,hT,hdT,h3⟩
 . refine wpAny_bind (wpAny_field he hd h1 ?_)
   rw [if_neg (by decide)]
   exact wpAny_pure (h s.heap Left.refl hy)
 . refine wpAny_bind (wpAny_field he hd h1 ?_)
   rw [if_pos (show (Value.ref T != Value.none)=true from by simp)]
   have hz:=(Array.getElem?_eq_some_iff.mp h3).1
   have other:∀ b,b≠T->(s.heap.update T (Obj.mapFields (·.setIfInBounds 3 Value.none))).get? b=s.heap.get? b:=fun b hb=>Heap.get?_update_other _ _ (Ne.symm hb)
   refine wpAny_setField hT hdT hz (h _ ⟨by rw [Heap.size_update]; exact Nat.le_refl _,fun b o hb q=>?_,fun b o q nf=>⟨o,(other b fun z=>by rw [z,hT] at q; cases q; exact nf ts hdT).trans q,rfl⟩⟩ ⟨oe,vs,(other e (Ne.symm hTe)).trans he,hc,hd,hne,.inr ⟨T,_,_,h1,hnT,hTe,Heap.get?_update_self _ hT (Obj.isFreed_of_fields (Obj.data_mapFields hdT _)),Obj.data_mapFields hdT _,by simp [hz]⟩⟩)
   have z:=(other b (fun z=>hnT (z▸hb))).trans q
   exact ⟨fun _=>z,o.slots,z⟩
noncomputable def pD (X:Cx) (pins:List (Addr×Obj)) (σ:St) (H':Hp) (e C:Addr) (s':Shared):Prop:=
 ∃ (H:Hp) (s:Shared) (G:Addr->Prop),Inv X pins σ H s/\s'.os=s.os/\AllBare s'.gens/\Un (frs X.stack) [] H H' s.heap s'.heap/\fY X.prog X.w H' s'.heap/\(∀ b o,s.heap.get? b=some o->G b)/\(∀ b o,H' b=some o->G b)/\(∀ b,G b->b<s'.heap.objs.size)/\vJ G e (.ref C) s'.heap
section
variable {X:Cx} {pins:List (Addr×Obj)} {σ:St} {H H':Hp} {s s':Shared} {e C:Addr}
theorem pD.of {E:XK} {x:Value} (I:Inv X pins σ H s) (h:iK X.prog X.w X.stack H s E x s'):∃ e C H',x=.ref e/\pD X pins σ H' e C s'/\E (.ref C) none H':=by
 obtain ⟨e,C,H',G,rfl,os,bare,un,hok,hn,hb,hG,fl,hE⟩:=h
 exact ⟨e,C,H',rfl,⟨H,s,G,I,os,bare,un,hok,hn,hb,hG,fl⟩,hE⟩
theorem pD.inv (h:pD X pins σ H' e C s'):Inv X pins σ H' s':=by
 obtain ⟨H,s,G,I,os,bare,un,hok,hn,hb,hG,fl⟩:=h
 exact I.call' os un hok bare (fun b z=>absurd z (by simp))
theorem pD.leave {M:Model} {Q:Unit->Shared->Prop} (h:pD X pins σ H' e C s') (hs:X.stack=X.env::X.outer) (hf:X.env.frame=some X.env.locals) (hA:A.frames=some X.stack)
 (k:∀ h',pD X pins σ H' e C { s' with heap:=h' }->Q () { s' with heap:=h' }):wpAny M A (noteFrame (.ref e) X.env) (fun _ s1=>wpAny M A (setFlight (.ref e) none) Q E s1) E s':=by
 have I':=h.inv
 obtain ⟨H,s,G,I,os,bare,un,hok,hn,hb,hG,fl⟩:=h
 have hst:=I'.stack
 rw [hs] at hst hA
 refine Jx hA hst hf hG fl fun h' y f=>k h' ⟨H,s,G,I,os,bare,un.left y hn fun b z=>.inl (by rw [hs]; exact z),hok.left y hb fun b z=>I'.stkFree b (by rw [hs]; exact z),hn,hb,fun b z=>Nat.lt_of_lt_of_le (hG b z) y.1,f⟩
theorem pD.flight {M:Model} {Q:Unit->Shared->Prop} (h:pD X pins σ H' e C s') (k:∀ h',pD X pins σ H' e C { s' with heap:=h' }->Q () { s' with heap:=h' }):wpAny M A (setFlight (.ref e) none) Q E s':=by
 have I':=h.inv
 obtain ⟨H,s,G,I,os,bare,un,hok,hn,hb,hG,fl⟩:=h
 exact Py (fs:=frs X.stack) fl fun h' y f=>k h' ⟨H,s,G,I,os,bare,un.left y hn fun b z=>.inl z,hok.left y hb fun b z=>I'.stkFree b z,hn,hb,fun b z=>Nat.lt_of_lt_of_le (hG b z) y.1,f⟩
end
noncomputable abbrev Cx.hand (X:Cx) (e:Addr):Cx:={ X with A:=X.A.mark (some (.ref e)),calm:=false,xe:=fun _ _=>False }
section
variable {X:Cx} {pins:List (Addr×Obj)} {σ:St} {H:Hp} {s:Shared} {e:Addr}
theorem Inv.hand (I:Inv X pins σ H s) (e:Addr):Inv (X.hand e) pins σ H s:=
 ⟨⟨I.ok.mod,I.ok.kind,I.ok.glob,I.ok.blt,I.ok.above,I.ok.inj,I.ok.has,I.ok.cab,fun z=>absurd z (by simp),I.ok.frames,I.ok.stk,I.ok.exf,I.ok.bs,I.ok.bsz,I.ok.noex,I.ok.exfs,I.ok.funs,I.ok.frf⟩,I.os,I.bare,I.base,I.loc,I.cell,I.free,I.freeC,I.pin,I.hok,I.len⟩
theorem Inv.unhand (hd:X.calm=true->X.A.handled=none) (I:Inv (X.hand e) pins σ H s):Inv X pins σ H s:=
 ⟨⟨I.ok.mod,I.ok.kind,I.ok.glob,I.ok.blt,I.ok.above,I.ok.inj,I.ok.has,I.ok.cab,hd,I.ok.frames,I.ok.stk,I.ok.exf,I.ok.bs,I.ok.bsz,I.ok.noex,I.ok.exfs,I.ok.funs,I.ok.frf⟩,I.os,I.bare,I.base,I.loc,I.cell,I.free,I.freeC,I.pin,I.hok,I.len⟩
theorem SP.unhand {D:Ends} {f:Flow} {s':Shared} (hd:X.calm=true->X.A.handled=none) (h:SP (X.hand e) pins D f s'):SP X pins D f s':=by
 cases f with
 | next=>obtain ⟨σ',H',I,q⟩:=h; exact ⟨σ',H',I.unhand hd,q⟩
 | brk=>obtain ⟨σ',H',I,q⟩:=h; exact ⟨σ',H',I.unhand hd,q⟩
 | cont=>obtain ⟨σ',H',I,q⟩:=h; exact ⟨σ',H',I.unhand hd,q⟩
 | ret u=>obtain ⟨v,σ',H',I,r,q⟩:=h; exact ⟨v,σ',H',I.unhand hd,r,q⟩
end
noncomputable def mroIn (K:FG) (C d:Addr):Bool:=W.mroIn K C (.ref d)==some true
theorem NP {K:FG} {C d:Addr} {b:Bool} (h:W.mroIn K C (.ref d)=some b):mroIn K C d=b:=by
 unfold mroIn
 rw [h]
 cases b<;>rfl
theorem R5 {K:FG} {h:Heap} {C d:Addr} {bmB:List Value} {newId:String} (X:K.In h) (q:W.excIn K C bmB newId=true) {nm qn:Str} {N:Addr} {bs bm:List Value} {hdct:Bool} {sn:List Str} {sub:List Value} {ab:Bool} {col:Option Bool} {dd:Option Addr} {k0 k1 k2 k3 k5:Option Value}
 (hC:h.get? C=some (excClassObj nm qn C N bs bm hdct sn sub ab col dd k0 k1 k2 k3 k5 newId)):(Value.ref C::bm).contains (.ref d)=mroIn K C d:=by
 refine (NP ?_).symm
 unfold W.excIn at q
 unfold W.mroIn W.clsIn
 split at q
 . rename_i o ho
   have:=X _ _ ho
   rw [hC] at this
   cases this
   rw [ho]
   rfl
 . cases q
theorem V0 {M:Model} {nm q nm' q':Str} {C N D N':Addr} {bs bm bs' bm':List Value} {hdct hdct':Bool} {sn sn':List Str} {sub sub':List Value} {ab ab':Bool} {col col':Option Bool} {dd dd':Option Addr} {k0 k1 k2 k3 k5 j0 j1 j2 j3 j5:Option Value} {newId newId':String}
 {h:Heap} {g:Array GenState} {d:Drawn} {t:Nat} {os:OsState} {e:Addr} {oe:Obj} {Q:Bool->Shared->Prop}
 (hC:h.get? C=some (excClassObj nm q C N bs bm hdct sn sub ab col dd k0 k1 k2 k3 k5 newId)) (hD:h.get? D=some (excClassObj nm' q' D N' bs' bm' hdct' sn' sub' ab' col' dd' j0 j1 j2 j3 j5 newId')) (he:h.get? e=some oe) (hcls:oe.cls=.ref C) (hbase:bm'.contains (.type "BaseException")=true)
 (hq:Q ((Value.ref C::bm).contains (.ref D)) ⟨h,g,d,t,os⟩):wpAny M A (excMatches (.ref e) (.ref D)) Q E ⟨h,g,d,t,os⟩:=by
 have hcB:(Value.ref D::bm').contains (.type "BaseException")=true:=by rw [List.contains_cons,hbase,Bool.or_true]
 have f:=tc_notTuple
 unfold excMatches
 generalize hb:(Value.ref C::bm).contains (.ref D)=b at hq
 repeat (first | (with_reducible refine wpAny_loadPart_at he ?_; rw [hcls]) | with_reducible refine wpAny_loadPart_at hD ?_ | (with_reducible refine wpAny_isSubtype_exc hD ?_; rw [hcB]) | (with_reducible refine wpAny_isSubtype_exc hC ?_; rw [hb]) | wp_step)
 cases b<;>(wp_walk; exact hq)
noncomputable def PH (X:Cx) (hs:List ExceptHandler) (t:Addr->TS):Prop:=∀ (pins:List (Addr×Obj)) (s:Shared) (σ:St) (H:Hp) (D:Ends) (e C:Addr),pD X pins σ H e C s->W.excIn X.K C n6 oh=true->t C D σ H->wpAny (model X.prog X.w) X.A (handleBy (.ref e) X.env hs) (SP X pins D) X.xe s
noncomputable def Hq (K:FG) (d:Addr) (ts:TS) (tr:Addr->TS):Addr->TS:=fun C D σ H=>if mroIn K C d=true then ts D σ H else tr C D σ H
section
variable {X:Cx}
theorem R6 {hs:List ExceptHandler}:PH X hs (fun _ _ _ _=>False):=fun _ _ _ _ _ _ _ _ _ z=>z.elim
theorem Pz {x:Str} {d:Addr} {b₀:Stmt} {suite:List Stmt} {pos np:Pos} {rest:List ExceptHandler} {ts:TS} {tr:Addr->TS} (hg:Gl X x) (hm:X.mg x=some (.ref d)) (hx:W.excIn X.K d n6 oh=true) (hs:∀ e,dC (X.hand e) (b₀::suite) ts) (hr:PH X rest tr) (hdb:(x==("__debug__" : Str))=false:=by decide):
 PH X (.ExceptHandler (some (.Name x np)) none (b₀::suite) pos::rest) (Hq X.K d ts tr):=fun pins s σ H D e C h hc q=>by
 have I:=h.inv
 refine wpAny_handleBy_cons (codeAny_handlers_test (rG (I.hand e) hg hm ?_ hdb)) (by intro q; cases q)
 obtain ⟨bm,N,nm,qn,bs,hdct,sn,sub,ab,col,dd,k0,k1,k2,k3,k5,mN,hC,hN,hni,T⟩:=yD I.kIn hc
 obtain ⟨bm',N',nm',qn',bs',hdct',sn',sub',ab',col',dd',j0,j1,j2,j3,j5,mN',hD,hN',hni',T'⟩:=yD I.kIn hx
 have e1:=R5 (d:=d) I.kIn hc hC
 obtain ⟨_,_,_,_,_,_,_,_,_,_,_,oe,_,he,hcls,_⟩:=id h
 obtain ⟨hp,g,dr,tk,os⟩:=s
 refine V0 hC hD he hcls (T'.hasType (by decide +kernel)) ?_
 rw [e1]
 unfold Hq at q
 cases hb:mroIn X.K C d with
 | true=>
  rw [if_pos hb] at q
  refine codeAny_handlers_suite (h.flight fun h' h2=>?_)
  exact wpAny_mono (hs e pins _ σ H D (h2.inv.hand e) q) (fun f s1 q1=>q1.unhand I.ok.hd) fun _ _ z=>False.elim z
 | false=>
  rw [if_neg (by rw [hb]; decide)] at q
  exact hr pins _ σ H D e C h hc q
noncomputable def zR (X:Cx) (pins:List (Addr×Obj)) (σ:St) (e:Expr) (t:TE):Prop:=∀ (s:Shared) (H:Hp) (Q:VK),Inv X pins σ H s->t σ H Q->wpAny (model X.prog X.w) X.A (eval e X.env) (EP X pins σ Q) X.xe s
noncomputable def zU (X:Cx) (pins:List (Addr×Obj)) (σ:St) (b:List Stmt) (t:TS):Prop:=∀ (s:Shared) (H:Hp) (D:Ends),Inv X pins σ H s->t D σ H->wpAny (model X.prog X.w) X.A (execs b X.env) (SP X pins D) X.xe s
noncomputable def Be (X:Cx) (pins:List (Addr×Obj)) (σ:St) (E:XK):Prop:=∀ H s e s',Inv X pins σ H s->iK X.prog X.w X.stack H s E e s'->X.xe e s'
section
variable {pins:List (Addr×Obj)} {σ:St} {E:XK} {k:Nat} {f C:Addr} {fd:FuncData} {ps:List Str} {sp:Sp} {x:Str} {p pos:Pos} {e:Expr} {es:List Expr} {t:TA} {te:TE}
theorem Lq (M:Mk X.K C f) (F:gb X.prog X.w X.K X.mg X.base (iK X.prog X.w) k f fd ps sp) (hr:bR (k+1) X.A) (hg:Gl X x) (hm:X.mg x=some (.ref C)) (hb:Binds X.K fd ps []) (hx:Be X pins σ E)
 (ha:PA X (e::es) t) (hdb:(x==("__debug__" : Str))=false:=by decide) (he:starEach (e::es) X.env=(false,eval e X.env)::starEach es X.env:=by rfl) (hpl:(backTo pos (starEach es X.env)).any (·.1)=false:=by rfl):
 zR X pins σ (.Call (.Name x p) (e::es) [] pos) (Nv C sp [] E t):=by
 intro s H Q I h
 refine wpAny_Call_Name_kw (rG I hg hm ?_ hdb)
 refine W.callWith_K (h₀:=X.base) I.ok.mod.kin M.kp (bz (ha pos pins s σ H _ I h) fun us s1 ⟨vs,H1,I1,r,q⟩=>⟨I1.kIn,?_⟩) he hpl
 exact K5 M F hr hb .nil hx I1 r q
theorem PB {i:Nat} {pos':Pos} (hN:X.N.Nodup) (hi:X.N[i]?=some x) (hx:Loc X.env.scope x) (he:zR X pins σ e te) (hs:swapsWith e (some (.Name x pos')) pos.line X.env=pure false:=by rfl) (hf:X.fn x=true\/X.env.scope.names.lookup x=some .local:=by first | exact .inl rfl | exact .inr rfl | assumption):
 zU X pins σ [.Assign [.Name x pos'] e pos] (vP te (wB i)):=fun s H D I h=>by
 refine wpAny_execs_cons (wpAny_Assign_Name (bz (he s H _ I h) fun v s1 ⟨y,H1,I1,r1,q1⟩=>?_) hs)
 exact pZ I1 hN hi hx r1 (fun s2 I2=>wpAny_execs_nil ⟨_,H1,I2,q1⟩) hf
end
noncomputable def V1 (K:FG) (tb:XK->TS) (th:Addr->TS):TS:=fun D σ H=>∃ E:XK,tb E D σ H/\∀ C H',E (.ref C) none H'->W.excIn K C n6 oh=true/\th C D σ H'
theorem R7 {body:List Stmt} {h₀:ExceptHandler} {hs:List ExceptHandler} {pos:Pos} {tb:XK->TS} {th:Addr->TS} (hst:X.stack=X.env::X.outer) (hf:X.env.frame=some X.env.locals)
 (hb:∀ pins σ xe E,Be (X.wish xe) pins σ E->zU (X.wish xe) pins σ body (tb E)) (hh:PH X (h₀::hs) th):PS X (.Try body (h₀::hs) [] [] pos) (V1 X.K tb th):=fun pins s σ H D I ⟨E,q,k⟩=>by
 refine wpAny_Try_except (wpAny_mono (hb pins σ (fun x s'=>∃ H s,Inv X pins σ H s/\iK X.prog X.w X.stack H s E x s') E (fun H s e s' I h=>⟨H,s,I.unwish,h⟩) s H D (I.wish _) q) (fun f s1 h1=>?_) fun x s1 h1=>?_)
 . have h2:=SP.unwish h1
   cases f with
   | next=>exact wpAny_execs_nil h2
   | ret u=>exact h2
   | brk=>exact h2
   | cont=>exact h2
 . obtain ⟨Hh,s0,I0,cx⟩:=h1
   obtain ⟨e,C,H',rfl,hh',hE⟩:=pD.of I0 cx
   obtain ⟨hc,hq⟩:=k C H' hE
   exact hh'.leave hst hf I0.ok.frames fun h' h2=>hh pins _ σ H' D e C h2 hc hq
end
end L2
namespace PL
open PySem PySem.Spec PyProof.Rows L2
inductive PV where
 | non
 | bl (b:Bool)
 | int (i:Int)
 | str (x:Str)
 | tup (ps:List PV)
 | lst (ps:List PV)
 | dk (ks:List Key) (ps:List PV)
 | dt (ks:List (List Key)) (ps:List PV)
 | obj (C:Str) (ks:List Str) (ps:List PV)
 | df (ks:List Key) (ps:List PV)
 | dtf (ks:List (List Key)) (ps:List PV)
 | dx (hk:List uv->Int) (ks:List (List uv)) (ps:List PV)
 | ptr (n:Nat)
structure ZG where
 z:Hp
 g:List Addr
noncomputable def fP (Z Z':ZG):Prop:=cJ Z.z Z'.z/\Z.g <+: Z'.g
theorem fP.refl (Z:ZG):fP Z Z:=⟨cJ.refl _,List.prefix_refl _⟩
theorem fP.trans {Z Z1 Z2:ZG} (a:fP Z Z1) (b:fP Z1 Z2):fP Z Z2:=⟨a.1.trans b.1,a.2.trans b.2⟩
theorem PK {α:Type} {l r:List α} {n:Nat} {a:α} (h:l <+: r) (e:l[n]?=some a):r[n]?=some a:=by
 obtain ⟨t,rfl⟩:=h
 rw [List.getElem?_append_left (List.getElem?_eq_some_iff.mp e).1]; exact e
noncomputable def CN (K:FG) (C:Str) (c:Addr):Prop:=W.nsIn K mainGlobals C=some (some (.ref c))
mutual
noncomputable def Rep (K:FG) (Z:ZG):PV->V->Prop
 | .non,v=>v=.non
 | .bl b,v=>v=.bl b
 | .int i,v=>v=.int i
 | .str x,v=>v=.str x
 | .tup ps,v=>∃ a vs,v=.ref a/\dj K Z.z a vs/\aJ K Z ps vs
 | .lst ps,v=>∃ a vs,v=.ref a/\b8 K Z.z a vs/\aJ K Z ps vs
 | .dk ks ps,v=>∃ a kvs,v=.ref a/\Z.z a=some (.dK kvs)/\kvs.map (·.1)=ks/\aJ K Z ps (kvs.map (·.2))
 | .dt ks ps,v=>∃ a kvs,v=.ref a/\Z.z a=some (.dT kvs)/\kvs.map (·.1)=ks/\aJ K Z ps (kvs.map (·.2))
 | .obj C ks ps,v=>∃ a c dx fs,v=.ref a/\CN K C c/\Z.z a=some (.ins c dx fs)/\fs.map (·.1)=ks/\aJ K Z ps (fs.map (·.2))
 | .df ks ps,v=>∃ a o kvs,v=.ref a/\Z.z a=some (.frz o (.dK kvs))/\kvs.map (·.1)=ks/\aJ K Z ps (kvs.map (·.2))
 | .dtf ks ps,v=>∃ a o kvs,v=.ref a/\Z.z a=some (.frz o (.dT kvs))/\kvs.map (·.1)=ks/\aJ K Z ps (kvs.map (·.2))
 | .dx hk ks ps,v=>∃ a xs,v=.ref a/\Z.z a=some (.ext (Vi hk a xs))/\xs.map (·.1)=ks/\(∀ x∈xs,dj K Z.z x.2.1 (x.1.map Vh))/\aJ K Z ps (xs.map (·.2.2))
 | .ptr n,v=>∃ a,v=.ref a/\Z.g[n]?=some a
noncomputable def aJ (K:FG) (Z:ZG):List PV->List V->Prop
 | [],vs=>vs=[]
 | p::ps,vs=>∃ v r,vs=v::r/\Rep K Z p v/\aJ K Z ps r
end
theorem b8.same {K:FG} {Z Z':Hp} {a:Addr} {vs:List V} (s:cJ Z Z') (h:b8 K Z a vs):b8 K Z' a vs:=s.seq h
theorem dj.same {K:FG} {Z Z':Hp} {a:Addr} {vs:List V} (s:cJ Z Z') (h:dj K Z a vs):dj K Z' a vs:=by
 rcases h with (h | ⟨o,h⟩) | h
 . exact .inl (.inl (s _ _ h))
 . exact .inl (.inr ⟨o,s _ _ h⟩)
 . exact .inr h
mutual
theorem Rep.mono {K:FG} {Z Z':ZG} (s:fP Z Z'):∀ {p:PV} {v:V},Rep K Z p v->Rep K Z' p v
 | .non,v,h=>h
 | .bl _,v,h=>h
 | .int _,v,h=>h
 | .str _,v,h=>h
 | .tup ps,v,h=>by
  unfold Rep at h ⊢
  obtain ⟨a,vs,e,h1,h2⟩:=h
  exact ⟨a,vs,e,dj.same s.1 h1,aJ.mono s h2⟩
 | .lst ps,v,h=>by
  unfold Rep at h ⊢
  obtain ⟨a,vs,e,h1,h2⟩:=h
  exact ⟨a,vs,e,b8.same s.1 h1,aJ.mono s h2⟩
 | .dk ks ps,v,h=>by
  unfold Rep at h ⊢
  obtain ⟨a,kvs,e,h1,h2,h3⟩:=h
  exact ⟨a,kvs,e,s.1 _ _ h1,h2,aJ.mono s h3⟩
 | .dt ks ps,v,h=>by
  unfold Rep at h ⊢
  obtain ⟨a,kvs,e,h1,h2,h3⟩:=h
  exact ⟨a,kvs,e,s.1 _ _ h1,h2,aJ.mono s h3⟩
 | .obj C ks ps,v,h=>by
  unfold Rep at h ⊢
  obtain ⟨a,c,dx,fs,e,cn,h1,h2,h3⟩:=h
  exact ⟨a,c,dx,fs,e,cn,s.1 _ _ h1,h2,aJ.mono s h3⟩
 | .df ks ps,v,h=>by
  unfold Rep at h ⊢
  obtain ⟨a,o,kvs,e,h1,h2,h3⟩:=h
  exact ⟨a,o,kvs,e,s.1 _ _ h1,h2,aJ.mono s h3⟩
 | .dtf ks ps,v,h=>by
  unfold Rep at h ⊢
  obtain ⟨a,o,kvs,e,h1,h2,h3⟩:=h
  exact ⟨a,o,kvs,e,s.1 _ _ h1,h2,aJ.mono s h3⟩
 | .dx hk ks ps,v,h=>by
  unfold Rep at h ⊢
  obtain ⟨a,xs,e,h1,h2,h4,h3⟩:=h
  exact ⟨a,xs,e,s.1 _ _ h1,h2,fun x hx=>dj.same s.1 (h4 x hx),aJ.mono s h3⟩
 | .ptr n,v,h=>by
  unfold Rep at h ⊢
  obtain ⟨a,e,h1⟩:=h
  exact ⟨a,e,PK s.2 h1⟩
theorem aJ.mono {K:FG} {Z Z':ZG} (s:fP Z Z'):∀ {ps:List PV} {vs:List V},aJ K Z ps vs->aJ K Z' ps vs
 | [],vs,h=>by unfold aJ at h ⊢; exact h
 | p::ps,vs,h=>by
  unfold aJ at h ⊢
  obtain ⟨v,r,e,h1,h2⟩:=h
  exact ⟨v,r,e,Rep.mono s h1,aJ.mono s h2⟩
end
section
variable {K:FG} {Z:ZG}
theorem aJ.length:∀ {ps:List PV} {vs:List V},aJ K Z ps vs->vs.length=ps.length
 | [],vs,h=>by unfold aJ at h; subst h; rfl
 | p::ps,vs,h=>by
  unfold aJ at h
  obtain ⟨v,r,rfl,_,h2⟩:=h
  simp [aJ.length h2]
theorem aJ.nil:aJ K Z [] []:=by unfold aJ; rfl
theorem aJ.cons {p:PV} {ps:List PV} {v:V} {vs:List V} (h:Rep K Z p v) (t:aJ K Z ps vs):aJ K Z (p::ps) (v::vs):=by unfold aJ; exact ⟨v,vs,rfl,h,t⟩
theorem aJ.inv {p:PV} {ps:List PV} {vs:List V} (h:aJ K Z (p::ps) vs):∃ v r,vs=v::r/\Rep K Z p v/\aJ K Z ps r:=by unfold aJ at h; exact h
theorem aJ.inv0 {vs:List V} (h:aJ K Z [] vs):vs=[]:=by unfold aJ at h; exact h
theorem aJ.append:∀ {ps qs:List PV} {vs ws:List V},aJ K Z ps vs->aJ K Z qs ws->aJ K Z (ps++qs) (vs++ws)
 | [],qs,vs,ws,h,g=>by have:=h.inv0; subst this; exact g
 | p::ps,qs,vs,ws,h,g=>by
  obtain ⟨v,r,rfl,h1,h2⟩:=h.inv
  exact aJ.cons h1 (aJ.append h2 g)
theorem aJ.get:∀ {ps:List PV} {vs:List V} {i:Nat} {p:PV},aJ K Z ps vs->ps[i]?=some p->∃ v,vs[i]?=some v/\Rep K Z p v
 | [],vs,i,p,h,e=>by simp at e
 | q::ps,vs,0,p,h,e=>by
  obtain ⟨v,r,rfl,h1,h2⟩:=h.inv
  simp at e; subst e
  exact ⟨v,rfl,h1⟩
 | q::ps,vs,i+1,p,h,e=>by
  obtain ⟨v,r,rfl,h1,h2⟩:=h.inv
  obtain ⟨u,h3,h4⟩:=aJ.get (i:=i) (p:=p) h2 (by simpa using e)
  exact ⟨u,by simpa using h3,h4⟩
theorem aJ.getV {ps:List PV} {vs:List V} {i:Nat} {v:V} (h:aJ K Z ps vs) (e:vs[i]?=some v):∃ p,ps[i]?=some p/\Rep K Z p v:=by
 have hi:i<ps.length:=by rw [← h.length]; exact (List.getElem?_eq_some_iff.mp e).1
 obtain ⟨u,h1,h2⟩:=h.get (i:=i) (p:=ps[i]) (List.getElem?_eq_getElem hi)
 rw [e] at h1; cases h1
 exact ⟨_,List.getElem?_eq_getElem hi,h2⟩
theorem aJ.set {q:PV} {u:V} (hq:Rep K Z q u):∀ {ps:List PV} {vs:List V} (i:Nat),aJ K Z ps vs->aJ K Z (ps.set i q) (vs.set i u)
 | [],vs,i,h=>by have:=h.inv0; subst this; exact h
 | p::ps,vs,0,h=>by
  obtain ⟨v,r,rfl,h1,h2⟩:=h.inv
  exact aJ.cons hq h2
 | p::ps,vs,i+1,h=>by
  obtain ⟨v,r,rfl,h1,h2⟩:=h.inv
  exact aJ.cons h1 (aJ.set hq i h2)
theorem aJ.take:∀ {ps:List PV} {vs:List V} (n:Nat),aJ K Z ps vs->aJ K Z (ps.take n) (vs.take n)
 | [],vs,n,h=>by have:=h.inv0; subst this; simp; exact .nil
 | p::ps,vs,0,h=>by simp; exact .nil
 | p::ps,vs,n+1,h=>by
  obtain ⟨v,r,rfl,h1,h2⟩:=h.inv
  exact aJ.cons h1 (aJ.take n h2)
theorem aJ.drop:∀ {ps:List PV} {vs:List V} (n:Nat),aJ K Z ps vs->aJ K Z (ps.drop n) (vs.drop n)
 | [],vs,n,h=>by have:=h.inv0; subst this; simp; exact .nil
 | p::ps,vs,0,h=>h
 | p::ps,vs,n+1,h=>by
  obtain ⟨v,r,rfl,h1,h2⟩:=h.inv
  exact aJ.drop n h2
end
inductive Lc where
 | sh (p:PV)
 | own (p:PV)
noncomputable def Lc.pv:Lc->PV
 | .sh p=>p
 | .own p=>p
noncomputable abbrev Mu:=List (Option PV)
structure Ev where
 vs:List (Option Lc)
 mu:Mu
noncomputable abbrev Pd:=List (V×Lc)
noncomputable def qi (K:FG) (Z:ZG) (H:Hp) (a:Addr):PV->Prop
 | .lst ps=>∃ vs,H a=some (.lst vs)/\aJ K Z ps vs
 | .dk ks ps=>∃ kvs,H a=some (.dK kvs)/\kvs.map (·.1)=ks/\aJ K Z ps (kvs.map (·.2))
 | .dt ks ps=>∃ kvs,H a=some (.dT kvs)/\kvs.map (·.1)=ks/\aJ K Z ps (kvs.map (·.2))
 | .dx hk ks ps=>∃ xs,H a=some (.ext (Vi hk a xs))/\xs.map (·.1)=ks/\(∀ x∈xs,dj K Z.z x.2.1 (x.1.map Vh))/\aJ K Z ps (xs.map (·.2.2))
 | .obj C ks ps=>∃ c dx fs,CN K C c/\H a=some (.ins c dx fs)/\fs.map (·.1)=ks/\aJ K Z ps (fs.map (·.2))
 | _=>False
noncomputable def VR (K:FG) (H0:Hp) (Z:ZG) (H:Hp) (v:Option V):Option Lc->Prop
 | none=>True
 | some (.sh p)=>∃ x,v=some x/\Rep K Z p x
 | some (.own p)=>∃ a,v=some (.ref a)/\qi K Z H a p/\Z.z a=none/\H0 a=none
noncomputable def jM:Option V×Option Lc->Option Addr
 | (some (.ref a),some (.own _))=>some a
 | _=>none
noncomputable abbrev Sl:=List (Option V×Option Lc)
noncomputable def Slots (K:FG) (H0:Hp) (Z:ZG) (H:Hp) (L:Sl):Prop:=(∀ e∈L,VR K H0 Z H e.1 e.2)/\(L.filterMap jM).Nodup
noncomputable def cel (g:List Addr) (mu:Mu):Sl:=(g.map fun a=>some (V.ref a)).zip (mu.map fun o=>o.map Lc.own)
noncomputable def lL (g:List Addr) (mu:Mu):List Addr:=(cel g mu).filterMap jM
noncomputable def sl (g:List Addr) (σ:L2.St) (ρ:Ev) (pd:Pd):Sl:=cel g ρ.mu++(σ.zip ρ.vs++pd.map fun e=>(some e.1,some e.2))
noncomputable def Bf:HO->Prop
 | .tup _=>True
 | .frz _ _=>True
 | _=>False
structure jj (H0:Hp) (Z0 Z:ZG) (H:Hp):Prop where
 zh:cJ Z.z H
 h0:cJ H0 H
 z0:fP Z0 Z
 new:∀ b o,Z.z b=some o->Z0.z b=some o\/H0 b=none\/Bf o
noncomputable def SR (K:FG) (H0:Hp) (Z0:ZG) (σ:L2.St) (H:Hp) (ρ:Ev) (pd:Pd):Prop:=σ.length=ρ.vs.length/\∃ Z,ρ.mu.length=Z.g.length/\jj H0 Z0 Z H/\Slots K H0 Z H (sl Z.g σ ρ pd)
section
variable {K:FG} {H0 H H':Hp} {Z0 Z Z':ZG} {L L':Sl} {σ:L2.St} {ρ:Ev} {pd:Pd}
theorem Slots.sub (h:Slots K H0 Z H L) (s:List.Sublist L' L):Slots K H0 Z H L':=⟨fun e he=>h.1 e (s.subset he),h.2.sublist (s.filterMap jM)⟩
theorem Slots.perm (h:Slots K H0 Z H L) (s:List.Perm L' L):Slots K H0 Z H L':=⟨fun e he=>h.1 e (s.subset he),(s.filterMap jM).nodup_iff.mpr h.2⟩
theorem qi.keep {a:Addr} {p:PV} (h:qi K Z H a p) (z:fP Z Z') (e:H' a=H a):qi K Z' H' a p:=by
 cases p with
 | lst ps=>obtain ⟨vs,h1,h2⟩:=h; exact ⟨vs,by rw [e]; exact h1,h2.mono z⟩
 | dk ks ps=>obtain ⟨vs,h1,h2,h3⟩:=h; exact ⟨vs,by rw [e]; exact h1,h2,h3.mono z⟩
 | dt ks ps=>obtain ⟨vs,h1,h2,h3⟩:=h; exact ⟨vs,by rw [e]; exact h1,h2,h3.mono z⟩
 | dx hk ks ps=>obtain ⟨vs,h1,h2,h4,h3⟩:=h; exact ⟨vs,by rw [e]; exact h1,h2,fun x hx=>dj.same z.1 (h4 x hx),h3.mono z⟩
 | obj C ks ps=>obtain ⟨c,dx,fs,cn,h1,h2,h3⟩:=h; exact ⟨c,dx,fs,cn,by rw [e]; exact h1,h2,h3.mono z⟩
 | _=>exact h
theorem qi.some {a:Addr} {p:PV} (h:qi K Z H a p):∃ o,H a=some o/\¬ Bf o:=by
 cases p with
 | lst ps=>obtain ⟨vs,h1,h2⟩:=h; exact ⟨_,h1,fun z=>z⟩
 | dk ks ps=>obtain ⟨vs,h1,h2,h3⟩:=h; exact ⟨_,h1,fun z=>z⟩
 | dt ks ps=>obtain ⟨vs,h1,h2,h3⟩:=h; exact ⟨_,h1,fun z=>z⟩
 | dx hk ks ps=>obtain ⟨vs,h1,h2,h3⟩:=h; exact ⟨_,h1,fun z=>z⟩
 | obj C ks ps=>obtain ⟨c,dx,fs,cn,h1,h2,h3⟩:=h; exact ⟨_,h1,fun z=>z⟩
 | _=>exact h.elim
theorem qi.rep {a:Addr} {p:PV} (h:qi K Z H a p) (z:fP Z Z') (e:Z'.z a=H a):Rep K Z' p (.ref a):=by
 cases p with
 | lst ps=>obtain ⟨vs,h1,h2⟩:=h; unfold Rep; exact ⟨a,vs,rfl,b8.of (by rw [e]; exact h1),h2.mono z⟩
 | dk ks ps=>obtain ⟨vs,h1,h2,h3⟩:=h; unfold Rep; exact ⟨a,vs,rfl,by rw [e]; exact h1,h2,h3.mono z⟩
 | dt ks ps=>obtain ⟨vs,h1,h2,h3⟩:=h; unfold Rep; exact ⟨a,vs,rfl,by rw [e]; exact h1,h2,h3.mono z⟩
 | dx hk ks ps=>obtain ⟨vs,h1,h2,h4,h3⟩:=h; unfold Rep; exact ⟨a,vs,rfl,by rw [e]; exact h1,h2,fun x hx=>dj.same z.1 (h4 x hx),h3.mono z⟩
 | obj C ks ps=>obtain ⟨c,dx,fs,cn,h1,h2,h3⟩:=h; unfold Rep; exact ⟨a,c,dx,fs,rfl,cn,by rw [e]; exact h1,h2,h3.mono z⟩
 | _=>exact h.elim
theorem Slots.step (h:Slots K H0 Z H L) (z:fP Z Z') (hk:∀ e∈L,∀ a,jM e=some a->H' a=H a/\Z'.z a=none):Slots K H0 Z' H' L:=by
 refine ⟨fun e he=>?_,h.2⟩
 have q:=h.1 e he
 obtain ⟨v,l⟩:=e
 cases l with
 | none=>trivial
 | some l=>
  cases l with
  | sh p=>obtain ⟨x,e1,e2⟩:=q; exact ⟨x,e1,e2.mono z⟩
  | own p=>
   obtain ⟨a,e1,e2,e3,e4⟩:=q
   have e1':v=some (.ref a):=e1
   subst e1'
   obtain ⟨k1,k2⟩:=hk _ he a rfl
   exact ⟨a,rfl,e2.keep z k1,k2,e4⟩
theorem gB (h:Slots K H0 Z H L) {e:Option V×Option Lc} (he:e∈L) {a:Addr} (ha:jM e=some a):Z.z a=none/\H0 a=none/\∃ o,H a=some o/\¬ Bf o:=by
 obtain ⟨v,l⟩:=e
 have q:=h.1 _ he
 cases l with
 | none=>cases v with
  | none=>cases ha
  | some x=>cases x<;>cases ha
 | some l=>
  cases l with
  | sh p=>cases v with
   | none=>cases ha
   | some x=>cases x<;>cases ha
  | own p=>
   obtain ⟨b,e1,e2,e3,e4⟩:=q
   have e1':v=some (.ref b):=e1
   subst e1'
   cases ha
   exact ⟨e3,e4,e2.some⟩
theorem Slots.new (h:Slots K H0 Z H L) (zo:jj H0 Z0 Z H) {a:Addr} {o:HO} {p:PV} (ha:H a=none) (hp:qi K Z (upd H a o) a p):jj H0 Z0 Z (upd H a o)/\Slots K H0 Z (upd H a o) ((some (.ref a),some (.own p))::L):=by
 have hz:Z.z a=none:=zo.zh.free ha
 have h0:H0 a=none:=zo.h0.free ha
 refine ⟨⟨fun b u e=>by rw [aY (bV e hz)]; exact zo.zh b u e,fun b u e=>by rw [aY (bV e h0)]; exact zo.h0 b u e,zo.z0,zo.new⟩,?_⟩
 have hne:∀ e∈L,∀ b,jM e=some b->b≠a:=fun e he b hb=>by
  obtain ⟨_,_,o',h3,_⟩:=gB h he hb
  exact bV h3 ha
 have st:=h.step (Z':=Z) (H':=upd H a o) (fP.refl Z) fun e he b hb=>⟨aY (hne e he b hb),(gB h he hb).1⟩
 refine ⟨fun e he=>?_,?_⟩
 . rcases List.mem_cons.mp he with rfl | he
   . exact ⟨a,rfl,hp,hz,h0⟩
   . exact st.1 e he
 . show (a::L.filterMap jM).Nodup
   refine List.nodup_cons.mpr ⟨fun hm=>?_,st.2⟩
   obtain ⟨e,he,hb⟩:=List.mem_filterMap.mp hm
   exact hne e he a hb rfl
noncomputable abbrev ZG.put (Z:ZG) (a:Addr) (o:HO):ZG:=⟨upd Z.z a o,Z.g⟩
theorem Slots.newF (h:Slots K H0 Z H L) (zo:jj H0 Z0 Z H) {a:Addr} {o:HO} (ha:H a=none):jj H0 Z0 (Z.put a o) (upd H a o)/\fP Z (Z.put a o)/\Slots K H0 (Z.put a o) (upd H a o) L:=by
 have hz:Z.z a=none:=zo.zh.free ha
 have h0:H0 a=none:=zo.h0.free ha
 have sz:cJ Z.z (upd Z.z a o):=fun b u e=>by rw [aY (bV e hz)]; exact e
 have lz:fP Z (Z.put a o):=⟨sz,List.prefix_refl _⟩
 refine ⟨⟨fun b u e=>?_,fun b u e=>by rw [aY (bV e h0)]; exact zo.h0 b u e,zo.z0.trans lz,fun b u e=>?_⟩,lz,?_⟩
 . have e:upd Z.z a o b=some u:=e
   unfold upd at e ⊢
   split
   . rename_i q; rw [if_pos q] at e; exact e
   . rename_i q; rw [if_neg q] at e; exact zo.zh b u e
 . have e:upd Z.z a o b=some u:=e
   unfold upd at e
   split at e
   . rename_i q; rw [q]; exact .inr (.inl h0)
   . exact zo.new b u e
 . refine h.step lz fun e he b hb=>?_
   obtain ⟨h1,h2,o',h3,_⟩:=gB h he hb
   have hba:=bV h3 ha
   exact ⟨aY hba,by show upd Z.z a o b=none; rw [aY hba]; exact h1⟩
theorem Slots.freeze {v:Option V} {p:PV} (h:Slots K H0 Z H ((v,some (.own p))::L)) (zo:jj H0 Z0 Z H):∃ Z',fP Z Z'/\Z'.g=Z.g/\jj H0 Z0 Z' H/\Slots K H0 Z' H ((v,some (.sh p))::L):=by
 obtain ⟨a,e1,e2,e3,e4⟩:=h.1 _ List.mem_cons_self
 have e1':v=some (.ref a):=e1
 subst e1'
 obtain ⟨o,ho,_⟩:=e2.some
 have sz:cJ Z.z (upd Z.z a o):=fun b u e=>by rw [aY (bV e e3)]; exact e
 have lz:fP Z (Z.put a o):=⟨sz,List.prefix_refl _⟩
 have nd:(a::L.filterMap jM).Nodup:=h.2
 have hL:Slots K H0 Z H L:=h.sub (List.sublist_cons_self _ _)
 refine ⟨Z.put a o,lz,rfl,⟨fun b u e=>?_,zo.h0,zo.z0.trans lz,fun b u e=>?_⟩,fun e he=>?_,(List.nodup_cons.mp nd).2⟩
 . have e:upd Z.z a o b=some u:=e
   unfold upd at e
   split at e
   . rename_i q; cases e; rw [q]; exact ho
   . exact zo.zh b u e
 . have e:upd Z.z a o b=some u:=e
   unfold upd at e
   split at e
   . rename_i q; rw [q]; exact .inr (.inl e4)
   . exact zo.new b u e
 . rcases List.mem_cons.mp he with rfl | he
   . exact ⟨.ref a,rfl,e2.rep lz (by show upd Z.z a o a=_; rw [bC,ho])⟩
   . refine (hL.step (Z':=Z.put a o) (H':=H) lz fun e' he' b hb=>⟨rfl,?_⟩).1 e he
     have:b≠a:=fun q=>by
      rw [q] at hb
      exact (List.nodup_cons.mp nd).1 (List.mem_filterMap.mpr ⟨e',he',hb⟩)
     show upd Z.z a o b=none
     rw [aY this]
     exact (gB hL he' hb).1
theorem Slots.write {a:Addr} {p q:PV} {o:HO} (h:Slots K H0 Z H ((some (.ref a),some (.own p))::L)) (zo:jj H0 Z0 Z H) (hq:qi K Z (upd H a o) a q):jj H0 Z0 Z (upd H a o)/\Slots K H0 Z (upd H a o) ((some (.ref a),some (.own q))::L):=by
 obtain ⟨b,e1,e2,e3,e4⟩:=h.1 _ List.mem_cons_self
 cases e1
 have nd:(a::L.filterMap jM).Nodup:=h.2
 have hL:Slots K H0 Z H L:=h.sub (List.sublist_cons_self _ _)
 refine ⟨⟨fun b u e=>by rw [aY (bV e e3)]; exact zo.zh b u e,fun b u e=>by rw [aY (bV e e4)]; exact zo.h0 b u e,zo.z0,zo.new⟩,fun e he=>?_,nd⟩
 rcases List.mem_cons.mp he with rfl | he
 . exact ⟨a,rfl,hq,e3,e4⟩
 . refine (hL.step (Z':=Z) (H':=upd H a o) (fP.refl Z) fun e' he' b hb=>⟨aY fun q=>?_,(gB hL he' hb).1⟩).1 e he
   rw [q] at hb
   exact (List.nodup_cons.mp nd).1 (List.mem_filterMap.mpr ⟨e',he',hb⟩)
end
variable {K:FG} {H0 H:Hp} {Z0:ZG} {σ:L2.St} {ρ:Ev} {pd:Pd}
theorem uw {α:Type}:∀ {l:List α} {i:Nat} {a:α},l[i]?=some a->∃ R,List.Perm l (a::R)/\∀ b,List.Perm (l.set i b) (b::R)
 | [],i,a,h=>by simp at h
 | x::r,0,a,h=>by
  simp at h; subst h
  exact ⟨r,List.Perm.refl _,fun b=>List.Perm.refl _⟩
 | x::r,i+1,a,h=>by
  obtain ⟨R,h1,h2⟩:=uw (l:=r) (i:=i) (a:=a) (by simpa using h)
  refine ⟨x::R,(h1.cons x).trans (List.Perm.swap _ _ _),fun b=>?_⟩
  simp only [List.set_cons_succ]
  exact ((h2 b).cons x).trans (List.Perm.swap _ _ _)
theorem yE {α β:Type}:∀ (l:List α) (r:List β) (i:Nat) (a:α) (b:β),(l.set i a).zip (r.set i b)=(l.zip r).set i (a,b)
 | [],r,i,a,b=>by simp
 | x::l,[],i,a,b=>by simp
 | x::l,y::r,0,a,b=>by simp
 | x::l,y::r,i+1,a,b=>by simp [yE l r i a b]
theorem zip_get {α β:Type}:∀ {l:List α} {r:List β} {i:Nat} {a:α} {b:β},l[i]?=some a->r[i]?=some b->(l.zip r)[i]?=some (a,b)
 | [],r,i,a,b,h,g=>by simp at h
 | x::l,[],i,a,b,h,g=>by simp at g
 | x::l,y::r,0,a,b,h,g=>by simp at h g; simp [h,g]
 | x::l,y::r,i+1,a,b,h,g=>by
  have:=zip_get (l:=l) (r:=r) (i:=i) (by simpa using h) (by simpa using g)
  simpa using this
theorem set_same {α:Type}:∀ {l:List α} {i:Nat} {a:α},l[i]?=some a->l.set i a=l
 | [],i,a,h=>by simp at h
 | x::r,0,a,h=>by simp at h; subst h; simp
 | x::r,i+1,a,h=>by simp [set_same (l:=r) (i:=i) (a:=a) (by simpa using h)]
noncomputable def Ev.set (ρ:Ev) (i:Nat) (x:Option Lc):Ev:=⟨ρ.vs.set i x,ρ.mu⟩
section
variable {K:FG} {H0 H H':Hp} {Z0 Z:ZG} {σ:L2.St} {ρ:Ev} {pd pd':Pd} {v w:V} {l:Lc} {p:PV} {L:Sl} {g:List Addr}
theorem du:List.Perm (sl g σ ρ ((v,l)::pd)) ((some v,some l)::sl g σ ρ pd):=by
 unfold sl
 exact (List.perm_middle.append_left _).trans List.perm_middle
theorem SR.top (h:SR K H0 Z0 σ H ρ ((v,l)::pd)):σ.length=ρ.vs.length/\∃ Z,ρ.mu.length=Z.g.length/\jj H0 Z0 Z H/\Slots K H0 Z H ((some v,some l)::sl Z.g σ ρ pd):=
 let ⟨e,Z,hg,z,s⟩:=h
 ⟨e,Z,hg,z,s.perm du.symm⟩
theorem SR.mk (e:σ.length=ρ.vs.length) (hg:ρ.mu.length=Z.g.length) (z:jj H0 Z0 Z H) (s:Slots K H0 Z H ((some v,some l)::sl Z.g σ ρ pd)):SR K H0 Z0 σ H ρ ((v,l)::pd):=⟨e,Z,hg,z,s.perm du⟩
theorem SR.pop (h:SR K H0 Z0 σ H ρ ((v,l)::pd)):SR K H0 Z0 σ H ρ pd:=
 let ⟨e,Z,hg,z,s⟩:=h.top
 ⟨e,Z,hg,z,s.sub (List.sublist_cons_self _ _)⟩
theorem SR.perm (h:SR K H0 Z0 σ H ρ pd) (q:List.Perm pd' pd):SR K H0 Z0 σ H ρ pd':=
 let ⟨e,Z,hg,z,s⟩:=h
 ⟨e,Z,hg,z,s.perm (((q.map _).append_left _).append_left _)⟩
theorem SR.swap {l2:Lc} (h:SR K H0 Z0 σ H ρ ((v,l)::(w,l2)::pd)):SR K H0 Z0 σ H ρ ((w,l2)::(v,l)::pd):=h.perm (List.Perm.swap _ _ _)
theorem SR.freeze (h:SR K H0 Z0 σ H ρ ((v,l)::pd)):SR K H0 Z0 σ H ρ ((v,.sh l.pv)::pd):=by
 cases l with
 | sh p=>exact h
 | own p=>
  obtain ⟨e,Z,hg,z,s⟩:=h.top
  obtain ⟨Z',_,eg,z',s'⟩:=s.freeze z
  refine .mk (Z:=Z') e (by rw [eg]; exact hg) z' ?_
  rw [eg]; exact s'
theorem SR.sh (h:SR K H0 Z0 σ H ρ ((v,.sh p)::pd)):σ.length=ρ.vs.length/\∃ Z,ρ.mu.length=Z.g.length/\jj H0 Z0 Z H/\Rep K Z p v/\Slots K H0 Z H (sl Z.g σ ρ pd):=by
 obtain ⟨e,Z,hg,z,s⟩:=h.top
 obtain ⟨x,e1,e2⟩:=s.1 _ List.mem_cons_self
 cases e1
 exact ⟨e,Z,hg,z,e2,s.sub (List.sublist_cons_self _ _)⟩
theorem SR.rep (h:SR K H0 Z0 σ H ρ ((v,.sh p)::pd)):∃ Z:ZG,cJ Z.z H/\Rep K Z p v:=let ⟨_,Z,_,z,r,_⟩:=h.sh; ⟨Z,z.zh,r⟩
theorem SR.repH (h:SR K H0 Z0 σ H ρ ((v,.sh p)::pd)):∃ g,Rep K ⟨H,g⟩ p v:=let ⟨_,Z,_,z,r,_⟩:=h.sh; ⟨Z.g,r.mono (Z':=⟨H,Z.g⟩) ⟨z.zh,List.prefix_refl _⟩⟩
theorem Slots.consS (s:Slots K H0 Z H L) (r:Rep K Z p v):Slots K H0 Z H ((some v,some (.sh p))::L):=by
 refine ⟨fun e he=>?_,?_⟩
 . rcases List.mem_cons.mp he with rfl | he
   . exact ⟨v,rfl,r⟩
   . exact s.1 e he
 . have:jM (some v,some (Lc.sh p))=none:=by cases v<;>rfl
   rw [List.filterMap_cons_none this]
   exact s.2
theorem SR.scal (h:SR K H0 Z0 σ H ρ pd) (r:∀ Z,Rep K Z p v):SR K H0 Z0 σ H ρ ((v,.sh p)::pd):=
 let ⟨e,Z,hg,z,s⟩:=h
 .mk e hg z (s.consS (r Z))
theorem Ca {i:Nat} {o:Option Lc} (el:σ.length=ρ.vs.length) (e:ρ.vs[i]?=some o):∃ R:Sl,∃ x,σ[i]?=some x/\(∀ g pd,List.Perm (sl g σ ρ pd) ((x,o)::(cel g ρ.mu++(R++pd.map fun e=>(some e.1,some e.2)))))/\
 ∀ g pd y o',List.Perm (sl g (σ.set i y) (ρ.set i o') pd) ((y,o')::(cel g ρ.mu++(R++pd.map fun e=>(some e.1,some e.2)))):=by
 have hi:i<σ.length:=by rw [el]; exact (List.getElem?_eq_some_iff.mp e).1
 have hσ:σ[i]?=some σ[i]:=List.getElem?_eq_getElem hi
 obtain ⟨R,h1,h2⟩:=uw (zip_get hσ e)
 refine ⟨R,σ[i],hσ,fun g pd=>?_,fun g pd y o'=>?_⟩
 . unfold sl
   exact ((h1.append_right _).append_left _).trans List.perm_middle
 . unfold sl
   show List.Perm (cel g ρ.mu++((σ.set i y).zip (ρ.vs.set i o')++_)) _
   rw [yE]
   exact (((h2 _).append_right _).append_left _).trans List.perm_middle
theorem Ev.set_mu {i:Nat} {x:Option Lc}:(ρ.set i x).mu=ρ.mu:=rfl
theorem Ev.set_len {i:Nat} {x:Option Lc}:(ρ.set i x).vs.length=ρ.vs.length:=by show (ρ.vs.set i x).length=_; rw [List.length_set]
theorem SR.var {i:Nat} (h:SR K H0 Z0 σ H ρ pd) (e:ρ.vs[i]?=some (some l)):∃ v,σ[i]?=some (some v)/\SR K H0 Z0 σ H (ρ.set i (some (.sh l.pv))) ((v,.sh l.pv)::pd):=by
 obtain ⟨el,Z,hg,z,s⟩:=h
 obtain ⟨R,x,hσ,h1,h2⟩:=Ca el e
 have s1:=s.perm (h1 Z.g pd).symm
 have el':σ.length=(ρ.set i (some (.sh l.pv))).vs.length:=by rw [Ev.set_len]; exact el
 have fin:∀ {Z':ZG} {v:V},Z'.g=Z.g->jj H0 Z0 Z' H->x=some v->Slots K H0 Z' H ((x,some (.sh l.pv))::(cel Z.g ρ.mu++(R++pd.map fun e=>(some e.1,some e.2))))->Rep K Z' l.pv v->SR K H0 Z0 σ H (ρ.set i (some (.sh l.pv))) ((v,.sh l.pv)::pd):=
  fun {Z' v} eg z ev s2 r=>by
   have p2:=h2 Z.g pd x (some (.sh l.pv))
   rw [set_same hσ] at p2
   refine .mk (Z:=Z') el' (by rw [eg,Ev.set_mu]; exact hg) z ?_
   rw [eg]
   exact (s2.perm p2).consS r
 cases l with
 | sh p=>
  obtain ⟨v,e1,e2⟩:=s1.1 _ List.mem_cons_self
  exact ⟨v,hσ.trans (congrArg some e1),fin rfl z e1 s1 e2⟩
 | own p=>
  obtain ⟨Z',sz,eg,z',s'⟩:=s1.freeze z
  obtain ⟨v,e1,e2⟩:=s'.1 _ List.mem_cons_self
  exact ⟨v,hσ.trans (congrArg some e1),fin eg z' e1 s' e2⟩
theorem SR.store {i:Nat} (h:SR K H0 Z0 σ H ρ ((v,l)::pd)) (hi:i<ρ.vs.length):SR K H0 Z0 (σ.set i (some v)) H (ρ.set i (some l)) pd:=by
 obtain ⟨el,Z,hg,z,s⟩:=h.top
 have hρ:ρ.vs[i]?=some ρ.vs[i]:=List.getElem?_eq_getElem hi
 obtain ⟨R,x,hσ,h1,h2⟩:=Ca el hρ
 refine ⟨by rw [List.length_set,Ev.set_len]; exact el,Z,hg,z,?_⟩
 refine (Slots.sub (L:=(some v,some l)::((x,ρ.vs[i])::(cel Z.g ρ.mu++(R++pd.map fun e=>(some e.1,some e.2))))) (s.perm ((h1 Z.g pd).symm.cons _)) ?_).perm (h2 Z.g pd (some v) (some l))
 exact (List.sublist_cons_self _ _).cons_cons _
theorem SR.take {i:Nat} (h:SR K H0 Z0 σ H ρ pd) (e:ρ.vs[i]?=some (some l)):∃ v,σ[i]?=some (some v)/\SR K H0 Z0 σ H (ρ.set i none) ((v,l)::pd):=by
 obtain ⟨el,Z,hg,z,s⟩:=h
 obtain ⟨R,x,hσ,h1,h2⟩:=Ca el e
 have s1:=s.perm (h1 Z.g pd).symm
 obtain ⟨v,hv⟩:∃ v,x=some v:=by
  have q:=s1.1 _ List.mem_cons_self
  cases l with
  | sh p=>obtain ⟨x,e1,_⟩:=q; exact ⟨x,e1⟩
  | own p=>obtain ⟨a,e1,_⟩:=q; exact ⟨_,e1⟩
 subst hv
 refine ⟨v,hσ,.mk (Z:=Z) (by rw [Ev.set_len]; exact el) hg z ?_⟩
 have p2:=h2 Z.g pd (some v) none
 rw [set_same hσ] at p2
 refine Slots.perm ?_ (p2.cons _)
 have ht:Slots K H0 Z H ((some v,none)::(some v,some l)::(cel Z.g ρ.mu++(R++pd.map fun e=>(some e.1,some e.2)))):=by
  refine ⟨fun e he=>?_,?_⟩
  . rcases List.mem_cons.mp he with rfl | he
    . trivial
    . exact s1.1 e he
  . have:jM (some v,none)=none:=by cases v<;>rfl
    rw [List.filterMap_cons_none this]
    exact s1.2
 exact ht.perm (List.Perm.swap _ _ _)
theorem SR.put {i:Nat} (h:SR K H0 Z0 σ H ρ ((v,l)::pd)) (e:σ[i]?=some (some v)):SR K H0 Z0 σ H (ρ.set i (some l)) pd:=by
 have hi:i<ρ.vs.length:=by rw [← h.1]; exact (List.getElem?_eq_some_iff.mp e).1
 have:=h.store hi
 rw [set_same e] at this
 exact this
end
noncomputable abbrev EF:=Ev->Option (Lc×Ev)
noncomputable abbrev TF:=Ev->Option (Bool×Ev)
noncomputable abbrev AF:=Ev->Option (List Lc×Ev)
inductive Fl where
 | nx (ρ:Ev)
 | rt (r:Lc) (ρ:Ev)
 | bk (ρ:Ev)
 | ct (ρ:Ev)
noncomputable abbrev SF:=Ev->Option Fl
noncomputable def tP (K:FG) (f:EF):TE:=fun σ H Q=>∃ H0 Z0 ρ pd r ρ',SR K H0 Z0 σ H ρ pd/\f ρ=some (r,ρ')/\∀ v H',SR K H0 Z0 σ H' ρ' ((v,r)::pd)->Q v H'
noncomputable def gC (K:FG) (f:TF):TT:=fun σ H Q=>∃ H0 Z0 ρ pd b ρ',SR K H0 Z0 σ H ρ pd/\f ρ=some (b,ρ')/\∀ H',SR K H0 Z0 σ H' ρ' pd->Q b H'
noncomputable def jN (K:FG) (f:AF):TA:=fun σ H Q=>∃ H0 Z0 ρ pd ls ρ',SR K H0 Z0 σ H ρ pd/\f ρ=some (ls,ρ')/\∀ vs H',vs.length=ls.length->SR K H0 Z0 σ H' ρ' (vs.zip ls++pd)->Q vs H'
noncomputable def rC (K:FG) (H0:Hp) (Z0:ZG) (pd:Pd) (D:Ends):Fl->Prop
 | .nx ρ'=>∀ σ' H',SR K H0 Z0 σ' H' ρ' pd->D.nx σ' H'
 | .rt r ρ'=>∀ v σ' H',SR K H0 Z0 σ' H' ρ' ((v,r)::pd)->D.rt v H'
 | .bk ρ'=>∀ σ' H',SR K H0 Z0 σ' H' ρ' pd->D.bk σ' H'
 | .ct ρ'=>∀ σ' H',SR K H0 Z0 σ' H' ρ' pd->D.ct σ' H'
noncomputable def eG (K:FG) (g:SF):TS:=fun D σ H=>∃ H0 Z0 ρ pd fl,SR K H0 Z0 σ H ρ pd/\g ρ=some fl/\rC K H0 Z0 pd D fl
section
variable {X:Cx} {e:Expr} {es:List Expr} {st:Stmt} {sts:List Stmt}
theorem PE.imp {t t':TE} (h:PE X e t) (i:∀ σ H Q,t' σ H Q->t σ H Q):PE X e t':=fun pins s σ H Q I q=>h pins s σ H Q I (i σ H Q q)
theorem PT.imp {t t':TT} (h:PT X e t) (i:∀ σ H Q,t' σ H Q->t σ H Q):PT X e t':=fun pins s σ H Q I q=>h pins s σ H Q I (i σ H Q q)
theorem PW.imp {t t':TT} (h:PW X e t) (i:∀ σ H Q,t' σ H Q->t σ H Q):PW X e t':=fun wh pins s σ H Q I q=>h wh pins s σ H Q I (i σ H Q q)
theorem PA.imp {t t':TA} (h:PA X es t) (i:∀ σ H Q,t' σ H Q->t σ H Q):PA X es t':=fun pos pins s σ H Q I q=>h pos pins s σ H Q I (i σ H Q q)
theorem PS.imp {t t':TS} (h:PS X st t) (i:∀ D σ H,t' D σ H->t D σ H):PS X st t':=fun pins s σ H D I q=>h pins s σ H D I (i D σ H q)
theorem dC.imp {t t':TS} (h:dC X sts t) (i:∀ D σ H,t' D σ H->t D σ H):dC X sts t':=fun pins s σ H D I q=>h pins s σ H D I (i D σ H q)
noncomputable def aa (i:Nat):EF:=fun ρ=>match ρ.vs[i]? with
 | some (some l)=>some (.sh l.pv,ρ.set i (some (.sh l.pv)))
 | _=>none
noncomputable def eC (p:PV):EF:=fun ρ=>some (.sh p,ρ)
theorem qv {i:Nat} (h:PE X e (sH i)):PE X e (tP X.K (aa i)):=PE.imp h fun σ H Q q=>by
 obtain ⟨H0,Z0,ρ,pd,r,ρ',s,f,k⟩:=q
 unfold aa at f
 split at f
 . rename_i l e1
   cases f
   obtain ⟨v,h1,h2⟩:=s.var e1
   exact ⟨v,h1,k v H h2⟩
 . cases f
theorem qc {p:PV} {v:V} (h:PE X e (tC v)) (r:∀ Z,Rep X.K Z p v):PE X e (tP X.K (eC p)):=PE.imp h fun σ H Q q=>by
 obtain ⟨H0,Z0,ρ,pd,l,ρ',s,f,k⟩:=q
 cases f
 exact k v H (s.scal r)
theorem dw {i:Int}:∀ Z,Rep K Z (.int i) (.int i):=fun Z=>by unfold Rep; rfl
theorem mL {i:Str}:∀ Z,Rep K Z (.str i) (.str i):=fun Z=>by unfold Rep; rfl
theorem cz {i:Bool}:∀ Z,Rep K Z (.bl i) (.bl i):=fun Z=>by unfold Rep; rfl
theorem rM:∀ Z,Rep K Z .non .non:=fun Z=>by unfold Rep; rfl
noncomputable def jt (K:FG) (r:R2) (g:PV->PV->Option Lc):Prop:=∀ H0 Z0 σ ρ pd H v w x y l Q,SR K H0 Z0 σ H ρ ((w,.sh y)::(v,.sh x)::pd)->g x y=some l->(∀ u H',SR K H0 Z0 σ H' ρ ((u,l)::pd)->Q u H')->r v w H Q
noncomputable def aC (g:PV->PV->Option Lc) (fa fb:EF):EF:=fun ρ=>(fa ρ).bind fun x=>(fb x.2).bind fun y=>(g x.1.pv y.1.pv).map fun l=>(l,y.2)
theorem Lr {g:PV->PV->Option Lc} {fa fb:EF} {ρ ρ':Ev} {l:Lc} (h:aC g fa fb ρ=some (l,ρ')):∃ x ρ1 y,fa ρ=some (x,ρ1)/\fb ρ1=some (y,ρ')/\g x.pv y.pv=some l:=by
 unfold aC at h
 cases h1:fa ρ with
 | none=>rw [h1] at h; cases h
 | some x=>
  rw [h1,Option.bind_some] at h
  cases h2:fb x.2 with
  | none=>rw [h2] at h; cases h
  | some y=>
   rw [h2,Option.bind_some] at h
   cases h3:g x.1.pv y.1.pv with
   | none=>rw [h3] at h; cases h
   | some z=>
    rw [h3] at h
    cases h
    exact ⟨x.1,x.2,y.1,rfl,h2,h3⟩
theorem Cd {r:R2} {g:PV->PV->Option Lc} (hs:jt X.K r g) {fa fb:EF}:∀ σ H Q,tP X.K (aC g fa fb) σ H Q->Ja r (tP X.K fa) (tP X.K fb) σ H Q:=fun σ H Q q=>by
 obtain ⟨H0,Z0,ρ,pd,l,ρ',s,f,k⟩:=q
 obtain ⟨x,ρ1,y,h1,h2,h3⟩:=Lr f
 refine ⟨H0,Z0,ρ,pd,x,ρ1,s,h1,fun v H1 s1=>⟨H0,Z0,ρ1,_,y,ρ',s1,h2,fun w H2 s2=>?_⟩⟩
 exact hs H0 Z0 σ ρ' pd H2 v w x.pv y.pv l Q (s2.freeze.swap.freeze.swap) h3 fun u H' s3=>k u H' s3
theorem fB {op:Operator} {a b:Expr} {pos:Pos} {r:R2} {g:PV->PV->Option Lc} {fa fb:EF} (ho:fj X (binaryOp op) r) (hs:jt X.K r g) (ha:PE X a (tP X.K fa)) (hb:PE X b (tP X.K fb)):PE X (.BinOp a op b pos) (tP X.K (aC g fa fb)):=
 PE.imp (Uv ho ha hb) (Cd hs)
theorem pF {op:CmpOp} {a b:Expr} {pos:Pos} {r:R2} {g:PV->PV->Option Lc} {fa fb:EF} (ho:fj X (compareOp op) r) (hs:jt X.K r g) (ha:PE X a (tP X.K fa)) (hb:PE X b (tP X.K fb)) (hm:behindInMarks op b=false):PE X (.Compare a [op] [b] pos) (tP X.K (aC g fa fb)):=
 PE.imp (OD ho ha hb hm) (Cd hs)
noncomputable def ux (C:Int->Int->Bool) (g:Int->Int->PV):PV->PV->Option Lc
 | .int i,.int j=>if C i j=true then some (.sh (g i j)) else none
 | _,_=>none
theorem Ce {C:Int->Int->Bool} {g:Int->Int->PV} {x y:PV} {l:Lc} (h:ux C g x y=some l):∃ i j,x=.int i/\y=.int j/\C i j=true/\l=.sh (g i j):=by
 cases x with
 | int i=>
  cases y with
  | int j=>
   have h':(if C i j=true then some (Lc.sh (g i j)) else none)=some l:=h
   split at h'
   . rename_i c; cases h'; exact ⟨i,j,rfl,rfl,c,rfl⟩
   . cases h'
  | _=>cases h
 | _=>cases h
theorem bf {Z:ZG} {i:Int} {v:V} (h:Rep K Z (.int i) v):v=.int i:=by unfold Rep at h; exact h
theorem cj {Z:ZG} {i:Str} {v:V} (h:Rep K Z (.str i) v):v=.str i:=by unfold Rep at h; exact h
theorem cY {Z:ZG} {i:Bool} {v:V} (h:Rep K Z (.bl i) v):v=.bl i:=by unfold Rep at h; exact h
theorem gR {Z:ZG} {v:V} (h:Rep K Z .non v):v=.non:=by unfold Rep at h; exact h
theorem Hr {C':Int->Int->Prop} {C:Int->Int->Bool} {gV:Int->Int->V} {g:Int->Int->PV} (hc:∀ i j,C i j=true->C' i j) (hg:∀ i j Z,Rep K Z (g i j) (gV i j)):jt K (rI C' gV) (ux C g):=by
 intro H0 Z0 σ ρ pd H v w x y l Q s e k
 obtain ⟨i,j,rfl,rfl,c,rfl⟩:=Ce e
 obtain ⟨_,rw'⟩:=s.repH
 obtain ⟨_,rv'⟩:=s.pop.repH
 have hw:=bf rw'
 have hv:=bf rv'
 exact ⟨i,j,hv,hw,hc i j c,k _ H (s.pop.pop.scal (hg i j))⟩
theorem wO {gV:Int->Int->V} {g:Int->Int->PV} (hg:∀ i j Z,Rep K Z (g i j) (gV i j)):jt K (rH gV) (ux (fun _ _=>true) g):=by
 intro H0 Z0 σ ρ pd H v w x y l Q s e k
 obtain ⟨i,j,rfl,rfl,c,rfl⟩:=Ce e
 obtain ⟨_,rw'⟩:=s.repH
 obtain ⟨_,rv'⟩:=s.pop.repH
 exact ⟨i,j,bf rv',bf rw',k _ H (s.pop.pop.scal (hg i j))⟩
end
section
variable {X:Cx}
section
variable {K:FG} {H0 H H':Hp} {Z0 Z:ZG} {σ:L2.St} {ρ:Ev} {pd pd':Pd} {v w:V} {l:Lc} {p:PV} {g:List Addr}
theorem SR.newO (h:SR K H0 Z0 σ H ρ pd) {a:Addr} {o:HO} (ha:H a=none) (hp:∀ Z,jj H0 Z0 Z H->Slots K H0 Z H (sl Z.g σ ρ pd)->qi K Z (upd H a o) a p):SR K H0 Z0 σ (upd H a o) ρ ((.ref a,.own p)::pd):=by
 obtain ⟨e,Z,hg,z,s⟩:=h
 obtain ⟨z',s'⟩:=s.new z ha (hp Z z s)
 exact .mk e hg z' s'
theorem Bg {α:Type} (A B C:List α):List.Perm (A++(B++C)) (B++(A++C)):=by
 rw [← List.append_assoc A B C,← List.append_assoc B A C]
 exact List.perm_append_comm.append_right _
theorem JB {pe:Pd}:List.Perm (sl g σ ρ (pe++pd)) (pe.map (fun e=>((some e.1:Option V),(some e.2:Option Lc)))++sl g σ ρ pd):=by
 unfold sl
 rw [List.map_append]
 exact ((Bg _ _ _).append_left _).trans (Bg _ _ _)
theorem SR.freezeAll:∀ {vs:List V} {ls:List Lc} {pd:Pd},SR K H0 Z0 σ H ρ (vs.zip ls++pd)->SR K H0 Z0 σ H ρ (vs.zip (ls.map fun l=>.sh l.pv)++pd)
 | [],ls,pd,h=>by simpa using h
 | v::vs,[],pd,h=>by simpa using h
 | v::vs,l::ls,pd,h=>by
  have h1:SR K H0 Z0 σ H ρ ((v,l)::(vs.zip ls++pd)):=h
  have h2:=h1.freeze.perm (pd':=vs.zip ls++((v,.sh l.pv)::pd)) List.perm_middle
  have h3:=SR.freezeAll h2
  exact h3.perm (pd':=(v,.sh l.pv)::(vs.zip (ls.map fun l=>.sh l.pv)++pd)) List.perm_middle.symm
theorem Slots.repl {L:Sl}:∀ {vs:List V} {ps:List PV},vs.length=ps.length->Slots K H0 Z H ((vs.zip (ps.map fun p=>Lc.sh p)).map (fun e=>(some e.1,some e.2))++L)->aJ K Z ps vs
 | [],[],_,_=>.nil
 | v::vs,p::ps,e,h=>by
  have h1:Slots K H0 Z H ((some v,some (.sh p))::((vs.zip (ps.map fun p=>Lc.sh p)).map (fun e=>(some e.1,some e.2))++L)):=h
  obtain ⟨x,e1,e2⟩:=h1.1 _ List.mem_cons_self
  cases e1
  exact aJ.cons e2 (Slots.repl (by simpa using e) (h1.sub (List.sublist_cons_self _ _)))
 | [],p::ps,e,_=>by simp at e
 | v::vs,[],e,_=>by simp at e
theorem SR.repl {vs:List V} {ls:List Lc} (h:SR K H0 Z0 σ H ρ (vs.zip ls++pd)) (e:vs.length=ls.length):σ.length=ρ.vs.length/\∃ Z,ρ.mu.length=Z.g.length/\jj H0 Z0 Z H/\aJ K Z (ls.map Lc.pv) vs/\Slots K H0 Z H (sl Z.g σ ρ pd):=by
 obtain ⟨el,Z,hg,z,s⟩:=h.freezeAll
 have hm:(ls.map fun l=>Lc.sh l.pv)=(ls.map Lc.pv).map fun p=>Lc.sh p:=by rw [List.map_map]; rfl
 rw [hm] at s
 have pm:List.Perm (sl Z.g σ ρ (vs.zip ((ls.map Lc.pv).map fun p=>Lc.sh p)++pd)) ((vs.zip ((ls.map Lc.pv).map fun p=>Lc.sh p)).map (fun e=>(some e.1,some e.2))++sl Z.g σ ρ pd):=JB
 have s':=s.perm pm.symm
 exact ⟨el,Z,hg,z,Slots.repl (by simpa using e) s',s'.sub (List.sublist_append_right _ _)⟩
end
theorem rN {α:Type} {l:List α} (h:l.length=1):∃ a,l=[a]:=List.length_eq_one_iff.mp h
theorem ln2 {α:Type} {l:List α} (h:l.length=2):∃ a b,l=[a,b]:=by
 cases l with
 | nil=>cases h
 | cons a l=>obtain ⟨b,rfl⟩:=rN (Nat.succ.inj h); exact ⟨a,b,rfl⟩
theorem vK {α:Type} {l:List α} (h:l.length=3):∃ a b c,l=[a,b,c]:=by
 cases l with
 | nil=>cases h
 | cons a l=>obtain ⟨b,c,rfl⟩:=ln2 (Nat.succ.inj h); exact ⟨a,b,c,rfl⟩
theorem Wj {α:Type} {l:List α} (h:l.length=4):∃ a b c d,l=[a,b,c,d]:=by
 cases l with
 | nil=>cases h
 | cons a l=>obtain ⟨b,c,d,rfl⟩:=vK (Nat.succ.inj h); exact ⟨a,b,c,d,rfl⟩
theorem Wk {α:Type} {l:List α} (h:l.length=5):∃ a b c d e,l=[a,b,c,d,e]:=by
 cases l with
 | nil=>cases h
 | cons a l=>obtain ⟨b,c,d,e,rfl⟩:=Wj (Nat.succ.inj h); exact ⟨a,b,c,d,e,rfl⟩
noncomputable def ao:AF:=fun ρ=>some ([],ρ)
noncomputable def aj (f:EF) (g:AF):AF:=fun ρ=>(f ρ).bind fun x=>(g x.2).map fun y=>(x.1::y.1,y.2)
theorem aD:PA X [] (jN X.K ao):=PA.imp uf fun σ H Q q=>by
 obtain ⟨H0,Z0,ρ,pd,l,ρ',s,f,k⟩:=q
 cases f
 exact k [] H rfl s
theorem ak {e:Expr} {es:List Expr} {f:EF} {g:AF} (ha:PE X e (tP X.K f)) (hr:PA X es (jN X.K g)) (hs:starEach (e::es) X.env=(false,eval e X.env)::starEach es X.env:=by rfl):PA X (e::es) (jN X.K (aj f g)):=PA.imp (nW ha hr hs) fun σ H Q q=>by
 obtain ⟨H0,Z0,ρ,pd,l,ρ',s,h,k⟩:=q
 unfold aj at h
 cases h1:f ρ with
 | none=>rw [h1] at h; cases h
 | some x=>
  rw [h1,Option.bind_some] at h
  cases h2:g x.2 with
  | none=>rw [h2] at h; cases h
  | some y=>
   rw [h2] at h
   cases h
   refine ⟨H0,Z0,ρ,pd,x.1,x.2,s,h1,fun v H1 s1=>⟨H0,Z0,x.2,_,y.1,y.2,s1,h2,fun vs H2 e2 s2=>?_⟩⟩
   refine k (v::vs) H2 (by simp [e2]) (s2.perm (pd':=(v,x.1)::(vs.zip y.1++pd)) List.perm_middle.symm)
noncomputable def ou (g:AF):EF:=fun ρ=>(g ρ).bind fun y=>if y.1.length<=1000 then some (.own (.lst (y.1.map Lc.pv)),y.2) else none
noncomputable def fO (g:AF):EF:=fun ρ=>(g ρ).bind fun y=>if y.1.length<=1000 then some (.sh (.tup (y.1.map Lc.pv)),y.2) else none
theorem small {n:Nat} (h:n<=100000):n<=sizeLine:=by rw [sizeLine_eq]; omega
theorem Cg {es:List Expr} {g:AF} {pos:Pos} (h:PA X es (jN X.K g)):PE X (.List es pos) (tP X.K (ou g)):=PE.imp (Rz h) fun σ H Q q=>by
 obtain ⟨H0,Z0,ρ,pd,l,ρ',s,f,k⟩:=q
 unfold ou at f
 cases h2:g ρ with
 | none=>rw [h2] at f; cases f
 | some y=>
  rw [h2,Option.bind_some] at f
  split at f
  . rename_i hl
    cases f
    refine ⟨H0,Z0,ρ,pd,y.1,y.2,s,h2,fun vs H2 e2 s2=>⟨small (by omega),fun p hp=>k _ _ ?_⟩⟩
    obtain ⟨el,Z,hg,z,r,sl'⟩:=s2.repl e2
    obtain ⟨z',s'⟩:=sl'.new (o:=.lst vs) (p:=.lst (y.1.map Lc.pv)) z hp ⟨vs,bC,r⟩
    exact .mk el hg z' s'
  . cases f
theorem sU {es:List Expr} {g:AF} {x1} {pos:Pos} (h:PA X es (jN X.K g)):PE X (.Tuple es x1 pos) (tP X.K (fO g)):=PE.imp (Bx h) fun σ H Q q=>by
 obtain ⟨H0,Z0,ρ,pd,l,ρ',s,f,k⟩:=q
 unfold fO at f
 cases h2:g ρ with
 | none=>rw [h2] at f; cases f
 | some y=>
  rw [h2,Option.bind_some] at f
  split at f
  . rename_i hl
    cases f
    refine ⟨H0,Z0,ρ,pd,y.1,y.2,s,h2,fun vs H2 e2 s2=>⟨small (by omega),fun p hp=>k _ _ ?_⟩⟩
    obtain ⟨el,Z,hg,z,r,sl'⟩:=s2.repl e2
    obtain ⟨z',sz,s'⟩:=sl'.newF (o:=.tup vs) z hp
    refine .mk (Z:=Z.put p (.tup vs)) el hg z' (s'.consS ?_)
    unfold Rep
    exact ⟨p,vs,rfl,dj.of bC,r.mono sz⟩
  . cases f
noncomputable def tT (f:EF) (tr:PV->Option Bool):TF:=fun ρ=>(f ρ).bind fun x=>(tr x.1.pv).map fun b=>(b,x.2)
noncomputable def aN:PV->Option Bool
 | .non=>some false
 | .bl b=>some b
 | .int i=>some (i != 0)
 | .str x=>if x.length<=100000 then some ((x.length:Int) != 0) else none
 | .tup ps=>some (!ps.isEmpty)
 | .lst ps=>some (!ps.isEmpty)
 | .dk ks ps=>some (!ps.isEmpty)
 | _=>none
theorem V2 {H:Hp} {g:List Addr} {p:PV} {v:V} {b:Bool} (r:Rep K ⟨H,g⟩ p v) (h:aN p=some b):KQ K v H b:=by
 cases p with
 | non=>have:=gR r; subst this; cases h; exact rfl
 | bl c=>have:=cY r; subst this; cases h; exact rfl
 | int i=>have:=bf r; subst this; cases h; exact rfl
 | str x=>
  have:=cj r; subst this
  have h:(if x.length<=100000 then some ((x.length:Int) != 0) else none)=some b:=h
  split at h
  . rename_i hl; cases h; exact ⟨small hl,rfl⟩
  . cases h
 | tup ps=>
  unfold Rep at r
  obtain ⟨a,vs,rfl,h1,h2⟩:=r
  cases h
  refine .inr (.inl ⟨vs,h1,?_⟩)
  have:=h2.length
  cases ps<;>cases vs<;>simp at this<;>rfl
 | lst ps=>
  unfold Rep at r
  obtain ⟨a,vs,rfl,h1,h2⟩:=r
  cases h
  refine .inl ⟨vs,h1,?_⟩
  have:=h2.length
  cases ps<;>cases vs<;>simp at this<;>rfl
 | dk ks ps=>
  unfold Rep at r
  obtain ⟨a,kvs,rfl,h1,h3,h2⟩:=r
  cases h
  refine .inr (.inr ⟨kvs,h1,?_⟩)
  have:=h2.length
  cases ps<;>cases kvs<;>simp at this<;>rfl
 | _=>cases h
theorem EY {f:EF} {tr:PV->Option Bool} {ρ ρ':Ev} {b:Bool} (h:tT f tr ρ=some (b,ρ')):∃ x,f ρ=some (x,ρ')/\tr x.pv=some b:=by
 unfold tT at h
 cases h1:f ρ with
 | none=>rw [h1] at h; cases h
 | some x=>
  rw [h1,Option.bind_some] at h
  cases h2:tr x.1.pv with
  | none=>rw [h2] at h; cases h
  | some y=>rw [h2] at h; cases h; exact ⟨x.1,rfl,h2⟩
theorem b7 {a:Expr} {f:EF} (ha:PE X a (tP X.K f)) (he:∀ whole,isTrue a X.env whole=(do let v ← whole; standAt a.pos; holding [v] (truthy v))):PT X a (gC X.K (tT f aN)):=PT.imp (KR ha he) fun σ H Q q=>by
 obtain ⟨H0,Z0,ρ,pd,b,ρ',s,f',k⟩:=q
 obtain ⟨x,h1,h2⟩:=EY f'
 refine ⟨H0,Z0,ρ,pd,x,ρ',s,h1,fun v H1 s1=>⟨b,V2 s1.freeze.repH.choose_spec h2,k H1 s1.pop⟩⟩
noncomputable def aZ:PV->Option Bool
 | .bl b=>some b
 | _=>none
theorem UT {a:Expr} {f:EF} (ha:PT X a (Nu (tP X.K f))):PT X a (gC X.K (tT f aZ)):=PT.imp ha fun σ H Q q=>by
 obtain ⟨H0,Z0,ρ,pd,b,ρ',s,f',k⟩:=q
 obtain ⟨x,h1,h2⟩:=EY f'
 refine ⟨H0,Z0,ρ,pd,x,ρ',s,h1,fun v H1 s1=>⟨b,?_,k H1 s1.pop⟩⟩
 obtain ⟨_,r⟩:=s1.freeze.repH
 cases e:x.pv with
 | bl c=>rw [e] at h2 r; cases h2; exact cY r
 | _=>rw [e] at h2; cases h2
theorem bY {op:CmpOp} {a b:Expr} {pos:Pos} {r:R2} {g:PV->PV->Option Lc} {fa fb:EF} (ho:fj X (compareOp op) r) (hs:jt X.K r g) (ha:PE X a (tP X.K fa)) (hb:PE X b (tP X.K fb)) (hm:behindInMarks op b=false):PT X (.Compare a [op] [b] pos) (gC X.K (tT (aC g fa fb) aZ)):=
 UT (PT.imp (OJ ho ha hb hm) fun σ H Q q=>Cd hs σ H _ q)
noncomputable def cQ (f g:TF):TF:=fun ρ=>(f ρ).bind fun x=>if x.1=true then g x.2 else some (false,x.2)
noncomputable def gf (f g:TF):TF:=fun ρ=>(f ρ).bind fun x=>if x.1=true then some (true,x.2) else g x.2
noncomputable def bN (f:TF):TF:=fun ρ=>(f ρ).map fun x=>(!x.1,x.2)
theorem PN {f g:TF}:∀ σ H Q,gC X.K (cQ f g) σ H Q->Q7 (gC X.K f) (gC X.K g) σ H Q:=fun σ H Q q=>by
 obtain ⟨H0,Z0,ρ,pd,b,ρ',s,h,k⟩:=q
 unfold cQ at h
 cases h1:f ρ with
 | none=>rw [h1] at h; cases h
 | some x=>
  rw [h1,Option.bind_some] at h
  refine ⟨H0,Z0,ρ,pd,x.1,x.2,s,h1,fun H1 s1=>?_⟩
  dsimp only
  split
  . rename_i c; rw [if_pos c] at h; exact ⟨H0,Z0,x.2,pd,b,ρ',s1,h,k⟩
  . rename_i c; rw [if_neg c] at h; cases h; exact k H1 s1
theorem R8 {f g:TF}:∀ σ H Q,gC X.K (gf f g) σ H Q->Ve (gC X.K f) (gC X.K g) σ H Q:=fun σ H Q q=>by
 obtain ⟨H0,Z0,ρ,pd,b,ρ',s,h,k⟩:=q
 unfold gf at h
 cases h1:f ρ with
 | none=>rw [h1] at h; cases h
 | some x=>
  rw [h1,Option.bind_some] at h
  refine ⟨H0,Z0,ρ,pd,x.1,x.2,s,h1,fun H1 s1=>?_⟩
  dsimp only
  split
  . rename_i c; rw [if_pos c] at h; cases h; exact k H1 s1
  . rename_i c; rw [if_neg c] at h; exact ⟨H0,Z0,x.2,pd,b,ρ',s1,h,k⟩
theorem oA {a:Expr} {f:TF} {pos:Pos} (ha:PT X a (gC X.K f)):PW X (.BoolOp .And [a] pos) (gC X.K f):=Oz ha
theorem qj {a:Expr} {f:TF} {pos:Pos} (ha:PT X a (gC X.K f)):PW X (.BoolOp .Or [a] pos) (gC X.K f):=Q8 ha
theorem j7 {a b:Expr} {rest:List Expr} {f g:TF} {pos:Pos} (ha:PT X a (gC X.K f)) (hb:PW X (.BoolOp .And (b::rest) pos) (gC X.K g)):PW X (.BoolOp .And (a::b::rest) pos) (gC X.K (cQ f g)):=PW.imp (Q9 ha hb) PN
theorem kY {a b:Expr} {rest:List Expr} {f g:TF} {pos:Pos} (ha:PT X a (gC X.K f)) (hb:PW X (.BoolOp .Or (b::rest) pos) (gC X.K g)):PW X (.BoolOp .Or (a::b::rest) pos) (gC X.K (gf f g)):=PW.imp (Uq ha hb) R8
theorem iQ {a:Expr} {f:TF} {pos:Pos} (ha:PT X a (gC X.K f)):PT X (.UnaryOp .Not a pos) (gC X.K (bN f)):=PT.imp (Ra ha) fun σ H Q q=>by
 obtain ⟨H0,Z0,ρ,pd,b,ρ',s,h,k⟩:=q
 unfold bN at h
 cases h1:f ρ with
 | none=>rw [h1] at h; cases h
 | some x=>
  rw [h1] at h
  cases h
  exact ⟨H0,Z0,ρ,pd,x.1,x.2,s,h1,fun H1 s1=>k H1 s1⟩
noncomputable def jD (f g:EF):EF:=fun ρ=>(f ρ).bind fun x=>match x.1.pv with
 | .bl true=>g x.2
 | .bl false=>some (.sh (.bl false),x.2)
 | _=>none
noncomputable def zV (f g:EF):EF:=fun ρ=>(f ρ).bind fun x=>match x.1.pv with
 | .bl true=>some (.sh (.bl true),x.2)
 | .bl false=>g x.2
 | _=>none
theorem yF {op} {a:Expr} {f:EF} {pos:Pos} (h:PE X a (tP X.K f)):PE X (.BoolOp op [a] pos) (tP X.K f):=Rb h
theorem yG {a b:Expr} {rest:List Expr} {f g:EF} {pos:Pos} (ha:PE X a (tP X.K f)) (hb:PE X (.BoolOp .And (b::rest) pos) (tP X.K g)):PE X (.BoolOp .And (a::b::rest) pos) (tP X.K (jD f g)):=PE.imp (Rc ha hb) fun σ H Q q=>by
 obtain ⟨H0,Z0,ρ,pd,b,ρ',s,h,k⟩:=q
 unfold jD at h
 cases h1:f ρ with
 | none=>rw [h1] at h; cases h
 | some x=>
  rw [h1,Option.bind_some] at h
  refine ⟨H0,Z0,ρ,pd,x.1,x.2,s,h1,fun v H1 s1=>?_⟩
  obtain ⟨_,r⟩:=s1.freeze.repH
  split at h
  . rename_i e
    rw [e] at r
    refine ⟨true,cY r,?_⟩
    rw [if_pos rfl]
    exact ⟨H0,Z0,x.2,pd,b,ρ',s1.pop,h,k⟩
  . rename_i e
    rw [e] at r
    refine ⟨false,cY r,?_⟩
    rw [if_neg Bool.false_ne_true]
    cases h
    exact k _ H1 (s1.pop.scal cz)
  . cases h
theorem Wl {a b:Expr} {rest:List Expr} {f g:EF} {pos:Pos} (ha:PE X a (tP X.K f)) (hb:PE X (.BoolOp .Or (b::rest) pos) (tP X.K g)):PE X (.BoolOp .Or (a::b::rest) pos) (tP X.K (zV f g)):=PE.imp (Us ha hb) fun σ H Q q=>by
 obtain ⟨H0,Z0,ρ,pd,b,ρ',s,h,k⟩:=q
 unfold zV at h
 cases h1:f ρ with
 | none=>rw [h1] at h; cases h
 | some x=>
  rw [h1,Option.bind_some] at h
  refine ⟨H0,Z0,ρ,pd,x.1,x.2,s,h1,fun v H1 s1=>?_⟩
  obtain ⟨_,r⟩:=s1.freeze.repH
  split at h
  . rename_i e
    rw [e] at r
    refine ⟨true,cY r,?_⟩
    rw [if_pos rfl]
    cases h
    exact k _ H1 (s1.pop.scal cz)
  . rename_i e
    rw [e] at r
    refine ⟨false,cY r,?_⟩
    rw [if_neg Bool.false_ne_true]
    exact ⟨H0,Z0,x.2,pd,b,ρ',s1.pop,h,k⟩
  . cases h
noncomputable def bJ:SF:=fun ρ=>some (.nx ρ)
noncomputable def aK (f g:SF):SF:=fun ρ=>(f ρ).bind fun x=>match x with
 | .nx ρ'=>g ρ'
 | y=>some y
theorem bU:dC X [] (eG X.K bJ):=dC.imp Er fun D σ H q=>by
 obtain ⟨H0,Z0,ρ,pd,fl,s,h,k⟩:=q
 cases h
 exact k σ H s
theorem aA {st:Stmt} {rest:List Stmt} {f g:SF} (h1:PS X st (eG X.K f)) (h2:dC X rest (eG X.K g)):dC X (st::rest) (eG X.K (aK f g)):=dC.imp (Br h1 h2) fun D σ H q=>by
 obtain ⟨H0,Z0,ρ,pd,fl,s,h,k⟩:=q
 unfold aK at h
 cases e:f ρ with
 | none=>rw [e] at h; cases h
 | some x=>
  rw [e,Option.bind_some] at h
  refine ⟨H0,Z0,ρ,pd,x,s,e,?_⟩
  cases x with
  | nx ρ'=>exact fun σ' H' s'=>⟨H0,Z0,ρ',pd,fl,s',h,k⟩
  | rt r ρ'=>cases h; exact k
  | bk ρ'=>cases h; exact k
  | ct ρ'=>cases h; exact k
theorem aH {st:Stmt} {f:SF} (h1:PS X st (eG X.K f)):dC X [st] (eG X.K f):=Es h1
noncomputable def lZ (f:EF):SF:=fun ρ=>(f ρ).map fun x=>.nx x.2
theorem map_some {α β:Type} {o:Option α} {f:α->β} {b:β} (h:o.map f=some b):∃ a,o=some a/\f a=b:=by
 cases o with
 | none=>cases h
 | some a=>exact ⟨a,rfl,Option.some.inj h⟩
theorem bind_some {α β:Type} {o:Option α} {f:α->Option β} {b:β} (h:o.bind f=some b):∃ a,o=some a/\f a=some b:=by
 cases o with
 | none=>cases h
 | some a=>exact ⟨a,rfl,h⟩
theorem oE {e:Expr} {pos:Pos} {f:EF} (he:PE X e (tP X.K f)) (hs:swapsWith e none pos.line X.env=pure false:=by rfl):PS X (.Expr e pos) (eG X.K (lZ f)):=PS.imp (yw he hs) fun D σ H q=>by
 obtain ⟨H0,Z0,ρ,pd,fl,s,h,k⟩:=q
 obtain ⟨x,h1,rfl⟩:=map_some h
 exact ⟨H0,Z0,ρ,pd,x.1,x.2,s,h1,fun v H' s'=>k σ H' s'.pop⟩
noncomputable def bK (f:EF):SF:=fun ρ=>(f ρ).map fun x=>.rt x.1 x.2
theorem bH {e:Expr} {pos:Pos} {f:EF} (he:PE X e (tP X.K f)):PS X (.Return (some e) pos) (eG X.K (bK f)):=PS.imp (Iw he) fun D σ H q=>by
 obtain ⟨H0,Z0,ρ,pd,fl,s,h,k⟩:=q
 obtain ⟨x,h1,rfl⟩:=map_some h
 exact ⟨H0,Z0,ρ,pd,x.1,x.2,s,h1,fun v H' s'=>k v σ H' s'⟩
noncomputable def jE (i:Nat):SF:=fun ρ=>match ρ.vs[i]? with
 | some (some l)=>some (.rt l (ρ.set i none))
 | _=>none
theorem kZ {i:Nat} {e:Expr} {pos:Pos} (he:PE X e (sH i)):PS X (.Return (some e) pos) (eG X.K (jE i)):=PS.imp (Iw he) fun D σ H q=>by
 obtain ⟨H0,Z0,ρ,pd,fl,s,h,k⟩:=q
 unfold jE at h
 split at h
 . rename_i l e1
   cases h
   obtain ⟨v,h1,h2⟩:=s.take e1
   exact ⟨v,h1,k v σ H h2⟩
 . cases h
noncomputable def cG (c:TF) (f g:SF):SF:=fun ρ=>(c ρ).bind fun x=>if x.1=true then f x.2 else g x.2
theorem cZ {c:Expr} {a b:List Stmt} {fc:TF} {f g:SF} {pos:Pos} (hc:PT X c (gC X.K fc)) (ha:dC X a (eG X.K f)) (hb:dC X b (eG X.K g)):PS X (.If c a b pos) (eG X.K (cG fc f g)):=PS.imp (Nk hc ha hb) fun D σ H q=>by
 obtain ⟨H0,Z0,ρ,pd,fl,s,h,k⟩:=q
 obtain ⟨x,h1,h2⟩:=bind_some h
 refine ⟨H0,Z0,ρ,pd,x.1,x.2,s,h1,fun H1 s1=>?_⟩
 dsimp only
 split
 . rename_i c; rw [if_pos c] at h2; exact ⟨H0,Z0,x.2,pd,fl,s1,h2,k⟩
 . rename_i c; rw [if_neg c] at h2; exact ⟨H0,Z0,x.2,pd,fl,s1,h2,k⟩
noncomputable def aL (i:Nat) (f:EF):SF:=fun ρ=>(f ρ).bind fun x=>if i<x.2.vs.length then some (.nx (x.2.set i (some x.1))) else none
theorem Fb {i:Nat} {f:EF} {t:TS} (h:∀ D σ H,(tP X.K f σ H fun v H1=>D.nx (σ.set i (some v)) H1)->t D σ H):∀ D σ H,eG X.K (aL i f) D σ H->t D σ H:=fun D σ H q=>by
 obtain ⟨H0,Z0,ρ,pd,fl,s,h',k⟩:=q
 obtain ⟨x,h1,h2⟩:=bind_some h'
 split at h2
 . rename_i hl
   cases h2
   exact h D σ H ⟨H0,Z0,ρ,pd,x.1,x.2,s,h1,fun v H1 s1=>k _ _ (s1.store hl)⟩
 . cases h2
theorem lM {i:Nat} {x:Str} {e:Expr} {pos pos':Pos} {f:EF} (hN:X.N.Nodup) (hi:X.N[i]?=some x) (hx:L2.Loc X.env.scope x) (he:PE X e (tP X.K f)) (hs:swapsWith e (some (.Name x pos')) pos.line X.env=pure false:=by rfl) (hf:X.fn x=true\/X.env.scope.names.lookup x=some .local:=by first | exact .inl rfl | exact .inr rfl | assumption):
 PS X (.Assign [.Name x pos'] e pos) (eG X.K (aL i f)):=PS.imp (Ri hN hi hx he hs hf) (Fb fun D σ H q=>q)
noncomputable abbrev GF:=List PV->Mu->Option (Lc×Mu)
noncomputable def ju (H:Hp) (g:List Addr):Hp:=fun b=>if b∈g then none else H b
theorem PQ {H:Hp} {g:List Addr} {b:Addr} {o:HO} (h:ju H g b=some o):H b=some o/\b∉g:=by
 unfold ju at h
 split at h
 . cases h
 . rename_i q; exact ⟨h,q⟩
theorem Ls {H:Hp} {g:List Addr} {b:Addr} (h:b∈g):ju H g b=none:=by unfold ju; rw [if_pos h]
theorem Ci {H:Hp} {g:List Addr} {b:Addr} (h:b∉g):ju H g b=H b:=by unfold ju; rw [if_neg h]
noncomputable def Cj (K:FG) (H:Hp) (Z:ZG) (g:List Addr) (H':Hp) (mu':Mu) (v:V) (r:Lc):Prop:=∃ Z',mu'.length=Z'.g.length/\jj (ju H g) Z Z' H'/\Slots K (ju H g) Z' H' ((some v,some r)::cel Z'.g mu')
noncomputable def bT (K:FG) (n:Nat) (g:GF):Sp:=fun vs H Q _=>∃ (Z:ZG) (ps:List PV) (mu:Mu) (r:Lc) (mu':Mu),vs.length=n/\mu.length=Z.g.length/\cJ Z.z H/\aJ K Z ps vs/\Slots K (ju H (lL Z.g mu)) Z H (cel Z.g mu)/\g ps mu=some (r,mu')/\∀ v H',Cj K H Z (lL Z.g mu) H' mu' v r->Q v H'
noncomputable def aM (g:GF) (a:AF):EF:=fun ρ=>(a ρ).bind fun y=>(g (y.1.map Lc.pv) y.2.mu).map fun r=>(r.1,⟨y.2.vs,r.2⟩)
theorem P0 {g:List Addr} {mu:Mu} {e:Option V×Option Lc} (he:e∈cel g mu):∃ a,e.1=some (.ref a)/\(e.2=none\/∃ p,e.2=some (.own p)):=by
 unfold cel at he
 obtain ⟨v,l⟩:=e
 obtain ⟨h1,h2⟩:=List.of_mem_zip he
 obtain ⟨a,_,e1⟩:=List.mem_map.mp h1
 obtain ⟨o,_,e2⟩:=List.mem_map.mp h2
 refine ⟨a,e1.symm,?_⟩
 cases o with
 | none=>exact .inl e2.symm
 | some p=>exact .inr ⟨p,e2.symm⟩
theorem Slots.cells {Z:ZG} (hg:ρ.mu.length=Z.g.length) (s:Slots K H0 Z H (sl Z.g σ ρ pd)):Slots K (ju H (lL Z.g ρ.mu)) Z H (cel Z.g ρ.mu):=by
 have s1:Slots K H0 Z H (cel Z.g ρ.mu):=s.sub (List.sublist_append_left _ _)
 refine ⟨fun e he=>?_,s1.2⟩
 obtain ⟨a,h1,h2⟩:=P0 he
 obtain ⟨v,l⟩:=e
 have h1':v=some (.ref a):=h1
 subst h1'
 rcases h2 with h2 | ⟨p,h2⟩
 . have h2':l=none:=h2
   subst h2'; trivial
 . have h2':l=some (.own p):=h2
   subst h2'
   obtain ⟨b,e1,e2,e3,e4⟩:=s1.1 _ he
   cases e1
   exact ⟨a,rfl,e2,e3,Ls (List.mem_filterMap.mpr ⟨_,he,rfl⟩)⟩
theorem SR.called {H0 H H':Hp} {Z0 Z:ZG} {v:V} {r:Lc} {mu':Mu} (el:σ.length=ρ.vs.length) (hg:ρ.mu.length=Z.g.length) (z:jj H0 Z0 Z H) (s:Slots K H0 Z H (sl Z.g σ ρ pd)) (h:Cj K H Z (lL Z.g ρ.mu) H' mu' v r):SR K H0 Z0 σ H' ⟨ρ.vs,mu'⟩ ((v,r)::pd):=by
 obtain ⟨Z',hg',z',q⟩:=h
 have s1:Slots K H0 Z H (cel Z.g ρ.mu):=s.sub (List.sublist_append_left _ _)
 have s0:Slots K H0 Z H (σ.zip ρ.vs++pd.map fun e=>(some e.1,some e.2)):=s.sub (List.sublist_append_right _ _)
 have nd:(lL Z.g ρ.mu++(σ.zip ρ.vs++pd.map fun e=>(some e.1,some e.2)).filterMap jM).Nodup:=by
  have:=s.2
  unfold sl at this
  rw [List.filterMap_append] at this
  exact this
 have hc0:∀ a∈lL Z.g ρ.mu,H0 a=none:=fun a ha=>by
  obtain ⟨e,he,hb⟩:=List.mem_filterMap.mp ha
  exact (gB s1 he hb).2.1
 have h0:cJ H0 (ju H (lL Z.g ρ.mu)):=fun b o e=>by
  rw [Ci fun hm=>by rw [hc0 b hm] at e; cases e]
  exact z.h0 b o e
 have z2:jj H0 Z0 Z' H':=⟨z'.zh,h0.trans z'.h0,z.z0.trans z'.z0,fun b o e=>by
  rcases z'.new b o e with e | e | e
  . exact z.new b o e
  . exact .inr (.inl (h0.free e))
  . exact .inr (.inr e)⟩
 have nog:∀ e∈(σ.zip ρ.vs++pd.map fun e=>((some e.1:Option V),(some e.2:Option Lc))),∀ a,jM e=some a->a∉lL Z.g ρ.mu/\ju H (lL Z.g ρ.mu) a=H a:=fun e he a ha=>by
  have hn:a∉lL Z.g ρ.mu:=fun hm=>(List.nodup_append.mp nd).2.2 a hm a (List.mem_filterMap.mpr ⟨e,he,ha⟩) rfl
  exact ⟨hn,Ci hn⟩
 have hk:∀ e∈(σ.zip ρ.vs++pd.map fun e=>((some e.1:Option V),(some e.2:Option Lc))),∀ a,jM e=some a->H' a=H a/\Z'.z a=none:=fun e he a ha=>by
  obtain ⟨h1,h2,o,h3,h4⟩:=gB s0 he ha
  obtain ⟨hn,ho⟩:=nog e he a ha
  have h5:=z'.h0 a o (by rw [ho]; exact h3)
  refine ⟨by rw [h3]; exact h5,?_⟩
  cases q:Z'.z a with
  | none=>rfl
  | some u=>
   rcases z'.new a u q with e | e | e
   . rw [h1] at e; cases e
   . rw [ho,h3] at e; cases e
   . have:=z'.zh a u q
     rw [h5] at this; cases this
     exact (h4 e).elim
 have s2:=s0.step z'.z0 hk
 have q':Slots K H0 Z' H' ((some v,some r)::cel Z'.g mu'):=by
  refine ⟨fun e he=>?_,q.2⟩
  have:=q.1 e he
  obtain ⟨w,l⟩:=e
  cases l with
  | none=>trivial
  | some l=>
   cases l with
   | sh p=>exact this
   | own p=>obtain ⟨a,e1,e2,e3,e4⟩:=this; exact ⟨a,e1,e2,e3,h0.free e4⟩
 have dis:∀ e∈((some v,some r)::cel Z'.g mu'),∀ a,jM e=some a->∀ e'∈(σ.zip ρ.vs++pd.map fun e=>((some e.1:Option V),(some e.2:Option Lc))),jM e'≠some a:=fun e he a ha e' he' ha'=>by
  obtain ⟨_,h2,_⟩:=gB q he ha
  obtain ⟨_,_,o,h3,_⟩:=gB s0 he' ha'
  rw [(nog e' he' a ha').2,h3] at h2; cases h2
 refine .mk (Z:=Z') el hg' z2 ?_
 refine ⟨fun e he=>?_,?_⟩
 . rcases List.mem_cons.mp he with rfl | he
   . exact q'.1 _ List.mem_cons_self
   . rcases List.mem_append.mp he with he | he
     . exact q'.1 _ (List.mem_cons_of_mem _ he)
     . exact s2.1 e he
 . show (((some v,some r)::(cel Z'.g mu'++(σ.zip ρ.vs++pd.map fun e=>(some e.1,some e.2)))).filterMap jM).Nodup
   rw [← List.cons_append,List.filterMap_append]
   refine List.nodup_append.mpr ⟨q'.2,s2.2,fun a ha b hb e=>?_⟩
   subst e
   obtain ⟨e1,he1,h1⟩:=List.mem_filterMap.mp ha
   obtain ⟨e2,he2,h2⟩:=List.mem_filterMap.mp hb
   exact dis e1 he1 a h1 e2 he2 h2
theorem Lw {n:Nat} {g:GF} {a:AF} {E:XK}:∀ σ H Q,(∃ H0 Z0 ρ pd r ρ',SR X.K H0 Z0 σ H ρ pd/\aM g a ρ=some (r,ρ')/\(∀ ls ρ1,a ρ=some (ls,ρ1)->ls.length=n)/\∀ v H',SR X.K H0 Z0 σ H' ρ' ((v,r)::pd)->Q v H')->G4 (bT X.K n g) [] E (jN X.K a) σ H Q:=fun σ H Q q=>by
 obtain ⟨H0,Z0,ρ,pd,r,ρ',s,h,hn,k⟩:=q
 obtain ⟨y,h1,h2⟩:=bind_some h
 obtain ⟨r',h3,h4⟩:=map_some h2
 cases h4
 refine ⟨H0,Z0,ρ,pd,y.1,y.2,s,h1,fun vs H2 e2 s2=>?_⟩
 obtain ⟨el,Z,hg,z,rl,sl'⟩:=s2.repl e2
 refine ⟨Z,y.1.map Lc.pv,y.2.mu,_,_,?_,hg,z.zh,?_,sl'.cells hg,h3,fun v H' rr=>k v H' (SR.called el hg z sl' rr)⟩
 . rw [List.append_nil,e2]; exact hn _ _ h1
 . rw [List.append_nil]; exact rl
end
section
variable {P:Program} {w:World} {K:FG} {mg:Str->Option Value} {base:Heap}
noncomputable def bA (K:FG) (mg:Str->Option Value) (x:Str) (st:Stmt) (ps:List Str):Prop:=∃ f fd,nR K x x st f fd/\mg x=some (.ref f)/\Binds K fd ps []
noncomputable def bM (P:Program) (w:World) (K:FG) (mg:Str->Option Value) (base:Heap) (x:Str) (k:Nat) (ps:List Str) (sp:Sp):Prop:=∃ f fd,gb P w K mg base oY k f fd ps sp/\mg x=some (.ref f)/\W.keepIn K (.ref f)=true/\Binds K fd ps []
noncomputable def env0 (n:Nat) (ps:List PV) (mu:Mu):Ev:=⟨ps.map (fun p=>some (Lc.sh p))++List.replicate (n-ps.length) none,mu⟩
noncomputable def cW (n:Nat) (g:SF):GF:=fun ps mu=>(g (env0 n ps mu)).bind fun x=>match x with
 | .rt r ρ=>some (r,ρ.mu)
 | .nx ρ=>some (.sh .non,ρ.mu)
 | _=>none
theorem Fd {Z:ZG} {L:Sl} (s:Slots K H0 Z H L):∀ {ps:List PV} {vs:List V},aJ K Z ps vs->Slots K H0 Z H ((vs.map some).zip (ps.map fun p=>some (Lc.sh p))++L)
 | [],vs,h=>by have:=h.inv0; subst this; simpa using s
 | p::ps,vs,h=>by
  obtain ⟨v,r,rfl,h1,h2⟩:=h.inv
  exact (Fd s h2).consS h1
theorem nones {Z:ZG} {L:Sl} (s:Slots K H0 Z H L):∀ n:Nat,Slots K H0 Z H ((List.replicate n (none:Option V)).zip (List.replicate n (none:Option Lc))++L)
 | 0=>s
 | n+1=>by
  rw [List.replicate_succ,List.replicate_succ,List.zip_cons_cons,List.cons_append]
  have ih:=nones s n
  refine ⟨fun e he=>?_,?_⟩
  . rcases List.mem_cons.mp he with rfl | he
    . trivial
    . exact ih.1 e he
  . rw [List.filterMap_cons_none rfl]; exact ih.2
theorem sV {H:Hp} {Z:ZG} {ps:List PV} {mu:Mu} {vs:List V} {N:List Str} (hg:mu.length=Z.g.length) (z:cJ Z.z H) (r:aJ K Z ps vs) (c:Slots K (ju H (lL Z.g mu)) Z H (cel Z.g mu)):SR K (ju H (lL Z.g mu)) Z (L2.start N vs) H (env0 N.length ps mu) []:=by
 have hl:=r.length
 refine ⟨by simp [L2.start,env0,hl],Z,hg,⟨z,fun b o e=>(PQ e).1,fP.refl _,fun b o e=>.inl e⟩,?_⟩
 unfold sl L2.start env0
 rw [List.zip_append (by simp [hl]),List.map_nil,List.append_nil,hl]
 exact (Fd (nones c _) r).perm ((List.perm_append_comm).trans (by rw [List.append_assoc]))
theorem bA.ok {x:Str} {st:Stmt} {N ps:List Str} {k:Nat} {g:GF} (F:bA K mg x st ps) (S:aV N ps (aq st))
 (h:∀ (f:Addr) (cdv:Value) (A:Around) (outer:List PySem.Env) (s:Shared) (H:Hp) (E:XK),bR k (A.deeper (envOfC x (aq st) s.heap.objs.size f cdv))->
   ∃ g':SF,(∀ a mu,g a mu=cW N.length g' a mu)/\dC (gH oY P w K mg base N x (aq st) f cdv A outer s H E).nox (aP st) (eG K g')):bM P w K mg base x (k+1) ps (bT K ps.length g):=by
 obtain ⟨f,fd,F,hm,hb⟩:=F
 refine ⟨f,fd,F.ok S (fun vs H Q E q=>?_) (fun cdv A outer s H vs Q E hr q=>?_),hm,F.kp,hb⟩
 . obtain ⟨Z,qs,mu,r,mu',e,_⟩:=q; exact e
 . obtain ⟨g',eg,b⟩:=h f cdv A outer s H E hr
   obtain ⟨Z,qs,mu,r,mu',e,hg,z,rl,c,hr',kk⟩:=q
   rw [eg] at hr'
   obtain ⟨fl,h1,h2⟩:=bind_some hr'
   refine ⟨_,b,ju H (lL Z.g mu),Z,_,[],fl,sV hg z rl c,h1,?_⟩
   cases fl with
   | rt r' ρ'=>
    cases h2
    intro v σ' H' s'
    obtain ⟨el,Z',hg',z',s''⟩:=s'.top
    refine kk v H' ⟨Z',hg',z',s''.sub ?_⟩
    exact (List.sublist_append_left _ _).cons_cons _
   | nx ρ'=>
    cases h2
    intro σ' H' s'
    obtain ⟨el,Z',hg',z',s''⟩:=s'
    exact kk .non H' ⟨Z',hg',z',(s''.sub (List.sublist_append_left _ _)).consS (rM _)⟩
   | bk ρ'=>cases h2
   | ct ρ'=>cases h2
end
section
variable {X:Cx}
theorem cA {x:Str} {k:Nat} {ps:List Str} {g:GF} {e:Expr} {es:List Expr} {a:AF} {p pos:Pos} (D:bM X.prog X.w X.K X.mg X.base x k ps (bT X.K ps.length g)) (hr:bR k X.A) (hg:Gl X x)
 (ha:PA X (e::es) (jN X.K a)) (hn:∀ ρ ls ρ1,a ρ=some (ls,ρ1)->ls.length=ps.length) (hdb:(x==("__debug__" : Str))=false:=by decide) (he:starEach (e::es) X.env=(false,eval e X.env)::starEach es X.env:=by rfl) (hpl:(backTo pos (starEach es X.env)).any (·.1)=false:=by rfl):PE X (.Call (.Name x p) (e::es) [] pos) (tP X.K (aM g a)):=by
 obtain ⟨f,fd,F,hm,hk,hb⟩:=D
 refine PE.imp (Et (E:=E0) F hr hg hm hk hb .nil G9 ha hdb he hpl) fun σ H Q q=>?_
 obtain ⟨H0,Z0,ρ,pd,r,ρ',s,h,kk⟩:=q
 exact Lw σ H Q ⟨H0,Z0,ρ,pd,r,ρ',s,h,fun ls ρ1 e=>hn ρ ls ρ1 e,kk⟩
section
variable {K:FG} {H0 H H':Hp} {Z0 Z:ZG} {σ:L2.St} {ρ:Ev} {pd pd':Pd} {v w:V} {l:Lc} {p:PV}
theorem SR.sub (h:SR K H0 Z0 σ H ρ pd') (q:List.Sublist pd pd'):SR K H0 Z0 σ H ρ pd:=
 let ⟨e,Z,hg,z,s⟩:=h
 ⟨e,Z,hg,z,s.sub ((List.Sublist.refl _).append ((List.Sublist.refl _).append (q.map _)))⟩
theorem SR.dup (h:SR K H0 Z0 σ H ρ ((v,.sh p)::pd)):SR K H0 Z0 σ H ρ ((v,.sh p)::(v,.sh p)::pd):=by
 obtain ⟨e,Z,hg,z,s⟩:=h.top
 obtain ⟨x,e1,e2⟩:=s.1 _ List.mem_cons_self
 cases e1
 exact .mk e hg z ((s.perm du).consS e2)
theorem SR.part {u:V} {q:PV} (h:SR K H0 Z0 σ H ρ ((v,.sh p)::pd)) (k:∀ Z:ZG,cJ Z.z H->Rep K Z p v->Rep K Z q u):SR K H0 Z0 σ H ρ ((u,.sh q)::(v,.sh p)::pd):=by
 obtain ⟨e,Z,hg,z,s⟩:=h.top
 obtain ⟨x,e1,e2⟩:=s.1 _ List.mem_cons_self
 cases e1
 exact .mk e hg z ((s.perm du).consS (k Z z.zh e2))
end
noncomputable abbrev BF:=PV->Ev->Option Ev
noncomputable def GS (K:FG) (g:TG) (b:BF):Prop:=∀ H0 Z0 σ H ρ pd v p ρ' Q,SR K H0 Z0 σ H ρ ((v,.sh p)::pd)->b p ρ=some ρ'->(∀ σ',SR K H0 Z0 σ' H ρ' pd->Q σ' H)->g v σ H Q
noncomputable abbrev Ck:=List PV->Ev->Option Ev
noncomputable def NQ (K:FG) (g:tX) (b:Ck):Prop:=∀ H0 Z0 σ H ρ pd vs ps ρ' Q,vs.length=ps.length->SR K H0 Z0 σ H ρ (vs.zip (ps.map Lc.sh)++pd)->b ps ρ=some ρ'->(∀ σ',SR K H0 Z0 σ' H ρ' pd->Q σ' H)->g vs σ H Q
noncomputable def au (i:Nat):BF:=fun p ρ=>if i<ρ.vs.length then some (ρ.set i (some (.sh p))) else none
theorem aO {i:Nat}:GS K (wB i) (au i):=by
 intro H0 Z0 σ H ρ pd v p ρ' Q s h k
 unfold au at h
 split at h
 . rename_i hl; cases h; exact k _ (s.store hl)
 . cases h
noncomputable def gK:Ck:=fun ps ρ=>match ps with
 | []=>some ρ
 | _=>none
noncomputable def bD (b:BF) (bs:Ck):Ck:=fun ps ρ=>match ps with
 | p::r=>(b p ρ).bind fun ρ1=>bs r ρ1
 | []=>none
theorem qm:NQ K Rf gK:=by
 intro H0 Z0 σ H ρ pd vs ps ρ' Q e s h k
 cases ps with
 | nil=>
  cases h
  have:vs=[]:=List.eq_nil_of_length_eq_zero (by simpa using e)
  subst this
  exact ⟨rfl,k σ s⟩
 | cons p r=>cases h
theorem gq {t:TG} {u:tX} {b:BF} {bs:Ck} (h1:GS K t b) (h2:NQ K u bs):NQ K (Nm t u) (bD b bs):=by
 intro H0 Z0 σ H ρ pd vs ps ρ' Q e s h k
 cases ps with
 | nil=>cases h
 | cons p r=>
  cases vs with
  | nil=>simp at e
  | cons v ws=>
   obtain ⟨ρ1,e1,e2⟩:=bind_some h
   refine ⟨v,ws,rfl,h1 H0 Z0 σ H ρ _ v p ρ1 _ s e1 fun σ' s'=>?_⟩
   exact h2 H0 Z0 σ' H ρ1 pd ws r ρ' Q (by simpa using e) s' e2 k
theorem JC {Z:ZG} {L:Sl} (s:Slots K H0 Z H L):∀ {ps:List PV} {vs:List V},aJ K Z ps vs->Slots K H0 Z H ((vs.zip (ps.map Lc.sh)).map (fun e=>(some e.1,some e.2))++L)
 | [],vs,h=>by have:=h.inv0; subst this; simpa using s
 | p::ps,vs,h=>by
  obtain ⟨v,r,rfl,h1,h2⟩:=h.inv
  exact (JC s h2).consS h1
theorem SR.items {Z0 Z:ZG} {vs:List V} {ps:List PV} (e:σ.length=ρ.vs.length) (hg:ρ.mu.length=Z.g.length) (z:jj H0 Z0 Z H) (r:aJ K Z ps vs) (s:Slots K H0 Z H (sl Z.g σ ρ pd)):SR K H0 Z0 σ H ρ (vs.zip (ps.map Lc.sh)++pd):=
 ⟨e,Z,hg,z,(JC s r).perm JB⟩
noncomputable def Hs (i j:Nat) (a:AF):SF:=fun ρ=>(a ρ).bind fun y=>match y.1 with
 | [l,m]=>if i<y.2.vs.length/\j<y.2.vs.length then some (.nx ((y.2.set i (some l)).set j (some m))) else none
 | _=>none
theorem R9 {i j:Nat} {x y:Str} {a b:Expr} {f:AF} {px py pt:Pos} {kt k2 pt2} {pos:Pos} (hc:X.calm=true) (hN:X.N.Nodup) (hi:X.N[i]?=some x) (hj:X.N[j]?=some y) (hij:i≠j)
 (h:PS X (.Assign [.Tuple [.Name x px,.Name y py] kt pt] (.Tuple [a,b] k2 pt2) pos) (Rj i j (jN X.K f))):PS X (.Assign [.Tuple [.Name x px,.Name y py] kt pt] (.Tuple [a,b] k2 pt2) pos) (eG X.K (Hs i j f)):=PS.imp h fun D σ H q=>by
 obtain ⟨H0,Z0,ρ,pd,fl,s,h,k⟩:=q
 obtain ⟨z,h1,h2⟩:=bind_some h
 refine ⟨H0,Z0,ρ,pd,z.1,z.2,s,h1,fun vs H1 e1 s1=>?_⟩
 split at h2
 . rename_i l m e
   split at h2
   . rename_i hl
     cases h2
     rw [e] at e1 s1
     obtain ⟨v,w,rfl⟩:=ln2 e1
     refine ⟨v,w,rfl,k _ _ ?_⟩
     exact SR.store (SR.store (v:=v) (l:=l) s1 hl.1 |>.perm (List.Perm.refl _)) (by rw [Ev.set_len]; exact hl.2)
   . cases h2
 . cases h2
noncomputable def oG (K:FG) (H0:Hp) (Z0:ZG) (pd:Pd) (J:It) (xs:List PV):Prop:=∀ σ H ρ (i:Nat),SR K H0 Z0 σ H ρ pd->
 (∀ x,xs[i]?=some x->J.go i H/\∀ v H',J.yld i H v H'->SR K H0 Z0 σ H' ρ ((v,.sh x)::pd))/\(i=xs.length->J.stop i H)
noncomputable abbrev IF:=Ev->Option (List PV×Ev)
noncomputable def Fe (K:FG) (f:IF):TI:=fun σ H R=>∃ H0 Z0 ρ pd xs ρ',SR K H0 Z0 σ H ρ pd/\f ρ=some (xs,ρ')/\∀ J H' pd',SR K H0 Z0 σ H' ρ' pd'->oG K H0 Z0 pd' J xs->List.Sublist pd pd'->R J H'
theorem PI.imp {tg iter:Expr} {t t':TI} (h:PI X tg iter t) (i:∀ σ H R,t' σ H R->t σ H R):PI X tg iter t':=fun pins s σ H R I q=>h pins s σ H R I (i σ H R q)
noncomputable def dG (f:EF) (g:PV->Option (List PV)):IF:=fun ρ=>(f ρ).bind fun x=>(g x.1.pv).map fun xs=>(xs,x.2)
theorem JD {H0:Hp} {a:Addr} {ps:List PV}:oG K H0 Z0 ((.ref a,.sh (.lst ps))::pd) (Np K a) ps:=by
 intro σ H ρ i s
 obtain ⟨Z,z,r⟩:=s.rep
 unfold Rep at r
 obtain ⟨b,vs,e,h1,h2⟩:=r
 cases e
 have hq:=b8.same z h1
 refine ⟨fun x hx=>?_,fun hl=>⟨vs,hq,by rw [h2.length]; omega⟩⟩
 obtain ⟨v,hv,rv⟩:=h2.get hx
 refine ⟨⟨vs,v,hq,hv⟩,fun v' H' y=>?_⟩
 obtain ⟨e',y⟩:=y
 subst e'
 have:=y vs hq
 rw [hv] at this; cases this
 refine s.part fun Z' z' r'=>?_
 unfold Rep at r'
 obtain ⟨b',vs',e',h1',h2'⟩:=r'
 cases e'
 have:vs'[i]?=some v:=y vs' (b8.same z' h1')
 obtain ⟨p',hp',rp'⟩:=h2'.getV this
 rw [hx] at hp'; cases hp'
 exact rp'
theorem Lx {H0:Hp} {a:Addr} {ps:List PV}:oG K H0 Z0 ((.ref a,.sh (.tup ps))::pd) (Nq K a) ps:=by
 intro σ H ρ i s
 obtain ⟨Z,z,r⟩:=s.rep
 unfold Rep at r
 obtain ⟨b,vs,e,h1,h2⟩:=r
 cases e
 have hq:=dj.same z h1
 refine ⟨fun x hx=>?_,fun hl=>⟨vs,hq,by rw [h2.length]; omega⟩⟩
 obtain ⟨v,hv,rv⟩:=h2.get hx
 refine ⟨⟨vs,v,hq,hv⟩,fun v' H' y=>?_⟩
 obtain ⟨e',y⟩:=y
 subst e'
 have:=y vs hq
 rw [hv] at this; cases this
 refine s.part fun Z' z' r'=>?_
 unfold Rep at r'
 obtain ⟨b',vs',e',h1',h2'⟩:=r'
 cases e'
 have:vs'[i]?=some v:=y vs' (dj.same z' h1')
 obtain ⟨p',hp',rp'⟩:=h2'.getV this
 rw [hx] at hp'; cases hp'
 exact rp'
noncomputable def cg (lo:Int) (n:Nat):List PV:=(List.range n).map fun i=>.int (lo+(i:Nat))
noncomputable def aU (a:AF):IF:=fun ρ=>(a ρ).bind fun y=>match y.1.map Lc.pv with
 | [.int j]=>if -(2 ^ 62)<=j/\j<2 ^ 62 then some (cg 0 j.toNat,y.2) else none
 | _=>none
theorem Ly {H0:Hp} {lo:Int} {n:Nat}:oG K H0 Z0 pd (Nr lo n) (cg lo n):=by
 intro σ H ρ i s
 refine ⟨fun x hx=>?_,fun hl=>?_⟩
 . have hi:i<n:=by
    have:=(List.getElem?_eq_some_iff.mp hx).1
    simpa [cg] using this
   refine ⟨hi,fun v H' y=>?_⟩
   obtain ⟨rfl,rfl⟩:=y
   unfold cg at hx
   rw [List.getElem?_map,List.getElem?_range hi] at hx
   cases hx
   exact s.scal dw
 . show n<=i
   simp [cg] at hl
   omega
theorem SR.ints {vs:List V} {ls:List Lc} {ns:List Int} (s:SR K H0 Z0 σ H ρ (vs.zip ls++pd)) (e:vs.length=ls.length) (h:ls.map Lc.pv=ns.map PV.int):vs=ns.map V.int/\SR K H0 Z0 σ H ρ pd:=by
 obtain ⟨el,Z,hg,z,r,sl'⟩:=s.repl e
 refine ⟨?_,el,Z,hg,z,sl'⟩
 rw [h] at r
 clear h e s sl'
 induction ns generalizing vs with
 | nil=>exact r.inv0
 | cons n ns ih=>
  obtain ⟨v,w,rfl,h1,h2⟩:=r.inv
  rw [bf h1,ih h2]
  rfl
theorem cI {tg a:Expr} {f:AF} {p pos:Pos} (hg:Gl X "range") (hm:X.mg "range" = none) (ha:PA X [a] (jN X.K f)) (hs:starEach [a] X.env=[(false,eval a X.env)]:=by rfl):PI X tg (.Call (.Name "range" p) [a] [] pos) (Fe X.K (aU f)):=PI.imp (IV hg hm ha hs) fun σ H R q=>by
 obtain ⟨H0,Z0,ρ,pd,xs,ρ',s,h,k⟩:=q
 obtain ⟨y,h1,h2⟩:=bind_some h
 refine ⟨H0,Z0,ρ,pd,y.1,y.2,s,h1,fun vs H1 e1 s1=>?_⟩
 split at h2
 . rename_i j e
   split at h2
   . rename_i hj
     cases h2
     obtain ⟨rfl,s2⟩:=s1.ints (ns:=[j]) e1 e
     exact ⟨j,rfl,hj.1,hj.2,k _ _ _ s2 Ly (List.Sublist.refl _)⟩
   . cases h2
 . cases h2
noncomputable def eX (b:BF) (body:SF):List PV->SF
 | [],ρ=>some (.nx ρ)
 | x::xs,ρ=>(b x ρ).bind fun ρ1=>(body ρ1).bind fun fl=>match fl with
  | .nx ρ'=>eX b body xs ρ'
  | .ct ρ'=>eX b body xs ρ'
  | .bk ρ'=>some (.nx ρ')
  | .rt r ρ'=>some (.rt r ρ')
noncomputable def d9 (f:IF) (b:BF) (body:SF):SF:=fun ρ=>(f ρ).bind fun y=>eX b body y.1 y.2
theorem uy {P:Prop} (h:∀ G:Prop,(P->G)->G):P:=h P id
noncomputable def FW (K:FG) (H0:Hp) (Z0:ZG) (pd:Pd) (b:BF) (fb:SF) (xs:List PV) (fl:Fl) (i m:Nat) (σ:L2.St) (H:Hp):Prop:=m=xs.length-i/\i<=xs.length/\∃ ρ,SR K H0 Z0 σ H ρ pd/\eX b fb (xs.drop i) ρ=some fl
theorem vY {g:TG} {b:BF} {fb:SF} (hb:GS K g b) {J:It} {xs:List PV} {fl:Fl} {D:Ends} (it:oG K H0 Z0 pd J xs) (k:rC K H0 Z0 pd D fl) (s:SR K H0 Z0 σ H ρ pd) (h:eX b fb xs ρ=some fl):
 ∃ W:Nat->Nat->L2.St->Hp->Prop,(∃ m,W 0 m σ H)/\∀ i m σ H,W i m σ H->
  (J.stop i H/\D.nx σ H)\/(J.go i H/\∃ N:L2.St->Hp->Prop,(∀ σ' H',N σ' H'->∃ m',m'<m/\W (i+1) m' σ' H')/\∀ x H',J.yld i H x H'->g x σ H' fun σ2 H2=>eG K fb { D with nx:=N,ct:=N,bk:=D.nx } σ2 H2):=by
 refine ⟨FW K H0 Z0 pd b fb xs fl,⟨_,rfl,Nat.zero_le _,ρ,s,h⟩,fun i m σ' H' w=>?_⟩
 refine uy fun G kG=>?_
 obtain ⟨rfl,hi,ρ',s',h'⟩:=w
 obtain ⟨i1,i2⟩:=it σ' H' ρ' i s'
 by_cases hlt:i<xs.length
 . obtain ⟨go,yl⟩:=i1 _ (List.getElem?_eq_getElem hlt)
   rw [List.drop_eq_getElem_cons hlt] at h'
   obtain ⟨ρ1,e1,e2⟩:=bind_some h'
   obtain ⟨fl1,e3,e4⟩:=bind_some e2
   refine kG (.inr ⟨go,fun σ'' H''=>FW K H0 Z0 pd b fb xs fl (i+1) (xs.length-(i+1)) σ'' H'',fun σ'' H'' w=>⟨_,by omega,w⟩,fun x H2 hy=>hb H0 Z0 σ' H2 ρ' pd x _ ρ1 _ (yl x H2 hy) e1 fun σ2 s2=>⟨H0,Z0,ρ1,pd,fl1,s2,e3,?_⟩⟩)
   cases fl1 with
   | nx ρ2=>exact fun σ3 H3 s3=>⟨rfl,hlt,ρ2,s3,e4⟩
   | ct ρ2=>exact fun σ3 H3 s3=>⟨rfl,hlt,ρ2,s3,e4⟩
   | bk ρ2=>cases e4; exact k
   | rt r ρ2=>cases e4; exact k
 . have e:i=xs.length:=Nat.le_antisymm hi (Nat.le_of_not_lt hlt)
   subst e
   rw [List.drop_length] at h'
   cases h'
   exact kG (.inl ⟨i2 rfl,k σ' H' s'⟩)
theorem rC.imp {H0:Hp} {Z0 Z₁:ZG} {pd pd':Pd} {D:Ends} {fl:Fl} (k:rC K H0 Z0 pd D fl) (w:∀ {τ:L2.St} {J:Hp} {q:Ev},SR K H0 Z₁ τ J q pd'->SR K H0 Z0 τ J q pd) (w':∀ {τ:L2.St} {J:Hp} {q:Ev} {e:V×Lc},SR K H0 Z₁ τ J q (e::pd')->SR K H0 Z0 τ J q (e::pd)):rC K H0 Z₁ pd' D fl:=by
 cases fl with
 | rt r ρ=>exact fun v σ H s=>k v σ H (w' s)
 | _=>exact fun σ H s=>k σ H (w s)
theorem gD {tg iter:Expr} {body:List Stmt} {f:IF} {g:TG} {b:BF} {fb:SF} {pos:Pos} (hp:PassesOwn (model X.prog X.w) X.A X.env X.xe) (hc:X.calm=true) (hi:PI X tg iter (Fe X.K f)) (hg:PG X tg g) (hb':GS X.K g b) (hb:dC X body (eG X.K fb))
 (hs:∀ x,foldedSetIterable iter X.env x=pure x:=by intro _; rfl):PS X (.For tg iter body [] pos) (eG X.K (d9 f b fb)):=PS.imp (Bt hp hc hi hg hb hs) fun D σ H q=>by
 refine uy fun G kG=>?_
 obtain ⟨H0,Z0,ρ,pd,fl,s,h,k⟩:=q
 obtain ⟨y,h1,h2⟩:=bind_some h
 exact kG ⟨H0,Z0,ρ,pd,y.1,y.2,s,h1,fun J H1 pd' s1 it sub=>vY hb' it (k.imp (fun s=>s.sub sub) fun s=>s.sub (sub.cons_cons _)) s1 h2⟩
noncomputable def lN (c:TF) (body:SF):Nat->SF
 | 0,_=>none
 | n+1,ρ=>(c ρ).bind fun x=>if x.1=true then (body x.2).bind fun fl=>match fl with
  | .nx ρ'=>lN c body n ρ'
  | .ct ρ'=>lN c body n ρ'
  | .bk ρ'=>some (.nx ρ')
  | .rt r ρ'=>some (.rt r ρ') else some (.nx x.2)
noncomputable def wQ (n:Nat) (c:TF) (body:SF):SF:=lN c body n
theorem vZ (n:Nat) {c:Expr} {body:List Stmt} {fc:TF} {fb:SF} {pos:Pos} (hp:PassesOwn (model X.prog X.w) X.A X.env X.xe) (hc:PT X c (gC X.K fc)) (hb:dC X body (eG X.K fb)):PS X (.While c body [] pos) (eG X.K (wQ n fc fb)):=PS.imp (KC hp hc hb) fun D σ H q=>by
 obtain ⟨H0,Z0,ρ,pd,fl,s,h,k⟩:=q
 refine ⟨fun m σ' H'=>∃ ρ',SR X.K H0 Z0 σ' H' ρ' pd/\lN fc fb m ρ'=some fl,⟨n,ρ,s,h⟩,?_⟩
 rintro m σ' H' ⟨ρ',s',h'⟩
 cases m with
 | zero=>cases h'
 | succ m=>
  obtain ⟨x,e1,e2⟩:=bind_some h'
  refine ⟨H0,Z0,ρ',pd,x.1,x.2,s',e1,fun H1 s1=>?_⟩
  dsimp only
  split
  . rename_i hx
    rw [if_pos hx] at e2
    obtain ⟨fl1,e3,e4⟩:=bind_some e2
    refine ⟨fun σ'' H''=>∃ ρ'',SR X.K H0 Z0 σ'' H'' ρ'' pd/\lN fc fb m ρ''=some fl,fun σ'' H'' q=>⟨m,Nat.lt_succ_self _,q⟩,H0,Z0,x.2,pd,fl1,s1,e3,?_⟩
    cases fl1 with
    | nx ρ2=>exact fun σ3 H3 s3=>⟨ρ2,s3,e4⟩
    | ct ρ2=>exact fun σ3 H3 s3=>⟨ρ2,s3,e4⟩
    | bk ρ2=>cases e4; exact fun σ3 H3 s3=>k σ3 H3 s3
    | rt r ρ2=>cases e4; exact fun v σ3 H3 s3=>k v σ3 H3 s3
  . rename_i hx
    rw [if_neg hx] at e2
    cases e2
    exact k σ' H1 s1
end
section
variable {K:FG} {H0 H H':Hp} {Z0 Z:ZG} {σ:L2.St} {ρ:Ev} {pd pe:Pd} {v w:V} {l:Lc} {p:PV} {g:List Addr}
noncomputable def Ev.app (ρ:Ev) (pe:Pd):Ev:=⟨ρ.vs++pe.map (fun x=>some x.2),ρ.mu⟩
theorem Cm (e:σ.length=ρ.vs.length):sl g (σ++pe.map fun x=>some x.1) (ρ.app pe) pd=sl g σ ρ (pe++pd):=by
 unfold sl Ev.app
 rw [List.zip_append e,List.map_append,List.append_assoc]
 congr 3
 induction pe with
 | nil=>rfl
 | cons a r ih=>simp [ih]
theorem SR.shift (h:SR K H0 Z0 σ H ρ (pe++pd)):SR K H0 Z0 (σ++pe.map fun x=>some x.1) H (ρ.app pe) pd:=by
 obtain ⟨e,Z,hg,z,s⟩:=h
 refine ⟨by simp [Ev.app,e],Z,hg,z,?_⟩
 rw [Cm e]
 exact s
theorem SR.unshift (e:σ.length=ρ.vs.length) (h:SR K H0 Z0 (σ++pe.map fun x=>some x.1) H (ρ.app pe) pd):SR K H0 Z0 σ H ρ (pe++pd):=by
 obtain ⟨_,Z,hg,z,s⟩:=h
 refine ⟨e,Z,hg,z,?_⟩
 rw [Cm e] at s
 exact s
theorem oG.more {J:It} {xs:List PV} (h:oG K H0 Z0 pd J xs):oG K H0 Z0 (pe++pd) J xs:=by
 intro σ H ρ i s
 obtain ⟨h1,h2⟩:=h _ H _ i s.shift
 refine ⟨fun x hx=>?_,h2⟩
 obtain ⟨g,y⟩:=h1 x hx
 refine ⟨g,fun v H' q=>?_⟩
 have s':=y v H' q
 have e:σ.length=ρ.vs.length:=s.1
 have s2:SR K H0 Z0 (σ++pe.map fun x=>some x.1) H' (ρ.app pe) ((v,.sh x)::pd):=s'
 exact (SR.unshift e s2).perm (pd':=(v,.sh x)::(pe++pd)) List.perm_middle.symm
noncomputable def pG (σ:L2.St) (ρ:Ev):Pd:=(σ.zip ρ.vs).filterMap fun e=>match e with
 | (some v,some l)=>some (v,l)
 | _=>none
theorem sW:∀ {L:Sl},(∀ e∈L,e.2=none\/∃ v l,e=(some v,some l))->∀ {T:Sl},
 (Slots K H0 Z H (L++T) ↔ Slots K H0 Z H ((L.filterMap fun e=>match e with | (some v,some l)=>some (v,l) | _=>none).map (fun e=>((some e.1:Option V),(some e.2:Option Lc)))++T))
 | [],_,T=>by simp
 | (v,l)::L,h,T=>by
  have h':∀ e∈L,e.2=none\/∃ v l,e=(some v,some l):=fun e he=>h e (List.mem_cons_of_mem _ he)
  rcases h (v,l) List.mem_cons_self with e | ⟨v',l',e⟩
  . have e':l=none:=e
    subst e'
    have e1:((v,(none:Option Lc))::L).filterMap (fun e=>match e with | (some v,some l)=>some (v,l) | _=>none)=L.filterMap (fun e=>match e with | (some v,some l)=>some (v,l) | _=>none):=by
     rw [List.filterMap_cons_none]
     cases v<;>rfl
    rw [e1,← sW h' (T:=T)]
    have o1:jM (v,none)=none:=by
     cases v with
     | none=>rfl
     | some x=>cases x<;>rfl
    constructor
    . exact fun s=>s.sub (List.sublist_cons_self _ _)
    . intro s
      refine ⟨fun e he=>?_,?_⟩
      . rcases List.mem_cons.mp he with rfl | he
        . trivial
        . exact s.1 e he
      . rw [List.cons_append,List.filterMap_cons_none o1]
        exact s.2
  . cases e
    have e1:((some v',some l')::L).filterMap (fun e=>match e with | (some v,some l)=>some (v,l) | _=>none)=(v',l')::L.filterMap (fun e=>match e with | (some v,some l)=>some (v,l) | _=>none):=by
     rfl
    rw [e1]
    have ih1:=sW h' (T:=T++[(some v',some l')])
    have perm1:∀ A:Sl,List.Perm ((some v',some l')::(A++T)) (A++(T++[(some v',some l')])):=fun A=>by
     rw [← List.append_assoc]
     exact (List.perm_append_singleton _ _).symm
    constructor
    . intro s
      exact (ih1.mp (s.perm (perm1 L).symm)).perm (perm1 _)
    . intro s
      exact (ih1.mpr (s.perm (perm1 _).symm)).perm (perm1 L)
theorem SR.both (s:SR K H0 Z0 σ H ρ pd):∀ e∈σ.zip ρ.vs,e.2=none\/∃ v l,e=(some v,some l):=by
 obtain ⟨_,Z,_,z,s⟩:=s
 intro e he
 have q:=s.1 e (List.mem_append_right _ (List.mem_append_left _ he))
 obtain ⟨v,l⟩:=e
 cases l with
 | none=>exact .inl rfl
 | some l=>
  cases l with
  | sh p=>obtain ⟨x,e1,_⟩:=q; have e1':v=some x:=e1; subst e1'; exact .inr ⟨_,_,rfl⟩
  | own p=>obtain ⟨x,e1,_⟩:=q; have e1':v=some (.ref x):=e1; subst e1'; exact .inr ⟨_,_,rfl⟩
theorem zW (hb:∀ e∈σ.zip ρ.vs,e.2=none\/∃ v l,e=(some v,some l)):Slots K H0 Z H (sl g σ ρ pd) ↔ Slots K H0 Z H (cel g ρ.mu++(pG σ ρ++pd).map fun e=>(some e.1,some e.2)):=by
 have h1:=sW (K:=K) (H0:=H0) (Z:=Z) (H:=H) hb (T:=(pd.map fun e=>(some e.1,some e.2))++cel g ρ.mu)
 have c1:List.Perm (sl g σ ρ pd) (σ.zip ρ.vs++((pd.map fun e=>(some e.1,some e.2))++cel g ρ.mu)):=by
  unfold sl
  rw [← List.append_assoc (σ.zip ρ.vs)]
  exact List.perm_append_comm
 have c2:List.Perm (cel g ρ.mu++(pG σ ρ++pd).map fun e=>((some e.1:Option V),(some e.2:Option Lc))) ((pG σ ρ).map (fun e=>(some e.1,some e.2))++((pd.map fun e=>(some e.1,some e.2))++cel g ρ.mu)):=by
  rw [List.map_append,← List.append_assoc ((pG σ ρ).map _)]
  exact List.perm_append_comm
 exact ⟨fun s=>(h1.mp (s.perm c1.symm)).perm c2,fun s=>(h1.mpr (s.perm c2.symm)).perm c1⟩
theorem SR.back {σ':L2.St} {ρ':Ev} (el:σ.length=ρ.vs.length) (hb:∀ e∈σ.zip ρ.vs,e.2=none\/∃ v l,e=(some v,some l)) (s:SR K H0 Z0 σ' H ρ' (pG σ ρ++pd)):SR K H0 Z0 σ H ⟨ρ.vs,ρ'.mu⟩ pd:=by
 obtain ⟨_,Z,hg,z,s⟩:=s
 refine ⟨el,Z,hg,z,(zW (ρ:=⟨ρ.vs,ρ'.mu⟩) hb).mpr ?_⟩
 exact s.sub ((List.Sublist.refl _).append (List.sublist_append_right _ _))
noncomputable def jl (ixs:List Nat) (ρ:Ev):Ev:=ixs.foldl (fun ρ i=>match ρ.vs[i]? with
 | some (some l)=>ρ.set i (some (.sh l.pv))
 | _=>ρ) ρ
theorem SR.frz:∀ {ixs:List Nat} {ρ:Ev},SR K H0 Z0 σ H ρ pd->SR K H0 Z0 σ H (jl ixs ρ) pd
 | [],ρ,s=>s
 | i::r,ρ,s=>by
  unfold jl
  rw [List.foldl_cons]
  refine SR.frz (ixs:=r) ?_
  split
  . rename_i l e
    obtain ⟨v,_,h2⟩:=s.var e
    exact h2.pop
  . exact s
noncomputable def v4:Option Lc->Bool
 | some (.own _)=>false
 | _=>true
theorem Cp {j:Nat}:∀ {ixs:List Nat} {ρ:Ev},v4 (ρ.vs[j]?).join=true->v4 ((jl ixs ρ).vs[j]?).join=true
 | [],ρ,h=>h
 | i::r,ρ,h=>by
  unfold jl
  rw [List.foldl_cons]
  refine Cp (ixs:=r) ?_
  split
  . rename_i l e
    by_cases hij:i=j
    . subst hij
      have hi:=(List.getElem?_eq_some_iff.mp e).1
      show v4 ((ρ.vs.set i _)[i]?).join=true
      rw [List.getElem?_set_self hi]
      rfl
    . show v4 ((ρ.vs.set i _)[j]?).join=true
      rw [List.getElem?_set_ne hij]; exact h
  . exact h
theorem JG {j:Nat}:∀ {ixs:List Nat} {ρ:Ev},j∈ixs->v4 ((jl ixs ρ).vs[j]?).join=true
 | [],ρ,h=>by cases h
 | i::r,ρ,h=>by
  unfold jl
  rw [List.foldl_cons]
  rcases List.mem_cons.mp h with e | h
  . subst e
    refine Cp (ixs:=r) ?_
    split
    . rename_i l e
      have hi:=(List.getElem?_eq_some_iff.mp e).1
      show v4 ((ρ.vs.set j _)[j]?).join=true
      rw [List.getElem?_set_self hi]
      rfl
    . rename_i hn
      cases q:ρ.vs[j]? with
      | none=>rfl
      | some o=>
       cases o with
       | none=>rfl
       | some l=>exact (hn l q).elim
  . exact JG h
noncomputable def qt (m:Nat) (ixs:List Nat) (ρ:Ev):Ev:=⟨List.replicate m none++ixs.map fun i=>(ρ.vs[i]?).join,ρ.mu⟩
theorem SR.block {m:Nat} {ixs:List Nat} (s:SR K H0 Z0 σ H ρ pd) (hs:∀ j∈ixs,v4 (ρ.vs[j]?).join=true):SR K H0 Z0 (uq m ixs σ) H (qt m ixs ρ) (pG σ ρ++pd):=by
 have hb:=s.both
 obtain ⟨el,Z,hg,z,so⟩:=s
 refine ⟨by simp [uq,qt],Z,hg,z,?_⟩
 have s3:=(zW hb).mp so
 have fin:Slots K H0 Z H ((ixs.map fun i=>(σ[i]?).join).zip (ixs.map fun i=>(ρ.vs[i]?).join)++(cel Z.g ρ.mu++(pG σ ρ++pd).map fun e=>(some e.1,some e.2)))->Slots K H0 Z H (sl Z.g (uq m ixs σ) (qt m ixs ρ) (pG σ ρ++pd)):=fun h=>by
  unfold sl uq qt
  rw [List.zip_append (by simp),List.append_assoc]
  refine (nones h m).perm ?_
  exact (Bg _ _ _).trans ((Bg _ _ _).append_left _)
 refine fin ?_
 clear fin
 induction ixs with
 | nil=>simpa using s3
 | cons i r ih=>
  have ih':=ih fun j hj=>hs j (List.mem_cons_of_mem _ hj)
  rw [List.map_cons,List.map_cons,List.zip_cons_cons,List.cons_append]
  have h1:=hs i List.mem_cons_self
  cases q:ρ.vs[i]? with
  | none=>
   refine ⟨fun e he=>?_,?_⟩
   . rcases List.mem_cons.mp he with rfl | he
     . trivial
     . exact ih'.1 e he
   . rw [List.filterMap_cons_none]
     . exact ih'.2
     . cases (σ[i]?).join with
       | none=>rfl
       | some x=>cases x<;>rfl
  | some o=>
   cases o with
   | none=>
    refine ⟨fun e he=>?_,?_⟩
    . rcases List.mem_cons.mp he with rfl | he
      . trivial
      . exact ih'.1 e he
    . rw [List.filterMap_cons_none]
      . exact ih'.2
      . cases (σ[i]?).join with
        | none=>rfl
        | some x=>cases x<;>rfl
   | some l=>
    rw [q] at h1
    cases l with
    | own p=>cases h1
    | sh p=>
     have hi:i<σ.length:=by rw [el]; exact (List.getElem?_eq_some_iff.mp q).1
     have hσ:σ[i]?=some σ[i]:=List.getElem?_eq_getElem hi
     have hm:=List.mem_of_getElem? (zip_get hσ q)
     obtain ⟨x,e1,e2⟩:=so.1 _ (List.mem_append_right _ (List.mem_append_left _ hm))
     have e1':σ[i]=some x:=e1
     have ej:(σ[i]?).join=some x:=by rw [hσ,e1']; rfl
     rw [ej]
     exact ih'.consS e2
end
theorem SR.pushO {v:V} {l:Lc} {a:Addr} {ws:List PV} (s:SR K H0 Z0 σ H ρ ((v,l)::(.ref a,.own (.lst ws))::pd)):
 ∃ us,H a=some (.lst us)/\us.length=ws.length/\SR K H0 Z0 σ (upd H a (.lst (us++[v]))) ρ ((.ref a,.own (.lst (ws++[l.pv])))::pd):=by
 obtain ⟨el,Z,hg,z,r,so⟩:=s.freeze.sh
 have so2:=so.perm du.symm
 obtain ⟨b,eb,⟨us,hu,hr⟩,_⟩:=so2.1 _ List.mem_cons_self
 cases eb
 refine ⟨us,hu,hr.length,?_⟩
 obtain ⟨z',s'⟩:=so2.write (o:=.lst (us++[v])) (q:=.lst (ws++[l.pv])) z ⟨us++[v],bC,hr.append (aJ.cons r .nil)⟩
 exact .mk el hg z' s'
noncomputable def dH (b:BF) (tc:TF) (te:EF):List PV->Ev->List PV->Option (List PV×Mu)
 | [],ρ,acc=>some (acc,ρ.mu)
 | x::xs,ρ,acc=>(b x ρ).bind fun ρ1=>(tc ρ1).bind fun c=>if c.1=true then (te c.2).bind fun v=>if acc.length<100000 then dH b tc te xs v.2 (acc++[v.1.pv]) else none else dH b tc te xs c.2 acc
noncomputable def bh (f:IF) (m:Nat) (ixs:List Nat) (b:BF) (tc:TF) (te:EF):EF:=fun ρ=>(f ρ).bind fun y=>(dH b tc te y.1 (qt m ixs (jl ixs y.2)) []).map fun ys=>(.own (.lst ys.1),⟨(jl ixs y.2).vs,ys.2⟩)
noncomputable def CW (K:FG) (H0:Hp) (Z0:ZG) (b:BF) (tc:TF) (te:EF) (p:Addr) (PD:Pd) (xs:List PV) (zs:List PV×Mu) (i n:Nat) (σ':L2.St) (H':Hp):Prop:=
 n=xs.length-i/\i<=xs.length/\∃ ρi ws,SR K H0 Z0 σ' H' ρi ((.ref p,.own (.lst ws))::PD)/\dH b tc te (xs.drop i) ρi ws=some zs
theorem JH {g:TG} {b:BF} {tc:TF} {te:EF} (hb:GS K g b) {H0:Hp} {p:Addr} {PD:Pd} {J:It} {xs:List PV} {zs:List PV×Mu} {Q:VK}
 (it:∀ ws,oG K H0 Z0 ((.ref p,.own (.lst ws))::PD) J xs) (fin:∀ σ' H' ρi ws,SR K H0 Z0 σ' H' ρi ((.ref p,.own (.lst ws))::PD)->dH b tc te [] ρi ws=some zs->Q (.ref p) H') (i n:Nat) (σ':L2.St) (H':Hp) (w:CW K H0 Z0 b tc te p PD xs zs i n σ' H'):
 (J.stop i H'/\Q (.ref p) H')\/(J.go i H'/\∀ x H2,J.yld i H' x H2->g x σ' H2 fun σ3 H3=>gC K tc σ3 H3 fun b' H4=>
   if b'=true then tP K te σ3 H4 fun v H5=>∃ ys,H5 p=some (.lst ys)/\ys.length<sizeLine/\∃ n',n'<n/\CW K H0 Z0 b tc te p PD xs zs (i+1) n' σ3 (upd H5 p (.lst (ys++[v])))
   else ∃ n',n'<n/\CW K H0 Z0 b tc te p PD xs zs (i+1) n' σ3 H4):=by
 refine uy fun G kG=>?_
 obtain ⟨rfl,hi,ρi,ws,s',h'⟩:=w
 obtain ⟨i1,i2⟩:=it ws σ' H' ρi i s'
 by_cases hlt:i<xs.length
 . obtain ⟨go,yl⟩:=i1 _ (List.getElem?_eq_getElem hlt)
   rw [List.drop_eq_getElem_cons hlt] at h'
   obtain ⟨ρ1,e1,e2⟩:=bind_some h'
   obtain ⟨c,e3,e4⟩:=bind_some e2
   have hn:xs.length-(i+1)<xs.length-i:=by omega
   refine kG (.inr ⟨go,fun x H2 hy=>hb H0 Z0 σ' H2 ρi _ x _ ρ1 _ (yl x H2 hy) e1 fun σ2 s5=>⟨H0,Z0,ρ1,_,c.1,c.2,s5,e3,fun H4 s6=>?_⟩⟩)
   dsimp only
   split
   . rename_i hc
     refine uy fun G kG=>?_
     rw [if_pos hc] at e4
     obtain ⟨v,e5,e6⟩:=bind_some e4
     split at e6
     . rename_i hz
       refine kG ⟨H0,Z0,c.2,_,v.1,v.2,s6,e5,fun vv H5 s7=>?_⟩
       refine uy fun G kG=>?_
       obtain ⟨us,hu,hl,s8⟩:=s7.pushO
       exact kG ⟨us,hu,by rw [hl,sizeLine_eq]; omega,_,hn,rfl,hlt,v.2,_,s8,e6⟩
     . cases e6
   . rename_i hc
     rw [if_neg hc] at e4
     exact ⟨_,hn,rfl,hlt,c.2,ws,s6,e4⟩
 . have e:i=xs.length:=Nat.le_antisymm hi (Nat.le_of_not_lt hlt)
   subst e
   rw [List.drop_length] at h'
   exact kG (.inl ⟨i2 rfl,fin _ _ _ _ s' h'⟩)
theorem Cq {f:IF} {m:Nat} {ixs:List Nat} {g:TG} {b:BF} {tc:TF} {te:EF} (hb:GS K g b):∀ σ H Q,tP K (bh f m ixs b tc te) σ H Q->Hf (Fe K f) m ixs g (gC K tc) (tP K te) σ H Q:=fun σ H Q q=>by
 refine uy fun G kG=>?_
 obtain ⟨H0,Z0,ρ,pd,r,ρ',s,h,k⟩:=q
 obtain ⟨y,h1,h2⟩:=bind_some h
 obtain ⟨zs,h3,h4⟩:=map_some h2
 cases h4
 refine kG ⟨H0,Z0,ρ,pd,y.1,y.2,s,h1,fun J H1 pd' s1 it sub p hp=>?_⟩
 have s2:SR K H0 Z0 σ H1 (jl ixs y.2) pd':=s1.frz
 have s3:=s2.block (m:=m) (ixs:=ixs) fun j hj=>JG hj
 have s4:SR K H0 Z0 (uq m ixs σ) (upd H1 p (.lst [])) (qt m ixs (jl ixs y.2)) ((.ref p,.own (.lst []))::(pG σ (jl ixs y.2)++pd')):=s3.newO hp fun Z _ _=>⟨[],bC,.nil⟩
 refine ⟨CW K H0 Z0 b tc te p (pG σ (jl ixs y.2)++pd') y.1 zs,⟨_,rfl,Nat.zero_le _,_,[],s4,h3⟩,JH hb (fun ws=>oG.more (pe:=(.ref p,.own (.lst ws))::pG σ (jl ixs y.2)) it) fun σ' H' ρi ws s' h'=>?_⟩
 cases h'
 have s5:SR K H0 Z0 σ' H' ρi (pG σ (jl ixs y.2)++((.ref p,.own (.lst ws))::pd')):=s'.perm List.perm_middle
 exact k _ _ ((SR.back s2.1 s2.both s5).sub (sub.cons_cons _))
section
variable {X:Cx}
theorem jm (M F:List Str) (ixs:List Nat) {sc:Scope} {tg iter elt:Expr} {ifs:List Expr} {f:IF} {g:TG} {b:BF} {tc:TF} {te:EF} {pos:Pos} (hcalm:X.calm=true) (c:ig X M F ixs sc) (hi:PI X tg iter (Fe X.K f))
 (hg:∀ C fp s H,PG (eF X M F sc C fp s H) tg g) (hb:GS X.K g b) (hc:∀ C fp s H,rA (eF X M F sc C fp s H) ifs (gC X.K tc)) (he:∀ C fp s H,PE (eF X M F sc C fp s H) elt (tP X.K te))
 (hs:∀ x,foldedSetIterable iter X.env x=pure x:=by intro _; rfl):PE X (.ListComp elt [⟨tg,iter,ifs,0⟩] sc pos) (tP X.K (bh f M.length ixs b tc te)):=PE.imp (Ph M F ixs hcalm c hi hg hc he hs) (Cq hb)
theorem oH {i:Nat} (M F:List Str) (ixs:List Nat) {x:Str} {sc:Scope} {tg iter elt:Expr} {ifs:List Expr} {f:IF} {g:TG} {b:BF} {tc:TF} {te:EF} {pos pos' pos2:Pos} (hN:X.N.Nodup) (hix:X.N[i]?=some x) (hx:X.env.scope.names.lookup x=some .local)
 (hcalm:X.calm=true) (c:ig X M F ixs sc) (hi:PI X tg iter (Fe X.K f))
 (hg:∀ C fp s H,PG (eF X M F sc C fp s H) tg g) (hb:GS X.K g b) (hc:∀ C fp s H,rA (eF X M F sc C fp s H) ifs (gC X.K tc)) (he:∀ C fp s H,PE (eF X M F sc C fp s H) elt (tP X.K te))
 (hsw:swapsWith (.ListComp elt [⟨tg,iter,ifs,0⟩] sc pos) (some (.Name x pos')) pos2.line X.env=pure true:=by rfl)
 (hs:∀ x,foldedSetIterable iter X.env x=pure x:=by intro _; rfl):PS X (.Assign [.Name x pos'] (.ListComp elt [⟨tg,iter,ifs,0⟩] sc pos) pos2) (eG X.K (aL i (bh f M.length ixs b tc te))):=
 PS.imp (Pj M F ixs hN hix hx hcalm c hi hg hc he hsw hs) (Fb fun D σ H q=>Cq hb σ H _ q)
noncomputable def bw:TF:=fun ρ=>some (true,ρ)
theorem fU:rA X [] (gC X.K bw):=fun pins s σ H Q I q=>Lf pins s σ H Q I (by
 obtain ⟨H0,Z0,ρ,pd,b,ρ',s,h,k⟩:=q
 cases h
 exact k H s)
theorem je {c:Expr} {f:TF} (h:PT X c (gC X.K f)):rA X [c] (gC X.K f):=Lg h
end
noncomputable def qu (f:PV->PV->Option Bool):List PV->List PV->Option Bool
 | p::ps,q::qs=>(f p q).bind fun b=>(qu f ps qs).map fun c=>b&&c
 | _,_=>some true
noncomputable def bF:Nat->PV->PV->Option Bool
 | 0,_,_=>none
 | n+1,p,q=>match p,q with
  | .tup ps,.tup qs=>(qu (bF n) ps qs).map fun b=>b&&(ps.length==qs.length)
  | .lst ps,.lst qs=>if ps.length=qs.length then qu (bF n) ps qs else some false
  | .non,.non=>some true
  | .bl a,.bl b=>some (a==b)
  | .int a,.int b=>some (a==b)
  | .str a,.str b=>some (a==b)
  | .bl a,.int b=>some ((if a then 1 else 0)==b)
  | .int a,.bl b=>some (a==(if b then 1 else 0))
  | .non,.bl _=>some false
  | .non,.int _=>some false
  | .non,.str _=>some false
  | .non,.tup _=>some false
  | .non,.lst _=>some false
  | .bl _,.non=>some false
  | .bl _,.str _=>some false
  | .bl _,.tup _=>some false
  | .bl _,.lst _=>some false
  | .int _,.non=>some false
  | .int _,.str _=>some false
  | .int _,.tup _=>some false
  | .int _,.lst _=>some false
  | .str _,.non=>some false
  | .str _,.bl _=>some false
  | .str _,.int _=>some false
  | .str _,.tup _=>some false
  | .str _,.lst _=>some false
  | .tup _,.non=>some false
  | .tup _,.bl _=>some false
  | .tup _,.int _=>some false
  | .tup _,.str _=>some false
  | .tup _,.lst _=>some false
  | .lst _,.non=>some false
  | .lst _,.bl _=>some false
  | .lst _,.int _=>some false
  | .lst _,.str _=>some false
  | .lst _,.tup _=>some false
  | _,_=>none
theorem u0 {f:PV->PV->Option Bool}:∀ {ps qs:List PV} {b:Bool},qu f ps qs=some b->(∀ (j:Nat) p q,ps[j]?=some p->qs[j]?=some q->f p q=some ((f (ps.getD j .non) (qs.getD j .non)).getD false))/\
 b=(List.range (min ps.length qs.length)).all fun j=>(f (ps.getD j .non) (qs.getD j .non)).getD false
 | [],qs,b,h=>by
  cases h
  exact ⟨fun j p q e=>by simp at e,by simp⟩
 | p::ps,[],b,h=>by
  cases h
  exact ⟨fun j p q _ e=>by simp at e,by simp⟩
 | p::ps,q::qs,b,h=>by
  obtain ⟨c,h1,h2⟩:=bind_some h
  obtain ⟨d,h3,rfl⟩:=map_some h2
  obtain ⟨i1,i2⟩:=u0 h3
  refine ⟨fun j p' q' e1 e2=>?_,?_⟩
  . cases j with
    | zero=>
     simp at e1 e2
     subst e1 e2
     simp [h1]
    | succ j=>
     have:=i1 j p' q' (by simpa using e1) (by simpa using e2)
     simpa using this
  . have e:min (p::ps).length (q::qs).length=min ps.length qs.length+1:=by simp only [List.length_cons]; omega
    rw [e,List.range_succ_eq_map,List.all_cons,List.all_map]
    have e0:(f ((p::ps).getD 0 .non) ((q::qs).getD 0 .non)).getD false=c:=by simp [h1]
    rw [e0,i2]
    rfl
theorem elts {Z:ZG} {ps:List PV} {vs:List V} {its:List Value} (r:aJ K Z ps vs) (rv:Vals vs its) {j:Nat} (h:j<its.length):∃ p v,ps[j]?=some p/\Rep K Z p v/\RelV v its[j]:=by
 have hl:=rv.length
 have hv:vs[j]?=some vs[j]:=List.getElem?_eq_getElem (by omega)
 obtain ⟨u,e1,e2⟩:=rv.get hv
 rw [List.getElem?_eq_getElem h] at e1
 cases e1
 obtain ⟨p,e3,e4⟩:=r.getV hv
 exact ⟨p,vs[j],e3,e4,e2⟩
section
open PySem.SeqAt
variable {X:Cx} {pins:List (Addr×Obj)} {σ:L2.St} {H:Hp} {s:Shared} {g:List Addr}
theorem rO (I:Inv X pins σ H s) {ps:List PV} {v:V} {u:Value} (r:Rep X.K ⟨H,g⟩ (.tup ps) v) (ru:RelV v u):∃ a vs its,u=.ref a/\dj X.K H a vs/\aJ X.K ⟨H,g⟩ ps vs/\Vals vs its/\s.heap.IsTuple a its.toArray:=by
 unfold Rep at r
 obtain ⟨a,vs,rfl,h1,h2⟩:=r
 obtain ⟨its,r1,t1,_⟩:=I.tuple h1
 exact ⟨a,vs,its,ru,h1,h2,r1,t1⟩
theorem oZ (I:Inv X pins σ H s) {ps:List PV} {v:V} {u:Value} (r:Rep X.K ⟨H,g⟩ (.lst ps) v) (ru:RelV v u):∃ a vs its,u=.ref a/\b8 X.K H a vs/\aJ X.K ⟨H,g⟩ ps vs/\Vals vs its/\s.heap.IsList a its.toArray:=by
 unfold Rep at r
 obtain ⟨a,vs,rfl,h1,h2⟩:=r
 obtain ⟨its,r1,t1,_⟩:=I.list h1
 exact ⟨a,vs,its,ru,h1,h2,r1,t1.isList⟩
noncomputable def kn:PV->Nat
 | .non=>0 | .bl _=>1 | .int _=>2 | .str _=>3 | .tup _=>4 | .lst _=>5 | _=>6
theorem Vj {p:PV} (h:kn p=4):∃ ps,p=.tup ps:=by cases p<;>first | exact ⟨_,rfl⟩ | cases h
theorem Vk {p:PV} (h:kn p=5):∃ ps,p=.lst ps:=by cases p<;>first | exact ⟨_,rfl⟩ | cases h
theorem wR {n:Nat} {p q:PV} {b:Bool} (h:bF (n+1) p q=some b):kn p<6:=by
 cases p<;>first | cases h; done | exact Nat.le.step (Nat.le.step (Nat.le.step (Nat.le.step (Nat.le.step .refl)))) | exact Nat.le.step (Nat.le.step (Nat.le.step (Nat.le.step .refl))) | exact Nat.le.step (Nat.le.step (Nat.le.step .refl)) | exact Nat.le.step (Nat.le.step .refl) | exact Nat.le.step .refl | exact Nat.le.refl
theorem NT {n:Nat} {p q:PV} {b:Bool} (h:bF (n+1) p q=some b):kn q<6:=by
 have no:bF (n+1) p q=none->kn q<6:=fun e=>absurd (h.symm.trans e) (Option.some_ne_none b)
 cases q with
 | dk _ _=>exact no (by cases p<;>rfl)
 | dt _ _=>exact no (by cases p<;>rfl)
 | obj _ _ _=>exact no (by cases p<;>rfl)
 | df _ _=>exact no (by cases p<;>rfl)
 | dtf _ _=>exact no (by cases p<;>rfl)
 | dx _ _ _=>exact no (by cases p<;>rfl)
 | ptr _=>exact no (by cases p<;>rfl)
 | _=>first | exact Nat.le.step (Nat.le.step (Nat.le.step (Nat.le.step (Nat.le.step .refl)))) | exact Nat.le.step (Nat.le.step (Nat.le.step (Nat.le.step .refl))) | exact Nat.le.step (Nat.le.step (Nat.le.step .refl)) | exact Nat.le.step (Nat.le.step .refl) | exact Nat.le.step .refl | exact Nat.le.refl
noncomputable def back:V->Option PV
 | .non=>some .non | .bl b=>some (.bl b) | .int i=>some (.int i) | .str x=>some (.str x) | _=>none
inductive Sh (K:FG) (Z:ZG) (v:V):PV->Prop
 | at {p:PV}:back v=some p->Sh K Z v p
 | tup {a:Addr} {ps:List PV} {vs:List V}:v=.ref a->dj K Z.z a vs->aJ K Z ps vs->Sh K Z v (.tup ps)
 | lst {a:Addr} {ps:List PV} {vs:List V}:v=.ref a->b8 K Z.z a vs->aJ K Z ps vs->Sh K Z v (.lst ps)
theorem Bh {Z:ZG} {v:V} {p:PV} (r:Rep K Z p v) (h:kn p<6):Sh K Z v p:=by
 cases p with
 | non=>exact .at (congrArg back (gR r))
 | bl b=>exact .at (congrArg back (cY r))
 | int b=>exact .at (congrArg back (bf r))
 | str b=>exact .at (congrArg back (cj r))
 | tup ps=>unfold Rep at r; obtain ⟨a,vs,e,h1,h2⟩:=r; exact .tup e h1 h2
 | lst ps=>unfold Rep at r; obtain ⟨a,vs,e,h1,h2⟩:=r; exact .lst e h1 h2
 | _=>exact absurd h (Nat.lt_irrefl 6)
inductive Tw (K:FG) (Z:ZG):PV->PV->Prop
 | at {v:V} {p:PV}:back v=some p->Tw K Z p p
 | tup {ps qs:List PV} {vs:List V}:aJ K Z ps vs->aJ K Z qs vs->Tw K Z (.tup ps) (.tup qs)
 | lst {ps qs:List PV} {vs:List V}:aJ K Z ps vs->aJ K Z qs vs->Tw K Z (.lst ps) (.lst qs)
theorem NZ (I:Inv X pins σ H s) {a:Addr} {vs ws:List V} (h1:dj X.K H a vs) (h3:b8 X.K H a ws):False:=by
 obtain ⟨its,r1,⟨o1,n1,g1,c1,_⟩,_⟩:=I.list h3
 obtain ⟨its2,r2,⟨o2,g2,c2,_⟩,_⟩:=I.tuple h1
 rw [g1] at g2
 cases g2
 rw [c1] at c2
 exact absurd c2 (by decide)
theorem sX {v:V} {a:Addr} {p:PV} (e:v=.ref a) (h:back v=some p):False:=by subst e; cases h
theorem Sh.two (I:Inv X pins σ H s) {p q:PV} {v:V} (h1:Sh X.K ⟨H,g⟩ v p) (h2:Sh X.K ⟨H,g⟩ v q):Tw X.K ⟨H,g⟩ p q:=by
 cases h1 with
 | «at» e=>
  cases h2 with
  | «at» e'=>exact (Option.some.inj (e.symm.trans e'))▸.at e
  | tup e'=>exact (sX e' e).elim
  | lst e'=>exact (sX e' e).elim
 | tup e k1 k2=>
  cases h2 with
  | «at» e'=>exact (sX e e').elim
  | tup e' m1 m2=>exact .tup k2 (I.tuple_inj k1 (V.ref.inj (e'.symm.trans e)▸m1)▸m2)
  | lst e' m1=>exact (NZ I k1 (V.ref.inj (e'.symm.trans e)▸m1)).elim
 | lst e k1 k2=>
  cases h2 with
  | «at» e'=>exact (sX e e').elim
  | tup e' m1=>exact (NZ I m1 (V.ref.inj (e.symm.trans e')▸k1)).elim
  | lst e' m1 m2=>exact .lst k2 (I.list_inj k1 (V.ref.inj (e'.symm.trans e)▸m1)▸m2)
theorem Sd {n:Nat} {v:V} {p:PV} {b:Bool} (e:back v=some p) (h:bF (n+1) p p=some b):b=true:=by
 cases v with
 | non=>cases e; cases h; rfl
 | bl z=>cases e; cases h; exact beq_self_eq_true z
 | int z=>cases e; cases h; exact beq_self_eq_true z
 | str z=>cases e; cases h; exact beq_self_eq_true z
 | _=>cases e
theorem uz {f:PV->PV->Option Bool} {Z:ZG} (ih:∀ (p q:PV) (v:V) (b:Bool),Rep K Z p v->Rep K Z q v->f p q=some b->b=true):∀ {ps qs:List PV} {vs:List V} {c:Bool},aJ K Z ps vs->aJ K Z qs vs->qu f ps qs=some c->c=true
 | [],qs,vs,c,a,b,h=>by cases h; rfl
 | p::ps,[],vs,c,a,b,h=>by cases h; rfl
 | p::ps,q::qs,vs,c,a,b,h=>by
  obtain ⟨w1,r1,e1,e2,e3⟩:=a.inv
  obtain ⟨w2,r2,f1,f2,f3⟩:=b.inv
  obtain ⟨g1,g2⟩:=List.cons.inj (e1.symm.trans f1)
  subst g1 g2
  obtain ⟨c,h1,h2⟩:=bind_some h
  obtain ⟨d,h3,rfl⟩:=map_some h2
  rw [ih _ _ _ _ e2 f2 h1,uz ih e3 f3 h3]
  rfl
theorem sY {f:PV->PV->Option Bool} {Z:ZG} (ih:∀ (p q r:PV) (v:V) (b c:Bool),Rep K Z p v->Rep K Z q v->f p r=some b->f q r=some c->b=c):∀ {ps qs rs:List PV} {vs:List V} {b c:Bool},aJ K Z ps vs->aJ K Z qs vs->qu f ps rs=some b->qu f qs rs=some c->b=c
 | [],[],rs,vs,b,c,_,_,h,k=>Option.some.inj (h.symm.trans k)
 | [],q::qs,rs,vs,b,c,a,b',h,k=>by
  obtain ⟨_,_,e,_⟩:=b'.inv
  exact absurd (a.inv0.symm.trans e) (by simp)
 | p::ps,[],rs,vs,b,c,a,b',h,k=>by
  obtain ⟨_,_,e,_⟩:=a.inv
  exact absurd (b'.inv0.symm.trans e) (by simp)
 | p::ps,q::qs,[],vs,b,c,a,b',h,k=>Option.some.inj (h.symm.trans k)
 | p::ps,q::qs,r::rs,vs,b,c,a,b',h,k=>by
  obtain ⟨w1,r1,e1,e2,e3⟩:=a.inv
  obtain ⟨w2,r2,f1,f2,f3⟩:=b'.inv
  obtain ⟨g1,g2⟩:=List.cons.inj (e1.symm.trans f1)
  subst g1 g2
  obtain ⟨x1,h1,h2⟩:=bind_some h
  obtain ⟨d1,h3,rfl⟩:=map_some h2
  obtain ⟨x2,k1,k2⟩:=bind_some k
  obtain ⟨d2,k3,rfl⟩:=map_some k2
  rw [ih _ _ _ _ _ _ e2 f2 h1 k1,sY ih e3 f3 h3 k3]
theorem eq_self (I:Inv X pins σ H s):∀ (n:Nat) {p q:PV} {v:V} {b:Bool},Rep X.K ⟨H,g⟩ p v->Rep X.K ⟨H,g⟩ q v->bF n p q=some b->b=true
 | 0,p,q,v,b,_,_,h=>by cases h
 | n+1,p,q,v,b,rp,rq,h=>by
  cases Sh.two I (Bh rp (wR h)) (Bh rq (NT h)) with
  | «at» e=>exact Sd e h
  | tup h2 h4=>
   obtain ⟨c,h5,rfl⟩:=map_some h
   rw [uz (fun _ _ _ _=>eq_self I n) h2 h4 h5,h2.length.symm.trans h4.length,beq_self_eq_true]
   rfl
  | lst h2 h4=>exact uz (fun _ _ _ _=>eq_self I n) h2 h4 ((if_pos (h2.length.symm.trans h4.length)).symm.trans h)
inductive U (s:Shared):PV->Value->Prop
 | non:U s .non .none
 | bl {b:Bool}:U s (.bl b) (.bool b)
 | int {i:Int} {t}:U s (.int i) (.int i t)
 | str {x:Str} {t}:U s (.str x) (.str x t)
 | tup {ps:List PV} {a:Addr} {its}:s.heap.IsTuple a its->U s (.tup ps) (.ref a)
 | lst {ps:List PV} {a:Addr} {its}:s.heap.IsList a its->U s (.lst ps) (.ref a)
theorem Sg (I:Inv X pins σ H s) {p:PV} {v:V} {u:Value} (r:Rep X.K ⟨H,g⟩ p v) (ru:RelV v u) (h:kn p<6):U s p u:=by
 cases p with
 | non=>cases gR r; cases ru; exact .non
 | bl b=>cases cY r; cases ru; exact .bl
 | int b=>cases bf r; obtain ⟨t,rfl⟩:=ru; exact .int
 | str b=>cases cj r; obtain ⟨t,rfl⟩:=ru; exact .str
 | tup ps=>obtain ⟨a,vs,its,rfl,_,_,_,x⟩:=rO I r ru; exact .tup x
 | lst ps=>obtain ⟨a,vs,its,rfl,_,_,_,x⟩:=oZ I r ru; exact .lst x
 | _=>exact absurd h (Nat.lt_irrefl 6)
noncomputable def E3 (A:Around) (s:Shared) (x y:Value) (b:Bool):Prop:=EqAt A s x y b/\RcAt A s x y b/\RcNeAt A s x y (!b)
theorem E3.of {A:Around} {s:Shared} {x y:Value} {b c:Bool} (h:some c=some b) (e:EqAt A s x y c) (r:RcAt A s x y c) (q:RcNeAt A s x y (!c)):E3 A s x y b:=Option.some.inj h▸⟨e,r,q⟩
noncomputable def two (p q:PV):Bool:=kn p==kn q&&Nat.ble 4 (kn p)
theorem Qa {A:Around} {p q:PV} {u1 u2:Value} {n:Nat} {b:Bool} (hu:A.units<cLine) (h1:U s p u1) (h2:U s q u2) (e:two p q=false) (h:bF (n+1) p q=some b):E3 A s u1 u2 b:=by
 cases h1 with
 | non=>
  cases h2 with
  | non=>exact E3.of h (EqAt.same .none) RcAt.none_none RcNeAt.none_none
  | bl=>exact E3.of h (EqAt.none_bool _) (RcAt.none_bool _) (RcNeAt.none_bool _)
  | int=>exact E3.of h (EqAt.none_int _ _) (RcAt.none_int _ _) (RcNeAt.none_int _ _)
  | str=>exact E3.of h (EqAt.none_str _ _) (RcAt.none_str _ _) (RcNeAt.none_str _ _)
  | tup x2=>exact E3.of h (EqAt.none_tuple x2 hu) (RcAt.none_tuple x2 hu) (RcNeAt.none_tuple x2 hu)
  | lst x2=>exact E3.of h (EqAt.none_list x2 hu) (RcAt.none_list x2 hu) (RcNeAt.none_list x2 hu)
 | bl=>
  cases h2 with
  | non=>exact E3.of h (EqAt.bool_none _) (RcAt.bool_none _) (RcNeAt.bool_none _)
  | bl=>exact E3.of h (EqAt.bool_bool _ _) (RcAt.bool_bool _ _) (RcNeAt.bool_bool _ _)
  | int=>exact E3.of h (EqAt.bool_int _ _ _) (RcAt.bool_int _ _ _) (RcNeAt.bool_int _ _ _)
  | str=>exact E3.of h (EqAt.bool_str _ _ _) (RcAt.bool_str _ _ _) (RcNeAt.bool_str _ _ _)
  | tup x2=>exact E3.of h (EqAt.bool_tuple _ x2 hu) (RcAt.bool_tuple _ x2 hu) (RcNeAt.bool_tuple _ x2 hu)
  | lst x2=>exact E3.of h (EqAt.bool_list _ x2 hu) (RcAt.bool_list _ x2 hu) (RcNeAt.bool_list _ x2 hu)
 | int=>
  cases h2 with
  | non=>exact E3.of h (EqAt.int_none _ _) (RcAt.int_none _ _) (RcNeAt.int_none _ _)
  | bl=>exact E3.of h (EqAt.int_bool _ _ _) (RcAt.int_bool _ _ _) (RcNeAt.int_bool _ _ _)
  | int=>exact E3.of h (EqAt.int_int _ _ _ _) (RcAt.int_int _ _ _ _) (RcNeAt.int_int _ _ _ _)
  | str=>exact E3.of h (EqAt.int_str _ _ _ _) (RcAt.int_str _ _ _ _) (RcNeAt.int_str _ _ _ _)
  | tup x2=>exact E3.of h (EqAt.int_tuple _ _ x2 hu) (RcAt.int_tuple _ _ x2 hu) (RcNeAt.int_tuple _ _ x2 hu)
  | lst x2=>exact E3.of h (EqAt.int_list _ _ x2 hu) (RcAt.int_list _ _ x2 hu) (RcNeAt.int_list _ _ x2 hu)
 | str=>
  cases h2 with
  | non=>exact E3.of h (EqAt.str_none _ _) (RcAt.str_none _ _) (RcNeAt.str_none _ _)
  | bl=>exact E3.of h (EqAt.str_bool _ _ _) (RcAt.str_bool _ _ _) (RcNeAt.str_bool _ _ _)
  | int=>exact E3.of h (EqAt.str_int _ _ _ _) (RcAt.str_int _ _ _ _) (RcNeAt.str_int _ _ _ _)
  | str=>exact E3.of h (EqAt.str_str _ _ _ _) (RcAt.str_str _ _ _ _) (RcNeAt.str_str _ _ _ _)
  | tup x2=>exact E3.of h (EqAt.str_tuple _ _ x2 hu) (RcAt.str_tuple _ _ x2 hu) (RcNeAt.str_tuple _ _ x2 hu)
  | lst x2=>exact E3.of h (EqAt.str_list _ _ x2 hu) (RcAt.str_list _ _ x2 hu) (RcNeAt.str_list _ _ x2 hu)
 | tup x1=>
  cases h2 with
  | non=>exact E3.of h (EqAt.tuple_none x1 hu) (RcAt.tuple_none x1 hu) (RcNeAt.tuple_none x1 hu)
  | bl=>exact E3.of h (EqAt.tuple_bool _ x1 hu) (RcAt.tuple_bool _ x1 hu) (RcNeAt.tuple_bool _ x1 hu)
  | int=>exact E3.of h (EqAt.tuple_int _ _ x1 hu) (RcAt.tuple_int _ _ x1 hu) (RcNeAt.tuple_int _ _ x1 hu)
  | str=>exact E3.of h (EqAt.tuple_str _ _ x1 hu) (RcAt.tuple_str _ _ x1 hu) (RcNeAt.tuple_str _ _ x1 hu)
  | tup x2=>cases e
  | lst x2=>exact E3.of h (EqAt.tuple_list x1 x2 hu) (RcAt.tuple_list x1 x2 hu) (RcNeAt.tuple_list x1 x2 hu)
 | lst x1=>
  cases h2 with
  | non=>exact E3.of h (EqAt.list_none x1 hu) (RcAt.list_none x1 hu) (RcNeAt.list_none x1 hu)
  | bl=>exact E3.of h (EqAt.list_bool _ x1 hu) (RcAt.list_bool _ x1 hu) (RcNeAt.list_bool _ x1 hu)
  | int=>exact E3.of h (EqAt.list_int _ _ x1 hu) (RcAt.list_int _ _ x1 hu) (RcNeAt.list_int _ _ x1 hu)
  | str=>exact E3.of h (EqAt.list_str _ _ x1 hu) (RcAt.list_str _ _ x1 hu) (RcNeAt.list_str _ _ x1 hu)
  | tup x2=>exact E3.of h (EqAt.list_tuple x1 x2 hu) (RcAt.list_tuple x1 x2 hu) (RcNeAt.list_tuple x1 x2 hu)
  | lst x2=>cases e
theorem sZ {v:V} {a:Addr} (r:RelV v (.ref a)):v=.ref a:=by
 cases v with
 | ref b=>cases r; rfl
 | non=>cases r
 | bl _=>cases r
 | ty _=>cases r
 | _=>obtain ⟨t,e⟩:=r; cases e
theorem Cr (I:Inv X pins σ H s) {n:Nat} {p q:PV} {a1 a2:Addr} {b:Bool} {A:Around} (rp:Rep X.K ⟨H,g⟩ p (.ref a1)) (rq:Rep X.K ⟨H,g⟩ q (.ref a2)) (h:bF n p q=some b) (rc:RcAt A s (.ref a1) (.ref a2) b):EqAt A s (.ref a1) (.ref a2) b:=by
 by_cases ea:a1=a2
 . subst ea
   exact eq_self I n rp rq h▸EqAt.same _
 . exact EqAt.of_refs ea rc
theorem wU (I:Inv X pins σ H s):∀ (n:Nat) {p q:PV} {v w:V} {u1 u2:Value} {b:Bool},Rep X.K ⟨H,g⟩ p v->Rep X.K ⟨H,g⟩ q w->RelV v u1->RelV w u2->bF n p q=some b->∀ A:Around,A.units+n<cLine->
 EqAt A s u1 u2 b/\RcAt A s u1 u2 b/\RcNeAt A s u1 u2 (!b)
 | 0,p,q,v,w,u1,u2,b,_,_,_,_,h,_,_=>by cases h
 | n+1,p,q,v,w,u1,u2,b,rp,rq,r1,r2,h,A,hA=>by
  have hu:A.units<cLine:=Nat.lt_of_le_of_lt (Nat.le_add_right _ _) hA
  have hin:A.in1.units+n<cLine:=by show A.units+1+n<cLine; omega
  have item:∀ {ps qs:List PV} {vs ws:List V} {its its2:List Value} {c:Bool},aJ X.K ⟨H,g⟩ ps vs->Vals vs its->aJ X.K ⟨H,g⟩ qs ws->Vals ws its2->qu (bF n) ps qs=some c->
   ∀ j (h1:j<its.toArray.size) (h2:j<its2.toArray.size),EqAt A.in1 s its.toArray[j] its2.toArray[j] ((bF n (ps.getD j .non) (qs.getD j .non)).getD false):=fun {ps qs vs ws its its2 c} a b c' d e j h1 h2=>by
   obtain ⟨p,v,e1,e2,e3⟩:=elts a b (j:=j) (by simpa using h1)
   obtain ⟨q,w,f1,f2,f3⟩:=elts c' d (j:=j) (by simpa using h2)
   have:=(u0 e).1 j p q e1 f1
   exact (wU I n e2 f2 e3 f3 this A.in1 hin).1
  cases e:two p q with
  | false=>exact Qa hu (Sg I rp r1 (wR h)) (Sg I rq r2 (NT h)) e h
  | true=>
   have e':kn p=kn q/\4<=kn p:=by unfold two at e; simpa using e
   have hk:=wR h
   rcases (by omega:kn p=4\/kn p=5) with hp | hp
   . obtain ⟨ps,rfl⟩:=Vj hp
     obtain ⟨qs,rfl⟩:=Vj (e'.1.symm.trans hp)
     clear e e' hk hp
     obtain ⟨a1,vs1,its1,rfl,q1,l1,rv1,x1⟩:=rO I rp r1
     obtain ⟨a2,vs2,its2,rfl,q2,l2,rv2,x2⟩:=rO I rq r2
     have e1:=sZ r1
     have e2:=sZ r2
     subst e1 e2
     obtain ⟨c,h5,rfl⟩:=map_some h
     have it:=item l1 rv1 l2 rv2 h5
     have z1:its1.toArray.size=ps.length:=by rw [List.size_toArray,← rv1.length,l1.length]
     have z2:its2.toArray.size=qs.length:=by rw [List.size_toArray,← rv2.length,l2.length]
     have rc:=RcAt.tuples x1 x2 hu it
     have rn:=RcNeAt.tuples x1 x2 hu it
     rw [z1,z2,← (u0 h5).2] at rc rn
     exact ⟨Cr I rp rq h rc,rc,rn⟩
   . obtain ⟨ps,rfl⟩:=Vk hp
     obtain ⟨qs,rfl⟩:=Vk (e'.1.symm.trans hp)
     clear e e' hk hp
     obtain ⟨a1,vs1,its1,rfl,q1,l1,rv1,x1⟩:=oZ I rp r1
     obtain ⟨a2,vs2,its2,rfl,q2,l2,rv2,x2⟩:=oZ I rq r2
     have e1:=sZ r1
     have e2:=sZ r2
     subst e1 e2
     have z1:its1.toArray.size=ps.length:=by rw [List.size_toArray,← rv1.length,l1.length]
     have z2:its2.toArray.size=qs.length:=by rw [List.size_toArray,← rv2.length,l2.length]
     by_cases hl:ps.length=qs.length
     . have h':=(if_pos hl).symm.trans h
       have it:=item l1 rv1 l2 rv2 h'
       have hz:=(z1.trans hl).trans z2.symm
       have rc:=RcAt.lists x1 x2 hz hu it
       have rn:=RcNeAt.lists x1 x2 hz hu it
       rw [z1,← (show min ps.length qs.length=ps.length by rw [← hl,Nat.min_self]),← (u0 h').2] at rc rn
       exact ⟨Cr I rp rq h rc,rc,rn⟩
     . have h':=Option.some.inj ((if_neg hl).symm.trans h)
       subst h'
       have hz:(its1.toArray.size != its2.toArray.size)=true:=by rw [z1,z2]; exact bne_iff_ne.mpr hl
       have rc:=RcAt.lists_lengths x1 x2 hz hu
       exact ⟨Cr I rp rq h rc,rc,RcNeAt.lists_lengths x1 x2 hz hu⟩
end
section
open PySem.SeqAt
variable {X:Cx} {pins:List (Addr×Obj)} {σ:L2.St} {H:Hp} {s:Shared} {g:List Addr}
theorem Ff {n:Nat} {ps:List PV} {r:PV} {b:Bool} (h:bF (n+1) (.tup ps) r=some b):b=false\/∃ rs,r=.tup rs:=by
 cases r with
 | tup rs=>exact .inr ⟨rs,rfl⟩
 | _=>cases h<;>exact .inl rfl
theorem Fg {n:Nat} {ps:List PV} {r:PV} {b:Bool} (h:bF (n+1) (.lst ps) r=some b):b=false\/∃ rs,r=.lst rs:=by
 cases r with
 | lst rs=>exact .inr ⟨rs,rfl⟩
 | _=>cases h<;>exact .inl rfl
theorem wV (I:Inv X pins σ H s):∀ (n:Nat) {p q r:PV} {v:V} {b c:Bool},Rep X.K ⟨H,g⟩ p v->Rep X.K ⟨H,g⟩ q v->bF n p r=some b->bF n q r=some c->b=c
 | 0,p,q,r,v,b,c,_,_,h,_=>by cases h
 | n+1,p,q,r,v,b,c,rp,rq,h,k=>by
  cases Sh.two I (Bh rp (wR h)) (Bh rq (wR k)) with
  | «at» e=>exact Option.some.inj (h.symm.trans k)
  | @tup ps qs _ h2 h4=>
   have el:ps.length=qs.length:=h2.length.symm.trans h4.length
   rcases Ff h with rfl | ⟨rs,rfl⟩
   . rcases Ff k with rfl | ⟨rs,rfl⟩
     . rfl
     . obtain ⟨c1,h5,e1⟩:=map_some h
       obtain ⟨c2,k5,rfl⟩:=map_some k
       rw [← sY (f:=bF n) (fun _ _ _ _ _ _=>wV I n) h2 h4 h5 k5,← el,e1]
   . obtain ⟨c1,h5,rfl⟩:=map_some h
     obtain ⟨c2,k5,rfl⟩:=map_some k
     rw [sY (f:=bF n) (fun _ _ _ _ _ _=>wV I n) h2 h4 h5 k5,el]
  | @lst ps qs _ h2 h4=>
   have el:ps.length=qs.length:=h2.length.symm.trans h4.length
   have main:∀ rs,r=.lst rs->b=c:=fun rs e=>by
    subst e
    by_cases hl:qs.length=rs.length
    . exact sY (f:=bF n) (fun _ _ _ _ _ _=>wV I n) h2 h4 ((if_pos (el.trans hl)).symm.trans h) ((if_pos hl).symm.trans k)
    . exact Option.some.inj ((((if_neg fun e=>hl (el.symm.trans e)).symm.trans h).symm.trans ((if_neg hl).symm.trans k)))
   rcases Fg h with e1 | ⟨rs,e⟩
   . rcases Fg k with e2 | ⟨rs,e⟩
     . exact e1.trans e2.symm
     . exact main rs e
   . exact main rs e
noncomputable def jf (f:PV->PV->Option Bool) (x:PV):List PV->Option Bool
 | []=>some false
 | q::qs=>(f q x).bind fun b=>(jf f x qs).map fun c=>b||c
theorem rP {f:PV->PV->Option Bool} {x:PV}:∀ {qs:List PV} {b:Bool},jf f x qs=some b->(∀ q∈qs,∃ c,f q x=some c)/\b=qs.any fun q=>(f q x).getD false
 | [],b,h=>by cases h; exact ⟨fun q hq=>by simp at hq,rfl⟩
 | q::qs,b,h=>by
  obtain ⟨c,h1,h2⟩:=bind_some h
  obtain ⟨d,h3,rfl⟩:=map_some h2
  obtain ⟨i1,i2⟩:=rP h3
  refine ⟨fun q' hq=>?_,?_⟩
  . rcases List.mem_cons.mp hq with rfl | hq
    . exact ⟨c,h1⟩
    . exact i1 q' hq
  . rw [List.any_cons,h1,Option.getD_some,← i2]
open Classical in
noncomputable def worth (K:FG) (Z:ZG) (x:PV) (qs:List PV) (vs:List V) (its:List Value) (u:Value):Bool:=
 if h:∃ (j:Nat) (q:PV),qs[j]?=some q/\its[j]?=some u then (bF 150 h.choose_spec.choose x).getD false else false
theorem tu (I:Inv X pins σ H s) {x:PV} {xv:V} {xu:Value} {qs:List PV} {vs:List V} {its:List Value} (r:aJ X.K ⟨H,g⟩ qs vs) (rv:Vals vs its) (hx:∀ q∈qs,∃ c,bF 150 q x=some c) {j:Nat} {q:PV} {u:Value} (e1:qs[j]?=some q) (e2:its[j]?=some u):
 worth X.K ⟨H,g⟩ x qs vs its u=(bF 150 q x).getD false:=by
 have h:∃ (j:Nat) (q:PV),qs[j]?=some q/\its[j]?=some u:=⟨j,q,e1,e2⟩
 unfold worth
 rw [dif_pos h]
 obtain ⟨f1,f2⟩:=h.choose_spec.choose_spec
 generalize h.choose_spec.choose=q' at f1 f2
 generalize h.choose=j' at f1 f2
 obtain ⟨v1,g1,g2⟩:=r.get e1
 obtain ⟨v2,k1,k2⟩:=r.get f1
 obtain ⟨u1,m1,m2⟩:=rv.get g1
 obtain ⟨u2,n1,n2⟩:=rv.get k1
 rw [e2] at m1; cases m1
 rw [f2] at n1; cases n1
 have ev:=RelV.inj m2 n2
 subst ev
 obtain ⟨c1,h1⟩:=hx q (List.mem_of_getElem? e1)
 obtain ⟨c2,h2⟩:=hx q' (List.mem_of_getElem? f1)
 rw [h1,h2,wV I 150 k2 g2 h2 h1]
theorem oJ (I:Inv X pins σ H s) {x:PV} {xv:V} {xu:Value} {qs:List PV} {vs:List V} {its:List Value} (rx:Rep X.K ⟨H,g⟩ x xv) (ru:RelV xv xu) (r:aJ X.K ⟨H,g⟩ qs vs) (rv:Vals vs its) (hx:∀ q∈qs,∃ c,bF 150 q x=some c) {A:Around} (hA:A.units+150<cLine):
 ∀ u,u∈its.toArray->EqAt A s u xu (worth X.K ⟨H,g⟩ x qs vs its u):=fun u hu=>by
 have hu':u∈its:=by simpa using hu
 obtain ⟨j,hj,e⟩:=List.getElem_of_mem hu'
 have e2:its[j]?=some u:=by rw [List.getElem?_eq_getElem hj,e]
 have hl:=rv.length
 have hlr:=r.length
 have e1:qs[j]?=some (qs[j]'(by omega)):=List.getElem?_eq_getElem _
 rw [tu (xv:=xv) (xu:=xu) I r rv hx e1 e2]
 obtain ⟨v1,g1,g2⟩:=r.get e1
 obtain ⟨u1,m1,m2⟩:=rv.get g1
 rw [e2] at m1; cases m1
 obtain ⟨c1,h1⟩:=hx _ (List.mem_of_getElem? e1)
 rw [h1]
 exact (wU I 150 g2 rx m2 ru h1 A hA).1
theorem qQ (I:Inv X pins σ H s) {x:PV} {xv:V} {xu:Value} {qs:List PV} {vs:List V} {its:List Value} (r:aJ X.K ⟨H,g⟩ qs vs) (rv:Vals vs its) (hx:∀ q∈qs,∃ c,bF 150 q x=some c):
 its.toArray.any (worth X.K ⟨H,g⟩ x qs vs its)=qs.any fun q=>(bF 150 q x).getD false:=by
 have hl:its.length=qs.length:=by rw [← rv.length,r.length]
 have key:its.map (worth X.K ⟨H,g⟩ x qs vs its)=qs.map fun q=>(bF 150 q x).getD false:=by
  apply List.ext_getElem?
  intro j
  rw [List.getElem?_map,List.getElem?_map]
  by_cases hj:j<its.length
  . have e2:=List.getElem?_eq_getElem hj
    have e1:qs[j]?=some (qs[j]'(by omega)):=List.getElem?_eq_getElem _
    rw [e2,e1,Option.map_some,Option.map_some,tu (xv:=xv) (xu:=xu) I r rv hx e1 e2]
  . rw [List.getElem?_eq_none (by omega),List.getElem?_eq_none (by omega)]
    rfl
 rw [show its.toArray.any (worth X.K ⟨H,g⟩ x qs vs its)=its.any (worth X.K ⟨H,g⟩ x qs vs its) by simp]
 have a1:its.any (worth X.K ⟨H,g⟩ x qs vs its)=(its.map (worth X.K ⟨H,g⟩ x qs vs its)).any id:=by simp [List.any_map]
 have a2:(qs.any fun q=>(bF 150 q x).getD false)=(qs.map fun q=>(bF 150 q x).getD false).any id:=by simp [List.any_map]
 rw [a1,a2,key]
end
section
variable {X:Cx}
theorem SR.rep2 {v w:V} {p q:PV} (h:SR K H0 Z0 σ H ρ ((w,.sh q)::(v,.sh p)::pd)):∃ Z:ZG,cJ Z.z H/\Rep K Z p v/\Rep K Z q w:=by
 obtain ⟨_,Z,_,z,r,s⟩:=h.sh
 obtain ⟨x,e1,e2⟩:=(s.perm du.symm).1 _ List.mem_cons_self
 cases e1
 exact ⟨Z,z.zh,e2,r⟩
theorem SR.rep2H {v w:V} {p q:PV} (h:SR K H0 Z0 σ H ρ ((w,.sh q)::(v,.sh p)::pd)):∃ g,Rep K ⟨H,g⟩ p v/\Rep K ⟨H,g⟩ q w:=by
 obtain ⟨Z,z,a,b⟩:=h.rep2
 exact ⟨Z.g,a.mono (Z':=⟨H,Z.g⟩) ⟨z,List.prefix_refl _⟩,b.mono (Z':=⟨H,Z.g⟩) ⟨z,List.prefix_refl _⟩⟩
noncomputable def Cu (K:FG) (neg:Bool):R2:=fun x y H Q=>∃ g p q b,Rep K ⟨H,g⟩ p x/\Rep K ⟨H,g⟩ q y/\bF 150 p q=some b/\Q (.bl (if neg then !b else b)) H
theorem lO {k:Nat} (hr:bR k X.A):fj X (compareOp .Eq) (Cu X.K false):=by
 intro pins s σ H x y v u Q I rx ry h
 obtain ⟨g,p,q,b,rp,rq,e,k'⟩:=h
 have hA:X.A.units+150<cLine:=by have:=hr.un; omega
 obtain ⟨_,rc,_⟩:=wU I 150 rp rq rx ry e X.A hA
 exact rc _ _ _ _ ⟨.bl b,H,I,rfl,k'⟩
theorem wW {k:Nat} (hr:bR k X.A):fj X (compareOp .NotEq) (Cu X.K true):=by
 intro pins s σ H x y v u Q I rx ry h
 obtain ⟨g,p,q,b,rp,rq,e,k'⟩:=h
 have hA:X.A.units+150<cLine:=by have:=hr.un; omega
 obtain ⟨_,_,rn⟩:=wU I 150 rp rq rx ry e X.A hA
 exact rn _ _ _ _ ⟨.bl (!b),H,I,rfl,k'⟩
noncomputable def eqP (p q:PV):Option Lc:=(bF 150 p q).map fun b=>.sh (.bl b)
noncomputable def uA (p q:PV):Option Lc:=(bF 150 p q).map fun b=>.sh (.bl (!b))
theorem lQ:jt K (Cu K false) eqP:=by
 intro H0 Z0 σ ρ pd H v w x y l Q s e k
 obtain ⟨b,e1,rfl⟩:=map_some e
 obtain ⟨g,r1,r2⟩:=s.rep2H
 exact ⟨g,x,y,b,r1,r2,e1,k _ H (s.pop.pop.scal cz)⟩
theorem wX:jt K (Cu K true) uA:=by
 intro H0 Z0 σ ρ pd H v w x y l Q s e k
 obtain ⟨b,e1,rfl⟩:=map_some e
 obtain ⟨g,r1,r2⟩:=s.rep2H
 exact ⟨g,x,y,b,r1,r2,e1,k _ H (s.pop.pop.scal cz)⟩
noncomputable def Cv (K:FG) (neg:Bool):R2:=fun x y H Q=>(∃ g p qs b,Rep K ⟨H,g⟩ p x/\(Rep K ⟨H,g⟩ (.lst qs) y\/Rep K ⟨H,g⟩ (.tup qs) y)/\jf (bF 150) p qs=some b/\Q (.bl (if neg then !b else b)) H)\/
 ∃ i j,x=.str i/\y=.str j/\Q (.bl (if neg then (Builtin.Str.occurrences j i 0 j.length 1).isEmpty else !(Builtin.Str.occurrences j i 0 j.length 1).isEmpty)) H
theorem qx {k:Nat} (hr:bR k X.A):fj X (compareOp .In) (Cv X.K false):=by
 intro pins s σ H x y v u Q I rx ry h
 have hA:X.A.in1.units+150<cLine:=by have:=hr.un; show X.A.units+1+150<cLine; omega
 rcases h with ⟨g,p,qs,b,rp,rq,e,k'⟩ | ⟨i,j,rfl,rfl,k'⟩
 . obtain ⟨i1,i2⟩:=rP e
   rcases rq with rq | rq
   . obtain ⟨a,vs,its,rfl,q1,l1,rv1,t1⟩:=oZ I rq ry
     refine SeqAt.in_listAt (worth X.K ⟨H,g⟩ p qs vs its) t1 (oJ I rp rx l1 rv1 i1 hA) ⟨.bl b,H,I,?_,k'⟩
     rw [qQ (xv:=x) (xu:=v) I l1 rv1 i1,← i2]
     rfl
   . obtain ⟨a,vs,its,rfl,q1,l1,rv1,t1⟩:=rO I rq ry
     refine SeqAt.in_tupleAt (worth X.K ⟨H,g⟩ p qs vs its) t1 (oJ I rp rx l1 rv1 i1 hA) ⟨.bl b,H,I,?_,k'⟩
     rw [qQ (xv:=x) (xu:=v) I l1 rv1 i1,← i2]
     rfl
 . exact Jd pins s σ H (.str i) (.str j) v u Q I rx ry ⟨i,j,rfl,rfl,k'⟩
theorem fJ {k:Nat} (hr:bR k X.A):fj X (compareOp .NotIn) (Cv X.K true):=by
 intro pins s σ H x y v u Q I rx ry h
 have hA:X.A.in1.units+150<cLine:=by have:=hr.un; show X.A.units+1+150<cLine; omega
 rcases h with ⟨g,p,qs,b,rp,rq,e,k'⟩ | ⟨i,j,rfl,rfl,k'⟩
 . obtain ⟨i1,i2⟩:=rP e
   rcases rq with rq | rq
   . obtain ⟨a,vs,its,rfl,q1,l1,rv1,t1⟩:=oZ I rq ry
     refine SeqAt.notIn_listAt (worth X.K ⟨H,g⟩ p qs vs its) t1 (oJ I rp rx l1 rv1 i1 hA) ⟨.bl (!b),H,I,?_,k'⟩
     rw [qQ (xv:=x) (xu:=v) I l1 rv1 i1,← i2]
     rfl
   . obtain ⟨a,vs,its,rfl,q1,l1,rv1,t1⟩:=rO I rq ry
     refine SeqAt.notIn_tupleAt (worth X.K ⟨H,g⟩ p qs vs its) t1 (oJ I rp rx l1 rv1 i1 hA) ⟨.bl (!b),H,I,?_,k'⟩
     rw [qQ (xv:=x) (xu:=v) I l1 rv1 i1,← i2]
     rfl
 . exact Bv pins s σ H (.str i) (.str j) v u Q I rx ry ⟨i,j,rfl,rfl,by simpa using k'⟩
noncomputable def isIn (x y:PV):Option Bool:=match y with
 | .lst qs=>jf (bF 150) x qs
 | .tup qs=>jf (bF 150) x qs
 | .str j=>match x with
  | .str i=>some (!(Builtin.Str.occurrences j i 0 j.length 1).isEmpty)
  | _=>none
 | _=>none
noncomputable def jk (p q:PV):Option Lc:=(isIn p q).map fun b=>.sh (.bl b)
noncomputable def dN (p q:PV):Option Lc:=(isIn p q).map fun b=>.sh (.bl (!b))
theorem JK {neg:Bool}:jt K (Cv K neg) (fun p q=>(isIn p q).map fun b=>.sh (.bl (if neg then !b else b))):=by
 intro H0 Z0 σ ρ pd H v w x y l Q s e k
 obtain ⟨b,e1,rfl⟩:=map_some e
 obtain ⟨g,r1,r2⟩:=s.rep2H
 cases y with
 | lst qs=>exact .inl ⟨g,x,qs,b,r1,.inl r2,e1,k _ H (s.pop.pop.scal cz)⟩
 | tup qs=>exact .inl ⟨g,x,qs,b,r1,.inr r2,e1,k _ H (s.pop.pop.scal cz)⟩
 | str j=>
  cases x with
  | str i=>
   have e1':=Option.some.inj e1
   subst e1'
   refine .inr ⟨i,j,cj r1,cj r2,?_⟩
   have:=k (.bl (if neg then (Builtin.Str.occurrences j i 0 j.length 1).isEmpty else !(Builtin.Str.occurrences j i 0 j.length 1).isEmpty)) H
   refine this (s.pop.pop.scal fun Z=>?_)
   cases neg<;>simp [Rep]
  | _=>cases e1
 | _=>cases e1
theorem oK:jt K (Cv K false) jk:=JK
theorem iD:jt K (Cv K true) dN:=JK
noncomputable def tB:PV->Bool
 | .non=>true
 | _=>false
noncomputable def tD (p q:PV):Option Lc:=match q with
 | .non=>some (.sh (.bl (tB p)))
 | _=>none
noncomputable def jX (p q:PV):Option Lc:=match q with
 | .non=>some (.sh (.bl (!tB p)))
 | _=>none
theorem Fi {Z:ZG} {p:PV} {v:V} (r:Rep K Z p v):decide (v=.non)=tB p:=by
 cases p with
 | non=>have:=gR r; subst this; rfl
 | bl b=>have:=cY r; subst this; rfl
 | int b=>have:=bf r; subst this; rfl
 | str b=>have:=cj r; subst this; rfl
 | tup ps=>unfold Rep at r; obtain ⟨a,vs,rfl,_⟩:=r; rfl
 | lst ps=>unfold Rep at r; obtain ⟨a,vs,rfl,_⟩:=r; rfl
 | dk ks ps=>unfold Rep at r; obtain ⟨a,vs,rfl,_⟩:=r; rfl
 | dt ks ps=>unfold Rep at r; obtain ⟨a,vs,rfl,_⟩:=r; rfl
 | obj c ks ps=>unfold Rep at r; obtain ⟨a,c,dx,fs,rfl,_⟩:=r; rfl
 | df ks ps=>unfold Rep at r; obtain ⟨a,o,kvs,rfl,_⟩:=r; rfl
 | dtf ks ps=>unfold Rep at r; obtain ⟨a,o,kvs,rfl,_⟩:=r; rfl
 | dx hk ks ps=>unfold Rep at r; obtain ⟨a,xs,rfl,_⟩:=r; rfl
 | ptr n=>unfold Rep at r; obtain ⟨a,rfl,_⟩:=r; rfl
theorem yH:jt K (fun x y H Q=>y=.non/\Q (.bl (decide (x=.non))) H) tD:=by
 intro H0 Z0 σ ρ pd H v w x y l Q s e k
 obtain ⟨g,r1,r2⟩:=s.rep2H
 cases y with
 | non=>
  have e':=Option.some.inj e
  subst e'
  refine ⟨gR r2,?_⟩
  rw [Fi r1]
  exact k _ H (s.pop.pop.scal cz)
 | _=>cases e
theorem mD:jt K (fun x y H Q=>y=.non/\Q (.bl (!decide (x=.non))) H) jX:=by
 intro H0 Z0 σ ρ pd H v w x y l Q s e k
 obtain ⟨g,r1,r2⟩:=s.rep2H
 cases y with
 | non=>
  have e':=Option.some.inj e
  subst e'
  refine ⟨gR r2,?_⟩
  rw [Fi r1]
  exact k _ H (s.pop.pop.scal cz)
 | _=>cases e
noncomputable def Cw:=ux (fun _ _=>true) fun i j=>.bl (decide (i<j))
noncomputable def zX:=ux (fun _ _=>true) fun i j=>.bl (decide (i<=j))
noncomputable def wY:=ux (fun _ _=>true) fun i j=>.bl (decide (j<i))
theorem Cy:jt K (rH fun i j=>.bl (decide (i<j))) Cw:=wO fun _ _ _=>cz _
theorem JL:jt K (rH fun i j=>.bl (decide (i<=j))) zX:=wO fun _ _ _=>cz _
theorem Cz:jt K (rH fun i j=>.bl (decide (j<i))) wY:=wO fun _ _ _=>cz _
noncomputable def v5:=ux (fun _ _=>true) fun i j=>.int (i-j)
noncomputable def cB:=ux (fun _ j=>decide (0<j)) fun i j=>.int (i%j)
noncomputable def dz:=ux (fun _ j=>decide (0<j/\j<1073741824)) fun i j=>.int (i/j)
noncomputable def tE:=ux (fun i j=>decide ((-(2 ^ 64)<i/\i<2 ^ 64)\/(-(2 ^ 64)<j/\j<2 ^ 64))) fun i j=>.int (i*j)
theorem Fj:jt K (rH fun i j=>.int (i-j)) v5:=wO fun _ _ _=>dw _
theorem fH:jt K (rI (fun _ j=>0<j) fun i j=>.int (i%j)) cB:=Hr (fun _ _ h=>of_decide_eq_true h) fun _ _ _=>dw _
theorem jF:jt K (rI Rq fun i j=>.int (i/j)) dz:=Hr (fun i j h=>(of_decide_eq_true h:0<j/\j<1073741824)) fun _ _ _=>dw _
theorem Fo:jt K (rI GC fun i j=>.int (i*j)) tE:=Hr (fun i j h=>(of_decide_eq_true h:(-(2 ^ 64)<i/\i<2 ^ 64)\/(-(2 ^ 64)<j/\j<2 ^ 64))) fun _ _ _=>dw _
noncomputable def K3 (K:FG):R2:=fun x y H Q=>rH (fun i j=>.int (i+j)) x y H Q\/(∃ i j,x=.str i/\y=.str j/\i.length+j.length<=sizeLine/\Q (.str (i++j)) H)\/
 (∃ a b xs ys,x=.ref a/\y=.ref b/\b8 K H a xs/\b8 K H b ys/\xs.length+ys.length<=sizeLine/\∀ p,H p=none->Q (.ref p) (upd H p (.lst (xs++ys))))\/Ny K x y H Q
theorem jP:fj X (binaryOp .Add) (K3 X.K):=Rr.or (GP.or (Pk.or O8))
noncomputable def dO:PV->PV->Option Lc
 | .int i,.int j=>some (.sh (.int (i+j)))
 | .str i,.str j=>if i.length+j.length<=100000 then some (.sh (.str (i++j))) else none
 | .lst ps,.lst qs=>if ps.length+qs.length<=100000 then some (.own (.lst (ps++qs))) else none
 | .tup (p::ps),.tup qs=>if ps.length+qs.length<=10000 then some (.sh (.tup (p::ps++qs))) else none
 | _,_=>none
theorem v6 {α:Type} {c:Prop} [Decidable c] {a b:α} (e:(if c then some a else none)=some b):c/\a=b:=by
 split at e
 . rename_i h
   exact ⟨h,Option.some.inj e⟩
 . cases e
theorem Qc {x y:PV} {l:Lc} (e:dO x y=some l):(∃ i j,x=.int i/\y=.int j/\l=.sh (.int (i+j)))\/(∃ i j,x=.str i/\y=.str j/\i.length+j.length<=100000/\l=.sh (.str (i++j)))
 \/ (∃ ps qs,x=.lst ps/\y=.lst qs/\ps.length+qs.length<=100000/\l=.own (.lst (ps++qs)))\/∃ p ps qs,x=.tup (p::ps)/\y=.tup qs/\ps.length+qs.length<=10000/\l=.sh (.tup (p::ps++qs)):=by
 unfold dO at e
 split at e
 . cases e
   exact .inl ⟨_,_,rfl,rfl,rfl⟩
 . obtain ⟨h,e⟩:=v6 e
   exact .inr (.inl ⟨_,_,rfl,rfl,h,e.symm⟩)
 . obtain ⟨h,e⟩:=v6 e
   exact .inr (.inr (.inl ⟨_,_,rfl,rfl,h,e.symm⟩))
 . obtain ⟨h,e⟩:=v6 e
   exact .inr (.inr (.inr ⟨_,_,_,rfl,rfl,h,e.symm⟩))
 . cases e
theorem jQ:jt K (K3 K) dO:=by
 intro H0 Z0 σ ρ pd H v w x y l Q s e k
 obtain ⟨g,r1,r2⟩:=s.rep2H
 rcases Qc e with ⟨i,j,rfl,rfl,rfl⟩ | ⟨i,j,rfl,rfl,hl,rfl⟩ | ⟨ps,qs,rfl,rfl,hl,rfl⟩ | ⟨p,ps,qs,rfl,rfl,hl,rfl⟩
 . exact .inl ⟨i,j,bf r1,bf r2,k _ H (s.pop.pop.scal dw)⟩
 . exact .inr (.inl ⟨i,j,cj r1,cj r2,small hl,k _ H (s.pop.pop.scal mL)⟩)
 . obtain ⟨el,Z,hg,z,rq,s1⟩:=s.sh
   have s2:=s1.perm du.symm
   obtain ⟨_,e1,rp⟩:=s2.1 _ List.mem_cons_self
   cases e1
   unfold Rep at rp rq
   obtain ⟨a,xs,rfl,h1,h2⟩:=rp
   obtain ⟨b,ys,rfl,h3,h4⟩:=rq
   refine .inr (.inr (.inl ⟨a,b,xs,ys,rfl,rfl,b8.same z.zh h1,b8.same z.zh h3,by rw [h2.length,h4.length]; exact small hl,fun p hp=>k _ _ ?_⟩))
   obtain ⟨z',s'⟩:=(s2.sub (List.sublist_cons_self _ _)).new (o:=.lst (xs++ys)) (p:=.lst (ps++qs)) z hp ⟨xs++ys,bC,h2.append h4⟩
   exact .mk el hg z' s'
 . obtain ⟨el,Z,hg,z,rq,s1⟩:=s.sh
   have s2:=s1.perm du.symm
   obtain ⟨_,e1,rp⟩:=s2.1 _ List.mem_cons_self
   cases e1
   unfold Rep at rp rq
   obtain ⟨a,xs,rfl,h1,h2⟩:=rp
   obtain ⟨b,ys,rfl,h3,h4⟩:=rq
   have hx:xs≠[]:=fun h=>by have:=h2.length; rw [h] at this; simp at this
   have hz:=h2.length
   have hz':=h4.length
   rw [List.length_cons] at hz
   refine .inr (.inr (.inr ⟨a,b,xs,ys,rfl,rfl,dj.same z.zh h1,dj.same z.zh h3,hx,small (by omega),fun h=>?_,fun h q hq=>?_⟩))
   . subst h
     have:qs=[]:=List.eq_nil_of_length_eq_zero hz'.symm
     subst this
     rw [List.append_nil] at k
     exact k _ H s.pop
   . have s3:=s2.sub (List.sublist_cons_self _ _)
     obtain ⟨z',sz,s'⟩:=s3.newF (o:=.tup (xs++ys)) z hq
     refine k _ _ (.mk (Z:=Z.put q (.tup (xs++ys))) el hg z' (s'.consS ?_))
     unfold Rep
     exact ⟨q,xs++ys,rfl,dj.of bC,(h2.append h4).mono sz⟩
noncomputable def pH:PV->PV->Option Lc
 | .lst ps,.int i=>(gn ps i).map .sh
 | .tup ps,.int i=>(gn ps i).map .sh
 | .str x,.int i=>if x.length<=100000 then (gn x.cps.toList i).map fun c=>.sh (.str ⟨#[c]⟩) else none
 | _,_=>none
theorem u5 {α β:Type} {l:List α} {r:List β} {i:Int} {x:α} (h:gn l i=some x) (e:r.length=l.length):∃ (j:Nat),l[j]?=some x/\∀ y,r[j]?=some y->gn r i=some y:=by
 unfold gn at h
 obtain ⟨j,h1,h2⟩:=bind_some h
 refine ⟨j,h2,fun y hy=>?_⟩
 unfold gn
 rw [e,h1]
 exact hy
theorem Sq {x y:PV} {l:Lc} (e:pH x y=some l):∃ i,y=.int i/\((∃ ps,(x=.lst ps\/x=.tup ps)/\(gn ps i).map Lc.sh=some l)\/∃ t c,x=.str t/\t.length<=100000/\gn t.cps.toList i=some c/\l=.sh (.str ⟨#[c]⟩)):=by
 unfold pH at e
 split at e
 . exact ⟨_,rfl,.inl ⟨_,.inl rfl,e⟩⟩
 . exact ⟨_,rfl,.inl ⟨_,.inr rfl,e⟩⟩
 . split at e
   . rename_i h
     obtain ⟨c,h1,rfl⟩:=map_some e
     exact ⟨_,rfl,.inr ⟨_,c,rfl,h,h1,rfl⟩⟩
   . cases e
 . cases e
theorem JM:jt K (RK K) pH:=by
 intro H0 Z0 σ ρ pd H v w x y l Q s e k
 obtain ⟨i,rfl,hx⟩:=Sq e
 obtain ⟨el,Z,hg,z,r2,s1⟩:=s.sh
 have s2:=s1.perm du.symm
 obtain ⟨_,e1,r1⟩:=s2.1 _ List.mem_cons_self
 cases e1
 have s3:=s2.sub (List.sublist_cons_self _ _)
 have ew:=bf r2
 rcases hx with ⟨ps,hx,h0⟩ | ⟨x,c,rfl,hl,h1,rfl⟩
 . obtain ⟨p,h1,rfl⟩:=map_some h0
   rcases hx with rfl | rfl
   . unfold Rep at r1
     obtain ⟨a,vs,rfl,h2,h3⟩:=r1
     obtain ⟨j,e1,e2⟩:=u5 h1 h3.length
     obtain ⟨u,e3,e4⟩:=h3.get e1
     exact .inl ⟨a,vs,i,u,rfl,ew,b8.same z.zh h2,e2 u e3,k _ H (.mk el hg z (s3.consS e4))⟩
   . unfold Rep at r1
     obtain ⟨a,vs,rfl,h2,h3⟩:=r1
     obtain ⟨j,e1,e2⟩:=u5 h1 h3.length
     obtain ⟨u,e3,e4⟩:=h3.get e1
     exact .inr (.inl ⟨a,vs,i,u,rfl,ew,dj.same z.zh h2,e2 u e3,k _ H (.mk el hg z (s3.consS e4))⟩)
 . exact .inr (.inr ⟨x,i,c,cj r1,ew,small hl,h1,k _ H (s.pop.pop.scal mL)⟩)
noncomputable def nq (ps:List PV) (lo hi:Option Int):List PV:=(ps.drop (HT.sIx ps.length 0 lo)).take (HT.sIx ps.length ps.length hi-HT.sIx ps.length 0 lo)
noncomputable abbrev OF:=Ev->Option (Option Int×Ev)
noncomputable def CG (K:FG) (f:OF):TO:=fun σ H Q=>∃ H0 Z0 ρ pd r ρ',SR K H0 Z0 σ H ρ pd/\f ρ=some (r,ρ')/\∀ H',SR K H0 Z0 σ H' ρ' pd->Q r H'
theorem PO.imp {e:Option Expr} {t t':TO} (h:PO X e t) (i:∀ σ H Q,t' σ H Q->t σ H Q):PO X e t':=fun pins s σ H Q I q=>h pins s σ H Q I (i σ H Q q)
noncomputable def mj:OF:=fun ρ=>some (none,ρ)
noncomputable def fC (f:EF):OF:=fun ρ=>(f ρ).bind fun x=>match x.1.pv with
 | .int i=>some (some i,x.2)
 | _=>none
theorem rQ:PO X none (CG X.K mj):=PO.imp O6 fun σ H Q q=>by
 obtain ⟨H0,Z0,ρ,pd,r,ρ',s,h,k⟩:=q
 cases h
 exact k H s
theorem mO {e:Expr} {f:EF} (h:PE X e (tP X.K f)):PO X (some e) (CG X.K (fC f)):=PO.imp (O7 h) fun σ H Q q=>by
 obtain ⟨H0,Z0,ρ,pd,r,ρ',s,h,k⟩:=q
 obtain ⟨x,h1,h2⟩:=bind_some h
 refine ⟨H0,Z0,ρ,pd,x.1,x.2,s,h1,fun v H1 s1=>?_⟩
 obtain ⟨_,r1⟩:=s1.freeze.repH
 cases e:x.1.pv with
 | int i=>
  rw [e] at h2 r1
  cases h2
  exact ⟨i,bf r1,k H1 s1.pop⟩
 | _=>rw [e] at h2; cases h2
theorem aJ.cut {Z:ZG} {ps:List PV} {vs:List V} {lo hi:Option Int} (h:aJ K Z ps vs):aJ K Z (nq ps lo hi) (vU vs lo hi):=by
 unfold nq vU
 rw [h.length]
 exact (h.drop _).take _
noncomputable def jo (K:FG) (r:List V->Hp->VK->Prop) (g:List PV->Option Lc):Prop:=∀ H0 Z0 σ ρ pd H vs ps l Q,vs.length=ps.length->SR K H0 Z0 σ H ρ (vs.zip (ps.map Lc.sh)++pd)->g ps=some l->(∀ u H',SR K H0 Z0 σ H' ρ ((u,l)::pd)->Q u H')->r vs H Q
noncomputable def eB (g:List PV->Option Lc) (a:AF):EF:=fun ρ=>(a ρ).bind fun y=>(g (y.1.map Lc.pv)).map fun l=>(l,y.2)
theorem lR {r:List V->Hp->VK->Prop} {g:List PV->Option Lc} (hs:jo X.K r g) {a:AF}:∀ σ H Q,tP X.K (eB g a) σ H Q->zH r (jN X.K a) σ H Q:=fun σ H Q q=>by
 obtain ⟨H0,Z0,ρ,pd,l,ρ',s,f,k⟩:=q
 obtain ⟨y,h1,h2⟩:=bind_some f
 obtain ⟨l',h3,h4⟩:=map_some h2
 cases h4
 refine ⟨H0,Z0,ρ,pd,y.1,y.2,s,h1,fun vs H2 e2 s2=>?_⟩
 have s3:=s2.freezeAll
 have hm:(y.1.map fun l=>Lc.sh l.pv)=(y.1.map Lc.pv).map Lc.sh:=by rw [List.map_map]; rfl
 rw [hm] at s3
 exact hs H0 Z0 σ y.2 pd H2 vs (y.1.map Lc.pv) _ Q (by simpa using e2) s3 h3 k
theorem qy {x:Str} {id:String} {r:List V->Hp->VK->Prop} {g:List PV->Option Lc} {e:Expr} {es:List Expr} {a:AF} {p pos:Pos} (hc:m9 X (.builtin id) r) (hs:jo X.K r g) (h:PE X (.Call (.Name x p) (e::es) [] pos) (zH r (jN X.K a))):PE X (.Call (.Name x p) (e::es) [] pos) (tP X.K (eB g a)):=PE.imp h (lR hs)
theorem jo.one {r:List V->Hp->VK->Prop} {g:PV->Option Lc} (h:∀ H0 Z0 σ ρ pd H v p l Q,SR K H0 Z0 σ H ρ ((v,.sh p)::pd)->g p=some l->(∀ u H',SR K H0 Z0 σ H' ρ ((u,l)::pd)->Q u H')->r [v] H Q):
 jo K r (fun ps=>match ps with | [p]=>g p | _=>none):=by
 intro H0 Z0 σ ρ pd H vs ps l Q e s hg k
 match ps,vs,e,s,hg with
 | [p],[v],_,s,hg=>exact h H0 Z0 σ ρ pd H v p l Q s hg k
 | [p],[],e,_,_=>simp at e
 | [p],_::_::_,e,_,_=>simp at e
 | [],_,_,_,hg=>cases hg
 | _::_::_,_,_,_,hg=>cases hg
noncomputable def Lz:PV->Option Lc
 | .str x=>if x.length<=100000 then some (.sh (.int x.length)) else none
 | .lst ps=>some (.sh (.int ps.length))
 | .tup ps=>some (.sh (.int ps.length))
 | _=>none
noncomputable abbrev dh:List PV->Option Lc:=fun ps=>match ps with | [p]=>Lz p | _=>none
theorem JN:jo K (fun xs H Q=>∃ x n,xs=[x]/\KY K x H n/\Q (.int n) H) dh:=jo.one fun H0 Z0 σ ρ pd H v p l Q s e k=>by
 obtain ⟨_,r⟩:=s.repH
 cases p with
 | str x=>
  have e':(if x.length<=100000 then some (Lc.sh (.int x.length)) else none)=some l:=e
  split at e'
  . rename_i hl
    cases e'
    have:=cj r
    subst this
    exact ⟨_,x.length,rfl,⟨small hl,rfl⟩,k _ H (s.pop.scal dw)⟩
  . cases e'
 | lst ps=>
  cases e
  unfold Rep at r
  obtain ⟨a,vs,rfl,h1,h2⟩:=r
  exact ⟨_,ps.length,rfl,.inl ⟨vs,h1,h2.length.symm⟩,k _ H (s.pop.scal dw)⟩
 | tup ps=>
  cases e
  unfold Rep at r
  obtain ⟨a,vs,rfl,h1,h2⟩:=r
  exact ⟨_,ps.length,rfl,.inr ⟨vs,h1,h2.length.symm⟩,k _ H (s.pop.scal dw)⟩
 | _=>cases e
noncomputable def UV:PV->Option Lc
 | .lst ps=>some (.own (.lst ps))
 | .tup ps=>some (.own (.lst ps))
 | _=>none
noncomputable abbrev list1:List PV->Option Lc:=fun ps=>match ps with | [p]=>UV p | _=>none
theorem lg:jo K (fun xs H Q=>∃ p ys,xs=[.ref p]/\(b8 K H p ys\/dj K H p ys)/\∀ l,H l=none->Q (.ref l) (upd H l (.lst ys))) list1:=jo.one fun H0 Z0 σ ρ pd H v p l Q s e k=>by
 obtain ⟨el,Z,hg,z,r,s1⟩:=s.sh
 cases p with
 | lst ps=>
  cases e
  unfold Rep at r
  obtain ⟨a,vs,rfl,h1,h2⟩:=r
  refine ⟨a,vs,rfl,.inl (b8.same z.zh h1),fun q hq=>k _ _ ?_⟩
  obtain ⟨z',s'⟩:=s1.new (o:=.lst vs) (p:=.lst ps) z hq ⟨_,bC,h2⟩
  exact .mk el hg z' s'
 | tup ps=>
  cases e
  unfold Rep at r
  obtain ⟨a,vs,rfl,h1,h2⟩:=r
  refine ⟨a,vs,rfl,.inr (dj.same z.zh h1),fun q hq=>k _ _ ?_⟩
  obtain ⟨z',s'⟩:=s1.new (o:=.lst vs) (p:=.lst ps) z hq ⟨_,bC,h2⟩
  exact .mk el hg z' s'
 | _=>cases e
theorem Ev.set_set {i:Nat} {x y:Option Lc}:(ρ.set i x).set i y=ρ.set i y:=by
 show Ev.mk ((ρ.vs.set i x).set i y) ρ.mu=_
 rw [List.set_set]
 rfl
theorem SR.takeO {i:Nat} {ws:List PV} (s:SR K H0 Z0 σ H ρ pd) (e:ρ.vs[i]?=some (some (.own (.lst ws)))):
 ∃ a,σ[i]?=some (some (.ref a))/\(∃ us,H a=some (.lst us))/\SR K H0 Z0 σ H (ρ.set i none) ((.ref a,.own (.lst ws))::pd):=by
 obtain ⟨v,e1,s1⟩:=s.take e
 obtain ⟨_,Z,_,z,so⟩:=s1.top
 obtain ⟨a,ea,⟨us,hu,_⟩,_⟩:=so.1 _ List.mem_cons_self
 have ea':v=.ref a:=Option.some.inj ea
 subst ea'
 exact ⟨a,e1,⟨us,hu⟩,s1⟩
noncomputable def lH (i:Nat) (f:EF):SF:=fun ρ=>match ρ.vs[i]? with
 | some (some (.own (.lst _)))=>(f ρ).bind fun y=>match y.2.vs[i]? with
  | some (some (.own (.lst ws)))=>if ws.length<100000 then some (.nx (y.2.set i (some (.own (.lst (ws++[y.1.pv])))))) else none
  | _=>none
 | _=>none
theorem Ss {i:Nat} {o e:Expr} {f:EF} {apos cpos pos:Pos} (h:PS X (.Expr (.Call (.Attribute o "append" apos) [e] [] cpos) pos) (Nj (Jj X.K "list" Ew (sH i) (jN X.K (aj f ao))))):
 PS X (.Expr (.Call (.Attribute o "append" apos) [e] [] cpos) pos) (eG X.K (lH i f)):=PS.imp h fun D σ H q=>by
 obtain ⟨H0,Z0,ρ,pd,fl,s,h,k⟩:=q
 unfold lH at h
 split at h
 . rename_i ws0 e0
   obtain ⟨y,h1,h2⟩:=bind_some h
   obtain ⟨a,ea,⟨us,hu⟩,_⟩:=s.takeO e0
   refine ⟨.ref a,ea,.inl ⟨rfl,us,b8.of hu⟩,H0,Z0,ρ,pd,[y.1],y.2,s,?_,fun vs H2 e2 s2=>?_⟩
   . unfold aj ao
     rw [h1]
     rfl
   . obtain ⟨v1,rfl⟩:=rN e2
     split at h2
     . rename_i ws e3
       split at h2
       . rename_i hz
         cases h2
         obtain ⟨a',ea',_,s3⟩:=SR.takeO s2 e3
         rw [ea] at ea'; cases ea'
         have s4:SR X.K H0 Z0 σ H2 (y.2.set i none) ((v1,y.1)::(.ref a,.own (.lst ws))::pd):=s3.swap
         obtain ⟨us2,hu2,hl,s5⟩:=s4.pushO
         refine ⟨a,us2,v1,rfl,rfl,hu2,by rw [hl,sizeLine_eq]; omega,k σ _ ?_⟩
         have s6:=s5.put ea
         rw [Ev.set_set] at s6
         exact s6
       . cases h2
     . cases h2
 . cases h
theorem SR.setO {v:V} {p:PV} {a:Addr} {ws:List PV} {j:Nat} (s:SR K H0 Z0 σ H ρ ((v,.sh p)::(.ref a,.own (.lst ws))::pd)):
 ∃ us,H a=some (.lst us)/\us.length=ws.length/\SR K H0 Z0 σ (upd H a (.lst (us.set j v))) ρ ((.ref a,.own (.lst (ws.set j p)))::pd):=by
 obtain ⟨el,Z,hg,z,r,so⟩:=s.sh
 have so2:=so.perm du.symm
 obtain ⟨_,eb,⟨us,hu,hr⟩,_⟩:=so2.1 _ List.mem_cons_self
 cases eb
 refine ⟨us,hu,hr.length,?_⟩
 obtain ⟨z',s'⟩:=so2.write (o:=.lst (us.set j v)) (q:=.lst (ws.set j p)) z ⟨us.set j v,bC,hr.set r j⟩
 exact .mk el hg z' s'
noncomputable def u6 (i:Nat) (fi fv:EF):SF:=fun ρ=>(fv ρ).bind fun x=>match x.2.vs[i]? with
 | some (some (.own (.lst _)))=>(fi x.2).bind fun y=>match y.1.pv,y.2.vs[i]? with
  | .int k,some (some (.own (.lst ws)))=>(oX ws.length k).map fun j=>.nx (y.2.set i (some (.own (.lst (ws.set j x.1.pv)))))
  | _,_=>none
 | _=>none
theorem Qd {i:Nat} {o ix e:Expr} {fi fv:EF} {tpos pos:Pos} (h:PS X (.Assign [.Subscript o ix tpos] e pos) (vP (tP X.K fv) (Bs (sH i) (tP X.K fi) G8))):PS X (.Assign [.Subscript o ix tpos] e pos) (eG X.K (u6 i fi fv)):=PS.imp h fun D σ H q=>by
 obtain ⟨H0,Z0,ρ,pd,fl,s,h,k⟩:=q
 obtain ⟨x,h1,h2⟩:=bind_some h
 refine ⟨H0,Z0,ρ,pd,x.1,x.2,s,h1,fun v H1 s1=>?_⟩
 split at h2
 . rename_i ws0 e0
   obtain ⟨y,h3,h4⟩:=bind_some h2
   obtain ⟨a,ea,_,_⟩:=s1.takeO e0
   refine ⟨.ref a,ea,H0,Z0,x.2,_,y.1,y.2,s1.freeze,h3,fun w H2 s2=>?_⟩
   split at h4
   . rename_i kk ws ek e3
     obtain ⟨j,h5,rfl⟩:=map_some h4
     obtain ⟨_,rw'⟩:=s2.freeze.repH
     rw [ek] at rw'
     have ew:=bf rw'
     obtain ⟨a',ea',_,s3⟩:=s2.pop.takeO e3
     rw [ea] at ea'; cases ea'
     obtain ⟨us,hu,hl,s4⟩:=s3.swap.setO (j:=j)
     refine ⟨a,us,kk,j,rfl,ew,hu,by rw [hl]; exact h5,k σ _ ?_⟩
     have s5:=s4.put ea
     rw [Ev.set_set] at s5
     exact s5
   . cases h4
 . cases h2
theorem zY {g:List Addr} {mu:Mu} {n:Nat} {a:Addr} {o:Option PV} (hg:g[n]?=some a) (hm:mu[n]?=some o):∃ R:Sl,List.Perm (cel g mu) ((some (.ref a),o.map Lc.own)::R)/\∀ o',List.Perm (cel g (mu.set n o')) ((some (.ref a),o'.map Lc.own)::R):=by
 have h1:(g.map fun a=>some (V.ref a))[n]?=some (some (.ref a)):=by rw [List.getElem?_map,hg]; rfl
 have h2:(mu.map fun o=>o.map Lc.own)[n]?=some (o.map Lc.own):=by rw [List.getElem?_map,hm]; rfl
 obtain ⟨R,p1,p2⟩:=uw (zip_get h1 h2)
 refine ⟨R,p1,fun o'=>?_⟩
 have:=p2 (some (.ref a),o'.map Lc.own)
 rw [← yE,set_same h1] at this
 unfold cel
 rw [List.map_set]
 exact this
theorem SR.cellO {v:V} {n:Nat} {p:PV} (s:SR K H0 Z0 σ H ρ ((v,.sh (.ptr n))::pd)) (hm:ρ.mu[n]?=some (some p)):
 ∃ a,v=.ref a/\SR K H0 Z0 σ H ⟨ρ.vs,ρ.mu.set n none⟩ ((.ref a,.own p)::(.ref a,.sh (.ptr n))::pd):=by
 obtain ⟨el,Z,hg,z,r,so⟩:=s.sh
 have r0:=r
 unfold Rep at r
 obtain ⟨a,rfl,ha⟩:=r
 obtain ⟨R,p1,p2⟩:=zY ha hm
 refine ⟨a,rfl,.mk (Z:=Z) el (by simpa using hg) z ?_⟩
 have so2:Slots K H0 Z H ((some (.ref a),some (.own p))::(R++(σ.zip ρ.vs++pd.map fun e=>(some e.1,some e.2)))):=so.perm (p1.append_right _).symm
 have so3:Slots K H0 Z H ((some (.ref a),none)::(some (.ref a),some (.own p))::(R++(σ.zip ρ.vs++pd.map fun e=>(some e.1,some e.2)))):=by
  refine ⟨fun e he=>?_,?_⟩
  . rcases List.mem_cons.mp he with rfl | he
    . trivial
    . exact so2.1 e he
  . rw [List.filterMap_cons_none rfl]; exact so2.2
 have so4:Slots K H0 Z H ((some (.ref a),some (.own p))::sl Z.g σ ⟨ρ.vs,ρ.mu.set n none⟩ pd):=(so3.perm (List.Perm.swap _ _ _)).perm (List.Perm.cons _ ((p2 none).append_right _))
 exact ((so4.consS r0).perm (List.Perm.swap _ _ _)).perm (List.Perm.cons _ du)
theorem SR.cellP {a:Addr} {n:Nat} {q:PV} (s:SR K H0 Z0 σ H ρ ((.ref a,.own q)::(.ref a,.sh (.ptr n))::pd)) (hm:ρ.mu[n]?=some none):SR K H0 Z0 σ H ⟨ρ.vs,ρ.mu.set n (some q)⟩ pd:=by
 obtain ⟨el,Z,hg,z,r,so⟩:=s.swap.sh
 unfold Rep at r
 obtain ⟨b,eb,ha⟩:=r
 cases eb
 obtain ⟨R,p1,p2⟩:=zY ha hm
 have so2:=so.perm du.symm
 refine ⟨el,Z,by simpa using hg,z,?_⟩
 have p3:List.Perm (sl Z.g σ ρ pd) ((some (.ref a),none)::(R++(σ.zip ρ.vs++pd.map fun e=>(some e.1,some e.2)))):=p1.append_right _
 have so3:=so2.perm (p3.symm.cons _)
 have so4:=so3.sub (L':=(some (.ref a),some (.own q))::(R++(σ.zip ρ.vs++pd.map fun e=>(some e.1,some e.2)))) ((List.sublist_cons_self _ _).cons_cons _)
 exact so4.perm ((p2 (some q)).append_right _)
noncomputable def pM (fo fi fv:EF):SF:=fun ρ=>(fv ρ).bind fun x=>(fo x.2).bind fun o=>(fi o.2).bind fun y=>match o.1.pv,y.1.pv with
 | .ptr n,.int k=>match y.2.mu[n]? with
  | some (some (.lst ws))=>(oX ws.length k).map fun j=>.nx ⟨y.2.vs,y.2.mu.set n (some (.lst (ws.set j x.1.pv)))⟩
  | _=>none
 | _,_=>none
theorem CJ {o ix e:Expr} {fo fi fv:EF} {tpos pos:Pos} (h:PS X (.Assign [.Subscript o ix tpos] e pos) (vP (tP X.K fv) (Bs (tP X.K fo) (tP X.K fi) G8))):PS X (.Assign [.Subscript o ix tpos] e pos) (eG X.K (pM fo fi fv)):=PS.imp h fun D σ H q=>by
 obtain ⟨H0,Z0,ρ,pd,fl,s,h,k⟩:=q
 obtain ⟨x,h1,h2⟩:=bind_some h
 obtain ⟨o,h3,h4⟩:=bind_some h2
 obtain ⟨y,h5,h6⟩:=bind_some h4
 refine ⟨H0,Z0,ρ,pd,x.1,x.2,s,h1,fun v H1 s1=>⟨H0,Z0,x.2,_,o.1,o.2,s1.freeze,h3,fun w H2 s2=>⟨H0,Z0,o.2,_,y.1,y.2,s2.freeze,h5,fun t H3 s3=>?_⟩⟩⟩
 split at h6
 . rename_i n kk en ek
   split at h6
   . rename_i ws em
     obtain ⟨j,h7,rfl⟩:=map_some h6
     obtain ⟨_,rt'⟩:=s3.freeze.repH
     rw [ek] at rt'
     have et:=bf rt'
     have s4:=s3.pop
     rw [en] at s4
     obtain ⟨a,rfl,s5⟩:=s4.cellO em
     have s6:SR X.K H0 Z0 σ H3 ⟨y.2.vs,y.2.mu.set n none⟩ ((v,.sh x.1.pv)::(.ref a,.own (.lst ws))::(.ref a,.sh (.ptr n))::pd):=s5.perm ((List.Perm.swap _ _ _).trans ((List.Perm.swap _ _ _).cons _))
     obtain ⟨us,hu,hl,s7⟩:=s6.setO (j:=j)
     have hn:n<y.2.mu.length:=(List.getElem?_eq_some_iff.mp em).1
     have s8:=s7.cellP (by show (y.2.mu.set n none)[n]?=_; rw [List.getElem?_set_self hn])
     refine ⟨a,us,kk,j,rfl,et,hu,by rw [hl]; exact h7,k σ _ ?_⟩
     have e8:(y.2.mu.set n none).set n (some (.lst (ws.set j x.1.pv)))=y.2.mu.set n (some (.lst (ws.set j x.1.pv))):=List.set_set ..
     have s9:SR X.K H0 Z0 σ (upd H3 a (.lst (us.set j v))) ⟨y.2.vs,(y.2.mu.set n none).set n (some (.lst (ws.set j x.1.pv)))⟩ pd:=s8
     rw [e8] at s9
     exact s9
   . cases h6
 . cases h6
noncomputable def aF (fa fb:EF):EF:=fun ρ=>(fa ρ).bind fun x=>(fb x.2).bind fun y=>match x.1.pv,y.1.pv with
 | .ptr n,.int k=>match y.2.mu[n]? with
  | some (some (.lst ws))=>(gn ws k).map fun p=>(.sh p,y.2)
  | _=>none
 | p,q=>(pH p q).map fun l=>(l,y.2)
theorem bc {a b:Expr} {pos:Pos} {fa fb:EF} (ha:PE X a (tP X.K fa)) (hb:PE X b (tP X.K fb)) (hm:uY b):PE X (.Subscript a b pos) (tP X.K (aF fa fb)):=PE.imp (G6 Ji ha hb hm) fun σ H Q q=>by
 obtain ⟨H0,Z0,ρ,pd,l,ρ',s,f,k⟩:=q
 obtain ⟨x,h1,h2⟩:=bind_some f
 obtain ⟨y,h3,h4⟩:=bind_some h2
 refine ⟨H0,Z0,ρ,pd,x.1,x.2,s,h1,fun v H1 s1=>⟨H0,Z0,x.2,_,y.1,y.2,s1,h3,fun w H2 s2=>?_⟩⟩
 have s3:=s2.freeze.swap.freeze.swap
 split at h4
 . rename_i n kk en ek
   split at h4
   . rename_i ws em
     obtain ⟨p,h5,h6⟩:=map_some h4
     cases h6
     rw [en,ek] at s3
     obtain ⟨_,rw'⟩:=s3.repH
     have ew:=bf rw'
     obtain ⟨a,rfl,s5⟩:=s3.pop.cellO em
     obtain ⟨el,Z,hg,z,so⟩:=s5.top
     obtain ⟨_,ea,⟨us,hu,hr⟩,_⟩:=so.1 _ List.mem_cons_self
     cases ea
     obtain ⟨j,e1,e2⟩:=u5 h5 hr.length
     obtain ⟨u,e3,e4⟩:=hr.get e1
     refine .inl ⟨a,us,kk,u,rfl,ew,b8.of hu,e2 u e3,k u H2 ?_⟩
     have s6:SR X.K H0 Z0 σ H2 ⟨y.2.vs,y.2.mu.set n none⟩ ((u,.sh p)::(.ref a,.own (.lst ws))::(.ref a,.sh (.ptr n))::pd):=.mk (Z:=Z) el hg z ((so.perm du).consS e4)
     have hn:n<y.2.mu.length:=(List.getElem?_eq_some_iff.mp em).1
     have s7:SR X.K H0 Z0 σ H2 ⟨y.2.vs,y.2.mu.set n none⟩ ((.ref a,.own (.lst ws))::(.ref a,.sh (.ptr n))::(u,.sh p)::pd):=s6.perm (((List.Perm.swap _ _ _).cons _).trans (List.Perm.swap _ _ _))
     have s8:=s7.cellP (by show (y.2.mu.set n none)[n]?=_; rw [List.getElem?_set_self hn])
     have e8:(y.2.mu.set n none).set n (some (.lst ws))=y.2.mu:=by rw [List.set_set]; exact set_same em
     have s9:SR X.K H0 Z0 σ H2 ⟨y.2.vs,(y.2.mu.set n none).set n (some (.lst ws))⟩ ((u,.sh p)::pd):=s8
     rw [e8] at s9
     exact s9
   . cases h4
 . obtain ⟨l',h5,h6⟩:=map_some h4
   cases h6
   exact JM H0 Z0 σ y.2 pd H2 v w x.1.pv y.1.pv _ Q s3 h5 k
mutual
noncomputable def mq:PV->Bool
 | .non=>true
 | .bl _=>true
 | .int _=>true
 | .str _=>true
 | .tup ps=>qz ps
 | _=>false
noncomputable def qz:List PV->Bool
 | []=>true
 | p::ps=>mq p&&qz ps
end
noncomputable def wZ:Lc->Bool
 | .sh p=>mq p
 | .own (.lst ps)=>qz ps
 | _=>false
noncomputable def N5:Option Lc->Option Lc
 | some l=>some (.sh l.pv)
 | none=>none
noncomputable def Ev.peek (ρ:Ev):Ev:=⟨ρ.vs.map N5,ρ.mu.map fun _=>none⟩
noncomputable def u9 (f:EF):EF:=fun ρ=>(f ρ.peek).bind fun x=>if wZ x.1=true then some (x.1,ρ) else none
noncomputable def pN (f:TF):TF:=fun ρ=>(f ρ.peek).map fun x=>(x.1,ρ)
noncomputable def zb:Option HO->Option HO->Option HO->Option HO
 | some (.tup vs),_,_=>some (.tup vs)
 | some (.frz o u),_,_=>some (.frz o u)
 | some _,z,_=>z
 | none,_,z=>z
noncomputable def pO (H:Hp) (Z Z':ZG):ZG:=⟨fun b=>zb (H b) (Z.z b) (Z'.z b),Z.g⟩
theorem JP {H H':Hp} {Z Z':ZG} (hh:cJ H H') (zh:cJ Z'.z H') {a:Addr} {vs:List V} (h:dj K Z'.z a vs):dj K (pO H Z Z').z a vs:=by
 rcases h with (h | ⟨o,h⟩) | h
 . refine .inl (.inl ?_)
   show zb (H a) (Z.z a) (Z'.z a)=_
   cases q:H a with
   | none=>exact h
   | some o=>
    have e1:=hh a o q
    rw [zh a _ h] at e1
    cases e1
    rfl
 . refine .inl (.inr ⟨o,?_⟩)
   show zb (H a) (Z.z a) (Z'.z a)=_
   cases q:H a with
   | none=>exact h
   | some o'=>
    have e1:=hh a o' q
    rw [zh a _ h] at e1
    cases e1
    rfl
 . exact .inr h
mutual
theorem CK {H H':Hp} {Z Z':ZG} (hh:cJ H H') (zh:cJ Z'.z H'):∀ {p:PV} {v:V},mq p=true->Rep K Z' p v->Rep K (pO H Z Z') p v
 | .non,v,_,h=>by unfold Rep at h ⊢; exact h
 | .bl _,v,_,h=>by unfold Rep at h ⊢; exact h
 | .int _,v,_,h=>by unfold Rep at h ⊢; exact h
 | .str _,v,_,h=>by unfold Rep at h ⊢; exact h
 | .tup ps,v,f,h=>by
  unfold Rep at h ⊢
  obtain ⟨a,vs,e,h1,h2⟩:=h
  unfold mq at f
  exact ⟨a,vs,e,JP hh zh h1,uB hh zh f h2⟩
 | .lst _,v,f,_=>by unfold mq at f; cases f
 | .dk _ _,v,f,_=>by unfold mq at f; cases f
 | .dt _ _,v,f,_=>by unfold mq at f; cases f
 | .obj _ _ _,v,f,_=>by unfold mq at f; cases f
 | .df _ _,v,f,_=>by unfold mq at f; cases f
 | .dtf _ _,v,f,_=>by unfold mq at f; cases f
 | .dx _ _ _,v,f,_=>by unfold mq at f; cases f
 | .ptr _,v,f,_=>by unfold mq at f; cases f
theorem uB {H H':Hp} {Z Z':ZG} (hh:cJ H H') (zh:cJ Z'.z H'):∀ {ps:List PV} {vs:List V},qz ps=true->aJ K Z' ps vs->aJ K (pO H Z Z') ps vs
 | [],vs,_,h=>by unfold aJ at h ⊢; exact h
 | p::ps,vs,f,h=>by
  obtain ⟨v,r,rfl,h1,h2⟩:=h.inv
  unfold qz at f
  rw [Bool.and_eq_true] at f
  exact aJ.cons (CK hh zh f.1 h1) (uB hh zh f.2 h2)
end
theorem SR.lookB (s:SR K H0 Z0 σ H ρ pd):
 ∃ Z,(σ.length=ρ.vs.length/\ρ.mu.length=Z.g.length/\fP Z ⟨H,Z.g⟩/\Slots K H0 Z H (sl Z.g σ ρ pd))/\(∀ H' v r ρ1,SR K H ⟨H,Z.g⟩ σ H' ρ1 [(v,r)]->wZ r=true->SR K H0 Z0 σ H' ρ ((v,r)::pd))/\∀ H' ρ1,SR K H ⟨H,Z.g⟩ σ H' ρ1 []->SR K H0 Z0 σ H' ρ pd:=by
 obtain ⟨el,Z,hg,z,so⟩:=s
 have lz:fP Z ⟨H,Z.g⟩:=⟨z.zh,List.prefix_refl _⟩
 have back:∀ {H':Hp} {Z':ZG},jj H ⟨H,Z.g⟩ Z' H'->jj H0 Z0 (pO H Z Z') H'/\Slots K H0 (pO H Z Z') H' (sl Z.g σ ρ pd):=fun {H' Z'} z'=>by
  have zz:fP Z (pO H Z Z'):=⟨fun b o e=>by
   show zb (H b) (Z.z b) (Z'.z b)=_
   have hb:=z.zh b o e
   rw [hb]
   cases o<;>first | rfl | exact e,List.prefix_refl _⟩
  have cas:∀ b o,(pO H Z Z').z b=some o->(∃ u,H b=some u/\((Bf u/\o=u)\/Z.z b=some o))\/(H b=none/\Z'.z b=some o):=fun b o e=>by
   have e:zb (H b) (Z.z b) (Z'.z b)=some o:=e
   cases q:H b with
   | none=>rw [q] at e; exact .inr ⟨rfl,e⟩
   | some u=>
    rw [q] at e
    refine .inl ⟨u,rfl,?_⟩
    cases u with
    | tup vs=>cases e; exact .inl ⟨trivial,rfl⟩
    | frz o' u=>cases e; exact .inl ⟨trivial,rfl⟩
    | _=>exact .inr e
  refine ⟨⟨fun b o e=>?_,z.h0.trans z'.h0,z.z0.trans zz,fun b o e=>?_⟩,?_⟩
  . rcases cas b o e with ⟨u,hu,⟨_,rfl⟩ | hz⟩ | ⟨_,hz⟩
    . exact z'.h0 b _ hu
    . exact z'.h0 b o (z.zh b o hz)
    . exact z'.zh b o hz
  . rcases cas b o e with ⟨u,hu,⟨hi,rfl⟩ | hz⟩ | ⟨hn,hz⟩
    . exact .inr (.inr hi)
    . exact z.new b o hz
    . exact .inr (.inl (z.h0.free hn))
  . refine so.step zz fun e he a ha=>?_
    obtain ⟨h1,h2,o,h3,h4⟩:=gB so he ha
    refine ⟨by rw [h3]; exact z'.h0 a o h3,?_⟩
    show zb (H a) (Z.z a) (Z'.z a)=_
    rw [h3]
    cases o with
    | tup vs=>exact (h4 trivial).elim
    | frz o u=>exact (h4 trivial).elim
    | _=>exact h1
 refine ⟨Z,⟨el,hg,lz,so⟩,fun H' v r ρ1 s1 hf=>?_,fun H' ρ1 s1=>?_⟩
 . obtain ⟨_,Z',hg',z',s2⟩:=s1.top
   obtain ⟨zo,ss⟩:=back z'
   have q:=s2.1 _ List.mem_cons_self
   refine .mk (Z:=pO H Z Z') el hg zo ?_
   cases r with
   | sh p=>
    obtain ⟨x,e1,e2⟩:=q
    cases e1
    exact ss.consS (CK z'.h0 z'.zh hf e2)
   | own p=>
    obtain ⟨a,e1,e2,e3,e4⟩:=q
    have e1':v=.ref a:=Option.some.inj e1
    subst e1'
    cases p with
    | lst ps=>
     obtain ⟨vs,g1,g2⟩:=e2
     refine ⟨fun e he=>?_,?_⟩
     . rcases List.mem_cons.mp he with rfl | he
       . refine ⟨a,rfl,⟨vs,g1,uB z'.h0 z'.zh hf g2⟩,?_,z.h0.free e4⟩
         show zb (H a) (Z.z a) (Z'.z a)=_
         rw [e4]
         exact e3
       . exact ss.1 e he
     . show (a::(sl Z.g σ ρ pd).filterMap jM).Nodup
       refine List.nodup_cons.mpr ⟨fun hm=>?_,ss.2⟩
       obtain ⟨e,he,hb⟩:=List.mem_filterMap.mp hm
       obtain ⟨_,_,o,h3,_⟩:=gB so he hb
       rw [h3] at e4; cases e4
    | _=>cases hf
 . obtain ⟨_,Z',hg',z',s2⟩:=s1
   obtain ⟨zo,ss⟩:=back z'
   exact ⟨el,pO H Z Z',hg,zo,ss⟩
theorem SR.peeked {H:Hp} {Z:ZG} {pk:Option Lc->Option Lc} (el:σ.length=ρ.vs.length) (hg:ρ.mu.length=Z.g.length)
 (hs:∀ v o,(v,o)∈σ.zip ρ.vs->pk o=none\/∃ x p,pk o=some (.sh p)/\v=some x/\Rep K ⟨H,Z.g⟩ p x):SR K H ⟨H,Z.g⟩ σ H ⟨ρ.vs.map pk,ρ.mu.map fun _=>none⟩ []:=by
 have key:∀ v l,(v,l)∈sl Z.g σ ⟨ρ.vs.map pk,ρ.mu.map fun _=>none⟩ []->l=none\/∃ x p,l=some (.sh p)/\v=some x/\Rep K ⟨H,Z.g⟩ p x:=fun v l he=>by
  rcases List.mem_append.mp he with he | he
  . obtain ⟨_,h2⟩:=List.of_mem_zip he
    obtain ⟨o,ho,e2⟩:=List.mem_map.mp h2
    obtain ⟨o',_,e3⟩:=List.mem_map.mp ho
    subst e3
    exact .inl e2.symm
  . rw [List.map_nil,List.append_nil] at he
    have he:(v,l)∈σ.zip (ρ.vs.map pk):=he
    rw [List.zip_map_right] at he
    obtain ⟨e,he2,e1⟩:=List.mem_map.mp he
    cases e1
    exact hs _ _ he2
 refine ⟨by simp [el],⟨H,Z.g⟩,by simp [hg],⟨cJ.refl _,cJ.refl _,fP.refl _,fun b o e=>.inl e⟩,fun e he=>?_,?_⟩
 . obtain ⟨v,l⟩:=e
   rcases key v l he with rfl | ⟨x,p,rfl,rfl,r⟩
   . trivial
   . exact ⟨x,rfl,r⟩
 . have:(sl Z.g σ ⟨ρ.vs.map pk,ρ.mu.map fun _=>none⟩ []).filterMap jM=[]:=by
    rw [List.filterMap_eq_nil_iff]
    intro e he
    obtain ⟨v,l⟩:=e
    rcases key v l he with rfl | ⟨x,p,rfl,rfl,_⟩
    . cases v with
      | none=>rfl
      | some x=>cases x<;>rfl
    . cases x<;>rfl
   show ((sl Z.g σ ⟨ρ.vs.map pk,ρ.mu.map fun _=>none⟩ []).filterMap jM).Nodup
   rw [this]
   exact List.nodup_nil
theorem SR.look (s:SR K H0 Z0 σ H ρ pd):
 ∃ Zt,SR K H Zt σ H ρ.peek []/\(∀ H' v r ρ1,SR K H Zt σ H' ρ1 [(v,r)]->wZ r=true->SR K H0 Z0 σ H' ρ ((v,r)::pd))/\∀ H' ρ1,SR K H Zt σ H' ρ1 []->SR K H0 Z0 σ H' ρ pd:=by
 obtain ⟨Z,⟨el,hg,lz,so⟩,b1,b2⟩:=s.lookB
 refine ⟨_,SR.peeked (pk:=N5) el hg fun v o he=>?_,b1,b2⟩
 have q:=so.1 _ (List.mem_append_right _ (List.mem_append_left _ he))
 match o,q with
 | none,_=>exact .inl rfl
 | some (.sh p),⟨x,e1,e2⟩=>exact .inr ⟨x,p,rfl,e1,e2.mono lz⟩
 | some (.own p),⟨a,e1,e2,_,_⟩=>exact .inr ⟨.ref a,p,rfl,e1,e2.rep lz rfl⟩
noncomputable def V3 (mu:Mu):PV->PV
 | .ptr n=>match mu[n]? with
  | some (some p)=>p
  | _=>.ptr n
 | p=>p
noncomputable def peekC (mu:Mu):Option Lc->Option Lc
 | some l=>some (.sh (V3 mu l.pv))
 | none=>none
noncomputable def Ev.peekC (ρ:Ev):Ev:=⟨ρ.vs.map (PL.peekC ρ.mu),ρ.mu.map fun _=>none⟩
theorem LC {f:EF}:∀ σ H Q,tP K (u9 f) σ H Q->tP K f σ H Q:=fun σ H Q q=>by
 obtain ⟨H0,Z0,ρ,pd,r,ρ',s,h,k⟩:=q
 obtain ⟨x,h1,h2⟩:=bind_some h
 obtain ⟨Zt,s1,b1,_⟩:=s.look
 split at h2
 . rename_i hf
   cases h2
   exact ⟨H,Zt,ρ.peek,[],x.1,x.2,s1,h1,fun v H' s2=>k v H' (b1 H' v x.1 x.2 s2 hf)⟩
 . cases h2
theorem UW {e:Expr} {f:EF} (h:PE X e (tP X.K f)):PE X e (tP X.K (u9 f)):=PE.imp h LC
theorem JQ {e:Expr} {f:TF} (h:PT X e (gC X.K f)):PT X e (gC X.K (pN f)):=PT.imp h fun σ H Q q=>by
 obtain ⟨H0,Z0,ρ,pd,r,ρ',s,h,k⟩:=q
 obtain ⟨x,h1,h2⟩:=map_some h
 cases h2
 obtain ⟨Zt,s1,_,b2⟩:=s.look
 exact ⟨H,Zt,ρ.peek,[],x.1,x.2,s1,h1,fun H' s2=>k H' (b2 H' x.2 s2)⟩
end
noncomputable def tG (x:Str):It:=⟨fun i _=>i<x.cps.size,fun i H v H'=>H'=H/\∃ c,x.cps[i]?=some c/\v=.str ⟨#[c]⟩,fun i _=>i=x.cps.size⟩
theorem CP {P:Program} {w:World} {tg:Expr} (it:Addr) (x:Str) {St:Nat->Heap->Prop} (W:∀ A':Around,A'.handled=none->Walks P w A' it [it] [it] x.cps.size (SignAt x) St)
 (hob:∀ i h,St i h->∃ o,h.get? it=some o/\∀ v,o.data≠.cell v) (slf:∀ (A:Around) (i:Nat) (s:Shared) (Q:Value->Shared->Prop) (E:Value->Shared->Prop),St i s.heap->Q (.ref it) s->wpAny (model P w) A (pyIter (.ref it)) Q E s):Turn P w K tg (tG x) [it] it St where
 mem:=by simp
 obj:=fun i h st b hb=>by
  have e:b=it:=by simpa using hb
  subst e
  exact hob i h st
 keep:=fun i h h' st k=>(W {} rfl).frame i h h' st k
 item:=by
  intro X hP hw hK hc i pins s σ H E I hf st hg
  subst hP hw hK
  obtain ⟨f0,f1,f2,f3,f4,f5⟩:=hf it (by simp)
  refine (W X.A (I.ok.hd hc)).item i s _ E hg st fun v h' tk hv st' hk=>?_
  obtain ⟨c,u,e1,rfl⟩:=hv
  have I1:Inv X pins σ H { s with heap:=h',toks:=tk }:=I.turned (fun b o hb e=>hk b o (by simpa using hb) e) f0 f1 f3 f4 f5
  refine ⟨_,rfl,?_⟩
  have fin:∃ x_1 H',Inv X pins σ H' { s with heap:=h',toks:=tk }/\RelV x_1 (.str ⟨#[c]⟩ u)/\(tG x).yld i H x_1 H'/\St (i+1) h'/\∀ b∈[it],H' b=none:=⟨.str ⟨#[c]⟩,H,I1,⟨u,rfl⟩,⟨rfl,c,e1,rfl⟩,st',fun b hb=>(hf b hb).1⟩
  unfold letOwnedTupleGo
  cases tg<;>exact wpAny_pure fin
 done:=by
  intro X hP hw hK hc i pins s σ H E I hf st hg
  subst hP hw hK
  obtain ⟨f0,f1,f2,f3,f4,f5⟩:=hf it (by simp)
  have hg:i=x.cps.size:=hg
  subst hg
  exact (W X.A (I.ok.hd hc)).done s _ E st fun h' tk hk=>⟨rfl,I.turned (fun b o hb e=>hk b o (by simpa using hb) e) f0 f1 f3 f4 f5⟩
 self:=fun A i s Q E st h=>slf A i s Q E st h
section
variable {X:Cx}
noncomputable def signs (x:Str):List PV:=x.cps.toList.map fun c=>.str ⟨#[c]⟩
noncomputable def Wn:PV->Option (List PV)
 | .str x=>some (signs x)
 | _=>none
theorem LQ {H0:Hp} {x:Str}:oG K H0 Z0 pd (tG x) (signs x):=by
 intro σ H ρ i s
 refine ⟨fun p hp=>?_,fun hl=>?_⟩
 . unfold signs at hp
   rw [List.getElem?_map] at hp
   obtain ⟨c,hc,rfl⟩:=map_some hp
   have hi:=(List.getElem?_eq_some_iff.mp hc).1
   refine ⟨(show i<x.cps.size by simpa using hi),fun v H' y=>?_⟩
   obtain ⟨rfl,c',hc',rfl⟩:=y
   have:c'=c:=by
    rw [Array.getElem?_toList] at hc
    rw [hc] at hc'
    exact (Option.some.inj hc').symm
   subst this
   exact s.scal mL
 . show i=x.cps.size
   simpa [signs] using hl
theorem Ek {P:Program} {w:World} {A:Around} {ys:List V} {its:List Value} {bs:List Bool} (rv:Vals ys its) (e:ys=bs.map V.bl):TruthOf P w A (fun i v=>its.toArray[i]?=some v) (fun i=>bs.getD i false):=by
 intro i v s Q E hv q
 have hv':its[i]?=some v:=by simpa using hv
 have hi:=(List.getElem?_eq_some_iff.mp hv').1
 have hl:=rv.length
 have hb:i<bs.length:=by rw [e,List.length_map] at hl; omega
 obtain ⟨u,h1,h2⟩:=rv.get (i:=i) (x:=.bl bs[i]) (by rw [e,List.getElem?_map,List.getElem?_eq_getElem hb]; rfl)
 rw [hv'] at h1; cases h1
 cases h2
 have:bs.getD i false=bs[i]:=by simp [hb]
 have q':Q (bs.getD i false) s:=q
 rw [this] at q'
 exact wpAny_truthy_bool q'
theorem range_all {bs:List Bool}:((List.range bs.length).all fun i=>bs.getD i false)=bs.all id:=by
 induction bs with
 | nil=>rfl
 | cons b r ih=>
  rw [List.length_cons,List.range_succ_eq_map,List.all_cons,List.all_map,List.all_cons]
  have:((List.range r.length).all ((fun i=>(b::r).getD i false) ∘ Nat.succ))=(List.range r.length).all fun i=>r.getD i false:=rfl
  rw [this,ih]
  rfl
theorem j8 (hc:X.calm=true):m9 X (.builtin "all") (fun xs H Q=>∃ (p:Addr) (bs:List Bool),xs=[.ref p]/\b8 X.K H p (bs.map V.bl)/\Q (.bl (bs.all id)) H):=by
 intro pins s σ H xs us Q I r h
 obtain ⟨p,bs,rfl,hq,q⟩:=h
 obtain ⟨u,rfl,ru⟩:=vals1 r
 cases ru
 obtain ⟨its,rv,pl,_⟩:=I.list hq
 have hlt:p<s.heap.objs.size:=by obtain ⟨o,n,g1,_⟩:=pl; exact Heap.lt_size g1
 refine call_all_walk (wpAny_pyIter_list pl.isList ?_)
 have old:∀ b o,s.heap.get? b=some o->(s.heap.push { cls:=.type "list_iterator",data:=.fields #[.ref p,.int 0 0] }).get? b=some o:=fun b o e=>Heap.get?_push_of_some _ e
 have hl:its.toArray.size=bs.length:=by rw [List.size_toArray,← rv.length,List.length_map]
 refine ⟨s.heap.objs.size,_,_,_,_,_,fun i=>bs.getD i false,rfl,Walks.list (A:=X.A.in1) (show X.A.in1.handled=none from I.ok.hd hc) _ p (Nat.ne_of_lt hlt) its.toArray,⟨⟨_,Heap.get?_push_size _ rfl,rfl,rfl⟩,?_⟩,Ek rv rfl,fun h' tk hk=>?_⟩
 . obtain ⟨o,g1,g2⟩:=pl.isList
   exact ⟨o,old _ _ g1,g2⟩
 . rw [hl,range_all]
   refine ⟨.bl _,H,I.kept (t':=tk) fun b o e=>hk b o ?_ (old b o e),rfl,q⟩
   have:=Heap.lt_size e
   simp
   exact Nat.ne_of_lt this
noncomputable def boolsOf:List PV->Option (List Bool)
 | []=>some []
 | .bl b::r=>(boolsOf r).map (b::·)
 | _=>none
theorem zZ {Z:ZG}:∀ {ps:List PV} {bs:List Bool} {vs:List V},boolsOf ps=some bs->aJ K Z ps vs->vs=bs.map V.bl
 | [],bs,vs,h,r=>by cases h; exact r.inv0
 | p::ps,bs,vs,h,r=>by
  cases p with
  | bl b=>
   obtain ⟨cs,h1,rfl⟩:=map_some h
   obtain ⟨v,w,rfl,r1,r2⟩:=r.inv
   rw [cY r1,zZ h1 r2]
   rfl
  | _=>cases h
noncomputable def Su:PV->Option Lc
 | .lst ps=>(boolsOf ps).map fun bs=>.sh (.bl (bs.all id))
 | _=>none
noncomputable abbrev all1:List PV->Option Lc:=fun ps=>match ps with | [p]=>Su p | _=>none
theorem w5:jo K (fun xs H Q=>∃ (p:Addr) (bs:List Bool),xs=[.ref p]/\b8 K H p (bs.map V.bl)/\Q (.bl (bs.all id)) H) all1:=jo.one fun H0 Z0 σ ρ pd H v p l Q s e k=>by
 obtain ⟨_,r⟩:=s.repH
 cases p with
 | lst ps=>
  obtain ⟨bs,h1,rfl⟩:=map_some (show (boolsOf ps).map (fun bs=>Lc.sh (.bl (bs.all id)))=some l from e)
  unfold Rep at r
  obtain ⟨a,vs,rfl,h2,h3⟩:=r
  have:=zZ h1 h3
  subst this
  exact ⟨a,bs,rfl,h2,k _ H (s.pop.scal cz)⟩
 | _=>cases e
noncomputable def Vl:PV->Option String
 | .non=>some "NoneType"
 | .bl _=>some "bool"
 | .int _=>some "int"
 | .str _=>some "str"
 | .tup _=>some "tuple"
 | .lst _=>some "list"
 | _=>none
noncomputable def CQ (p:PV) (C:String):Option Bool:=(Vl p).bind fun T=>if (Value.type T==Value.type C)=true then some true else if W.kitMeta C=true then (fastBuiltinMro T).map fun x=>x.contains (.type C) else none
theorem oM {p:PV} {T C:String} {b:Bool} (h1:Vl p=some T) (h:CQ p C=some b):W.kitOne K (.type T) (.type C)=some b:=by
 unfold CQ at h
 rw [h1,Option.bind_some] at h
 exact h
theorem vL:m9 X (.builtin "isinstance") (fun xs H Q=>∃ x C g p b,xs=[x,.ty C]/\Rep X.K ⟨H,g⟩ p x/\CQ p C=some b/\Q (.bl b) H):=by
 intro pins s σ H xs us Q I r h
 obtain ⟨x,C,g,p,b,rfl,rp,e,q⟩:=h
 obtain ⟨u,w',rfl,ru,rw'⟩:=vals2 r
 cases rw'
 have fin:∀ tk,EP X pins σ Q (.bool b) { s with toks:=tk }:=fun tk=>⟨.bl b,H,I.tok tk,rfl,q⟩
 cases p with
 | non=>have:=gR rp; subst this; cases ru; exact W.kia_one W.kitx_none I.kIn trivial (oM rfl e) (by intro z; cases z) fin
 | bl c=>have:=cY rp; subst this; cases ru; exact W.kia_one W.kitx_bool I.kIn trivial (oM rfl e) (by intro z; cases z) fin
 | int i=>have:=bf rp; subst this; obtain ⟨t,rfl⟩:=ru; exact W.kia_one W.kitx_int I.kIn trivial (oM rfl e) (by intro z; cases z) fin
 | str i=>have:=cj rp; subst this; obtain ⟨t,rfl⟩:=ru; exact W.kia_one W.kitx_str I.kIn trivial (oM rfl e) (by intro z; cases z) fin
 | tup ps=>
  obtain ⟨a,vs,its,rfl,_,_,_,o,t1,t2,_⟩:=rO I rp ru
  exact W.kia_one (t:=.type "tuple") W.kitx_tuple I.kIn ⟨o,t1,t2⟩ (oM rfl e) (by intro z; cases z) fin
 | lst ps=>
  obtain ⟨a,vs,its,rfl,_,_,_,o,t1,t2,_⟩:=oZ I rp ru
  exact W.kia_one (t:=.type "list") W.kitx_list I.kIn ⟨o,t1,t2⟩ (oM rfl e) (by intro z; cases z) fin
 | _=>cases e
noncomputable def N6 (C:String) (f:EF):EF:=fun ρ=>(f ρ).bind fun x=>(CQ x.1.pv C).map fun b=>(.sh (.bl b),x.2)
theorem Vm {C:String} {f:EF} {e c:Expr} {pp pos:Pos} (h:PE X (.Call (.Name "isinstance" pp) [e,c] [] pos) (zH (fun xs H Q=>∃ x C g p b,xs=[x,.ty C]/\Rep X.K ⟨H,g⟩ p x/\CQ p C=some b/\Q (.bl b) H) (wF (tP X.K f) (wF (tC (.ty C)) Bw)))):
 PE X (.Call (.Name "isinstance" pp) [e,c] [] pos) (tP X.K (N6 C f)):=PE.imp h fun σ H Q q=>by
 obtain ⟨H0,Z0,ρ,pd,r,ρ',s,h,k⟩:=q
 obtain ⟨x,h1,h2⟩:=bind_some h
 obtain ⟨b,h3,h4⟩:=map_some h2
 cases h4
 refine ⟨H0,Z0,ρ,pd,x.1,x.2,s,h1,fun v H1 s1=>?_⟩
 obtain ⟨g,r1⟩:=s1.freeze.repH
 exact ⟨v,C,g,_,b,rfl,r1,h3,k _ H1 (s1.pop.scal cz)⟩
noncomputable def strsOf:List PV->Option (List Str)
 | []=>some []
 | .str x::r=>(strsOf r).map (x::·)
 | _=>none
theorem tH {Z:ZG}:∀ {ps:List PV} {xs:List Str} {vs:List V},strsOf ps=some xs->aJ K Z ps vs->vs=xs.map V.str
 | [],xs,vs,h,r=>by cases h; exact r.inv0
 | p::ps,xs,vs,h,r=>by
  cases p with
  | str b=>
   obtain ⟨cs,h1,rfl⟩:=map_some h
   obtain ⟨v,w,rfl,r1,r2⟩:=r.inv
   rw [cj r1,tH h1 r2]
   rfl
  | _=>cases h
theorem w6:∀ {xs:List Str} {its:List Value},Vals (xs.map V.str) its->StrsAre its xs
 | [],_,.nil=>.nil
 | x::xs,_,.cons r t=>by
  obtain ⟨tk,rfl⟩:=r
  exact .cons _ _ (w6 t)
theorem Fp:Vg X "str.join" (fun x xs H Q=>∃ (z:Str) (p:Addr) (ys:List Str),x=.str z/\xs=[.ref p]/\b8 X.K H p (ys.map V.str)/\(ys.map (·.length)).sum+ys.length*z.length<=16777216/\Q (.str (Txt.join z ys)) H):=by
 intro pins s σ H x vs v us Q I rx rv h
 obtain ⟨z,p,ys,rfl,rfl,hq,hz,q⟩:=h
 obtain ⟨t,rfl⟩:=rx
 obtain ⟨u,rfl,ru⟩:=rv.one
 cases ru
 obtain ⟨its,rvs,pl,_⟩:=I.list hq
 exact join_list pl.isList (by simpa using w6 rvs) hz fun t' k=>⟨.str _,H,I.tok k,⟨t',rfl⟩,q⟩
noncomputable def oV (f:EF) (a:AF):EF:=fun ρ=>(f ρ).bind fun x=>(a x.2).bind fun y=>match x.1.pv,y.1.map Lc.pv with
 | .str z,[.lst ps]=>(strsOf ps).bind fun xs=>if (xs.map (·.length)).sum+xs.length*z.length<=100000 then some (.sh (.str (Txt.join z xs)),y.2) else none
 | _,_=>none
theorem N7 {o e:Expr} {f:EF} {a:AF} {apos cpos:Pos} (h:PE X (.Call (.Attribute o "join" apos) [e] [] cpos) (Jj X.K "str" (fun x xs H Q=>∃ (z:Str) (p:Addr) (ys:List Str),x=.str z/\xs=[.ref p]/\b8 X.K H p (ys.map V.str)/\(ys.map (·.length)).sum+ys.length*z.length<=16777216/\Q (.str (Txt.join z ys)) H) (tP X.K f) (jN X.K a))):
 PE X (.Call (.Attribute o "join" apos) [e] [] cpos) (tP X.K (oV f a)):=PE.imp h fun σ H Q q=>by
 obtain ⟨H0,Z0,ρ,pd,r,ρ',s,h,k⟩:=q
 obtain ⟨x,h1,h2⟩:=bind_some h
 obtain ⟨y,h3,h4⟩:=bind_some h2
 refine ⟨H0,Z0,ρ,pd,x.1,x.2,s,h1,fun v H1 s1=>?_⟩
 split at h4
 . rename_i z ps ez ep
   obtain ⟨xs,h5,h6⟩:=bind_some h4
   split at h6
   . rename_i hz
     cases h6
     obtain ⟨_,rz⟩:=s1.freeze.repH
     rw [ez] at rz
     have:=cj rz
     subst this
     refine ⟨rfl,H0,Z0,x.2,pd,y.1,y.2,s1.pop,h3,fun vs H2 e2 s2=>?_⟩
     obtain ⟨el,Z,hg,zz,rl,ss⟩:=s2.repl e2
     rw [ep] at rl
     obtain ⟨w,rr,rfl,r1,r2⟩:=rl.inv
     have:=r2.inv0
     subst this
     unfold Rep at r1
     obtain ⟨b,ws,rfl,g1,g2⟩:=r1
     have:=tH h5 g2
     subst this
     exact ⟨z,b,xs,rfl,rfl,b8.same zz.zh g1,by omega,k _ H2 (.mk (Z:=Z) el hg zz (ss.consS (mL _)))⟩
   . cases h6
 . cases h4
end
section
variable {prog:Program} {w:World} {A:Around} {E:Value->Shared->Prop} {s:Shared}
theorem Aa {it t:Addr} {items:Array Value} (hne:t≠it):∀ (n i:Nat) (s:Shared) (Q:List Value->Shared->Prop),s.heap.IsListIter it t i->s.heap.IsList t items->i+n<=items.size->
 (∀ h',h'.IsListIter it t (i+n)->Heap.SameBut it s.heap h'->Q ((items.toList.drop i).take n) { s with heap:=h' })->wpAny (model prog w) A (draw (.ref it) n) Q E s
 | 0,i,s,Q,hit,_,_,hQ=>by
  show wpAny _ _ (pure []) Q E s
  exact wpAny_pure (by simpa using hQ s.heap hit (Heap.SameBut.refl ..))
 | n+1,i,s,Q,hit,ht,hle,hQ=>by
  have hlt:i<items.size:=by omega
  show wpAny _ _ (pyNext (.ref it) >>= _) Q E s
  refine wpAny_bind (wpAny_pyNext_list_item hit ht (x:=items[i]) (by simp [hlt]) fun h₁ hit₁ hs₁=>?_)
  refine wpAny_bind (wpAny_holding (Aa hne n (i+1) _ _ hit₁ (ht.extBut hs₁.extBut hne) (by omega) fun h₂ hit₂ hs₂=>wpAny_pure ?_))
  have hd:items.toList.drop i=items[i]::items.toList.drop (i+1):=by simp [List.drop_eq_getElem_cons,hlt]
  have:=hQ h₂ (by rw [show i+(n+1)=i+1+n by omega]; exact hit₂) (hs₁.trans hs₂)
  rw [hd,List.take_succ_cons] at this
  exact this
theorem v7 {t:Addr} {items:Array Value} {Q:List Value->Shared->Prop} (hh:A.handled=none) (ht:s.heap.IsList t items)
 (hQ:∀ h',Heap.ExtBut s.heap.objs.size s.heap h'->Q items.toList { s with heap:=h' }):wpAny (model prog w) A (unpackItems (.ref t) items.size none) Q E s:=by
 have hlt:t≠s.heap.objs.size:=by obtain ⟨o,ho,_⟩:=ht; exact Nat.ne_of_lt (Heap.lt_size ho)
 unfold unpackItems
 refine wpAny_bind ?_
 . unfold notIterableAtAll
   refine wpAny_bind (wpAny_specialOf ht.typeIs slot_list_iter.lookup ?_)
   refine wpAny_pure ?_
   simp only [Bool.false_eq_true,if_false]
   refine wpAny_bind (wpAny_holding (wpAny_pyIter_list ht ?_))
   refine wpAny_bind (wpAny_holding (Aa hlt items.size 0 _ _ ⟨_,Heap.get?_push_size _ rfl,rfl,rfl⟩ (by obtain ⟨o,g1,g2⟩:=ht; exact ⟨o,Heap.get?_push_of_some _ g1,g2⟩) (by omega) fun h₁ hit₁ hs₁=>?_))
   have hall:List.take items.size (List.drop 0 items.toList)=items.toList:=by
    rw [List.drop_zero]; exact List.take_of_length_le (by simp)
   rw [hall]
   rw [if_neg (by simp)]
   have ht₁:h₁.IsList t items:=Heap.IsList.extBut (by obtain ⟨o,g1,g2⟩:=ht; exact ⟨o,Heap.get?_push_of_some _ g1,g2⟩) hs₁.extBut hlt
   refine wpAny_bind (wpAny_holding (wpAny_pyNext_list_end hh hit₁ ht₁ (by simp) fun h₂ he₂=>?_))
   simp only [Option.isSome_none,Bool.false_eq_true,if_false]
   refine wpAny_pure (hQ h₂ fun b o hb e=>he₂ b o hb (hs₁.extBut b o hb (Heap.get?_push_of_some _ e)))
end
section
variable {X:Cx} {pos:Pos}
noncomputable def Sv (K:FG) (n:Nat) (t:tX):TG:=fun v σ H Q=>∃ a xs,v=.ref a/\(dj K H a xs\/b8 K H a xs)/\xs.length=n/\t xs σ H Q
theorem qC {es:List Expr} {k:Nat} {t:tX} {n:Nat} (hc:X.calm=true) (h:Iz X es t)
 (hn:(assignEach es X.env).length=n:=by rfl) (hst:(assignEach es X.env).findIdx? (·.1)=none:=by rfl):PG X (.Tuple es k pos) (Sv X.K n t):=by
 intro pins s σ H v u Q I r hw
 obtain ⟨a,xs,e1,hq,hl,hw⟩:=hw
 rcases hq with hq | hq
 . exact Rh hc h hn hst pins s σ H v u Q I r ⟨a,xs,e1,hq,hl,hw⟩
 . subst e1
   cases r
   obtain ⟨its,rv,ht,hz⟩:=I.list hq
   rw [assign_Tuple]
   refine wpAny_bind (wpAny_standAt ?_)
   unfold unpack
   have hsz:(assignEach es X.env).length=its.toArray.size:=by simp [hn,← hl,rv.length]
   rw [hsz,hst]
   refine wpAny_bind (wpAny_holding (v7 (I.ok.hd hc) ht.isList fun h' hx=>?_))
   have I1:Inv X pins σ H { s with heap:=h' }:=I.kept (t':=s.toks) fun b o e=>hx b o (Nat.ne_of_lt (Heap.lt_size e)) e
   exact h pins _ σ H xs _ Q I1 (by simpa using rv) hw
noncomputable def gM (n:Nat) (bs:Ck):BF:=fun p ρ=>match p with
 | .tup ps=>if ps.length=n then bs ps ρ else none
 | .lst ps=>if ps.length=n then bs ps ρ else none
 | _=>none
theorem qD {n:Nat} {t:tX} {bs:Ck} (h1:NQ K t bs):GS K (Sv K n t) (gM n bs):=by
 intro H0 Z0 σ H ρ pd v p ρ' Q s h k
 cases p with
 | tup ps=>
  have h':(if ps.length=n then bs ps ρ else none)=some ρ':=h
  split at h'
  . rename_i hn
    obtain ⟨e,Z,hg,z,r,sl'⟩:=s.sh
    unfold Rep at r
    obtain ⟨a,vs,rfl,h2,h3⟩:=r
    exact ⟨a,vs,rfl,.inl (dj.same z.zh h2),by rw [h3.length]; exact hn,h1 H0 Z0 σ H ρ pd vs ps ρ' Q h3.length (SR.items e hg z h3 sl') h' k⟩
  . cases h'
 | lst ps=>
  have h':(if ps.length=n then bs ps ρ else none)=some ρ':=h
  split at h'
  . rename_i hn
    obtain ⟨e,Z,hg,z,r,sl'⟩:=s.sh
    unfold Rep at r
    obtain ⟨a,vs,rfl,h2,h3⟩:=r
    exact ⟨a,vs,rfl,.inr (b8.same z.zh h2),by rw [h3.length]; exact hn,h1 H0 Z0 σ H ρ pd vs ps ρ' Q h3.length (SR.items e hg z h3 sl') h' k⟩
  . cases h'
 | _=>cases h
noncomputable def V4 (K:FG) (tl:TE):TI:=fun σ H R=>tl σ H fun x H1=>(∃ a,x=.ref a/\(∃ xs,b8 K H1 a xs)/\R (Np K a) H1)\/(∃ a,x=.ref a/\(∃ xs,dj K H1 a xs)/\R (Nq K a) H1)\/∃ z,x=.str z/\R (tG z) H1
theorem Sw {tg l:Expr} {tl:TE} (hl:PE X l tl):PI X tg l (V4 X.K tl):=by
 intro pins s σ H R I h
 have at':∀ (v:Value) (s1:Shared) (x:V) (H1:Hp),Inv X pins σ H1 s1->RelV x v->((∃ a,x=.ref a/\(∃ xs,b8 X.K H1 a xs)/\R (Np X.K a) H1)\/(∃ a,x=.ref a/\(∃ xs,dj X.K H1 a xs)/\R (Nq X.K a) H1)\/∃ z,x=.str z/\R (tG z) H1)->
  wpAny (model X.prog X.w) X.A (pyIter v) (PIE X pins σ tg R) X.xe s1:=fun v s1 x H1 I1 r1 q=>by
  have fp:∀ b,b∈[s1.heap.objs.size]->m8 X pins H1 b:=fun b hb=>by
   have e:b=s1.heap.objs.size:=by simpa using hb
   subst e
   exact I1.fpOk (Nat.le_refl _) (I1.hok.fresh (Nat.le_refl _))
  rcases q with ⟨a,rfl,⟨xs,hq⟩,q⟩ | ⟨a,rfl,⟨xs,hq⟩,q⟩ | ⟨z,rfl,q⟩
  . cases r1
    obtain ⟨its,rv,p,hz⟩:=I1.list hq
    exact wpAny_pyIter_list p.isList ⟨s1.heap.objs.size,[s1.heap.objs.size],_,_,H1,rfl,I1.kept (t':=s1.toks) fun b o e=>Heap.get?_push_of_some _ e,IK a _,⟨_,Heap.get?_push_size _ rfl,rfl,rfl⟩,fp,q⟩
  . cases r1
    obtain ⟨its,rv,p,hz⟩:=I1.tuple hq
    exact wpAny_pyIter_tuple p ⟨s1.heap.objs.size,[s1.heap.objs.size],_,_,H1,rfl,I1.kept (t':=s1.toks) fun b o e=>Heap.get?_push_of_some _ e,Gy a _,⟨_,Heap.get?_push_size _ rfl,rfl,rfl⟩,fp,q⟩
  . obtain ⟨t,rfl⟩:=r1
    have kp:∀ (o:Obj),Inv X pins σ H1 { s1 with heap:=s1.heap.push o }:=fun o=>I1.kept (t':=s1.toks) fun b u e=>Heap.get?_push_of_some _ e
    have ob:∀ {n:String} (i:Nat) (h:Heap),h.IsStrIter s1.heap.objs.size n z t i->∃ o,h.get? s1.heap.objs.size=some o/\∀ v,o.data≠.cell v:=fun i h st=>by
     obtain ⟨o,ho,_,hd⟩:=st
     exact ⟨o,ho,fun v e=>by rw [hd] at e; cases e⟩
    cases ha:z.cps.all (·<128)
    . exact wpAny_pyIter_wide ha ⟨s1.heap.objs.size,[s1.heap.objs.size],_,tG z,H1,rfl,kp _,CP _ z (fun A' hA=>Walks.strWide hA _ z t) ob (fun A i s Q E st h=>wpAny_pyIter_striter_wide st h),⟨_,Heap.get?_push_size _ rfl,rfl,rfl⟩,fp,q⟩
    . exact wpAny_pyIter_ascii ha ⟨s1.heap.objs.size,[s1.heap.objs.size],_,tG z,H1,rfl,kp _,CP _ z (fun A' hA=>Walks.strAscii hA _ z t) ob (fun A i s Q E st h=>wpAny_pyIter_striter_ascii st h),⟨_,Heap.get?_push_size _ rfl,rfl,rfl⟩,fp,q⟩
 exact bz (hl pins s σ H _ I h) fun v s1 ⟨x,H1,I1,r1,q⟩=>at' v s1 x H1 I1 r1 q
noncomputable def bO:PV->Option (List PV)
 | .lst ps=>some ps
 | .tup ps=>some ps
 | .str x=>some (signs x)
 | _=>none
theorem dD {tg l:Expr} {f:EF} (hl:PE X l (tP X.K f)):PI X tg l (Fe X.K (dG f bO)):=PI.imp (Sw hl) fun σ H R q=>by
 obtain ⟨H0,Z0,ρ,pd,xs,ρ',s,h,k⟩:=q
 obtain ⟨x,h1,h2⟩:=bind_some h
 obtain ⟨ys,h3,h4⟩:=map_some h2
 cases h4
 refine ⟨H0,Z0,ρ,pd,x.1,x.2,s,h1,fun v H1 s1=>?_⟩
 have s2:=s1.freeze
 cases e:x.1.pv with
 | lst ps=>
  rw [e] at h3 s2
  cases h3
  obtain ⟨Z,z,r⟩:=s2.rep
  unfold Rep at r
  obtain ⟨b,vs,rfl,h1',h2'⟩:=r
  exact .inl ⟨b,rfl,⟨vs,b8.same z h1'⟩,k _ _ _ s2 JD (List.sublist_cons_self _ _)⟩
 | tup ps=>
  rw [e] at h3 s2
  cases h3
  obtain ⟨Z,z,r⟩:=s2.rep
  unfold Rep at r
  obtain ⟨b,vs,rfl,h1',h2'⟩:=r
  exact .inr (.inl ⟨b,rfl,⟨vs,dj.same z h1'⟩,k _ _ _ s2 Lx (List.sublist_cons_self _ _)⟩)
 | str z=>
  rw [e] at h3 s2
  cases h3
  obtain ⟨_,r⟩:=s2.repH
  exact .inr (.inr ⟨z,cj r,k _ _ _ s2.pop LQ (List.Sublist.refl _)⟩)
 | _=>rw [e] at h3; cases h3
noncomputable def rR (g g':PV->PV->Option Lc) (fa fb fc:EF):EF:=fun ρ=>(fa ρ).bind fun x=>(fb x.2).bind fun y=>(g x.1.pv y.1.pv).bind fun z=>match z.pv with
 | .bl true=>(fc y.2).bind fun w=>(g' y.1.pv w.1.pv).map fun l=>(l,w.2)
 | .bl false=>some (.sh (.bl false),y.2)
 | _=>none
theorem JR {r r':R2} {g g':PV->PV->Option Lc} (hs:jt X.K r g) (hs':jt X.K r' g') {fa fb fc:EF}:∀ σ H Q,tP X.K (rR g g' fa fb fc) σ H Q->Je r r' (tP X.K fa) (tP X.K fb) (tP X.K fc) σ H Q:=fun σ H Q q=>by
 obtain ⟨H0,Z0,ρ,pd,l,ρ',s,f,k⟩:=q
 obtain ⟨x,h1,h2⟩:=bind_some f
 obtain ⟨y,h3,h4⟩:=bind_some h2
 obtain ⟨z,h5,h6⟩:=bind_some h4
 refine ⟨H0,Z0,ρ,pd,x.1,x.2,s,h1,fun v H1 s1=>⟨H0,Z0,x.2,_,y.1,y.2,s1,h3,fun w H2 s2=>?_⟩⟩
 have s3:=s2.freeze.swap.freeze.swap
 have s4:SR X.K H0 Z0 σ H2 y.2 ((w,.sh y.1.pv)::(v,.sh x.1.pv)::(w,.sh y.1.pv)::pd):=s3.dup.perm ((List.Perm.swap _ _ _).cons _)
 refine hs H0 Z0 σ y.2 _ H2 v w x.1.pv y.1.pv z _ s4 h5 fun u H3 s5=>?_
 obtain ⟨_,ru⟩:=s5.freeze.repH
 split at h6
 . rename_i e
   rw [e] at ru
   refine ⟨true,cY ru,?_⟩
   rw [if_pos rfl]
   obtain ⟨t,h7,h8⟩:=bind_some h6
   obtain ⟨l',h9,h10⟩:=map_some h8
   cases h10
   refine ⟨H0,Z0,y.2,_,t.1,t.2,s5.pop,h7,fun b H4 s6=>?_⟩
   exact hs' H0 Z0 σ t.2 pd H4 w b y.1.pv t.1.pv _ Q s6.freeze h9 k
 . rename_i e
   rw [e] at ru
   refine ⟨false,cY ru,?_⟩
   rw [if_neg Bool.false_ne_true]
   cases h6
   exact k _ H3 (s5.pop.pop.scal cz)
 . cases h6
theorem Sx {op op':CmpOp} {a b c:Expr} {r r':R2} {g g':PV->PV->Option Lc} {fa fb fc:EF} (ho:fj X (compareOp op) r) (ho':fj X (compareOp op') r') (hs:jt X.K r g) (hs':jt X.K r' g') (ha:PE X a (tP X.K fa)) (hb:PE X b (tP X.K fb)) (hc:PE X c (tP X.K fc))
 (hm:lastMarks [op,op'] [b,c]=false:=by with_unfolding_all rfl):PE X (.Compare a [op,op'] [b,c] pos) (tP X.K (rR g g' fa fb fc)):=PE.imp (KN ho ho' ha hb hc hm) (JR hs hs')
end
section
variable {P:Program} {w:World} {K:FG} {mg:Str->Option Value} {base:Heap}
noncomputable def Sy (mg:Str->Option Value) (L:List Str):Prop:=∀ x∈L,mg x=none
noncomputable def Bj (K:FG):Sp:=fun vs H Q _=>∃ (a:Addr) (ns:List Int),vs=[.ref a]/\b8 K H a (ns.map V.int)/\ns.length<=63/\∀ H',Q (.bl true) H'
theorem SJ {f:Addr} {fd:FuncData} {k:Nat} {g:GF} (F:gb P w K mg base oY k f fd ["_law_script"] (bT K 1 g)) (h:∀ ns:List Int,ns.length<=63->∃ mu',g [.lst (ns.map PV.int)] []=some (.sh (.bl true),mu')):gb P w K mg base oY k f fd ["_law_script"] (Bj K):=
 F.imp fun vs H Q E q=>by
  obtain ⟨a,ns,rfl,hs,hl,k⟩:=q
  obtain ⟨mu',e⟩:=h ns hl
  refine ⟨⟨H,[]⟩,[.lst (ns.map PV.int)],[],_,mu',rfl,rfl,cJ.refl _,aJ.cons ?_ .nil,⟨fun e he=>(by cases he),List.nodup_nil⟩,e,fun v H' r=>?_⟩
  . unfold Rep
    refine ⟨a,ns.map V.int,rfl,hs,?_⟩
    clear hs e hl
    induction ns with
    | nil=>exact .nil
    | cons n r ih=>exact aJ.cons (dw _) ih
  . obtain ⟨Z',_,_,s⟩:=r
    obtain ⟨x,e1,e2⟩:=s.1 _ List.mem_cons_self
    cases e1
    rw [cY e2]
    exact k H'
end
theorem aR:∀ ρ ls ρ1,ao ρ=some (ls,ρ1)->ls.length=0:=fun ρ ls ρ1 h=>by cases h; rfl
theorem aB {f:EF} {g:AF} {n:Nat} (h:∀ ρ ls ρ1,g ρ=some (ls,ρ1)->ls.length=n):∀ ρ ls ρ1,aj f g ρ=some (ls,ρ1)->ls.length=n+1:=fun ρ ls ρ1 e=>by
 obtain ⟨x,h1,h2⟩:=bind_some e
 obtain ⟨y,h3,h4⟩:=map_some h2
 cases h4
 rw [List.length_cons,h _ _ _ h3]
theorem N8 {X:Cx} {M F:List Str} {ixs:List Nat} {sc:Scope} (S:Scope) (hS:X.env.scope=S) (kind:sc.kind=.function) (locs:∀ y∈sc.names,y.2=.local->sc.names.lookup y.1=some .local) (cel:∀ y∈sc.names,y.2=.cell->sc.names.lookup y.1=some .cell)
 (own:∀ p∈sc.names,p.2=.free->S.names.lookup p.1=some .cell\/S.names.lookup p.1=some .free) (frs:∀ x∈F,sc.names.lookup x=some .free) (ix:ixs.map (fun i=>X.N[i]?)=F.map some):ig X M F ixs sc:=by
 refine ⟨kind,locs,cel,fun p hp e=>by rw [hS]; exact own p hp e,frs,?_,fun j i h=>?_⟩
 . have:=congrArg List.length ix
   simpa using this
 . have h2:(ixs.map (fun i=>X.N[i]?))[j]?=some X.N[i]?:=by rw [List.getElem?_map,h]; rfl
   rw [ix,List.getElem?_map] at h2
   cases q:F[j]? with
   | none=>rw [q] at h2; cases h2
   | some x=>rw [q] at h2; exact (Option.some.inj h2).symm
theorem csn {X:Cx} {M F:List Str} {ixs:List Nat} {sc:Scope} (kind:sc.kind=.function:=by rfl) (locs:∀ y∈sc.names,y.2=.local->sc.names.lookup y.1=some .local:=by decide +kernel) (cel:∀ y∈sc.names,y.2=.cell->sc.names.lookup y.1=some .cell:=by decide +kernel)
 (own:(sc.names.all fun p=>p.2 != .free||(X.env.scope.names.lookup p.1==some .cell||X.env.scope.names.lookup p.1==some .free))=true:=by rfl) (frs:∀ x∈F,sc.names.lookup x=some .free:=by decide +kernel) (ix:ixs.map (fun i=>X.N[i]?)=F.map some:=by rfl):ig X M F ixs sc:=
 N8 X.env.scope rfl kind locs cel (fun p hp e=>by
  have:=List.all_eq_true.mp own p hp
  rw [e] at this
  simpa using this) frs ix
section
variable {P:Program} {w:World} {K:FG} {mg:Str->Option Value} {base:Heap}
theorem nR.okP {x:Str} {st:Stmt} {N ps:List Str} {k:Nat} {g:GF} {f:Addr} {fd:FuncData} (F:nR K x x st f fd) (S:aV N ps (aq st))
 (h:∀ (cdv:Value) (A:Around) (outer:List PySem.Env) (s:Shared) (H:Hp) (E:XK),bR k (A.deeper (envOfC x (aq st) s.heap.objs.size f cdv))->
   ∃ g':SF,(∀ a mu,g a mu=cW N.length g' a mu)/\dC (gH oY P w K mg base N x (aq st) f cdv A outer s H E).nox (aP st) (eG K g')):gb P w K mg base oY (k+1) f fd ps (bT K ps.length g):=by
 refine F.ok S (fun vs H Q E q=>?_) (fun cdv A outer s H vs Q E hr q=>?_)
 . obtain ⟨Z,qs,mu,r,mu',e,_⟩:=q; exact e
 . obtain ⟨g',eg,b⟩:=h cdv A outer s H E hr
   obtain ⟨Z,qs,mu,r,mu',e,hg,z,rl,c,hr',kk⟩:=q
   rw [eg] at hr'
   obtain ⟨fl,h1,h2⟩:=bind_some hr'
   refine ⟨_,b,ju H (lL Z.g mu),Z,_,[],fl,sV hg z rl c,h1,?_⟩
   cases fl with
   | rt r' ρ'=>
    cases h2
    intro v σ' H' s'
    obtain ⟨el,Z',hg',z',s''⟩:=s'.top
    refine kk v H' ⟨Z',hg',z',s''.sub ?_⟩
    exact (List.sublist_append_left _ _).cons_cons _
   | nx ρ'=>
    cases h2
    intro σ' H' s'
    obtain ⟨el,Z',hg',z',s''⟩:=s'
    exact kk .non H' ⟨Z',hg',z',(s''.sub (List.sublist_append_left _ _)).consS (rM _)⟩
   | bk ρ'=>cases h2
   | ct ρ'=>cases h2
end
section
variable {X:Cx}
noncomputable def V5:PV->Option PV
 | .int i=>some (.int (-i))
 | _=>none
noncomputable def LR (f:EF):EF:=fun ρ=>(f ρ).bind fun x=>(V5 x.1.pv).map fun p=>(.sh p,x.2)
theorem V6 {a:Expr} {f:EF} {pos:Pos} (ha:PE X a (tP X.K f)):PE X (.UnaryOp .USub a pos) (tP X.K (LR f)):=PE.imp (Uw Ru ha) fun σ H Q q=>by
 obtain ⟨H0,Z0,ρ,pd,r,ρ',s,h,k⟩:=q
 obtain ⟨x,h1,h2⟩:=bind_some h
 obtain ⟨p,h3,h4⟩:=map_some h2
 cases h4
 refine ⟨H0,Z0,ρ,pd,x.1,x.2,s,h1,fun v H1 s1=>?_⟩
 obtain ⟨_,r1⟩:=s1.freeze.repH
 cases e:x.1.pv with
 | int i=>
  rw [e] at h3 r1
  cases h3
  exact ⟨i,bf r1,k _ H1 (s1.pop.scal dw)⟩
 | _=>rw [e] at h3; cases h3
end
theorem jT {b:BF} {body:SF} {xs:List PV} (I:Nat->Ev->Prop) (h0:I 0 ρ) (hs:∀ (i:Nat) x ρ,xs[i]?=some x->I i ρ->∃ ρ1,b x ρ=some ρ1/\∃ ρ2,(body ρ1=some (.nx ρ2)\/body ρ1=some (.ct ρ2))/\I (i+1) ρ2):∃ ρ',eX b body xs ρ=some (.nx ρ')/\I xs.length ρ':=by
 induction xs generalizing ρ I with
 | nil=>exact ⟨ρ,rfl,h0⟩
 | cons x xs ih=>
  obtain ⟨ρ1,e1,ρ2,e2,h2⟩:=hs 0 x ρ rfl h0
  obtain ⟨ρ',e3,h3⟩:=ih (ρ:=ρ2) (fun i ρ=>I (i+1) ρ) h2 (fun i y ρ h=>hs (i+1) y ρ (by simpa using h))
  refine ⟨ρ',?_,h3⟩
  show (b x ρ).bind _=_
  rw [e1,Option.bind_some]
  rcases e2 with e2 | e2<;>rw [e2,Option.bind_some]<;>exact e3
theorem j9 {b:BF} {tc:TF} {te:EF} {mu:Mu} (J:Ev->Prop) (hJ:∀ ρ,J ρ->ρ.mu=mu) (c:PV->Bool) (f:PV->PV):∀ {xs:List PV} {ρ:Ev} {acc:List PV},J ρ->acc.length+xs.length<=100000->
 (∀ x∈xs,∀ ρ,J ρ->∃ ρ1,b x ρ=some ρ1/\∃ ρ2,tc ρ1=some (c x,ρ2)/\J ρ2/\(c x=true->∃ l ρ3,te ρ2=some (l,ρ3)/\l.pv=f x/\J ρ3))->dH b tc te xs ρ acc=some (acc++(xs.filter c).map f,mu)
 | [],ρ,acc,h,_,_=>by
  show some (acc,ρ.mu)=_
  rw [hJ ρ h]
  simp
 | x::xs,ρ,acc,h,hl,hs=>by
  obtain ⟨ρ1,e1,ρ2,e2,h2,h3⟩:=hs x List.mem_cons_self ρ h
  have hs':∀ y∈xs,∀ ρ,J ρ->∃ ρ1,b y ρ=some ρ1/\∃ ρ2,tc ρ1=some (c y,ρ2)/\J ρ2/\(c y=true->∃ l ρ3,te ρ2=some (l,ρ3)/\l.pv=f y/\J ρ3):=fun y hy=>hs y (List.mem_cons_of_mem _ hy)
  rw [List.length_cons] at hl
  show (b x ρ).bind _=_
  rw [e1,Option.bind_some,e2,Option.bind_some]
  cases hc:c x with
  | false=>
   simp only [Bool.false_eq_true,if_false]
   rw [j9 J hJ c f h2 (by omega) hs',List.filter_cons_of_neg (by simp [hc])]
  | true=>
   obtain ⟨l,ρ3,e3,ef,h4⟩:=h3 hc
   simp only [if_true]
   rw [e3,Option.bind_some,if_pos (by omega),j9 J hJ c f h4 (by rw [List.length_append,List.length_singleton]; omega) hs',List.filter_cons_of_pos (by simp [hc]),ef]
   simp
theorem iR {b:BF} {te:EF} {mu:Mu} (J:Ev->Prop) (hJ:∀ ρ,J ρ->ρ.mu=mu) (f:PV->PV) {xs:List PV} (h:J ρ) (hl:xs.length<=100000)
 (hs:∀ x∈xs,∀ ρ,J ρ->∃ ρ1,b x ρ=some ρ1/\∃ l ρ3,te ρ1=some (l,ρ3)/\l.pv=f x/\J ρ3) (hb:∀ x∈xs,∀ ρ ρ1,J ρ->b x ρ=some ρ1->J ρ1):dH b bw te xs ρ []=some (xs.map f,mu):=by
 rw [j9 J hJ (fun _=>true) f h (by simpa using hl) fun x hx ρ hρ=>?_]
 . rw [List.nil_append,List.filter_eq_self.mpr (fun _ _=>rfl)]
 . obtain ⟨ρ1,e1,l,ρ3,e3⟩:=hs x hx ρ hρ
   exact ⟨ρ1,e1,ρ1,rfl,hb x hx ρ ρ1 hρ e1,fun _=>⟨l,ρ3,e3⟩⟩
theorem jg {a b:Int} (h:0<b):cB (.int a) (.int b)=some (.sh (.int (a%b))):=by
 show (if decide (0<b)=true then _ else _)=_
 rw [if_pos (decide_eq_true h)]
theorem qR {a b:Int} (h:0<b) (h2:b<1073741824):dz (.int a) (.int b)=some (.sh (.int (a/b))):=by
 show (if decide (0<b/\b<1073741824)=true then _ else _)=_
 rw [if_pos (decide_eq_true ⟨h,h2⟩)]
theorem SM {a b:Int} (h:-18446744073709551616<a) (h2:a<18446744073709551616):tE (.int a) (.int b)=some (.sh (.int (a*b))):=by
 show (if decide ((-(2 ^ 64)<a/\a<2 ^ 64)\/(-(2 ^ 64)<b/\b<2 ^ 64))=true then _ else _)=_
 rw [if_pos (decide_eq_true (.inl ⟨by omega,by omega⟩))]
theorem uC {g:PV->PV->Option Lc} {fa fb:EF} {ρ ρ1 ρ2:Ev} {x y l:Lc} (h1:fa ρ=some (x,ρ1)) (h2:fb ρ1=some (y,ρ2)) (h3:g x.pv y.pv=some l):aC g fa fb ρ=some (l,ρ2):=by
 unfold aC
 rw [h1,Option.bind_some,h2,Option.bind_some,h3]
 rfl
theorem v8 {α:Type} {l:List α} {i:Int} (h0:0<=i) (h1:i<l.length):∃ x,gn l i=some x/\l[i.toNat]?=some x:=by
 have hi:i.toNat<l.length:=by omega
 refine ⟨l[i.toNat],?_,List.getElem?_eq_getElem hi⟩
 unfold gn oX
 rw [if_pos h0,if_pos h1,Option.bind_some,List.getElem?_eq_getElem hi]
theorem gr {lo:Int} {n:Nat}:(cg lo n).length=n:=by simp [cg]
theorem rT {lo:Int} {n:Nat} {p:PV} (h:p∈cg lo n):∃ i:Nat,i<n/\p=.int (lo+i):=by
 unfold cg at h
 obtain ⟨i,hi,rfl⟩:=List.mem_map.mp h
 exact ⟨i,List.mem_range.mp hi,rfl⟩
theorem Qe {f g:SF} {ρ ρ':Ev} (h:f ρ=some (.nx ρ')):aK f g ρ=g ρ':=by unfold aK; rw [h,Option.bind_some]
theorem lq {f g:SF} {ρ ρ':Ev} {r:Lc} (h:f ρ=some (.rt r ρ')):aK f g ρ=some (.rt r ρ'):=by unfold aK; rw [h,Option.bind_some]
theorem Qf {i:Nat} {f:EF} {ρ ρ1:Ev} {l:Lc} (h:f ρ=some (l,ρ1)) (hi:i<ρ1.vs.length):aL i f ρ=some (.nx (ρ1.set i (some l))):=by unfold aL; rw [h,Option.bind_some,if_pos hi]
theorem jG {c:TF} {f g:SF} {ρ ρ1:Ev} (h:c ρ=some (true,ρ1)):cG c f g ρ=f ρ1:=by unfold cG; rw [h,Option.bind_some,if_pos rfl]
theorem cL {c:TF} {f g:SF} {ρ ρ1:Ev} (h:c ρ=some (false,ρ1)):cG c f g ρ=g ρ1:=by unfold cG; rw [h,Option.bind_some,if_neg Bool.false_ne_true]
theorem Qg {f:EF} {ρ ρ1:Ev} {l:Lc} (h:f ρ=some (l,ρ1)):bK f ρ=some (.rt l ρ1):=by unfold bK; rw [h]; rfl
theorem Qh {f:IF} {b:BF} {body:SF} {ρ ρ1:Ev} {xs:List PV} (h:f ρ=some (xs,ρ1)):d9 f b body ρ=eX b body xs ρ1:=by unfold d9; rw [h,Option.bind_some]
theorem bB {n:Nat} {g:SF} {ps:List PV} {mu:Mu} {r:Lc} (h:g (env0 n ps mu)=some (.rt r ρ)):cW n g ps mu=some (r,ρ.mu):=by unfold cW; rw [h,Option.bind_some]
theorem Fq {n:Nat} {g:SF} {ps:List PV} {mu:Mu} (h:g (env0 n ps mu)=some (.nx ρ)):cW n g ps mu=some (.sh .non,ρ.mu):=by unfold cW; rw [h,Option.bind_some]
theorem Ma {g:GF} {a:AF} {ρ ρ1:Ev} {ls:List Lc} {r:Lc} {mu:Mu} (h:a ρ=some (ls,ρ1)) (h2:g (ls.map Lc.pv) ρ1.mu=some (r,mu)):aM g a ρ=some (r,⟨ρ1.vs,mu⟩):=by unfold aM; rw [h,Option.bind_some,h2]; rfl
theorem Mf {f:EF} {a:AF} {ρ ρ1 ρ2:Ev} {l:Lc} {ls:List Lc} (h:f ρ=some (l,ρ1)) (h2:a ρ1=some (ls,ρ2)):aj f a ρ=some (l::ls,ρ2):=by unfold aj; rw [h,Option.bind_some,h2]; rfl
theorem U0 {g:List PV->Option Lc} {a:AF} {ρ ρ1:Ev} {ls:List Lc} {r:Lc} (h:a ρ=some (ls,ρ1)) (h2:g (ls.map Lc.pv)=some r):eB g a ρ=some (r,ρ1):=by unfold eB; rw [h,Option.bind_some,h2]; rfl
theorem cX {f:IF} {m:Nat} {ixs:List Nat} {b:BF} {tc:TF} {te:EF} {ρ ρ1:Ev} {xs ys:List PV} {mu:Mu} (h:f ρ=some (xs,ρ1)) (h2:dH b tc te xs (qt m ixs (jl ixs ρ1)) []=some (ys,mu)):bh f m ixs b tc te ρ=some (.own (.lst ys),⟨(jl ixs ρ1).vs,mu⟩):=by unfold bh; rw [h,Option.bind_some,h2]; rfl
theorem JS {f:EF} {g:PV->Option (List PV)} {ρ ρ1:Ev} {l:Lc} {xs:List PV} (h:f ρ=some (l,ρ1)) (h2:g l.pv=some xs):dG f g ρ=some (xs,ρ1):=by unfold dG; rw [h,Option.bind_some,h2]; rfl
theorem dB {a:AF} {ρ ρ1:Ev} {l:Lc} {n:Int} (h:a ρ=some ([l],ρ1)) (hl:l.pv=.int n) (h1:-4611686018427387904<=n) (h2:n<4611686018427387904):aU a ρ=some (cg 0 n.toNat,ρ1):=by
 unfold aU
 rw [h,Option.bind_some]
 show (match [l.pv] with | [.int j]=>_ | _=>_)=_
 rw [hl]
 show (if -(2 ^ 62)<=n/\n<2 ^ 62 then _ else _)=_
 rw [if_pos ⟨by omega,by omega⟩]
theorem Mg {f:TF} {ρ ρ1:Ev} {b:Bool} (h:f ρ.peek=some (b,ρ1)):pN f ρ=some (b,ρ):=by unfold pN; rw [h]; rfl
theorem Mh {f:EF} {ρ ρ1:Ev} {l:Lc} (h:f ρ.peek=some (l,ρ1)) (hf:wZ l=true):u9 f ρ=some (l,ρ):=by unfold u9; rw [h,Option.bind_some,if_pos hf]
theorem U3 {f:EF} {tr:PV->Option Bool} {ρ ρ1:Ev} {l:Lc} {b:Bool} (h:f ρ=some (l,ρ1)) (h2:tr l.pv=some b):tT f tr ρ=some (b,ρ1):=by unfold tT; rw [h,Option.bind_some,h2]; rfl
theorem Mi {f:EF} {a:AF} {ρ ρ1 ρ2:Ev} {l m:Lc} {z:Str} {ps:List PV} {xs:List Str} (h:f ρ=some (l,ρ1)) (h2:a ρ1=some ([m],ρ2)) (hl:l.pv=.str z) (hm:m.pv=.lst ps) (hx:strsOf ps=some xs) (hs:(xs.map (·.length)).sum+xs.length*z.length<=100000):oV f a ρ=some (.sh (.str (Txt.join z xs)),ρ2):=by
 unfold oV
 rw [h,Option.bind_some,h2,Option.bind_some,hl]
 show (match PV.str z,[m.pv] with | .str z,[.lst ps]=>_ | _,_=>_)=_
 rw [hm]
 show (strsOf ps).bind _=_
 rw [hx,Option.bind_some,if_pos hs]
section
variable {f g:SF} {ρ ρ1 ρ2 ρ':Ev} {R:Option Fl} {l m r:Lc} {fa fb fc:EF} {c d:TF} {a:AF} {b:Bool}
theorem aG (h:f ρ=some (.nx ρ')) (h2:g ρ'=R):aK f g ρ=R:=(Qe h).trans h2
theorem aQ {i:Nat} (h:fa ρ=some (l,ρ1)) (hi:Nat.blt i ρ1.vs.length=true) (e:ρ1.set i (some l)=ρ'):aL i fa ρ=some (.nx ρ'):=by
 rw [Qf h (by simpa using hi),e]
theorem dR (h:fa ρ=some (l,ρ1)):bK fa ρ=some (.rt l ρ1):=Qg h
theorem vd (h:fa ρ=some (l,ρ1)):lZ fa ρ=some (.nx ρ1):=by unfold lZ; rw [h]; rfl
theorem bx {o:PV->PV->Option Lc} {p q:PV} (h1:fa ρ=some (l,ρ1)) (hx:l.pv=p) (h2:fb ρ1=some (m,ρ2)) (hy:m.pv=q) (h3:o p q=some r):aC o fa fb ρ=some (r,ρ2):=uC h1 h2 (by rw [hx,hy]; exact h3)
theorem aX {G:GF} {ls:List Lc} {ps:List PV} {mu:Mu} {v:List (Option Lc)} {mu1:Mu} (h:a ρ=some (ls,ρ1)) (hp:ls.map Lc.pv=ps) (hv:ρ1.vs=v) (hm:ρ1.mu=mu1) (h2:G ps mu1=some (r,mu)):aM G a ρ=some (r,⟨v,mu⟩):=by
 subst hp hv hm
 exact Ma h h2
theorem yI {G:List PV->Option Lc} {ls:List Lc} {ps:List PV} (h:a ρ=some (ls,ρ1)) (hp:ls.map Lc.pv=ps) (h2:G ps=some r):eB G a ρ=some (r,ρ1):=by
 subst hp
 exact U0 h h2
theorem az {ls:List Lc} (h:fa ρ=some (l,ρ1)) (h2:a ρ1=some (ls,ρ2)):aj fa a ρ=some (l::ls,ρ2):=Mf h h2
theorem bW {tr:PV->Option Bool} {p:PV} (h:fa ρ=some (l,ρ1)) (hp:l.pv=p) (h2:tr p=some b):tT fa tr ρ=some (b,ρ1):=by
 subst hp
 exact U3 h h2
theorem jw (h:c ρ=some (b,ρ1)):bN c ρ=some (!b,ρ1):=by unfold bN; rw [h]; rfl
theorem jO {b2:Bool} (h:c ρ=some (b,ρ1)) (h2:d ρ1=some (b2,ρ1)):cQ c d ρ=some (b&&b2,ρ1):=by
 unfold cQ
 rw [h,Option.bind_some]
 cases b with
 | true=>rw [if_pos rfl,h2]; rfl
 | false=>rfl
theorem jY {b2:Bool} (h:c ρ=some (b,ρ1)) (h2:d ρ1=some (b2,ρ1)):gf c d ρ=some (b||b2,ρ1):=by
 unfold gf
 rw [h,Option.bind_some]
 cases b with
 | true=>rfl
 | false=>rw [if_neg Bool.false_ne_true,h2]; rfl
theorem v9 (h:c ρ.peek=some (b,ρ1)):pN c ρ=some (b,ρ):=Mg h
theorem CT (h:fa ρ.peek=some (l,ρ1)) (hf:wZ l=true):u9 fa ρ=some (l,ρ):=Mh h hf
theorem CV {ls:List Lc} {ps:List PV} (h:a ρ=some (ls,ρ1)) (hl:Nat.ble ls.length 1000=true) (hp:ls.map Lc.pv=ps):ou a ρ=some (.own (.lst ps),ρ1):=by
 subst hp
 unfold ou
 rw [h,Option.bind_some,if_pos (by simpa using hl)]
theorem lU {ls:List Lc} {ps:List PV} (h:a ρ=some (ls,ρ1)) (hl:Nat.ble ls.length 1000=true) (hp:ls.map Lc.pv=ps):fO a ρ=some (.sh (.tup ps),ρ1):=by
 subst hp
 unfold fO
 rw [h,Option.bind_some,if_pos (by simpa using hl)]
theorem lr {p q:PV} (h1:fa ρ=some (l,ρ1)) (hx:l.pv=p) (h2:fb ρ1=some (m,ρ2)) (hy:m.pv=q) (hn:∀ n,p≠.ptr n) (h3:pH p q=some r):aF fa fb ρ=some (r,ρ2):=by
 subst hx hy
 unfold aF
 rw [h1,Option.bind_some,h2,Option.bind_some]
 split
 . rename_i n k e1 e2
   exact (hn n e1).elim
 . rw [h3]; rfl
theorem CZ {n:Nat} {k:Int} {ws:List PV} {p:PV} (h1:fa ρ=some (l,ρ1)) (hx:l.pv=.ptr n) (h2:fb ρ1=some (m,ρ2)) (hy:m.pv=.int k) (hm:ρ2.mu[n]?=some (some (.lst ws))) (h3:gn ws k=some p):aF fa fb ρ=some (.sh p,ρ2):=by
 unfold aF
 rw [h1,Option.bind_some,h2,Option.bind_some,hx,hy]
 show (match ρ2.mu[n]? with | some (some (.lst ws))=>_ | _=>_)=_
 rw [hm]
 show (gn ws k).map _=_
 rw [h3]
 rfl
theorem Ft {fo fi fv:EF} {n:Nat} {k:Int} {ws:List PV} {j:Nat} {x o y:Lc} {ρ3:Ev} {p:PV} (h1:fv ρ=some (x,ρ1)) (hxp:x.pv=p) (h2:fo ρ1=some (o,ρ2)) (hx:o.pv=.ptr n) (h3:fi ρ2=some (y,ρ3)) (hy:y.pv=.int k) (hm:ρ3.mu[n]?=some (some (.lst ws))) (h4:oX ws.length k=some j):pM fo fi fv ρ=some (.nx ⟨ρ3.vs,ρ3.mu.set n (some (.lst (ws.set j p)))⟩):=by
 subst hxp
 unfold pM
 rw [h1,Option.bind_some,h2,Option.bind_some,h3,Option.bind_some,hx,hy]
 show (match ρ3.mu[n]? with | some (some (.lst ws))=>_ | _=>_)=_
 rw [hm]
 show (oX ws.length k).map _=_
 rw [h4]
 rfl
theorem uD {i:Nat} {ws0 ws:List PV} {p:PV} (h0:ρ.vs[i]?=some (some (.own (.lst ws0)))) (h:fa ρ=some (l,ρ1)) (hp:l.pv=p) (h1:ρ1.vs[i]?=some (some (.own (.lst ws)))) (hz:ws.length<100000) (e:ρ1.set i (some (.own (.lst (ws++[p]))))=ρ'):lH i fa ρ=some (.nx ρ'):=by
 subst hp
 unfold lH
 rw [h0]
 show (fa ρ).bind _=_
 rw [h,Option.bind_some]
 show (match ρ1.vs[i]? with | some (some (.own (.lst ws)))=>_ | _=>_)=_
 rw [h1]
 show (if ws.length<100000 then _ else _)=_
 rw [if_pos hz,e]
theorem Qi {i:Nat} {fi fv:EF} {ws0 ws:List PV} {k:Int} {j:Nat} {x y:Lc} {p:PV} (h:fv ρ=some (x,ρ1)) (hxp:x.pv=p) (h0:ρ1.vs[i]?=some (some (.own (.lst ws0)))) (h2:fi ρ1=some (y,ρ2)) (hy:y.pv=.int k) (h1:ρ2.vs[i]?=some (some (.own (.lst ws)))) (hj:oX ws.length k=some j) (e:ρ2.set i (some (.own (.lst (ws.set j p))))=ρ'):u6 i fi fv ρ=some (.nx ρ'):=by
 subst hxp
 unfold u6
 rw [h,Option.bind_some]
 show (match ρ1.vs[i]? with | some (some (.own (.lst _)))=>_ | _=>_)=_
 rw [h0]
 show (fi ρ1).bind _=_
 rw [h2,Option.bind_some,hy]
 show (match PV.int k,ρ2.vs[i]? with | .int k,some (some (.own (.lst ws)))=>_ | _,_=>_)=_
 rw [h1]
 show (oX ws.length k).map _=_
 rw [hj,Option.map_some,e]
theorem dU {F:IF} {B:BF} {body:SF} {xs:List PV} (h:F ρ=some (xs,ρ1)) (h2:eX B body xs ρ1=R):d9 F B body ρ=R:=(Qh h).trans h2
theorem gF {G:PV->Option (List PV)} {p:PV} {xs:List PV} (h:fa ρ=some (l,ρ1)) (hp:l.pv=p) (h2:G p=some xs):dG fa G ρ=some (xs,ρ1):=by
 subst hp
 exact JS h h2
end
section
variable {X:Cx}
noncomputable def oW (f:EF):EF:=fun ρ=>(f ρ).bind fun x=>match x.1 with
 | .own p=>some (.sh (.ptr x.2.mu.length),⟨x.2.vs,x.2.mu++[some p]⟩)
 | _=>none
theorem Ht {e:Expr} {f:EF} (h:PE X e (tP X.K f)):PE X e (tP X.K (oW f)):=PE.imp h fun σ H Q q=>by
 obtain ⟨H0,Z0,ρ,pd,l,ρ',s,f,k⟩:=q
 obtain ⟨x,h1,h2⟩:=bind_some f
 refine ⟨H0,Z0,ρ,pd,x.1,x.2,s,h1,fun v H1 s1=>?_⟩
 split at h2
 . rename_i p ep
   cases h2
   rw [ep] at s1
   obtain ⟨el,Z,hg,z,so⟩:=s1.top
   obtain ⟨a,ea,ra,za,ha0⟩:=so.1 _ List.mem_cons_self
   have ea':v=.ref a:=Option.some.inj ea
   subst ea'
   have lz:fP Z ⟨Z.z,Z.g++[a]⟩:=⟨cJ.refl _,List.prefix_append _ _⟩
   have so2:=so.step (Z':=⟨Z.z,Z.g++[a]⟩) (H':=H1) lz fun e he b hb=>⟨rfl,(gB so he hb).1⟩
   refine k _ H1 (.mk (Z:=⟨Z.z,Z.g++[a]⟩) el (by simp [hg]) ⟨z.zh,z.h0,z.z0.trans lz,z.new⟩ (Slots.consS ?_ ?_))
   . refine so2.perm ?_
     have ec:cel (Z.g++[a]) (x.2.mu++[some p])=cel Z.g x.2.mu++[(some (.ref a),some (.own p))]:=by
      unfold cel
      rw [List.map_append,List.map_append,List.zip_append (by simp [hg])]
      rfl
     unfold sl
     show List.Perm (cel (Z.g++[a]) (x.2.mu++[some p])++_) _
     rw [ec,List.append_assoc]
     exact List.perm_middle
   . unfold Rep
     exact ⟨a,rfl,by show (Z.g++[a])[x.2.mu.length]?=some a; rw [hg,List.getElem?_append_right (Nat.le_refl _)]; simp⟩
 . cases h2
noncomputable def oN (f:EF) (lo hi:OF):EF:=fun ρ=>(f ρ).bind fun x=>(lo x.2).bind fun y=>(hi y.2).bind fun z=>match x.1.pv with
 | .lst ps=>some (.own (.lst (nq ps y.1 z.1)),z.2)
 | .str t=>if t.length<=100000 then some (.sh (.str (j6 t y.1 z.1)),z.2) else none
 | _=>none
theorem rW {e:Expr} {lo hi:Option Expr} {p2 pos:Pos} {f:EF} {fl fh:OF} (he:PE X e (tP X.K f)) (hl:PO X lo (CG X.K fl)) (hu:PO X hi (CG X.K fh)):PE X (.Subscript e (.Slice lo hi none p2) pos) (tP X.K (oN f fl fh)):=PE.imp (K6 (Pa.or RT) he hl hu) fun σ H Q q=>by
 obtain ⟨H0,Z0,ρ,pd,r,ρ',s,h,k⟩:=q
 obtain ⟨x,h1,h2⟩:=bind_some h
 obtain ⟨y,h3,h4⟩:=bind_some h2
 obtain ⟨z,h5,h6⟩:=bind_some h4
 refine ⟨H0,Z0,ρ,pd,x.1,x.2,s,h1,fun v H1 s1=>⟨H0,Z0,x.2,_,y.1,y.2,s1.freeze,h3,fun H2 s2=>⟨H0,Z0,y.2,_,z.1,z.2,s2,h5,fun H3 s3=>?_⟩⟩⟩
 cases e:x.1.pv with
 | lst ps=>
  rw [e] at h6 s3
  cases h6
  obtain ⟨el,Z,hg,zz,r1,s4⟩:=s3.sh
  unfold Rep at r1
  obtain ⟨a,vs,rfl,g1,g2⟩:=r1
  refine .inl ⟨a,vs,rfl,b8.same zz.zh g1,fun p hp=>k _ _ ?_⟩
  obtain ⟨z',s'⟩:=s4.new (o:=.lst (vU vs y.1 z.1)) (p:=.lst (nq ps y.1 z.1)) zz hp ⟨_,bC,g2.cut⟩
  exact .mk el hg z' s'
 | str t=>
  rw [e] at h6 s3
  have h6':(if t.length<=100000 then some (Lc.sh (.str (j6 t y.1 z.1)),z.2) else none)=some (r,ρ'):=h6
  split at h6'
  . rename_i hz
    cases h6'
    obtain ⟨_,r1⟩:=s3.repH
    unfold Rep at r1
    exact .inr ⟨t,r1,small hz,k _ H3 (s3.pop.scal mL)⟩
  . cases h6'
 | _=>rw [e] at h6; cases h6
theorem jo.two {r:List V->Hp->VK->Prop} {g:PV->PV->Option Lc} (h:∀ H0 Z0 σ ρ pd H v w p q l Q,SR K H0 Z0 σ H ρ ((v,.sh p)::(w,.sh q)::pd)->g p q=some l->(∀ u H',SR K H0 Z0 σ H' ρ ((u,l)::pd)->Q u H')->r [v,w] H Q):
 jo K r (fun ps=>match ps with | [p,q]=>g p q | _=>none):=by
 intro H0 Z0 σ ρ pd H vs ps l Q e s hg k
 match ps,vs,e,s,hg with
 | [p,q],[v,w],_,s,hg=>exact h H0 Z0 σ ρ pd H v w p q l Q s hg k
 | [p,q],[],e,_,_=>simp at e
 | [p,q],[_],e,_,_=>simp at e
 | [p,q],_::_::_::_,e,_,_=>simp at e
 | [],_,_,_,hg=>cases hg
 | [_],_,_,_,hg=>cases hg
 | _::_::_::_,_,_,_,hg=>cases hg
noncomputable def SN:PV->PV->Option Lc
 | .int i,.int j=>some (.sh (.int (if j<i then j else i)))
 | _,_=>none
noncomputable def SQ:PV->PV->Option Lc
 | .int i,.int j=>some (.sh (.int (if j>i then j else i)))
 | _,_=>none
noncomputable abbrev min2:List PV->Option Lc:=fun ps=>match ps with | [p,q]=>SN p q | _=>none
noncomputable abbrev max2:List PV->Option Lc:=fun ps=>match ps with | [p,q]=>SQ p q | _=>none
theorem S5:jo K (fun xs H Q=>∃ i j,xs=[.int i,.int j]/\Q (.int (if j<i then j else i)) H) min2:=jo.two fun H0 Z0 σ ρ pd H v w p q l Q s e k=>by
 obtain ⟨_,r1,r2⟩:=s.rep2H
 unfold SN at e
 split at e
 . cases e
   have a:=bf r1
   have b:=bf r2
   subst a b
   exact ⟨_,_,rfl,k _ H (s.pop.pop.scal dw)⟩
 . cases e
theorem S6:jo K (fun xs H Q=>∃ i j,xs=[.int i,.int j]/\Q (.int (if j>i then j else i)) H) max2:=jo.two fun H0 Z0 σ ρ pd H v w p q l Q s e k=>by
 obtain ⟨_,r1,r2⟩:=s.rep2H
 unfold SQ at e
 split at e
 . cases e
   have a:=bf r1
   have b:=bf r2
   subst a b
   exact ⟨_,_,rfl,k _ H (s.pop.pop.scal dw)⟩
 . cases e
noncomputable def Wo (i:Nat):EF:=fun ρ=>match ρ.vs[i]? with
 | some (some (.own (.lst ws)))=>(ws[ws.length-1]?).map fun p=>(.sh p,ρ.set i (some (.own (.lst ws.dropLast))))
 | _=>none
noncomputable def Fv (K:FG):V->List V->Hp->VK->Prop:=fun x vs H Q=>∃ g p qs w,vs=[w]/\Rep K ⟨H,g⟩ p w/\Rep K ⟨H,g⟩ (.lst qs) x/\jf (bF 150) p qs=some true/\qs.length<=100000/\Q (.int (qs.findIdx fun q=>(bF 150 q p).getD false)) H
theorem mF {k:Nat} (hr:bR k X.A):Nz X "list.index" (Fv X.K):=by
 intro pins s σ H x vs v us Q I rx rv h
 obtain ⟨g,p,qs,w,rfl,rp,rq,e,hz,q⟩:=h
 have hA:X.A.in1.units+150<cLine:=by have:=hr.un; show X.A.units+1+150<cLine; omega
 obtain ⟨u,rfl,ru⟩:=rv.one
 obtain ⟨i1,i2⟩:=rP e
 obtain ⟨a,vs,its,rfl,q1,l1,rv1,t1⟩:=oZ I rq rx
 have hl:its.length=qs.length:=by rw [← rv1.length,l1.length]
 have hex:∃ q∈qs,(fun q=>(bF 150 q p).getD false) q=true:=List.any_eq_true.mp i2.symm
 have hj:qs.findIdx (fun q=>(bF 150 q p).getD false)<qs.length:=List.findIdx_lt_length.mpr hex
 have hat:∀ m (hm:m<its.toArray.size),worth X.K ⟨H,g⟩ p qs vs its its.toArray[m]=(bF 150 (qs[m]'(by rw [List.size_toArray] at hm; omega)) p).getD false:=fun m hm=>by
  have hm':m<its.length:=by simpa using hm
  exact tu (xv:=w) (xu:=u) I l1 rv1 i1 (j:=m) (List.getElem?_eq_getElem (by omega)) (by simp)
 obtain ⟨⟨oc,od,oD,os⟩,ht,hc,n,hd⟩:=t1
 have hc':oc=.type "list" := hc
 have hd':oD=.seq its.toArray n:=hd
 subst hc' hd'
 refine call_meets F.slot_list_index ⟨_,ht,rfl⟩ F.entry_list_index (F.args_list_index_2 _ _) (SeqAt.list_indexAt a its.toArray n od os u (worth X.K ⟨H,g⟩ p qs vs its) (qs.findIdx fun q=>(bF 150 q p).getD false) (by rw [List.size_toArray]; omega) (by omega) ?_ ?_) ⟨ht,oJ I rp ru l1 rv1 i1 hA,?_⟩
 . rw [hat]
   exact List.findIdx_getElem (w:=hj)
 . intro m hm hlt
   rw [hat]
   have:=List.not_of_lt_findIdx hlt
   simpa using this
 . exact ⟨.int _,H,I.tok _,⟨_,rfl⟩,q⟩
noncomputable def dW (f g:EF):EF:=fun ρ=>(f ρ).bind fun x=>(g x.2).bind fun y=>match x.1.pv with
 | .lst qs=>if jf (bF 150) y.1.pv qs=some true/\qs.length<=100000 then some (.sh (.int (qs.findIdx fun q=>(bF 150 q y.1.pv).getD false)),y.2) else none
 | _=>none
theorem qF {o e:Expr} {f g:EF} {apos cpos:Pos} (h:PE X (.Call (.Attribute o "index" apos) [e] [] cpos) (Jj X.K "list" (Fv X.K) (tP X.K f) (jN X.K (aj g ao)))):PE X (.Call (.Attribute o "index" apos) [e] [] cpos) (tP X.K (dW f g)):=PE.imp h fun σ H Q q=>by
 obtain ⟨H0,Z0,ρ,pd,r,ρ',s,h,k⟩:=q
 obtain ⟨x,h1,h2⟩:=bind_some h
 obtain ⟨y,h3,h4⟩:=bind_some h2
 refine ⟨H0,Z0,ρ,pd,x.1,x.2,s,h1,fun v H1 s1=>?_⟩
 have s1':=s1.freeze
 cases e:x.1.pv with
 | lst qs=>
  rw [e] at h4 s1'
  have h4':(if jf (bF 150) y.1.pv qs=some true/\qs.length<=100000 then some (Lc.sh (.int (qs.findIdx fun q=>(bF 150 q y.1.pv).getD false)),y.2) else none)=some (r,ρ'):=h4
  split at h4'
  . rename_i hc
    cases h4'
    obtain ⟨_,r1⟩:=s1'.repH
    have r1':=r1
    unfold Rep at r1'
    obtain ⟨a,us,rfl,hq,_⟩:=r1'
    refine ⟨.inl ⟨rfl,us,hq⟩,H0,Z0,x.2,_,[y.1],y.2,s1',?_,fun vs H2 e2 s2=>?_⟩
    . unfold aj ao
      rw [h3]
      rfl
    . obtain ⟨w,rfl⟩:=rN e2
      have s3:SR X.K H0 Z0 σ H2 y.2 ((w,.sh y.1.pv)::(.ref a,.sh (.lst qs))::pd):=SR.freeze s2
      obtain ⟨g,ra,rb⟩:=s3.rep2H
      exact ⟨g,y.1.pv,qs,w,rfl,rb,ra,hc.1,hc.2,k _ H2 (s3.pop.pop.scal dw)⟩
  . cases h4'
 | _=>rw [e] at h4; cases h4
noncomputable abbrev PD:=List (Key×PV)
noncomputable def mG:PD->Key->Option PV
 | [],_=>none
 | kv::r,k=>if kv.1=k then some kv.2 else mG r k
noncomputable def Hu (k:Key) (v:PV):PD->PD
 | []=>[]
 | kv::r=>(if kv.1=k then (kv.1,v) else kv)::Hu k v r
noncomputable def tK (l:PD) (k:Key) (v:PV):PD:=match mG l k with
 | some _=>Hu k v l
 | none=>l++[(k,v)]
noncomputable def yJ:PV->Option Key
 | .int i=>some (.inl i)
 | .str x=>some (.inr x)
 | _=>none
noncomputable def vM:Key->PV
 | .inl i=>.int i
 | .inr x=>.str x
noncomputable def nu (l:PD):PV:=.dk (l.map (·.1)) (l.map (·.2))
noncomputable def fV (K:FG) (Z:ZG):PD->List (Key×V)->Prop:=Paired fun p q=>p.1=q.1/\Rep K Z p.2 q.2
section
variable {K:FG} {Z Z':ZG}
theorem mQ:∀ {kvs:List (Key×V)} {ks:List Key} {ps:List PV},kvs.map (·.1)=ks->aJ K Z ps (kvs.map (·.2))->fV K Z (ks.zip ps) kvs
 | [],ks,ps,h1,h2=>by
  subst h1
  exact .nil
 | kv::r,ks,ps,h1,h2=>by
  subst h1
  cases ps with
  | nil=>have:=h2.inv0; simp at this
  | cons p ps=>
   obtain ⟨v,r',e,h3,h4⟩:=h2.inv
   rw [List.map_cons] at e
   injection e with e1 e2
   subst e1 e2
   rw [List.map_cons,List.zip_cons_cons]
   exact .cons ⟨rfl,h3⟩ (mQ rfl h4)
theorem fV.keys:∀ {l:PD} {kvs:List (Key×V)},fV K Z l kvs->kvs.map (·.1)=l.map (·.1)
 | _,_,.nil=>rfl
 | _,_,.cons h t=>by rw [List.map_cons,List.map_cons,h.1,fV.keys t]
theorem fV.vals:∀ {l:PD} {kvs:List (Key×V)},fV K Z l kvs->aJ K Z (l.map (·.2)) (kvs.map (·.2))
 | _,_,.nil=>.nil
 | _,_,.cons h t=>aJ.cons h.2 (fV.vals t)
theorem fV.len:∀ {l:PD} {kvs:List (Key×V)},fV K Z l kvs->kvs.length=l.length
 | _,_,.nil=>rfl
 | _,_,.cons h t=>by rw [List.length_cons,List.length_cons,fV.len t]
theorem fV.val {k:Key}:∀ {l:PD} {kvs:List (Key×V)},fV K Z l kvs->(∀ p,mG l k=some p->∃ v,mz kvs k=some v/\Rep K Z p v)/\(mG l k=none->mz kvs k=none)
 | _,_,.nil=>⟨fun p h=>(by cases h),fun _=>rfl⟩
 | p::l,q::kvs,.cons h t=>by
  have ih:=fV.val (k:=k) t
  by_cases e:p.1=k
  . have e':q.1=k:=by rw [← h.1]; exact e
    refine ⟨fun x hx=>⟨q.2,qd e',?_⟩,fun hx=>?_⟩
    . unfold mG at hx; rw [if_pos e] at hx; cases hx; exact h.2
    . unfold mG at hx; rw [if_pos e] at hx; cases hx
  . have e':¬ q.1=k:=by rw [← h.1]; exact e
    rw [qe e']
    unfold mG
    rw [if_neg e]
    exact ih
theorem fV.repl {k:Key} {p:PV} {v:V} (r:Rep K Z p v):∀ {l:PD} {kvs:List (Key×V)},fV K Z l kvs->fV K Z (Hu k p l) (kvs.map fun kv=>if kv.1=k then (kv.1,v) else kv)
 | _,_,.nil=>.nil
 | a::l,b::kvs,.cons h t=>by
  refine .cons ?_ (fV.repl r t)
  by_cases e:a.1=k
  . have e':b.1=k:=by rw [← h.1]; exact e
    rw [if_pos e]
    dsimp only
    rw [if_pos e']
    exact ⟨h.1,r⟩
  . have e':¬ b.1=k:=by rw [← h.1]; exact e
    rw [if_neg e]
    dsimp only
    rw [if_neg e']
    exact h
theorem fV.app:∀ {l l':PD} {kvs kvs':List (Key×V)},fV K Z l kvs->fV K Z l' kvs'->fV K Z (l++l') (kvs++kvs')
 | _,_,_,_,.nil,h=>h
 | _,_,_,_,.cons a t,h=>.cons a (fV.app t h)
theorem fV.put {k:Key} {p:PV} {v:V} {l:PD} {kvs:List (Key×V)} (h:fV K Z l kvs) (r:Rep K Z p v):fV K Z (tK l k p) (putK kvs k v):=by
 have hv:=h.val (k:=k)
 unfold tK
 cases e:mG l k with
 | none=>
  rw [BR v (hv.2 e)]
  exact h.app (.cons ⟨rfl,r⟩ .nil)
 | some q=>
  obtain ⟨u,hu,_⟩:=hv.1 q e
  have e2:putK kvs k v=kvs.map fun kv=>if kv.1=k then (kv.1,v) else kv:=by
   unfold putK
   rw [qg,hu]
   rfl
  rw [e2]
  exact h.repl r
theorem vf {p:PV} {k:Key} {v:V} (h:yJ p=some k) (r:Rep K Z p v):v=kV k:=by
 cases p with
 | int i=>cases h; exact bf r
 | str x=>cases h; exact cj r
 | _=>cases h
theorem Fw {k:Key}:Rep K Z (vM k) (kV k):=by
 cases k with
 | inl i=>exact dw _
 | inr x=>exact mL _
end
noncomputable def jz (fa fb:EF):EF:=fun ρ=>(fa ρ).bind fun x=>(fb x.2).bind fun y=>match x.1.pv with
 | .dk ks ps=>(yJ y.1.pv).bind fun k=>(mG (ks.zip ps) k).map fun p=>(.sh p,y.2)
 | .df ks ps=>(yJ y.1.pv).bind fun k=>(mG (ks.zip ps) k).map fun p=>(.sh p,y.2)
 | _=>aF (fun _=>some x) (fun _=>some y) ρ
theorem Qj {ρ ρ0 ρ':Ev} {v w:V} {x y:Lc×Ev} {l:Lc} {Q:VK} (hy:y.2=ρ) (s3:SR X.K H0 Z0 σ H ρ ((w,.sh y.1.pv)::(v,.sh x.1.pv)::pd)) (h:aF (fun _=>some x) (fun _=>some y) ρ0=some (l,ρ')) (k:∀ u H',SR X.K H0 Z0 σ H' ρ' ((u,l)::pd)->Q u H'):RK X.K v w H Q:=by
 unfold aF at h
 rw [Option.bind_some,Option.bind_some] at h
 subst hy
 split at h
 . rename_i n kk en ek
   split at h
   . rename_i ws em
     obtain ⟨p,h5,h6⟩:=map_some h
     cases h6
     rw [en,ek] at s3
     obtain ⟨_,rw'⟩:=s3.repH
     have ew:=bf rw'
     obtain ⟨a,rfl,s5⟩:=s3.pop.cellO em
     obtain ⟨el,Z,hg,z,so⟩:=s5.top
     obtain ⟨_,ea,⟨us,hu,hr⟩,_⟩:=so.1 _ List.mem_cons_self
     cases ea
     obtain ⟨j,e1,e2⟩:=u5 h5 hr.length
     obtain ⟨u,e3,e4⟩:=hr.get e1
     refine .inl ⟨a,us,kk,u,rfl,ew,b8.of hu,e2 u e3,k u H ?_⟩
     have s6:SR X.K H0 Z0 σ H ⟨y.2.vs,y.2.mu.set n none⟩ ((u,.sh p)::(.ref a,.own (.lst ws))::(.ref a,.sh (.ptr n))::pd):=.mk (Z:=Z) el hg z ((so.perm du).consS e4)
     have hn:n<y.2.mu.length:=(List.getElem?_eq_some_iff.mp em).1
     have s7:SR X.K H0 Z0 σ H ⟨y.2.vs,y.2.mu.set n none⟩ ((.ref a,.own (.lst ws))::(.ref a,.sh (.ptr n))::(u,.sh p)::pd):=s6.perm (((List.Perm.swap _ _ _).cons _).trans (List.Perm.swap _ _ _))
     have s8:=s7.cellP (by show (y.2.mu.set n none)[n]?=_; rw [List.getElem?_set_self hn])
     have e8:(y.2.mu.set n none).set n (some (.lst ws))=y.2.mu:=by rw [List.set_set]; exact set_same em
     have s9:SR X.K H0 Z0 σ H ⟨y.2.vs,(y.2.mu.set n none).set n (some (.lst ws))⟩ ((u,.sh p)::pd):=s8
     rw [e8] at s9
     exact s9
   . cases h
 . obtain ⟨l',h5,h6⟩:=map_some h
   cases h6
   exact JM H0 Z0 σ y.2 pd H v w x.1.pv y.1.pv _ Q s3 h5 k
theorem Ab {a b:Expr} {pos:Pos} {fa fb:EF} (hu:X.A.units+1<cLine) (ha:PE X a (tP X.K fa)) (hb:PE X b (tP X.K fb)) (hm:uY b):PE X (.Subscript a b pos) (tP X.K (jz fa fb)):=PE.imp (G6 (Ji.or (Ey hu)) ha hb hm) fun σ H Q q=>by
 obtain ⟨H0,Z0,ρ,pd,l,ρ',s,f,k⟩:=q
 obtain ⟨x,h1,h2⟩:=bind_some f
 obtain ⟨y,h3,h4⟩:=bind_some h2
 refine ⟨H0,Z0,ρ,pd,x.1,x.2,s,h1,fun v H1 s1=>⟨H0,Z0,x.2,_,y.1,y.2,s1,h3,fun w H2 s2=>?_⟩⟩
 have s3:=s2.freeze.swap.freeze.swap
 split at h4
 . rename_i ks ps en
   obtain ⟨kk,h5,h6⟩:=bind_some h4
   obtain ⟨p,h7,h8⟩:=map_some h6
   cases h8
   obtain ⟨_,rw'⟩:=s3.repH
   have ew:=vf h5 rw'
   have s4:=s3.pop
   rw [en] at s4
   obtain ⟨Z,z,r⟩:=s4.rep
   unfold Rep at r
   obtain ⟨b',kvs,rfl,g1,g2,g3⟩:=r
   obtain ⟨u,hu',ru⟩:=(mQ g2 g3).val.1 p h7
   have e1:=z _ _ g1
   refine .inr ⟨b',u,rfl,.inl ⟨kvs,kk,.inl e1,ew,hu'.symm⟩,k u H2 ?_⟩
   refine (s4.part (u:=u) (q:=p) fun Z' z' r'=>?_).sub ((List.sublist_cons_self _ _).cons_cons _)
   unfold Rep at r'
   obtain ⟨b2,kvs2,eb,g1',g2',g3'⟩:=r'
   cases eb
   have e2:=z' _ _ g1'
   rw [e1] at e2
   cases e2
   obtain ⟨u2,hu2,ru2⟩:=(mQ g2' g3').val.1 p h7
   rw [hu'] at hu2
   cases hu2
   exact ru2
 . rename_i ks ps en
   obtain ⟨kk,h5,h6⟩:=bind_some h4
   obtain ⟨p,h7,h8⟩:=map_some h6
   cases h8
   obtain ⟨_,rw'⟩:=s3.repH
   have ew:=vf h5 rw'
   have s4:=s3.pop
   rw [en] at s4
   obtain ⟨Z,z,r⟩:=s4.rep
   unfold Rep at r
   obtain ⟨b',ob,kvs,rfl,g1,g2,g3⟩:=r
   obtain ⟨u,hu',ru⟩:=(mQ g2 g3).val.1 p h7
   have e1:=z _ _ g1
   refine .inr ⟨b',u,rfl,.inl ⟨kvs,kk,.inr ⟨ob,e1⟩,ew,hu'.symm⟩,k u H2 ?_⟩
   refine (s4.part (u:=u) (q:=p) fun Z' z' r'=>?_).sub ((List.sublist_cons_self _ _).cons_cons _)
   unfold Rep at r'
   obtain ⟨b2,ob2,kvs2,eb,g1',g2',g3'⟩:=r'
   cases eb
   have e2:=z' _ _ g1'
   rw [e1] at e2
   cases e2
   obtain ⟨u2,hu2,ru2⟩:=(mQ g2' g3').val.1 p h7
   rw [hu'] at hu2
   cases hu2
   exact ru2
 . exact .inl (Qj rfl s3 h4 k)
theorem SR.takeD {i:Nat} {ks:List Key} {ps:List PV} (s:SR K H0 Z0 σ H ρ pd) (e:ρ.vs[i]?=some (some (.own (.dk ks ps)))):
 ∃ a,σ[i]?=some (some (.ref a))/\SR K H0 Z0 σ H (ρ.set i none) ((.ref a,.own (.dk ks ps))::pd):=by
 obtain ⟨v,e1,s1⟩:=s.take e
 obtain ⟨_,Z,_,z,so⟩:=s1.top
 obtain ⟨a,ea,_⟩:=so.1 _ List.mem_cons_self
 have ea':v=.ref a:=Option.some.inj ea
 subst ea'
 exact ⟨a,e1,s1⟩
theorem SR.setD {v:V} {p:PV} {a:Addr} {ks:List Key} {ps:List PV} {k:Key} (s:SR K H0 Z0 σ H ρ ((v,.sh p)::(.ref a,.own (.dk ks ps))::pd)):
 ∃ kvs,H a=some (.dK kvs)/\kvs.length=ks.length/\SR K H0 Z0 σ (upd H a (.dK (putK kvs k v))) ρ ((.ref a,.own (nu (tK (ks.zip ps) k p)))::pd):=by
 obtain ⟨el,Z,hg,z,r,so⟩:=s.sh
 have so2:=so.perm du.symm
 obtain ⟨_,eb,⟨kvs,hu,hk,hr⟩,_⟩:=so2.1 _ List.mem_cons_self
 cases eb
 refine ⟨kvs,hu,by rw [← hk,List.length_map],?_⟩
 have d:=(mQ hk hr).put (k:=k) r
 obtain ⟨z',s'⟩:=so2.write (o:=.dK (putK kvs k v)) (q:=nu (tK (ks.zip ps) k p)) z ⟨putK kvs k v,bC,d.keys,d.vals⟩
 exact .mk el hg z' s'
noncomputable def xf (i:Nat) (fi fv:EF):SF:=fun ρ=>(fv ρ).bind fun x=>match x.2.vs[i]? with
 | some (some (.own (.dk _ _)))=>(fi x.2).bind fun y=>match yJ y.1.pv,y.2.vs[i]? with
  | some k,some (some (.own (.dk ks ps)))=>if ks.length<100000 then some (.nx (y.2.set i (some (.own (nu (tK (ks.zip ps) k x.1.pv)))))) else none
  | _,_=>none
 | _=>none
theorem Qk {i:Nat} {o ix e:Expr} {fi fv:EF} {tpos pos:Pos} (h:PS X (.Assign [.Subscript o ix tpos] e pos) (vP (tP X.K fv) (Bs (sH i) (tP X.K fi) Hg))):PS X (.Assign [.Subscript o ix tpos] e pos) (eG X.K (xf i fi fv)):=PS.imp h fun D σ H q=>by
 obtain ⟨H0,Z0,ρ,pd,fl,s,h,k⟩:=q
 obtain ⟨x,h1,h2⟩:=bind_some h
 refine ⟨H0,Z0,ρ,pd,x.1,x.2,s,h1,fun v H1 s1=>?_⟩
 split at h2
 . rename_i ks0 ps0 e0
   obtain ⟨y,h3,h4⟩:=bind_some h2
   obtain ⟨a,ea,_⟩:=s1.takeD e0
   refine ⟨.ref a,ea,H0,Z0,x.2,_,y.1,y.2,s1.freeze,h3,fun w H2 s2=>?_⟩
   split at h4
   . rename_i kk ks ps ek e3
     split at h4
     . rename_i hlen
       cases h4
       obtain ⟨_,rw'⟩:=s2.freeze.repH
       have ew:=vf ek rw'
       obtain ⟨a',ea',s3⟩:=s2.pop.takeD e3
       rw [ea] at ea'; cases ea'
       obtain ⟨kvs,hu,hl,s4⟩:=s3.swap.setD (k:=kk)
       refine ⟨a,_,rfl,.inl ⟨kvs,kk,hu,ew,by rw [hl,sizeLine_eq]; omega,rfl⟩,k σ _ ?_⟩
       have s5:=s4.put ea
       rw [Ev.set_set] at s5
       exact s5
     . cases h4
   . cases h4
 . cases h2
noncomputable def Wm (fo fv:EF):SF:=fun ρ=>(fo ρ).bind fun o=>match o.1.pv with
 | .ptr n=>match o.2.mu[n]? with
  | some (some (.lst _))=>(fv o.2).bind fun y=>match y.2.mu[n]? with
   | some (some (.lst ws))=>if ws.length<100000 then some (.nx ⟨y.2.vs,y.2.mu.set n (some (.lst (ws++[y.1.pv])))⟩) else none
   | _=>none
  | _=>none
 | _=>none
noncomputable abbrev DF:=Ev->Option (List (Lc×Lc)×Ev)
noncomputable def NB:List (V×V)->List V
 | []=>[]
 | p::r=>p.1::p.2::NB r
noncomputable def JT:EF:=fun ρ=>some (.own (.dk [] []),ρ)
theorem S7 {pos:Pos}:PE X (.Dict [] [] pos) (tP X.K JT):=PE.imp Lb fun σ H Q q=>by
 obtain ⟨H0,Z0,ρ,pd,l,ρ',s,f,k⟩:=q
 cases f
 exact fun p hp=>k _ _ (s.newO hp fun Z _ _=>⟨[],bC,rfl,.nil⟩)
theorem SR.fzD {a:Addr} {ks:List Key} {ps:List PV} (s:SR K H0 Z0 σ H ρ ((.ref a,.own (.dk ks ps))::pd)):
 ∃ kvs,H a=some (.dK kvs)/\∀ o,SR K H0 Z0 σ (upd H a (.frz o (.dK kvs))) ρ ((.ref a,.sh (.df ks ps))::pd):=by
 obtain ⟨el,Z,hg,z,so⟩:=s.top
 obtain ⟨_,eb,⟨kvs,hu,hk,hr⟩,e3,e4⟩:=so.1 _ List.mem_cons_self
 cases eb
 refine ⟨kvs,hu,fun o=>?_⟩
 have sz:cJ Z.z (upd Z.z a (.frz o (.dK kvs))):=fun b u e=>by rw [aY (bV e e3)]; exact e
 have lz:fP Z (Z.put a (.frz o (.dK kvs))):=⟨sz,List.prefix_refl _⟩
 have nd:(a::(sl Z.g σ ρ pd).filterMap jM).Nodup:=so.2
 have hL:Slots K H0 Z H (sl Z.g σ ρ pd):=so.sub (List.sublist_cons_self _ _)
 refine .mk (Z:=Z.put a (.frz o (.dK kvs))) el hg ⟨fun b u e=>?_,fun b u e=>by rw [aY (bV e e4)]; exact z.h0 b u e,z.z0.trans lz,fun b u e=>?_⟩ (Slots.consS ?_ ?_)
 . have e:upd Z.z a (.frz o (.dK kvs)) b=some u:=e
   unfold upd at e ⊢
   split
   . rename_i q; rw [if_pos q] at e; exact e
   . rename_i q; rw [if_neg q] at e; exact z.zh b u e
 . have e:upd Z.z a (.frz o (.dK kvs)) b=some u:=e
   unfold upd at e
   split at e
   . rename_i q; rw [q]; exact .inr (.inl e4)
   . exact z.new b u e
 . refine hL.step lz fun e he b hb=>?_
   have hba:b≠a:=fun q=>by
    rw [q] at hb
    exact (List.nodup_cons.mp nd).1 (List.mem_filterMap.mpr ⟨e,he,hb⟩)
   exact ⟨aY hba,by show upd Z.z a _ b=none; rw [aY hba]; exact (gB hL he hb).1⟩
 . unfold Rep
   exact ⟨a,o,kvs,rfl,by show upd Z.z a _ a=_; rw [bC],hk,hr.mono lz⟩
noncomputable def o9 (f:EF):EF:=fun ρ=>(f ρ).bind fun x=>match x.1 with
 | .own (.dk ks ps)=>some (.sh (.df ks ps),x.2)
 | _=>none
theorem Oa {e:Expr} {f:EF} (h:PE X e (tP X.K f)):PE X e (tP X.K (o9 f)):=PE.imp (UJ h) fun σ H Q q=>by
 obtain ⟨H0,Z0,ρ,pd,r,ρ',s,h,k⟩:=q
 obtain ⟨x,h1,h2⟩:=bind_some h
 refine ⟨H0,Z0,ρ,pd,x.1,x.2,s,h1,fun v H1 s1=>?_⟩
 split at h2
 . rename_i ks ps e1
   cases h2
   rw [e1] at s1
   obtain ⟨_,Z,_,z,so⟩:=s1.top
   obtain ⟨a,ea,_⟩:=so.1 _ List.mem_cons_self
   have ea':v=.ref a:=Option.some.inj ea
   subst ea'
   obtain ⟨kvs,hu,st⟩:=s1.fzD
   exact ⟨a,kvs,rfl,hu,fun o=>k _ _ (st o)⟩
 . cases h2
theorem SR.weak {H0 H H1:Hp} {Z0 Z₁:ZG} (zo:jj H0 Z0 Z₁ H1) (s:SR K H0 Z₁ σ H ρ pd):SR K H0 Z0 σ H ρ pd:=by
 obtain ⟨e,Z,hg,z,so⟩:=s
 exact ⟨e,Z,hg,⟨z.zh,z.h0,zo.z0.trans z.z0,fun b o e=>(z.new b o e).elim (fun h=>zo.new b o h) .inr⟩,so⟩
noncomputable def JV (f:EF):IF:=fun ρ=>(f ρ).bind fun x=>match x.1.pv with
 | .df ks _=>some (ks.map vM,x.2)
 | _=>none
theorem Hv {H0:Hp} {Z:ZG} {a:Addr} {o:Obj} {kvs:List (Key×V)} {ks:List Key} (g1:Z.z a=some (.frz o (.dK kvs))) (g2:kvs.map (·.1)=ks):oG K H0 Z pd (RV a o kvs) (ks.map vM):=by
 intro σ H ρ i s
 have at':H a=some (.frz o (.dK kvs)):=by
  obtain ⟨_,Z',_,z',_⟩:=s
  exact z'.zh _ _ (z'.z0.1 _ _ g1)
 have hlen:kvs.length=ks.length:=by rw [← g2,List.length_map]
 refine ⟨fun x hx=>?_,fun e=>⟨at',by rw [e,List.length_map,hlen]; exact Nat.le_refl _⟩⟩
 rw [List.getElem?_map] at hx
 obtain ⟨kk,hk,rfl⟩:=map_some hx
 refine ⟨⟨at',by rw [hlen]; exact (List.getElem?_eq_some_iff.mp hk).1⟩,fun v H' hy=>?_⟩
 obtain ⟨rfl,k2,hk2,rfl⟩:=hy
 rw [g2,hk] at hk2
 cases hk2
 exact s.scal fun Z=>Fw
theorem Fx {tg iter:Expr} {body:List Stmt} {f:EF} {g:TG} {b:BF} {fb:SF} {pos:Pos} (hp:PassesOwn (model X.prog X.w) X.A X.env X.xe) (hc:X.calm=true) (hl:PE X iter (tP X.K f)) (hg:PG X tg g) (hb':GS X.K g b) (hb:dC X body (eG X.K fb))
 (hs:∀ x,foldedSetIterable iter X.env x=pure x:=by intro _; rfl):PS X (.For tg iter body [] pos) (eG X.K (d9 (JV f) b fb)):=PS.imp (Bt hp hc (Pn hl) hg hb hs) fun D σ H q=>by
 obtain ⟨H0,Z0,ρ,pd,fl,s,h,k⟩:=q
 obtain ⟨y,h1,h2⟩:=bind_some h
 obtain ⟨x,h3,h4⟩:=bind_some h1
 refine ⟨H0,Z0,ρ,pd,x.1,x.2,s,h3,fun v H1 s1=>?_⟩
 refine uy fun G kG=>?_
 split at h4
 . rename_i ks ps en
   cases h4
   have s2:=s1.freeze
   rw [en] at s2
   obtain ⟨el,Z,hgg,z,r,so⟩:=s2.sh
   unfold Rep at r
   obtain ⟨a,o,kvs,rfl,g1,g2,g3⟩:=r
   have hst:SR X.K H0 Z σ H1 x.2 pd:=⟨el,Z,hgg,⟨z.zh,z.h0,fP.refl Z,fun b u e=>.inl e⟩,so⟩
   exact kG ⟨a,o,kvs,rfl,z.zh _ _ g1,vY hb' (Hv g1 g2) (k.imp (fun s=>s.weak z) fun s=>s.weak z) hst h2⟩
 . cases h4
noncomputable def rD (f:EF):EF:=fun ρ=>(f ρ).bind fun x=>match x.1.pv with
 | .ptr n=>match x.2.mu[n]? with
  | some (some (.lst ws))=>some (.sh (.int (ws.length:Nat)),x.2)
  | _=>none
 | p=>(Lz p).map fun l=>(l,x.2)
theorem Mj {x:Str} {e:Expr} {f:EF} {p pos:Pos} (h:PE X (.Call (.Name x p) [e] [] pos) (zH (fun xs H Q=>∃ x n,xs=[x]/\KY X.K x H n/\Q (.int n) H) (jN X.K (aj f ao)))):PE X (.Call (.Name x p) [e] [] pos) (tP X.K (rD f)):=PE.imp h fun σ H Q q=>by
 obtain ⟨H0,Z0,ρ,pd,l,ρ',s,ff,k⟩:=q
 obtain ⟨y,h1,h2⟩:=bind_some ff
 refine ⟨H0,Z0,ρ,pd,[y.1],y.2,s,?_,fun vs H1 e1 s1=>?_⟩
 . unfold aj ao
   rw [h1]
   rfl
 . obtain ⟨v,rfl⟩:=rN e1
   have s2:SR X.K H0 Z0 σ H1 y.2 ((v,.sh y.1.pv)::pd):=SR.freeze s1
   split at h2
   . rename_i n en
     split at h2
     . rename_i ws em
       cases h2
       rw [en] at s2
       obtain ⟨a,rfl,s5⟩:=s2.cellO em
       obtain ⟨_,Z,_,z,so⟩:=s5.top
       obtain ⟨_,ea,⟨us,hu,hr⟩,_⟩:=so.1 _ List.mem_cons_self
       cases ea
       exact ⟨.ref a,ws.length,rfl,.inl ⟨us,b8.of hu,hr.length.symm⟩,k _ H1 (s2.pop.scal dw)⟩
     . cases h2
   . obtain ⟨l',h3,h4⟩:=map_some h2
     cases h4
     exact JN H0 Z0 σ y.2 pd H1 [v] [y.1.pv] _ Q rfl s2 h3 k
end
open PySem.SeqAt
section
variable {X:Cx}
noncomputable def Hw (n:Nat):PD->PD->Option Bool
 | [],_=>some true
 | kv::r,lb=>match mG lb kv.1 with
  | none=>some false
  | some q=>(bF n kv.2 q).bind fun e=>(Hw n r lb).map fun c=>e&&c
noncomputable def xg (n:Nat) (la lb:PD):Option Bool:=if la.length=lb.length then Hw n la lb else some false
theorem Fy {pins:List (Addr×Obj)} {H:Hp} {s:Shared} {g:List Addr} (I:Inv X pins σ H s) {n:Nat} {A:Around} (hA:A.units+n<cLine) {lb:PD} {kb:List (Key×V)} {vb:List (Key×Value)} (rb:fV X.K ⟨H,g⟩ lb kb) (qb:KV kb vb):
 ∀ {la:PD} {ka:List (Key×V)} {va:List (Key×Value)} {b:Bool},fV X.K ⟨H,g⟩ la ka->KV ka va->Hw n la lb=some b->W.KeqHits A s vb va b
 | _,_,va,b,.nil,qa,h=>by
  cases h
  cases (show Paired _ [] va from qa)
  exact .nil
 | p::la,q::ka,va,b,.cons hpq t,qa,h=>by
  cases (show Paired _ (q::ka) va from qa) with
  | @cons _ u _ vr e qr=>
   obtain ⟨u1,u2⟩:=u
   have ek:p.1=u1:=hpq.1.trans e.1
   unfold Hw at h
   have rel:=qb.val p.1
   cases hv:mG lb p.1 with
   | none=>
    rw [hv] at h
    cases h
    rw [rb.val.2 hv] at rel
    refine .miss ?_
    rw [← ek]
    cases hx:valueAt vb p.1 with
    | none=>rfl
    | some y=>rw [hx] at rel; exact rel.elim
   | some q'=>
    rw [hv] at h
    obtain ⟨e1,h1,h2⟩:=bind_some h
    obtain ⟨c,h3,h4⟩:=map_some h2
    subst h4
    obtain ⟨v',hv',rv'⟩:=rb.val.1 q' hv
    rw [hv'] at rel
    cases hx:valueAt vb p.1 with
    | none=>rw [hx] at rel; exact rel.elim
    | some y=>
     rw [hx] at rel
     refine .hit (y:=y) (by rw [← ek]; exact hx) (wU I n hpq.2 rv' e.2 rel h1 A hA).1 (Fy I hA rb qb t qr h3)
noncomputable def S8 (K:FG) (neg:Bool):R2:=fun x y H Q=>∃ g ks ps js qs b,Rep K ⟨H,g⟩ (.dk ks ps) x/\Rep K ⟨H,g⟩ (.dk js qs) y/\xg 150 (ks.zip ps) (js.zip qs)=some b/\Q (.bl (if neg then !b else b)) H
theorem S9 {pins:List (Addr×Obj)} {H:Hp} {s:Shared} {g:List Addr} (I:Inv X pins σ H s) (hA:X.A.in1.units+150<cLine) {ks js:List Key} {ps qs:List PV} {x y:V} {v u:Value} {b:Bool}
 (r1:Rep X.K ⟨H,g⟩ (.dk ks ps) x) (r2:Rep X.K ⟨H,g⟩ (.dk js qs) y) (rx:RelV x v) (ry:RelV y u) (e:xg 150 (ks.zip ps) (js.zip qs)=some b):
 ∃ a a' va vb r,v=.ref a/\u=.ref a'/\(a==sysModules)=false/\(a'==sysModules)=false/\s.heap.DictOf (di X.prog X.w) a va/\s.heap.DictOf (di X.prog X.w) a' vb/\(va.length=vb.length->W.KeqHits X.A.in1 s vb va r)/\(va.length==vb.length&&r)=b:=by
 unfold Rep at r1 r2
 obtain ⟨a,ka,rfl,h1,h2,h3⟩:=r1
 obtain ⟨a',kb,rfl,h1',h2',h3'⟩:=r2
 cases rx
 cases ry
 obtain ⟨_,d1,va,q1,dd1⟩:=Hc I.hok h1
 obtain ⟨_,d2,vb,q2,dd2⟩:=Hc I.hok h1'
 have ra:=mQ h2 h3
 have rb:=mQ h2' h3'
 have la:va.length=(ks.zip ps).length:=by rw [← q1.length,ra.len]
 have lb:vb.length=(js.zip qs).length:=by rw [← q2.length,rb.len]
 unfold xg at e
 split at e
 . rename_i hl
   refine ⟨a,a',va,vb,b,rfl,rfl,d1,d2,dd1,dd2,fun _=>Fy I hA rb q2 ra q1 e,?_⟩
   rw [la,lb,hl]
   simp
 . rename_i hl
   cases e
   refine ⟨a,a',va,vb,false,rfl,rfl,d1,d2,dd1,dd2,fun z=>(hl (by rw [← la,← lb]; exact z)).elim,by simp⟩
theorem Tc {k:Nat} (hr:bR k X.A):fj X (compareOp .Eq) (S8 X.K false):=by
 intro pins s σ H x y v u Q I rx ry h
 obtain ⟨g,ks,ps,js,qs,b,r1,r2,e,k'⟩:=h
 have hA:X.A.in1.units+150<cLine:=by have:=hr.un; show X.A.units+1+150<cLine; omega
 obtain ⟨a,a',va,vb,r,rfl,rfl,d1,d2,dd1,dd2,hits,eb⟩:=S9 I hA r1 r2 rx ry e
 refine W.keq_eq d1 d2 dd1 dd2 (by have:=hr.un; omega) hits ?_
 rw [eb]
 exact ⟨.bl b,H,I,rfl,k'⟩
noncomputable def Dc (p q:PV):Option Lc:=match p,q with
 | .dk ks ps,.dk js qs=>(xg 150 (ks.zip ps) (js.zip qs)).map fun b=>.sh (.bl b)
 | p,q=>eqP p q
noncomputable def Td (K:FG) (neg:Bool):R2:=fun x y H Q=>Cu K neg x y H Q\/S8 K neg x y H Q
theorem JW {k:Nat} (hr:bR k X.A):fj X (compareOp .Eq) (Td X.K false):=(lO hr).or (Tc hr)
theorem Fz:jt K (Td K false) Dc:=by
 intro H0 Z0 σ ρ pd H v w x y l Q s e k
 unfold Dc at e
 split at e
 . obtain ⟨b,e1,rfl⟩:=map_some e
   obtain ⟨g,r1,r2⟩:=s.rep2H
   exact .inr ⟨g,_,_,_,_,b,r1,r2,e1,k _ H (s.pop.pop.scal cz)⟩
 . exact .inl (lQ H0 Z0 σ ρ pd H v w _ _ l Q s e k)
end
end PL
namespace L2
open PySem PySem.Spec PyProof.Rows
variable {pins:List (Addr×Obj)} {E:Value->Shared->Prop} {s:Shared} {A:Around} {w:World} {P:Program}
section
variable {X:Cx}
end
end L2
namespace PL
open PySem PySem.Spec PyProof.Rows L2
variable {K:FG} {H0 H:Hp} {Z0:ZG} {σ:L2.St} {ρ:Ev} {pd:Pd}
noncomputable def vg:List PV->Option (List Str)
 | []=>some []
 | .str x::ps=>(vg ps).map (x::·)
 | _::_=>none
theorem Ac {Z:ZG}:∀ {ps:List PV} {vs:List V} {ss:List Str},vg ps=some ss->aJ K Z ps vs->vs=ss.map V.str
 | [],vs,ss,h,r=>by
  cases h
  exact r
 | p::ps,vs,ss,h,r=>by
  obtain ⟨v,r',rfl,h1,h2⟩:=r
  cases p with
  | str x=>
   obtain ⟨t,g1,g2⟩:=map_some h
   cases g2
   rw [Ac g1 h2]
   unfold Rep at h1
   rw [h1]
   rfl
  | _=>cases h
section
variable {X:Cx}
noncomputable abbrev iT:=List (List Key×PV)
noncomputable def mH:iT->List Key->Option PV
 | [],_=>none
 | kv::r,k=>if kv.1=k then some kv.2 else mH r k
noncomputable def xj (k:List Key) (v:PV):iT->iT
 | []=>[]
 | kv::r=>(if kv.1=k then (kv.1,v) else kv)::xj k v r
noncomputable def qG (l:iT) (k:List Key) (v:PV):iT:=match mH l k with
 | some _=>xj k v l
 | none=>l++[(k,v)]
noncomputable def ik (l:iT):PV:=.dt (l.map (·.1)) (l.map (·.2))
noncomputable def iC (K:FG) (Z:ZG):iT->List (List Key×V)->Prop:=Paired fun p q=>p.1=q.1/\Rep K Z p.2 q.2
section
variable {K:FG} {Z Z':ZG}
theorem vh:∀ {kvs:List (List Key×V)} {ks:List (List Key)} {ps:List PV},kvs.map (·.1)=ks->aJ K Z ps (kvs.map (·.2))->iC K Z (ks.zip ps) kvs
 | [],ks,ps,h1,h2=>by
  subst h1
  exact .nil
 | kv::r,ks,ps,h1,h2=>by
  subst h1
  cases ps with
  | nil=>have:=h2.inv0; simp at this
  | cons p ps=>
   obtain ⟨v,r',e,h3,h4⟩:=h2.inv
   rw [List.map_cons] at e
   injection e with e1 e2
   subst e1 e2
   rw [List.map_cons,List.zip_cons_cons]
   exact .cons ⟨rfl,h3⟩ (vh rfl h4)
theorem iC.keys:∀ {l:iT} {kvs:List (List Key×V)},iC K Z l kvs->kvs.map (·.1)=l.map (·.1)
 | _,_,.nil=>rfl
 | _,_,.cons h t=>by rw [List.map_cons,List.map_cons,h.1,iC.keys t]
theorem iC.vals:∀ {l:iT} {kvs:List (List Key×V)},iC K Z l kvs->aJ K Z (l.map (·.2)) (kvs.map (·.2))
 | _,_,.nil=>.nil
 | _,_,.cons h t=>aJ.cons h.2 (iC.vals t)
theorem iC.val {k:List Key}:∀ {l:iT} {kvs:List (List Key×V)},iC K Z l kvs->(∀ p,mH l k=some p->∃ v,mz kvs k=some v/\Rep K Z p v)/\(mH l k=none->mz kvs k=none)
 | _,_,.nil=>⟨fun p h=>(by cases h),fun _=>rfl⟩
 | p::l,q::kvs,.cons h t=>by
  have ih:=iC.val (k:=k) t
  by_cases e:p.1=k
  . have e':q.1=k:=by rw [← h.1]; exact e
    refine ⟨fun x hx=>⟨q.2,qd e',?_⟩,fun hx=>?_⟩
    . unfold mH at hx; rw [if_pos e] at hx; cases hx; exact h.2
    . unfold mH at hx; rw [if_pos e] at hx; cases hx
  . have e':¬ q.1=k:=by rw [← h.1]; exact e
    rw [qe e']
    unfold mH
    rw [if_neg e]
    exact ih
theorem iC.repl {k:List Key} {p:PV} {v:V} (r:Rep K Z p v):∀ {l:iT} {kvs:List (List Key×V)},iC K Z l kvs->iC K Z (xj k p l) (kvs.map fun kv=>if kv.1=k then (kv.1,v) else kv)
 | _,_,.nil=>.nil
 | a::l,b::kvs,.cons h t=>by
  refine .cons ?_ (iC.repl r t)
  by_cases e:a.1=k
  . have e':b.1=k:=by rw [← h.1]; exact e
    rw [if_pos e]
    dsimp only
    rw [if_pos e']
    exact ⟨h.1,r⟩
  . have e':¬ b.1=k:=by rw [← h.1]; exact e
    rw [if_neg e]
    dsimp only
    rw [if_neg e']
    exact h
theorem iC.app:∀ {l l':iT} {kvs kvs':List (List Key×V)},iC K Z l kvs->iC K Z l' kvs'->iC K Z (l++l') (kvs++kvs')
 | _,_,_,_,.nil,h=>h
 | _,_,_,_,.cons a t,h=>.cons a (iC.app t h)
theorem iC.put {k:List Key} {p:PV} {v:V} {l:iT} {kvs:List (List Key×V)} (h:iC K Z l kvs) (r:Rep K Z p v):iC K Z (qG l k p) (putK kvs k v):=by
 have hv:=h.val (k:=k)
 unfold qG
 cases e:mH l k with
 | none=>
  rw [BR v (hv.2 e)]
  exact h.app (.cons ⟨rfl,r⟩ .nil)
 | some q=>
  obtain ⟨u,hu,_⟩:=hv.1 q e
  have e2:putK kvs k v=kvs.map fun kv=>if kv.1=k then (kv.1,v) else kv:=by
   unfold putK
   rw [qg,hu]
   rfl
  rw [e2]
  exact h.repl r
end
noncomputable def vm:List PV->Option (List Key)
 | []=>some []
 | p::ps=>(yJ p).bind fun k=>(vm ps).map (k::·)
theorem uE {Z:ZG}:∀ {ps:List PV} {vs:List V} {ks:List Key},vm ps=some ks->aJ K Z ps vs->vs=ks.map kV
 | [],vs,ks,h,r=>by
  cases h
  exact r
 | p::ps,vs,ks,h,r=>by
  obtain ⟨v,r',rfl,h1,h2⟩:=r
  obtain ⟨k,g1,g2⟩:=bind_some h
  obtain ⟨t,g3,g4⟩:=map_some g2
  cases g4
  rw [vf g1 h1,uE g3 h2]
  rfl
theorem SR.takeT {i:Nat} {ks:List (List Key)} {ps:List PV} (s:SR K H0 Z0 σ H ρ pd) (e:ρ.vs[i]?=some (some (.own (.dt ks ps)))):
 ∃ a,σ[i]?=some (some (.ref a))/\SR K H0 Z0 σ H (ρ.set i none) ((.ref a,.own (.dt ks ps))::pd):=by
 obtain ⟨v,e1,s1⟩:=s.take e
 obtain ⟨_,Z,_,z,so⟩:=s1.top
 obtain ⟨a,ea,_⟩:=so.1 _ List.mem_cons_self
 have ea':v=.ref a:=Option.some.inj ea
 subst ea'
 exact ⟨a,e1,s1⟩
theorem SR.setT {v:V} {p:PV} {a:Addr} {ks:List (List Key)} {ps:List PV} {k:List Key} (s:SR K H0 Z0 σ H ρ ((v,.sh p)::(.ref a,.own (.dt ks ps))::pd)):
 ∃ kvs,H a=some (.dT kvs)/\kvs.length=ks.length/\SR K H0 Z0 σ (upd H a (.dT (putK kvs k v))) ρ ((.ref a,.own (ik (qG (ks.zip ps) k p)))::pd):=by
 obtain ⟨el,Z,hg,z,r,so⟩:=s.sh
 have so2:=so.perm du.symm
 obtain ⟨_,eb,⟨kvs,hu,hk,hr⟩,_⟩:=so2.1 _ List.mem_cons_self
 cases eb
 refine ⟨kvs,hu,by rw [← hk,List.length_map],?_⟩
 have d:=(vh hk hr).put (k:=k) r
 obtain ⟨z',s'⟩:=so2.write (o:=.dT (putK kvs k v)) (q:=ik (qG (ks.zip ps) k p)) z ⟨putK kvs k v,bC,d.keys,d.vals⟩
 exact .mk el hg z' s'
noncomputable def xm (i:Nat) (fi:AF) (fv:EF):SF:=fun ρ=>(fv ρ).bind fun x=>match x.2.vs[i]? with
 | some (some (.own (.dt _ _)))=>(fi x.2).bind fun y=>match vm (y.1.map Lc.pv),y.2.vs[i]? with
  | some k,some (some (.own (.dt ks ps)))=>if ks.length<100000/\k.length<=1000 then some (.nx (y.2.set i (some (.own (ik (qG (ks.zip ps) k x.1.pv)))))) else none
  | _,_=>none
 | _=>none
theorem Ql {i:Nat} {o ix e:Expr} {fi:AF} {fv:EF} {tpos pos:Pos} (h:PS X (.Assign [.Subscript o ix tpos] e pos) (vP (tP X.K fv) (Bs (sH i) (Ry (jN X.K fi)) Hg))):PS X (.Assign [.Subscript o ix tpos] e pos) (eG X.K (xm i fi fv)):=PS.imp h fun D σ H q=>by
 obtain ⟨H0,Z0,ρ,pd,fl,s,h,k⟩:=q
 obtain ⟨x,h1,h2⟩:=bind_some h
 refine ⟨H0,Z0,ρ,pd,x.1,x.2,s,h1,fun v H1 s1=>?_⟩
 split at h2
 . rename_i ks0 ps0 e0
   obtain ⟨y,h3,h4⟩:=bind_some h2
   obtain ⟨a,ea,_⟩:=s1.takeT e0
   refine ⟨.ref a,ea,H0,Z0,x.2,_,y.1,y.2,s1.freeze,h3,fun ws H2 e2 s2=>?_⟩
   split at h4
   . rename_i kk ks ps ek e3
     split at h4
     . rename_i hlen
       cases h4
       obtain ⟨el,Z,hg,z,rl,so⟩:=s2.repl e2
       have ew:=uE ek rl
       refine ⟨by rw [ew,List.length_map,sizeLine_eq]; omega,fun b hb=>?_⟩
       obtain ⟨z',lz,so'⟩:=so.newF z (a:=b) (o:=.tup ws) hb
       have s3:SR X.K H0 Z0 σ (upd H2 b (.tup ws)) y.2 ((v,.sh x.1.pv)::pd):=⟨el,Z.put b (.tup ws),hg,z',so'⟩
       obtain ⟨a',ea',s4⟩:=s3.takeT e3
       rw [ea] at ea'; cases ea'
       obtain ⟨kvs,hu,hl,s5⟩:=s4.swap.setT (k:=kk)
       refine ⟨a,_,rfl,.inr ⟨kvs,kk,b,hu,rfl,by rw [bC,ew],by rw [hl,sizeLine_eq]; omega,rfl⟩,k σ _ ?_⟩
       have s6:=s5.put ea
       rw [Ev.set_set] at s6
       exact s6
     . cases h4
   . cases h4
 . cases h2
noncomputable def JX:EF:=fun ρ=>some (.own (.dt [] []),ρ)
theorem Te {pos:Pos}:PE X (.Dict [] [] pos) (tP X.K JX):=PE.imp Ld fun σ H Q q=>by
 obtain ⟨H0,Z0,ρ,pd,l,ρ',s,f,k⟩:=q
 cases f
 exact fun p hp=>k _ _ (s.newO hp fun Z _ _=>⟨[],bC,rfl,.nil⟩)
theorem SR.fzT {a:Addr} {ks:List (List Key)} {ps:List PV} (s:SR K H0 Z0 σ H ρ ((.ref a,.own (.dt ks ps))::pd)):
 ∃ kvs,H a=some (.dT kvs)/\∀ o,SR K H0 Z0 σ (upd H a (.frz o (.dT kvs))) ρ ((.ref a,.sh (.dtf ks ps))::pd):=by
 obtain ⟨el,Z,hg,z,so⟩:=s.top
 obtain ⟨_,eb,⟨kvs,hu,hk,hr⟩,e3,e4⟩:=so.1 _ List.mem_cons_self
 cases eb
 refine ⟨kvs,hu,fun o=>?_⟩
 have sz:cJ Z.z (upd Z.z a (.frz o (.dT kvs))):=fun b u e=>by rw [aY (bV e e3)]; exact e
 have lz:fP Z (Z.put a (.frz o (.dT kvs))):=⟨sz,List.prefix_refl _⟩
 have nd:(a::(sl Z.g σ ρ pd).filterMap jM).Nodup:=so.2
 have hL:Slots K H0 Z H (sl Z.g σ ρ pd):=so.sub (List.sublist_cons_self _ _)
 refine .mk (Z:=Z.put a (.frz o (.dT kvs))) el hg ⟨fun b u e=>?_,fun b u e=>by rw [aY (bV e e4)]; exact z.h0 b u e,z.z0.trans lz,fun b u e=>?_⟩ (Slots.consS ?_ ?_)
 . have e:upd Z.z a (.frz o (.dT kvs)) b=some u:=e
   unfold upd at e ⊢
   split
   . rename_i q; rw [if_pos q] at e; exact e
   . rename_i q; rw [if_neg q] at e; exact z.zh b u e
 . have e:upd Z.z a (.frz o (.dT kvs)) b=some u:=e
   unfold upd at e
   split at e
   . rename_i q; rw [q]; exact .inr (.inl e4)
   . exact z.new b u e
 . refine hL.step lz fun e he b hb=>?_
   have hba:b≠a:=fun q=>by
    rw [q] at hb
    exact (List.nodup_cons.mp nd).1 (List.mem_filterMap.mpr ⟨e,he,hb⟩)
   exact ⟨aY hba,by show upd Z.z a _ b=none; rw [aY hba]; exact (gB hL he hb).1⟩
 . unfold Rep
   exact ⟨a,o,kvs,rfl,by show upd Z.z a _ a=_; rw [bC],hk,hr.mono lz⟩
noncomputable def Hx (f:EF):EF:=fun ρ=>(f ρ).bind fun x=>match x.1 with
 | .own (.dt ks ps)=>some (.sh (.dtf ks ps),x.2)
 | _=>none
theorem V7 {e:Expr} {f:EF} (h:PE X e (tP X.K f)):PE X e (tP X.K (Hx f)):=PE.imp (R3 h) fun σ H Q q=>by
 obtain ⟨H0,Z0,ρ,pd,r,ρ',s,h,k⟩:=q
 obtain ⟨x,h1,h2⟩:=bind_some h
 refine ⟨H0,Z0,ρ,pd,x.1,x.2,s,h1,fun v H1 s1=>?_⟩
 split at h2
 . rename_i ks ps e1
   cases h2
   rw [e1] at s1
   obtain ⟨_,Z,_,z,so⟩:=s1.top
   obtain ⟨a,ea,_⟩:=so.1 _ List.mem_cons_self
   have ea':v=.ref a:=Option.some.inj ea
   subst ea'
   obtain ⟨kvs,hu,st⟩:=s1.fzT
   exact ⟨a,kvs,rfl,hu,fun o=>k _ _ (st o)⟩
 . cases h2
theorem Slots.know {Z0 Z:ZG} {L:Sl} (h:Slots K H0 Z H L) (zo:jj H0 Z0 Z H) {a:Addr} {vs:List V} (ha:H a=some (.tup vs)):jj H0 Z0 (Z.put a (.tup vs)) H/\fP Z (Z.put a (.tup vs))/\Slots K H0 (Z.put a (.tup vs)) H L:=by
 have sz:cJ Z.z (upd Z.z a (.tup vs)):=fun b u e=>by
  unfold upd
  split
  . rename_i q
    rw [q] at e
    rw [← ha,← zo.zh _ _ e]
  . exact e
 have lz:fP Z (Z.put a (.tup vs)):=⟨sz,List.prefix_refl _⟩
 refine ⟨⟨fun b u e=>?_,zo.h0,zo.z0.trans lz,fun b u e=>?_⟩,lz,?_⟩
 . have e:upd Z.z a (.tup vs) b=some u:=e
   unfold upd at e
   split at e
   . rename_i q; rw [q,ha]; exact e
   . exact zo.zh b u e
 . have e:upd Z.z a (.tup vs) b=some u:=e
   unfold upd at e
   split at e
   . cases e; exact .inr (.inr True.intro)
   . exact zo.new b u e
 . refine h.step lz fun e he b hb=>?_
   obtain ⟨h1,h2,o',h3,h4⟩:=gB h he hb
   have hba:b≠a:=fun q=>by
    rw [q,ha] at h3
    cases h3
    exact h4 True.intro
   exact ⟨rfl,by show upd Z.z a _ b=none; rw [aY hba]; exact h1⟩
noncomputable def ph (ks:List (List Key)) (ps:List PV):List PV:=List.zipWith (fun k p=>.tup [.tup (k.map vM),p]) ks ps
theorem Hy {ks:List (List Key)} {ps:List PV} {i:Nat} {x:PV} (h:(ph ks ps)[i]?=some x):∃ k p,ks[i]?=some k/\ps[i]?=some p/\x=.tup [.tup (k.map vM),p]:=by
 unfold ph at h
 rw [List.getElem?_zipWith] at h
 cases h1:ks[i]? with
 | none=>rw [h1] at h; cases h
 | some p=>
  cases h2:ps[i]? with
  | none=>rw [h1,h2] at h; cases h
  | some q=>rw [h1,h2] at h; cases h; exact ⟨p,q,rfl,rfl,rfl⟩
theorem Ad {Z:ZG}:∀ {k:List Key},aJ K Z (k.map vM) (k.map kV)
 | []=>.nil
 | _::_=>aJ.cons Fw Ad
theorem Hz {H0:Hp} {a:Addr} {ks:List (List Key)} {ps:List PV} {o:Obj} {kvs:List (List Key×V)} {H1:Hp} (h1:H1 a=some (.frz o (.dT kvs))) (hz:Z0.z a=some (.frz o (.dT kvs))) (hk:kvs.map (·.1)=ks) (hl:ps.length=ks.length):oG K H0 Z0 ((.ref a,.sh (.dtf ks ps))::pd) (RZ a o kvs) (ph ks ps):=by
 intro σ H ρ i s
 obtain ⟨el,Z,hg,z,r,so⟩:=s.sh
 have r0:=r
 unfold Rep at r
 obtain ⟨b',o',kvs',e,g1,g2,g3⟩:=r
 cases e
 have e1:=z.z0.1 _ _ hz
 rw [g1] at e1
 cases e1
 have hH:H a=some (.frz o (.dT kvs)):=z.zh _ _ g1
 have hlen:kvs.length=ks.length:=by rw [← hk,List.length_map]
 refine ⟨fun x hx=>?_,fun hi=>⟨hH,?_⟩⟩
 . obtain ⟨k,p,hk',hp,rfl⟩:=Hy hx
   have hi:i<ks.length:=(List.getElem?_eq_some_iff.mp hk').1
   refine ⟨⟨hH,by omega⟩,fun v' H' y=>?_⟩
   obtain ⟨T,kb,kv,hT,rfl,hkv,hkb,rfl⟩:=y
   have hk2:k=kv.1:=by
    have:=congrArg (fun l=>l[i]?) hk
    simp only [List.getElem?_map,hkv,hk',Option.map_some] at this
    exact (Option.some.inj this).symm
   obtain ⟨v,hv,rv⟩:=g3.get hp
   rw [List.getElem?_map,hkv] at hv
   cases hv
   obtain ⟨z1,lz1,so1⟩:=so.know z hkb
   obtain ⟨z',lz,so'⟩:=(so1.consS (r0.mono lz1)).newF z1 (a:=T) (o:=.tup [.ref kb,kv.2]) hT
   refine .mk (Z:=(Z.put kb (.tup (kv.1.map kV))).put T (.tup [.ref kb,kv.2])) el hg z' (Slots.perm (Slots.consS so' ?_) (du.cons _))
   unfold Rep
   refine ⟨T,[.ref kb,kv.2],rfl,.inl (.inl (by show upd _ T _ T=_; rw [bC])),aJ.cons (Rep.mono (Z:=Z.put kb (.tup (kv.1.map kV))) lz ?_) (aJ.cons ((rv.mono lz1).mono lz) .nil)⟩
   unfold Rep
   exact ⟨kb,kv.1.map kV,rfl,.inl (.inl (by show upd _ kb _ kb=_; rw [bC])),by rw [hk2]; exact Ad⟩
 . unfold ph at hi
   rw [List.length_zipWith] at hi
   omega
noncomputable def HB (f:EF):IF:=fun ρ=>(f ρ).bind fun x=>match x.1.pv with
 | .dtf ks ps=>if ps.length=ks.length then some (ph ks ps,x.2) else none
 | _=>none
theorem SR.ext {l:Addr} {o:HO} (s:SR K H0 Z0 σ H ρ pd) (hl:H l=none):SR K H0 Z0 σ (upd H l o) ρ pd:=by
 obtain ⟨el,Z,hg,z,so⟩:=s
 obtain ⟨z',lz,so'⟩:=so.newF z (o:=o) hl
 exact ⟨el,Z.put l o,hg,z',so'⟩
theorem El {o:Expr} {elts:List Expr} {x1} {tpos apos cpos:Pos} {body:List Stmt} {f:EF} {g:TG} {b:BF} {fb:SF} {pos:Pos} (hp:PassesOwn (model X.prog X.w) X.A X.env X.xe) (hc:X.calm=true) (hl:PE X o (tP X.K f)) (hg:PG X (.Tuple elts x1 tpos) g) (hb':GS X.K g b) (hb:dC X body (eG X.K fb))
 (hbase:attributeBase o "items" X.env (eval o X.env)=eval o X.env:=by rfl) (hline:(apos.endLine==cpos.line)=true:=by rfl)
 (hs:∀ x,foldedSetIterable (.Call (.Attribute o "items" apos) [] [] cpos) X.env x=pure x:=by intro _; rfl):PS X (.For (.Tuple elts x1 tpos) (.Call (.Attribute o "items" apos) [] [] cpos) body [] pos) (eG X.K (d9 (HB f) b fb)):=PS.imp (Bt hp hc (Lj (Ln hl hbase hline)) hg hb hs) fun D σ H q=>by
 obtain ⟨H0,Z0,ρ,pd,fl,s,h,k⟩:=q
 obtain ⟨y,h1,h2⟩:=bind_some h
 obtain ⟨x,h3,h4⟩:=bind_some h1
 refine ⟨H0,Z0,ρ,pd,x.1,x.2,s,h3,fun v H1 s1=>?_⟩
 refine uy fun G kG=>?_
 split at h4
 . rename_i ks ps en
   split at h4
   . rename_i hlp
     cases h4
     have s2:=s1.freeze
     rw [en] at s2
     obtain ⟨el,Z,hgg,z,r,so⟩:=s2.sh
     have r0:=r
     unfold Rep at r
     obtain ⟨a,o,kvs,rfl,g1,g2,g3⟩:=r
     have e1:H1 a=some (.frz o (.dT kvs)):=z.zh _ _ g1
     have hst0:SR X.K H0 Z σ H1 x.2 ((.ref a,.sh (.dtf ks ps))::pd):=.mk (Z:=Z) el hgg ⟨z.zh,z.h0,fP.refl Z,fun b u e=>.inl e⟩ (so.consS r0)
     exact kG ⟨a,o,kvs,rfl,rfl,e1,fun l hl=>⟨l,a,o,kvs,rfl,bC,by rw [aY (bV e1 hl)]; exact e1,vY hb' (Hz e1 g1 g2 hlp) (k.imp (fun s=>s.pop.weak z) fun s=>(s.sub ((List.sublist_cons_self _ _).cons_cons _)).weak z) (hst0.ext hl) h2⟩⟩
   . cases h4
 . cases h4
noncomputable def qT:SF:=fun _=>none
theorem vo {st:Stmt}:PS X st (eG X.K qT):=fun pins s σ H D I q=>by
 obtain ⟨H0,Z0,ρ,pd,fl,s,h,k⟩:=q
 cases h
noncomputable abbrev FD:=List (Str×PV)
noncomputable def gO:FD->Str->Option PV
 | [],_=>none
 | kv::r,k=>if kv.1=k then some kv.2 else gO r k
noncomputable def iw (f:Str) (p:PV):FD->FD
 | []=>[(f,p)]
 | kv::r=>if kv.1=f then (kv.1,p)::r else kv::iw f p r
noncomputable def cH (C:Str) (l:FD):PV:=.obj C (l.map (·.1)) (l.map (·.2))
noncomputable def nA (K:FG) (Z:ZG):FD->List (Str×V)->Prop:=Paired fun p q=>p.1=q.1/\Rep K Z p.2 q.2
section
variable {K:FG} {Z Z':ZG}
theorem yK:∀ {kvs:List (Str×V)} {ks:List Str} {ps:List PV},kvs.map (·.1)=ks->aJ K Z ps (kvs.map (·.2))->nA K Z (ks.zip ps) kvs
 | [],ks,ps,h1,h2=>by
  subst h1
  exact .nil
 | kv::r,ks,ps,h1,h2=>by
  subst h1
  cases ps with
  | nil=>have:=h2.inv0; simp at this
  | cons p ps=>
   obtain ⟨v,r',e,h3,h4⟩:=h2.inv
   rw [List.map_cons] at e
   injection e with e1 e2
   subst e1 e2
   rw [List.map_cons,List.zip_cons_cons]
   exact .cons ⟨rfl,h3⟩ (yK rfl h4)
theorem nA.keys:∀ {l:FD} {kvs:List (Str×V)},nA K Z l kvs->kvs.map (·.1)=l.map (·.1)
 | _,_,.nil=>rfl
 | _,_,.cons h t=>by rw [List.map_cons,List.map_cons,h.1,nA.keys t]
theorem nA.vals:∀ {l:FD} {kvs:List (Str×V)},nA K Z l kvs->aJ K Z (l.map (·.2)) (kvs.map (·.2))
 | _,_,.nil=>.nil
 | _,_,.cons h t=>aJ.cons h.2 (nA.vals t)
theorem nA.look {f:Str}:∀ {l:FD} {kvs:List (Str×V)},nA K Z l kvs->(∀ p,gO l f=some p->∃ v,kvs.lookup f=some v/\Rep K Z p v)/\(gO l f=none->kvs.lookup f=none)
 | _,_,.nil=>⟨fun p h=>(by cases h),fun _=>rfl⟩
 | p::l,q::kvs,.cons h t=>by
  have ih:=nA.look (f:=f) t
  have e0:(q::kvs).lookup f=if f=q.1 then some q.2 else kvs.lookup f:=by
   obtain ⟨q1,q2⟩:=q
   rw [List.lookup_cons]
   by_cases e:f=q1
   . subst e; simp
   . rw [if_neg e,show (f==q1)=false from beq_eq_false_iff_ne.mpr e]
  rw [e0]
  by_cases e:p.1=f
  . have e':f=q.1:=by rw [← h.1]; exact e.symm
    rw [if_pos e']
    refine ⟨fun x hx=>⟨q.2,rfl,?_⟩,fun hx=>?_⟩
    . unfold gO at hx; rw [if_pos e] at hx; cases hx; exact h.2
    . unfold gO at hx; rw [if_pos e] at hx; cases hx
  . have e':¬ f=q.1:=by rw [← h.1]; exact fun z=>e z.symm
    rw [if_neg e']
    unfold gO
    rw [if_neg e]
    exact ih
theorem nA.put {f:Str} {p:PV} {v:V} (r:Rep K Z p v):∀ {l:FD} {kvs:List (Str×V)},nA K Z l kvs->nA K Z (iw f p l) (iB f v kvs)
 | _,_,.nil=>.cons ⟨rfl,r⟩ .nil
 | a::l,b::kvs,.cons h t=>by
  obtain ⟨b1,b2⟩:=b
  unfold iw iB
  have h1:a.1=b1:=h.1
  by_cases e:a.1=f
  . rw [if_pos e,if_pos (by rw [← h1]; exact e)]
    exact .cons ⟨h1,r⟩ t
  . rw [if_neg e,if_neg (by rw [← h1]; exact e)]
    exact .cons h (nA.put r t)
end
structure tL (K:FG) (mg:Str->Option Value) (C:Str) (c:Addr):Prop where
 cn:CN K C c
 cl:ue K c
 mgC:mg C=some (.ref c)
theorem xn {C:Str} {c d:Addr} (h:CN K C c) (g:CN K C d):c=d:=by
 have:(some (some (Value.ref c)))=some (some (.ref d)):=h.symm.trans g
 cases this
 rfl
noncomputable def jH (C f:Str) (fo:EF):EF:=fun ρ=>(fo ρ).bind fun x=>match x.1.pv with
 | .ptr n=>match x.2.mu[n]? with
  | some (some (.obj D ks ps))=>if D=C then (gO (ks.zip ps) f).map fun p=>(.sh p,x.2) else none
  | _=>none
 | _=>none
theorem SR.cellB {pd pe:Pd} {a:Addr} {n:Nat} {p:PV} (hm:ρ.mu[n]?=some (some p)) (s:SR K H0 Z0 σ H ⟨ρ.vs,ρ.mu.set n none⟩ ((.ref a,.own p)::(.ref a,.sh (.ptr n))::pd)):SR K H0 Z0 σ H ρ pd:=by
 have hn:n<ρ.mu.length:=(List.getElem?_eq_some_iff.mp hm).1
 have s8:=s.cellP (by show (ρ.mu.set n none)[n]?=_; rw [List.getElem?_set_self hn])
 have e8:(ρ.mu.set n none).set n (some p)=ρ.mu:=by rw [List.set_set]; exact set_same hm
 have s9:SR K H0 Z0 σ H ⟨ρ.vs,(ρ.mu.set n none).set n (some p)⟩ pd:=s8
 rw [e8] at s9
 exact s9
theorem SR.objAt {v:V} {n:Nat} {C:Str} {ks:List Str} {ps:List PV} (s:SR K H0 Z0 σ H ρ ((v,.sh (.ptr n))::pd)) (hm:ρ.mu[n]?=some (some (.obj C ks ps))):
 ∃ a c dx fs,v=.ref a/\CN K C c/\H a=some (.ins c dx fs)/\fs.map (·.1)=ks/\(∀ f p,gO (ks.zip ps) f=some p->∃ u,fs.lookup f=some u/\SR K H0 Z0 σ H ρ ((u,.sh p)::(v,.sh (.ptr n))::pd))/\∀ f,gO (ks.zip ps) f=none->fs.lookup f=none:=by
 have sdup:SR K H0 Z0 σ H ρ ((v,.sh (.ptr n))::(v,.sh (.ptr n))::pd):=s.part fun Z _ r=>r
 obtain ⟨a,rfl,s5⟩:=sdup.cellO hm
 obtain ⟨el,Z,hg,z,so⟩:=s5.top
 obtain ⟨_,ea,⟨c,dx,fs,cn,hu,hk,hr⟩,_⟩:=so.1 _ List.mem_cons_self
 cases ea
 have rf:=yK hk hr
 refine ⟨a,c,dx,fs,rfl,cn,hu,hk,fun f p hl=>?_,fun f hl=>rf.look.2 hl⟩
 obtain ⟨u,h1,h2⟩:=rf.look.1 p hl
 refine ⟨u,h1,?_⟩
 have s6:SR K H0 Z0 σ H ⟨ρ.vs,ρ.mu.set n none⟩ ((u,.sh p)::(.ref a,.own (.obj C ks ps))::(.ref a,.sh (.ptr n))::(.ref a,.sh (.ptr n))::pd):=.mk (Z:=Z) el hg z ((so.perm du).consS h2)
 have s7:SR K H0 Z0 σ H ⟨ρ.vs,ρ.mu.set n none⟩ ((.ref a,.own (.obj C ks ps))::(.ref a,.sh (.ptr n))::(u,.sh p)::(.ref a,.sh (.ptr n))::pd):=s6.perm (((List.Perm.swap _ _ _).cons _).trans (List.Perm.swap _ _ _))
 exact SR.cellB (pe:=pd) hm s7
theorem qH {C f:Str} {c:Addr} {o:Expr} {fo:EF} {pos:Pos} (T:tL X.K X.mg C c) (na:lK X.K c f) (ho:PE X o (tP X.K fo)) (hb:attributeBase o f X.env (eval o X.env)=eval o X.env:=by rfl):PE X (.Attribute o f pos) (tP X.K (jH C f fo)):=PE.imp (Rw ho hb) fun σ H Q q=>by
 obtain ⟨H0,Z0,ρ,pd,l,ρ',s,h,k⟩:=q
 obtain ⟨x,h1,h2⟩:=bind_some h
 refine ⟨H0,Z0,ρ,pd,x.1,x.2,s,h1,fun v H1 s1=>?_⟩
 split at h2
 . rename_i n en
   split at h2
   . rename_i D ks ps em
     split at h2
     . rename_i eD
       subst eD
       obtain ⟨p,h3,h4⟩:=map_some h2
       cases h4
       have s2:=s1.freeze
       rw [en] at s2
       obtain ⟨a,c',dx,fs,rfl,cn,hH,hk,hl,_⟩:=s2.objAt em
       have:=xn T.cn cn
       subst this
       obtain ⟨u,h5,s6⟩:=hl f p h3
       exact ⟨a,c,dx,fs,u,rfl,hH,T.cl,na,h5,k u H1 (s6.sub ((List.sublist_cons_self _ _).cons_cons _))⟩
     . cases h2
   . cases h2
 . cases h2
noncomputable def jq (C f:Str) (fo fv:EF):SF:=fun ρ=>(fv ρ).bind fun y=>(fo y.2).bind fun x=>match x.1.pv with
 | .ptr n=>match x.2.mu[n]? with
  | some (some (.obj D ks ps))=>if D=C/\ks.length<1000 then some (.nx ⟨x.2.vs,x.2.mu.set n (some (cH C (iw f y.1.pv (ks.zip ps))))⟩) else none
  | _=>none
 | _=>none
theorem pU {C f:Str} {c:Addr} {o value:Expr} {fo fv:EF} {pos' pos:Pos} (T:tL X.K X.mg C c) (na:lK X.K c f) (ho:PE X o (tP X.K fo)) (hv:PE X value (tP X.K fv)) (hs:swapsWith value (some (.Attribute o f pos')) pos.line X.env=pure false:=by rfl):PS X (.Assign [.Attribute o f pos'] value pos) (eG X.K (jq C f fo fv)):=PS.imp (Rx ho hv hs) fun D σ H q=>by
 obtain ⟨H0,Z0,ρ,pd,fl,s,h,k⟩:=q
 obtain ⟨y,h1,h2⟩:=bind_some h
 obtain ⟨x,h3,h4⟩:=bind_some h2
 refine ⟨H0,Z0,ρ,pd,y.1,y.2,s,h1,fun v H1 s1=>⟨H0,Z0,y.2,_,x.1,x.2,s1.freeze,h3,fun w H2 s2=>?_⟩⟩
 split at h4
 . rename_i n en
   split at h4
   . rename_i D' ks ps em
     split at h4
     . rename_i eD
       obtain ⟨eD,hz⟩:=eD
       subst eD
       cases h4
       have s3:=s2.freeze
       rw [en] at s3
       obtain ⟨a,rfl,s5⟩:=s3.cellO em
       have s6:SR X.K H0 Z0 σ H2 ⟨x.2.vs,x.2.mu.set n none⟩ ((v,.sh y.1.pv)::(.ref a,.own (.obj D' ks ps))::(.ref a,.sh (.ptr n))::pd):=s5.perm ((List.Perm.swap _ _ _).trans ((List.Perm.swap _ _ _).cons _))
       obtain ⟨el,Z,hg,z,r,so⟩:=s6.sh
       have so2:=so.perm du.symm
       obtain ⟨_,eb,⟨c',dx,fs,cn,hu,hk,hr⟩,_⟩:=so2.1 _ List.mem_cons_self
       cases eb
       have:=xn T.cn cn
       subst this
       have rf:=yK hk hr
       have rp:=rf.put (f:=f) r
       have hlen:fs.length=ks.length:=by rw [← hk,List.length_map]
       refine ⟨a,c,dx,fs,rfl,hu,T.cl,na,by omega,k σ _ ?_⟩
       obtain ⟨z',s'⟩:=so2.write (o:=.ins c dx (iB f v fs)) (q:=cH D' (iw f y.1.pv (ks.zip ps))) z ⟨c,dx,iB f v fs,cn,bC,rp.keys,rp.vals⟩
       have s7:SR X.K H0 Z0 σ (upd H2 a (.ins c dx (iB f v fs))) ⟨x.2.vs,x.2.mu.set n none⟩ ((.ref a,.own (cH D' (iw f y.1.pv (ks.zip ps))))::(.ref a,.sh (.ptr n))::pd):=.mk el hg z' s'
       have hn:n<x.2.mu.length:=(List.getElem?_eq_some_iff.mp em).1
       have s8:=s7.cellP (by show (x.2.mu.set n none)[n]?=_; rw [List.getElem?_set_self hn])
       have e8:(x.2.mu.set n none).set n (some (cH D' (iw f y.1.pv (ks.zip ps))))=x.2.mu.set n (some (cH D' (iw f y.1.pv (ks.zip ps)))):=List.set_set ..
       have s9:SR X.K H0 Z0 σ (upd H2 a (.ins c dx (iB f v fs))) ⟨x.2.vs,(x.2.mu.set n none).set n (some (cH D' (iw f y.1.pv (ks.zip ps))))⟩ pd:=s8
       rw [e8] at s9
       exact s9
     . cases h4
   . cases h4
 . cases h4
end
section
variable {P:Program} {w:World} {K:FG} {mg:Str->Option Value} {base:Heap}
noncomputable def lC (K:FG) (c:Addr) (m qual:Str) (st:Stmt) (ps:List Str):Prop:=∃ f fd,nR K m qual st f fd/\W.findIn K (.ref c) m=some (some (.ref f))/\W.isFn K (.ref f)=true/\Binds K fd ps []
noncomputable def nC (P:Program) (w:World) (K:FG) (mg:Str->Option Value) (base:Heap) (c:Addr) (m:Str) (k:Nat) (ps:List Str) (sp:Sp):Prop:=∃ f fd,gb P w K mg base oY k f fd ps sp/\Meth K c m f/\Binds K fd ps []
theorem nR.okQ {x qual:Str} {st:Stmt} {N ps:List Str} {k:Nat} {g:GF} {f:Addr} {fd:FuncData} (F:nR K x qual st f fd) (S:aV N ps (aq st))
 (h:∀ (cdv:Value) (A:Around) (outer:List PySem.Env) (s:Shared) (H:Hp) (E:XK),bR k (A.deeper (envOfC qual (aq st) s.heap.objs.size f cdv))->
   ∃ g':SF,(∀ a mu,g a mu=cW N.length g' a mu)/\dC (gH oY P w K mg base N qual (aq st) f cdv A outer s H E).nox (aP st) (eG K g')):gb P w K mg base oY (k+1) f fd ps (bT K ps.length g):=by
 refine F.ok S (fun vs H Q E q=>?_) (fun cdv A outer s H vs Q E hr q=>?_)
 . obtain ⟨Z,qs,mu,r,mu',e,_⟩:=q; exact e
 . obtain ⟨g',eg,b⟩:=h cdv A outer s H E hr
   obtain ⟨Z,qs,mu,r,mu',e,hg,z,rl,c,hr',kk⟩:=q
   rw [eg] at hr'
   obtain ⟨fl,h1,h2⟩:=bind_some hr'
   refine ⟨_,b,ju H (lL Z.g mu),Z,_,[],fl,sV hg z rl c,h1,?_⟩
   cases fl with
   | rt r' ρ'=>
    cases h2
    intro v σ' H' s'
    obtain ⟨el,Z',hg',z',s''⟩:=s'.top
    refine kk v H' ⟨Z',hg',z',s''.sub ?_⟩
    exact (List.sublist_append_left _ _).cons_cons _
   | nx ρ'=>
    cases h2
    intro σ' H' s'
    obtain ⟨el,Z',hg',z',s''⟩:=s'
    exact kk .non H' ⟨Z',hg',z',(s''.sub (List.sublist_append_left _ _)).consS (rM _)⟩
   | bk ρ'=>cases h2
   | ct ρ'=>cases h2
theorem lC.ok {c:Addr} {m qual:Str} {st:Stmt} {N ps:List Str} {k:Nat} {g:GF} (F:lC K c m qual st ps) (S:aV N ps (aq st))
 (h:∀ (f:Addr) (cdv:Value) (A:Around) (outer:List PySem.Env) (s:Shared) (H:Hp) (E:XK),bR k (A.deeper (envOfC qual (aq st) s.heap.objs.size f cdv))->
   ∃ g':SF,(∀ a mu,g a mu=cW N.length g' a mu)/\dC (gH oY P w K mg base N qual (aq st) f cdv A outer s H E).nox (aP st) (eG K g')):nC P w K mg base c m (k+1) ps (bT K ps.length g):=by
 obtain ⟨f,fd,F,h1,h2,hb⟩:=F
 exact ⟨f,fd,nR.okQ F S (h f),⟨h1,h2,F.kp⟩,hb⟩
end
section
variable {X:Cx}
noncomputable def bG (C m:Str) (g:GF) (fo:EF) (a:AF):EF:=fun ρ=>(fo ρ).bind fun x=>match x.1.pv with
 | .ptr n=>match x.2.mu[n]? with
  | some (some (.obj D ks _))=>if D=C/\ks.contains m=false then (a x.2).bind fun y=>(g (.ptr n::y.1.map Lc.pv) y.2.mu).map fun r=>(r.1,⟨y.2.vs,r.2⟩) else none
  | _=>none
 | _=>none
theorem Ae {m:Str}:∀ {fs:List (Str×V)},(fs.map (·.1)).contains m=false->fs.lookup m=none
 | [],_=>rfl
 | (g,x)::r,h=>by
  rw [List.map_cons,List.contains_cons,Bool.or_eq_false_iff] at h
  rw [List.lookup_cons,h.1]
  exact Ae h.2
theorem Dd {C m:Str} {c:Addr} {g:GF} {fo:EF} {a:AF} {n':Nat} {E:XK} (T:tL X.K X.mg C c) (hn:∀ ρ ls ρ1,a ρ=some (ls,ρ1)->ls.length+1=n'):∀ σ H Q,tP X.K (bG C m g fo a) σ H Q->G5 c m (bT X.K n' g) [] E (tP X.K fo) (jN X.K a) σ H Q:=fun σ H Q q=>by
 obtain ⟨H0,Z0,ρ,pd,l,ρ',s,h,k⟩:=q
 obtain ⟨x,h1,h2⟩:=bind_some h
 refine ⟨H0,Z0,ρ,pd,x.1,x.2,s,h1,fun v H1 s1=>?_⟩
 split at h2
 . rename_i n en
   split at h2
   . rename_i D ks ps em
     split at h2
     . rename_i eD
       obtain ⟨eD,hk⟩:=eD
       subst eD
       obtain ⟨y,h3,h4⟩:=bind_some h2
       obtain ⟨r,h5,h6⟩:=map_some h4
       cases h6
       have s2:=s1.freeze
       rw [en] at s2
       obtain ⟨a',c',dx,fs,rfl,cn,hH,hks,_,_⟩:=s2.objAt em
       have:=xn T.cn cn
       subst this
       refine ⟨a',dx,fs,rfl,hH,Ae (by rw [hks]; exact hk),H0,Z0,x.2,_,y.1,y.2,s2,h3,fun vs H2 e2 s3=>?_⟩
       have s4:SR X.K H0 Z0 σ H2 y.2 ((V.ref a'::vs).zip (Lc.sh (.ptr n)::y.1)++pd):=s3.perm (by
        rw [List.zip_cons_cons,List.cons_append]
        exact List.perm_middle.symm)
       obtain ⟨el,Z,hg,z,rl,sl'⟩:=s4.repl (by rw [List.length_cons,List.length_cons,e2])
       refine ⟨Z,.ptr n::y.1.map Lc.pv,y.2.mu,r.1,r.2,?_,hg,z.zh,?_,sl'.cells hg,h5,fun v H' rr=>k v H' (SR.called el hg z sl' rr)⟩
       . rw [List.append_nil,List.length_cons,e2]; exact hn _ _ _ h3
       . rw [List.append_nil]; exact rl
     . cases h2
   . cases h2
 . cases h2
theorem jJ {C m:Str} {c:Addr} {k:Nat} {ps:List Str} {g:GF} {fo:EF} {e o:Expr} {es:List Expr} {a:AF} {apos pos:Pos} {pl:Sem Bool} (T:tL X.K X.mg C c) (M:nC X.prog X.w X.K X.mg X.base c m k ps (bT X.K ps.length g)) (hr:bR k X.A) (ho:PE X o (tP X.K fo)) (ha:PA X (e::es) (jN X.K a)) (hn:∀ ρ ls ρ1,a ρ=some (ls,ρ1)->ls.length+1=ps.length)
 (hst:starEach (e::es) X.env=(false,eval e X.env)::starEach es X.env:=by rfl) (hpl:(backTo pos (starEach es X.env)).any (·.1)=false:=by rfl)
 (ht:eval (.Call (.Attribute o m apos) (e::es) [] pos) X.env=(do
   let ov ← eval o X.env
   standAt apos.atName
   let (f,first) ← holding [ov] (getMethod ov m pl)
   callWith pos f first (backTo pos (starEach (e::es) X.env)) (backToKw pos (keywordEach [] X.env))):=by rfl):PE X (.Call (.Attribute o m apos) (e::es) [] pos) (tP X.K (bG C m g fo a)):=by
 obtain ⟨f,fd,F,hm,hb⟩:=M
 exact PE.imp (O4 (pl:=pl) (E:=E0) ho T.cl hm F hr hb .nil G9 ha hst hpl ht) (Dd T hn)
theorem De {C m:Str} {c:Addr} {k:Nat} {ps:List Str} {g:GF} {fo:EF} {o:Expr} {apos pos:Pos} {pl:Sem Bool} (T:tL X.K X.mg C c) (M:nC X.prog X.w X.K X.mg X.base c m k ps (bT X.K ps.length g)) (hr:bR k X.A) (ho:PE X o (tP X.K fo)) (hn:1=ps.length)
 (ht:eval (.Call (.Attribute o m apos) [] [] pos) X.env=(do
   let ov ← eval o X.env
   standAt apos.atName
   let (f,first) ← holding [ov] (getMethod ov m pl)
   callWith pos f first (backTo pos (starEach [] X.env)) (backToKw pos (keywordEach [] X.env))):=by rfl):PE X (.Call (.Attribute o m apos) [] [] pos) (tP X.K (bG C m g fo ao)):=by
 obtain ⟨f,fd,F,hm,hb⟩:=M
 refine PE.imp (K4 (pl:=pl) (E:=E0) ho T.cl hm F hr hb .nil G9 ht) fun σ H Q q=>?_
 have:=Dd (X:=X) (E:=E0) (a:=ao) (n':=ps.length) T (fun ρ ls ρ1 h=>by cases h; rw [← hn]; rfl) σ H Q q
 obtain ⟨H0,Z0,ρ,pd,l,ρ',s,h,k⟩:=this
 refine ⟨H0,Z0,ρ,pd,l,ρ',s,h,fun v H1 s1=>?_⟩
 obtain ⟨a,dx,fs,e1,e2,e3,H0',Z0',ρ2,pd2,ls,ρ3,s2,h2,k2⟩:=k v H1 s1
 cases h2
 exact ⟨a,dx,fs,e1,e2,e3,k2 [] H1 rfl s2⟩
theorem SR.toCell {a:Addr} {p:PV} (s:SR K H0 Z0 σ H ρ ((.ref a,.own p)::pd)):SR K H0 Z0 σ H ⟨ρ.vs,ρ.mu++[some p]⟩ ((.ref a,.sh (.ptr ρ.mu.length))::pd):=by
 obtain ⟨el,Z,hg,z,so⟩:=s.top
 have lz:fP Z ⟨Z.z,Z.g++[a]⟩:=⟨cJ.refl _,List.prefix_append _ _⟩
 have so2:=so.step (Z':=⟨Z.z,Z.g++[a]⟩) (H':=H) lz fun e he b hb=>⟨rfl,(gB so he hb).1⟩
 refine .mk (Z:=⟨Z.z,Z.g++[a]⟩) el (by simp [hg]) ⟨z.zh,z.h0,z.z0.trans lz,z.new⟩ (Slots.consS ?_ ?_)
 . refine so2.perm ?_
   have ec:cel (Z.g++[a]) (ρ.mu++[some p])=cel Z.g ρ.mu++[(some (.ref a),some (.own p))]:=by
    unfold cel
    rw [List.map_append,List.map_append,List.zip_append (by simp [hg])]
    rfl
   unfold sl
   show List.Perm (cel (Z.g++[a]) (ρ.mu++[some p])++_) _
   rw [ec,List.append_assoc]
   exact List.perm_middle
 . unfold Rep
   exact ⟨a,rfl,by show (Z.g++[a])[ρ.mu.length]?=some a; rw [hg,List.getElem?_append_right (Nat.le_refl _)]; simp⟩
noncomputable def Df (fa:EF) (fi:AF):EF:=fun ρ=>(fa ρ).bind fun x=>(fi x.2).bind fun y=>match x.1.pv with
 | .dt ks ps=>(vm (y.1.map Lc.pv)).bind fun k=>if k.length<=1000 then (mH (ks.zip ps) k).map fun p=>(.sh p,y.2) else none
 | _=>none
theorem Tf {a:Expr} {es:List Expr} {x1} {tpos pos:Pos} {fa:EF} {fi:AF} (hu:X.A.units+1<cLine) (ha:PE X a (tP X.K fa)) (hb:PA X es (jN X.K fi)) (hm:uY (.Tuple es x1 tpos)):PE X (.Subscript a (.Tuple es x1 tpos) pos) (tP X.K (Df fa fi)):=PE.imp (G6 (Ey hu) ha (Bx hb) hm) fun σ H Q q=>by
 obtain ⟨H0,Z0,ρ,pd,l,ρ',s,f,k⟩:=q
 obtain ⟨x,h1,h2⟩:=bind_some f
 obtain ⟨y,h3,h4⟩:=bind_some h2
 refine ⟨H0,Z0,ρ,pd,x.1,x.2,s,h1,fun v H1 s1=>⟨H0,Z0,x.2,_,y.1,y.2,s1.freeze,h3,fun ws H2 e2 s2=>?_⟩⟩
 split at h4
 . rename_i ks ps en
   obtain ⟨kk,h5,h6⟩:=bind_some h4
   split at h6
   . rename_i hlen
     obtain ⟨p,h7,h8⟩:=map_some h6
     cases h8
     obtain ⟨el,Z,hg,z,rl,so⟩:=s2.repl e2
     have ew:=uE h5 rl
     refine ⟨by rw [ew,List.length_map,sizeLine_eq]; omega,fun b hb=>?_⟩
     obtain ⟨z',lz,so'⟩:=so.newF z (a:=b) (o:=.tup ws) hb
     have s3:SR X.K H0 Z0 σ (upd H2 b (.tup ws)) y.2 ((v,.sh x.1.pv)::pd):=⟨el,Z.put b (.tup ws),hg,z',so'⟩
     rw [en] at s3
     obtain ⟨Z3,z3,r⟩:=s3.rep
     unfold Rep at r
     obtain ⟨d,kvs,rfl,g1,g2,g3⟩:=r
     obtain ⟨u,hu',ru⟩:=(vh g2 g3).val.1 p h7
     have e1:=z3 _ _ g1
     refine ⟨d,u,rfl,.inr ⟨kvs,kk,b,.inl e1,rfl,by rw [bC,ew],hu'.symm⟩,k u _ ?_⟩
     refine (s3.part (u:=u) (q:=p) fun Z' z' r'=>?_).sub ((List.sublist_cons_self _ _).cons_cons _)
     unfold Rep at r'
     obtain ⟨b2,kvs2,eb,g1',g2',g3'⟩:=r'
     cases eb
     have e2:=z' _ _ g1'
     rw [e1] at e2
     cases e2
     obtain ⟨u2,hu2,ru2⟩:=(vh g2' g3').val.1 p h7
     rw [hu'] at hu2
     cases hu2
     exact ru2
   . cases h6
 . cases h4
noncomputable def FJ (K:FG):V->List V->Hp->VK->Prop:=fun x vs H Q=>∃ g p qs w b,vs=[w]/\Rep K ⟨H,g⟩ p w/\Rep K ⟨H,g⟩ (.lst qs) x/\jf (bF 150) p qs=some b/\qs.length<=100000/\Q (.int (qs.countP fun q=>(bF 150 q p).getD false:Nat)) H
theorem Ml {k:Nat} (hr:bR k X.A):Nz X "list.count" (FJ X.K):=by
 intro pins s σ H x vs v us Q I rx rv h
 obtain ⟨g,p,qs,w,b,rfl,rp,rq,e,hz,q⟩:=h
 have hA:X.A.in1.units+150<cLine:=by have:=hr.un; show X.A.units+1+150<cLine; omega
 obtain ⟨u,rfl,ru⟩:=rv.one
 obtain ⟨i1,i2⟩:=rP e
 obtain ⟨a,vs,its,rfl,q1,l1,rv1,t1⟩:=oZ I rq rx
 have hl:its.length=qs.length:=by rw [← rv1.length,l1.length]
 have hat:∀ m (hm:m<its.length),worth X.K ⟨H,g⟩ p qs vs its its[m]=(bF 150 (qs[m]'(by omega)) p).getD false:=fun m hm=>
  tu (xv:=w) (xu:=u) I l1 rv1 i1 (j:=m) (List.getElem?_eq_getElem (by omega)) (List.getElem?_eq_getElem hm)
 have hcnt:its.countP (worth X.K ⟨H,g⟩ p qs vs its)=qs.countP fun q=>(bF 150 q p).getD false:=by
  have e1:its.map (worth X.K ⟨H,g⟩ p qs vs its)=qs.map fun q=>(bF 150 q p).getD false:=by
   refine List.ext_getElem (by rw [List.length_map,List.length_map,hl]) fun m h1 h2=>?_
   rw [List.getElem_map,List.getElem_map]
   exact hat m (by simpa using h1)
  have e2:∀ {α:Type} (f:α->Bool) (l:List α),l.countP f=(l.map f).countP id:=fun f l=>by rw [List.countP_map]; rfl
  rw [e2,e1,← e2]
 obtain ⟨⟨oc,od,oD,os⟩,ht,hc,n,hd⟩:=t1
 have hc':oc=.type "list" := hc
 have hd':oD=.seq its.toArray n:=hd
 subst hc' hd'
 refine call_meets F.slot_list_count ⟨_,ht,rfl⟩ F.entry_list_count (F.args_list_count_2 _ _) (SeqAt.list_countAt a its.toArray n od os u (worth X.K ⟨H,g⟩ p qs vs its)) ⟨ht,oJ I rp ru l1 rv1 i1 hA,?_⟩
 have q':Q (.int (its.countP (worth X.K ⟨H,g⟩ p qs vs its):Nat)) H:=by rw [hcnt]; exact q
 exact ⟨.int _,H,I.tok _,⟨_,rfl⟩,q'⟩
noncomputable def xq (f g:EF):EF:=fun ρ=>(f ρ).bind fun x=>(g x.2).bind fun y=>match x.1.pv with
 | .lst qs=>if (jf (bF 150) y.1.pv qs).isSome=true/\qs.length<=100000 then some (.sh (.int (qs.countP fun q=>(bF 150 q y.1.pv).getD false:Nat)),y.2) else none
 | _=>none
theorem Tg {o e:Expr} {f g:EF} {apos cpos:Pos} (h:PE X (.Call (.Attribute o "count" apos) [e] [] cpos) (Jj X.K "list" (FJ X.K) (tP X.K f) (jN X.K (aj g ao)))):PE X (.Call (.Attribute o "count" apos) [e] [] cpos) (tP X.K (xq f g)):=PE.imp h fun σ H Q q=>by
 obtain ⟨H0,Z0,ρ,pd,r,ρ',s,h,k⟩:=q
 obtain ⟨x,h1,h2⟩:=bind_some h
 obtain ⟨y,h3,h4⟩:=bind_some h2
 refine ⟨H0,Z0,ρ,pd,x.1,x.2,s,h1,fun v H1 s1=>?_⟩
 have s1':=s1.freeze
 cases e:x.1.pv with
 | lst qs=>
  rw [e] at h4 s1'
  have h4':(if (jf (bF 150) y.1.pv qs).isSome=true/\qs.length<=100000 then some (Lc.sh (.int (qs.countP fun q=>(bF 150 q y.1.pv).getD false:Nat)),y.2) else none)=some (r,ρ'):=h4
  split at h4'
  . rename_i hc
    cases h4'
    obtain ⟨_,r1⟩:=s1'.repH
    have r1':=r1
    unfold Rep at r1'
    obtain ⟨a,us,rfl,hq,_⟩:=r1'
    obtain ⟨bb,hbb⟩:=Option.isSome_iff_exists.mp hc.1
    refine ⟨.inl ⟨rfl,us,hq⟩,H0,Z0,x.2,_,[y.1],y.2,s1',?_,fun vs H2 e2 s2=>?_⟩
    . unfold aj ao
      rw [h3]
      rfl
    . obtain ⟨w,rfl⟩:=rN e2
      have s3:SR X.K H0 Z0 σ H2 y.2 ((w,.sh y.1.pv)::(.ref a,.sh (.lst qs))::pd):=SR.freeze s2
      obtain ⟨g,ra,rb⟩:=s3.rep2H
      exact ⟨g,y.1.pv,qs,w,bb,rfl,rb,ra,hbb,hc.2,k _ _ (s3.pop.pop.scal dw)⟩
  . cases h4'
 | _=>rw [e] at h4; cases h4
end
theorem gG {a:AF} {n m:Nat} (h:∀ ρ ls ρ1,a ρ=some (ls,ρ1)->ls.length=n) (e:n+1=m:=by rfl):∀ ρ ls ρ1,a ρ=some (ls,ρ1)->ls.length+1=m:=fun ρ ls ρ1 g=>by rw [h _ _ _ g,e]
end PL
namespace L2
open PySem PySem.Spec PyProof.Rows
variable {pins:List (Addr×Obj)} {E:Value->Shared->Prop} {s:Shared} {A:Around} {w:World} {P:Program}
section
variable {X:Cx}
end
end L2
namespace PL
open PySem PySem.Spec PyProof.Rows L2
variable {K:FG} {H0 H:Hp} {Z0:ZG} {σ:L2.St} {ρ:Ev} {pd:Pd}
section
variable {X:Cx}
end
end PL
namespace L2
open PySem PySem.Spec PyProof.Rows
variable {pins:List (Addr×Obj)} {E:Value->Shared->Prop} {s:Shared} {A:Around} {w:World} {P:Program}
section
variable {X:Cx}
noncomputable def pk {α:Type} (xs:List α) (lo hi st:Option Int):List α:=
 (sliceRange (sliceBounds lo hi st xs.length).1 (sliceBounds lo hi st xs.length).2.1 (sliceBounds lo hi st xs.length).2.2).filterMap fun i=>xs[i]?
theorem Dg {its:List Value} {lo hi st:Option Int}:slicePick its.toArray lo hi st=(pk its lo hi st).toArray:=by
 unfold slicePick pk
 simp
theorem Vals.pick {xs:List V} {its:List Value} (r:Vals xs its):∀ {l:List Nat},Vals (l.filterMap fun i=>xs[i]?) (l.filterMap fun i=>its[i]?)
 | []=>.nil
 | i::l=>by
  have hl:=r.length
  cases h:xs[i]? with
  | none=>
   have h':its[i]?=none:=by rw [List.getElem?_eq_none_iff] at h ⊢; omega
   rw [List.filterMap_cons_none h,List.filterMap_cons_none h']
   exact r.pick
  | some x=>
   obtain ⟨u,h',ru⟩:=r.get h
   rw [List.filterMap_cons_some h,List.filterMap_cons_some h']
   exact .cons ru r.pick
theorem Vals.pk {xs:List V} {its:List Value} {lo hi st:Option Int} (r:Vals xs its):Vals (pk xs lo hi st) (L2.pk its lo hi st):=by
 unfold L2.pk
 rw [r.length]
 exact r.pick
theorem Dh {α:Type}:∀ ys:List α,(List.range ys.length).filterMap (fun i=>ys[i]?)=ys
 | []=>rfl
 | y::t=>by
  rw [List.length_cons,List.range_succ_eq_map,List.filterMap_cons,List.filterMap_map]
  exact congrArg (y::·) (Dh t)
theorem Th {α:Type} (xs:List α):pk xs none none (some (-1))=xs.reverse:=by
 have hr:sliceRange (sliceBounds none none (some (-1)) xs.length).1 (sliceBounds none none (some (-1)) xs.length).2.1 (sliceBounds none none (some (-1)) xs.length).2.2=(List.range xs.length).map fun k=>xs.length-1-k:=by
  show List.map (fun k:Nat=>((xs.length:Int)-1 + -1*(k:Int)).toNat) (List.range (if (xs.length:Int)-1 > -1 then ((xs.length:Int)-1 - -1 - -1-1)/1 else 0).toNat)=_
  have e:(if (xs.length:Int)-1 > -1 then ((xs.length:Int)-1 - -1 - -1-1)/1 else 0).toNat=xs.length:=by split<;>omega
  rw [e]
  exact List.map_congr_left fun k hk=>by have:=List.mem_range.mp hk; omega
 unfold pk
 rw [hr,List.filterMap_map]
 have hc:∀ l:List Nat,(∀ k∈l,k<xs.length)->l.filterMap ((fun i=>xs[i]?) ∘ fun k=>xs.length-1-k)=l.filterMap fun i=>xs.reverse[i]?:=by
  intro l
  induction l with
  | nil=>exact fun _=>rfl
  | cons k l ih=>
   intro h
   have e:((fun i=>xs[i]?) ∘ fun k=>xs.length-1-k) k=xs.reverse[k]?:=(List.getElem?_reverse (h k List.mem_cons_self)).symm
   rw [List.filterMap_cons,List.filterMap_cons,e,ih fun k hk=>h k (List.mem_cons_of_mem _ hk)]
 rw [hc _ fun k hk=>List.mem_range.mp hk]
 have:=Dh xs.reverse
 rwa [List.length_reverse] at this
noncomputable def V8 (K:FG) (te:TE) (tl th tt:TO):TE:=fun σ H Q=>te σ H fun x H1=>tl σ H1 fun l H2=>th σ H2 fun u H3=>tt σ H3 fun k H4=>∃ a xs,x=.ref a/\b8 K H4 a xs/\k≠some 0/\∀ p,H4 p=none->Q (.ref p) (upd H4 p (.lst (pk xs l u k)))
theorem JZ {e:Expr} {lo hi:Option Expr} {st:Expr} {p2 pos:Pos} {te:TE} {tl th tt:TO} (he:PE X e te) (hl:PO X lo tl) (hu:PO X hi th) (ht:PO X (some st) tt):PE X (.Subscript e (.Slice lo hi (some st) p2) pos) (V8 X.K te tl th tt):=by
 intro pins s σ H Q I h
 refine Subscript_ (bz (he pins s σ H _ I h) fun v s1 ⟨x,H1,I1,r1,q1⟩=>?_)
 refine wpAny_Slice (bz (hl pins s1 σ H1 _ I1 q1) fun vl s2 ⟨l,H2,I2,pl,q2⟩=>bz (hu pins s2 σ H2 _ I2 q2) fun vu s3 ⟨u,H3,I3,pu,q3⟩=>bz (ht pins s3 σ H3 _ I3 q3) fun vs s4 ⟨k,H4,I4,pk',q4⟩=>?_)
 obtain ⟨a,xs,rfl,hx,hk,q⟩:=q4
 cases r1
 have I5:Inv X pins σ H4 { s4 with heap:=s4.heap.push { cls:=.type "slice",data:=.fields #[vl,vu,vs] } }:=I4.kept (t':=s4.toks) fun b ob q=>Heap.get?_push_of_some _ q
 obtain ⟨its,r,ht,hz⟩:=I5.list hx
 have hlen:=r.length
 have hg:wpAny (model X.prog X.w) X.A (getItem (.ref a) (.ref s4.heap.objs.size)) (EP X pins σ Q) X.xe { s4 with heap:=s4.heap.push { cls:=.type "slice",data:=.fields #[vl,vu,vs] } }:=by
  refine wpAny_getItem_list_slice ht.isList (Heap.IsSliceOf.new ..) pl pu pk' hk ?_ (by rw [List.size_toArray]<;>omega)
  have hsz:=slicePick_size_le its.toArray l u k
  rw [Dg] at hsz ⊢
  refine ⟨.ref (s4.heap.push { cls:=.type "slice",data:=.fields #[vl,vu,vs] }).objs.size,_,I5.laid (t':=s4.toks) (o:=.lst (pk xs l u k)) (fun b ob q=>Heap.get?_push_of_some _ q) (Nat.le_refl _) ?_,rfl,q _ (I5.hok.fresh (Nat.le_refl _))⟩
  refine ⟨?_,_,0,r.pk,Heap.get?_push_size _ rfl⟩
  have e:=(r.pk (lo:=l) (hi:=u) (st:=k)).length
  rw [List.size_toArray,List.size_toArray] at hsz
  omega
 show wpAny (model X.prog X.w) X.A (subscriptTail e (.Slice lo hi (some st) p2) (.ref a) (.ref s4.heap.objs.size)) (EP X pins σ Q) X.xe { s4 with heap:=s4.heap.push { cls:=.type "slice",data:=.fields #[vl,vu,vs] } }
 exact tail_any (ops:=[.ref a,.ref s4.heap.objs.size]) ht.isList.typeIs slot_list_getitem.lookup hg (by with_unfolding_all rfl)
end
end L2
namespace PL
open PySem PySem.Spec PyProof.Rows L2
variable {K:FG} {H0 H:Hp} {Z0:ZG} {σ:L2.St} {ρ:Ev} {pd:Pd}
section
variable {X:Cx}
theorem aJ.pick {Z:ZG} {ps:List PV} {vs:List V} (r:aJ K Z ps vs):∀ {l:List Nat},aJ K Z (l.filterMap fun i=>ps[i]?) (l.filterMap fun i=>vs[i]?)
 | []=>aJ.nil
 | i::l=>by
  have hl:=r.length
  cases h:ps[i]? with
  | none=>
   have h':vs[i]?=none:=by rw [List.getElem?_eq_none_iff] at h ⊢; omega
   rw [List.filterMap_cons_none h,List.filterMap_cons_none h']
   exact r.pick
  | some x=>
   obtain ⟨u,h',ru⟩:=r.get h
   rw [List.filterMap_cons_some h,List.filterMap_cons_some h']
   exact aJ.cons ru r.pick
theorem aJ.pk {Z:ZG} {ps:List PV} {vs:List V} {lo hi st:Option Int} (r:aJ K Z ps vs):aJ K Z (L2.pk ps lo hi st) (L2.pk vs lo hi st):=by
 unfold L2.pk
 rw [r.length]
 exact r.pick
noncomputable def Mm (f:EF) (lo hi st:OF):EF:=fun ρ=>(f ρ).bind fun x=>(lo x.2).bind fun y=>(hi y.2).bind fun z=>(st z.2).bind fun t=>match x.1.pv with
 | .lst ps=>if t.1≠some 0 then some (.own (.lst (pk ps y.1 z.1 t.1)),t.2) else none
 | _=>none
theorem Qm {e:Expr} {lo hi:Option Expr} {st:Expr} {p2 pos:Pos} {f:EF} {fl fh fs:OF} (he:PE X e (tP X.K f)) (hl:PO X lo (CG X.K fl)) (hu:PO X hi (CG X.K fh)) (ht:PO X (some st) (CG X.K fs)):
 PE X (.Subscript e (.Slice lo hi (some st) p2) pos) (tP X.K (Mm f fl fh fs)):=PE.imp (JZ he hl hu ht) fun σ H Q q=>by
 obtain ⟨H0,Z0,ρ,pd,r,ρ',s,h,k⟩:=q
 obtain ⟨x,h1,h2⟩:=bind_some h
 obtain ⟨y,h3,h4⟩:=bind_some h2
 obtain ⟨z,h5,h6⟩:=bind_some h4
 obtain ⟨t,h7,h8⟩:=bind_some h6
 refine ⟨H0,Z0,ρ,pd,x.1,x.2,s,h1,fun v H1 s1=>⟨H0,Z0,x.2,_,y.1,y.2,s1.freeze,h3,fun H2 s2=>⟨H0,Z0,y.2,_,z.1,z.2,s2,h5,fun H3 s3=>⟨H0,Z0,z.2,_,t.1,t.2,s3,h7,fun H4 s4=>?_⟩⟩⟩⟩
 split at h8
 . rename_i ps e
   split at h8
   . rename_i hk
     cases h8
     rw [e] at s4
     obtain ⟨el,Z,hg,zz,r1,s5⟩:=s4.sh
     unfold Rep at r1
     obtain ⟨a,vs,rfl,g1,g2⟩:=r1
     refine ⟨a,vs,rfl,b8.same zz.zh g1,hk,fun p hp=>k _ _ ?_⟩
     obtain ⟨z',s'⟩:=s5.new (o:=.lst (pk vs y.1 z.1 t.1)) (p:=.lst (pk ps y.1 z.1 t.1)) zz hp ⟨_,bC,g2.pk⟩
     exact .mk el hg z' s'
   . cases h8
 . cases h8
end
noncomputable def kh (mu:Mu):Nat->PV->PV
 | 0,p=>p
 | k+1,.ptr n=>match mu[n]? with
  | some (some p)=>kh mu k p
  | _=>.ptr n
 | k+1,.tup ps=>.tup (ps.map (kh mu k))
 | k+1,.lst ps=>.lst (ps.map (kh mu k))
 | _+1,p=>p
theorem wg {Z:ZG} {f:PV->PV} (hf:∀ p x,Rep K Z p x->Rep K Z (f p) x):∀ {ps:List PV} {vs:List V},aJ K Z ps vs->aJ K Z (ps.map f) vs
 | [],vs,h=>h
 | p::ps,vs,h=>by
  obtain ⟨v,r,rfl,h1,h2⟩:=h.inv
  exact aJ.cons (hf p v h1) (wg hf h2)
noncomputable def peekD (mu:Mu):Option Lc->Option Lc
 | some l=>some (.sh (kh mu 40 l.pv))
 | none=>none
noncomputable def Ev.peekD (ρ:Ev):Ev:=⟨ρ.vs.map (PL.peekD ρ.mu),ρ.mu.map fun _=>none⟩
section
variable {X:Cx}
theorem Mp {g:List Addr} {mu:Mu}:∀ e∈cel g (mu.map fun _=>none),e.2=none:=fun e he=>by
 obtain ⟨v,l⟩:=e
 obtain ⟨_,h2⟩:=List.of_mem_zip he
 obtain ⟨o,ho,e2⟩:=List.mem_map.mp h2
 obtain ⟨o',_,e3⟩:=List.mem_map.mp ho
 subst e3
 exact e2.symm
end
theorem Slots.freezeC {R:Sl}:∀ (C:Sl) {Z:ZG},Slots K H0 Z H (C++R)->jj H0 Z0 Z H->∃ Z',fP Z Z'/\Z'.g=Z.g/\jj H0 Z0 Z' H/\Slots K H0 Z' H R/\∀ e∈C,∀ q,e.2=some (.own q)->∃ x,e.1=some x/\Rep K Z' q x
 | [],Z,so,z=>⟨Z,fP.refl Z,rfl,z,so,fun e he=>by cases he⟩
 | (v,l)::C,Z,so,z=>by
  have rest:∀ {Z1:ZG},fP Z Z1->Z1.g=Z.g->jj H0 Z0 Z1 H->Slots K H0 Z1 H (C++R)->(∀ q,l=some (.own q)->∃ x,v=some x/\Rep K Z1 q x)->∃ Z',fP Z Z'/\Z'.g=Z.g/\jj H0 Z0 Z' H/\Slots K H0 Z' H R/\∀ e∈(v,l)::C,∀ q,e.2=some (.own q)->∃ x,e.1=some x/\Rep K Z' q x:=fun {Z1} lz eg z1 so1 hv=>by
   obtain ⟨Z',lz',eg',z',so',hc⟩:=Slots.freezeC C so1 z1
   refine ⟨Z',lz.trans lz',eg'.trans eg,z',so',fun e he q hq=>?_⟩
   rcases List.mem_cons.mp he with rfl | he
   . obtain ⟨x,ex,rx⟩:=hv q hq
     exact ⟨x,ex,rx.mono lz'⟩
   . exact hc e he q hq
  have so1:Slots K H0 Z H ((v,l)::(C++R)):=so
  cases l with
  | none=>exact rest (fP.refl Z) rfl z (so1.sub (List.sublist_cons_self _ _)) fun q h=>by cases h
  | some l=>
   cases l with
   | sh p=>exact rest (fP.refl Z) rfl z (so1.sub (List.sublist_cons_self _ _)) fun q h=>by cases h
   | own p=>
    obtain ⟨Z1,lz,eg,z1,so2⟩:=so1.freeze z
    obtain ⟨x,ex,rx⟩:=so2.1 _ List.mem_cons_self
    exact rest lz eg z1 (so2.sub (List.sublist_cons_self _ _)) fun q h=>by
     cases h
     exact ⟨x,ex,rx⟩
theorem qU {Z:ZG} {mu:Mu} (hc:∀ (n:Nat) (a:Addr) (q:PV),Z.g[n]?=some a->mu[n]?=some (some q)->Rep K Z q (.ref a)):∀ (k:Nat) (p:PV) (x:V),Rep K Z p x->Rep K Z (kh mu k p) x
 | 0,p,x,r=>r
 | k+1,p,x,r=>by
  cases p with
  | ptr n=>
   show Rep K Z (match mu[n]? with | some (some p)=>kh mu k p | _=>.ptr n) x
   split
   . rename_i q hq
     unfold Rep at r
     obtain ⟨a,rfl,ha⟩:=r
     exact qU hc k q _ (hc n a q ha hq)
   . exact r
  | tup ps=>
   show Rep K Z (.tup (ps.map (kh mu k))) x
   unfold Rep at r ⊢
   obtain ⟨a,vs,e,h1,h2⟩:=r
   exact ⟨a,vs,e,h1,wg (qU hc k) h2⟩
  | lst ps=>
   show Rep K Z (.lst (ps.map (kh mu k))) x
   unfold Rep at r ⊢
   obtain ⟨a,vs,e,h1,h2⟩:=r
   exact ⟨a,vs,e,h1,wg (qU hc k) h2⟩
  | _=>exact r
theorem Slots.nones {Z:ZG} {R:Sl}:∀ (C:Sl),(∀ e∈C,e.2=none)->Slots K H0 Z H R->Slots K H0 Z H (C++R)
 | [],_,so=>so
 | (v,l)::C,h,so=>by
  have e:l=none:=h _ List.mem_cons_self
  subst e
  have s:=Slots.nones C (fun e he=>h e (List.mem_cons_of_mem _ he)) so
  refine ⟨fun e he=>?_,?_⟩
  . rcases List.mem_cons.mp he with rfl | he
    . trivial
    . exact s.1 e he
  . show ((((v,none):Option V×Option Lc)::(C++R)).filterMap jM).Nodup
    rw [List.filterMap_cons_none (by cases v with | none=>rfl | some x=>cases x<;>rfl)]
    exact s.2
theorem SR.meltD {v:V} {p:PV} (k:Nat) (s:SR K H0 Z0 σ H ρ ((v,.sh p)::pd)):
 SR K H0 Z0 σ H ⟨ρ.vs,ρ.mu.map fun _=>none⟩ ((v,.sh (kh ρ.mu k p))::pd):=by
 obtain ⟨el,Z,hg,z,r,so⟩:=s.sh
 obtain ⟨Z',lz,eg,z',so2,hc⟩:=Slots.freezeC (cel Z.g ρ.mu) so z
 have so3:Slots K H0 Z' H (sl Z'.g σ ⟨ρ.vs,ρ.mu.map fun _=>none⟩ pd):=Slots.nones (cel Z'.g (ρ.mu.map fun _=>none)) Mp so2
 refine .mk (Z:=Z') el (by rw [eg]; simpa using hg) z' (so3.consS ?_)
 refine qU (fun n a q ha hq=>?_) k p v (r.mono lz)
 rw [eg] at ha
 have hm:(some (V.ref a),some (Lc.own q))∈cel Z.g ρ.mu:=List.mem_of_getElem? (zip_get (i:=n) (by rw [List.getElem?_map,ha]; rfl) (by rw [List.getElem?_map,hq]; rfl))
 obtain ⟨x,ex,rx⟩:=hc _ hm q rfl
 cases ex
 exact rx
section
variable {X:Cx}
noncomputable def xr (f:EF):EF:=fun ρ=>(f ρ).map fun x=>(.sh (kh x.2.mu 40 x.1.pv),⟨x.2.vs,x.2.mu.map fun _=>none⟩)
theorem Ti {e:Expr} {f:EF} (h:PE X e (tP X.K f)):PE X e (tP X.K (xr f)):=PE.imp h fun σ H Q q=>by
 obtain ⟨H0,Z0,ρ,pd,l,ρ',s,f,k⟩:=q
 obtain ⟨x,h1,h2⟩:=map_some f
 cases h2
 exact ⟨H0,Z0,ρ,pd,x.1,x.2,s,h1,fun v H1 s1=>k v H1 (s1.freeze.meltD 40)⟩
theorem Mq {f:EF} {ρ ρ1:Ev} {l:Lc} {p:PV} (h:f ρ=some (l,ρ1)) (hp:kh ρ1.mu 40 l.pv=p):xr f ρ=some (.sh p,⟨ρ1.vs,ρ1.mu.map fun _=>none⟩):=by
 unfold xr
 rw [h]
 show some (Lc.sh (kh ρ1.mu 40 l.pv),_)=_
 rw [hp]
end
class HK where
 hk:List uv->Int
noncomputable def okP:PV->Option uv
 | .non=>some none
 | .int i=>some (some (.inl i))
 | .str x=>some (some (.inr x))
 | _=>none
section
variable {X:Cx} [HK]
end
section
variable {X:Cx}
theorem qw (i:Nat) {x:Str} {pos:Pos} (hN:X.N[i]?=some x:=by rfl) (hv:Iu X.env.scope x:=by first | exact Or.inl rfl | exact Or.inr (Or.inl rfl) | exact Or.inr (Or.inr rfl)) (hd:(x==("__debug__" : Str))=false:=by decide) (hcd:(x==("__classdict__" : Str))=false:=by decide):PE X (.Name x pos) (tP X.K (aa i)):=qv (pv i hN hv hd hcd)
theorem cC {i:Int} {j} {pos:Pos}:PE X (.Constant (.int i) j pos) (tP X.K (eC (.int i))):=qc Q5 dw
theorem Af {i:Str} {j} {pos:Pos}:PE X (.Constant (.str i) j pos) (tP X.K (eC (.str i))):=qc Iv mL
theorem pI {j} {pos:Pos}:PE X (.Constant .none j pos) (tP X.K (eC .non)):=qc Q6 rM
theorem qI {a:Expr} {i:Int} {j} {p pos:Pos} {fa:EF} (ha:PE X a (tP X.K fa)):PE X (.Subscript a (.Constant (.int i) j p) pos) (tP X.K (aF fa (eC (.int i)))):=bc ha cC (fun _ _=>rfl)
theorem qL {e:Expr} {f:EF} {p pos:Pos} (b:X.mg "len" = none) (h:PE X e (tP X.K f)) (hg:Gl X "len" := by rfl) (h0:starEach [e] X.env=(false,eval e X.env)::starEach [] X.env:=by rfl):PE X (.Call (.Name "len" p) [e] [] pos) (tP X.K (eB dh (aj f ao))):=qy p8 JN (fQ p8 hg b PySem.boot_len (ak h aD h0) (he:=h0))
theorem fD (i:Nat) {x:Str} {e:Expr} {pos pos':Pos} {f:EF} (hN:X.N.Nodup) (he:PE X e (tP X.K f)) (hi:X.N[i]?=some x:=by rfl) (hx:L2.Loc X.env.scope x:=by exact Or.inl rfl) (hs:swapsWith e (some (.Name x pos')) pos.line X.env=pure false:=by rfl) (hf:X.fn x=true\/X.env.scope.names.lookup x=some .local:=by first | exact .inl rfl | exact .inr rfl | assumption):
 PS X (.Assign [.Name x pos'] e pos) (eG X.K (aL i f)):=lM hN hi hx he hs hf
theorem d8 (i:Nat) {x:Str} {pos:Pos} (hN:X.N.Nodup) (hi:X.N[i]?=some x:=by rfl) (hx:L2.Loc X.env.scope x:=by exact Or.inl rfl) (hf:X.fn x=true\/X.env.scope.names.lookup x=some .local:=by first | exact .inl rfl | exact .inr rfl | assumption):PG X (.Name x pos) (wB i):=mK hN hi hx hf
theorem mR {M F:List Str} {ixs:List Nat} {sc:Scope} (S:Scope) (hS:X.env.scope=S:=by rfl) (kind:sc.kind=.function:=by rfl) (locs:∀ y∈sc.names,y.2=.local->sc.names.lookup y.1=some .local:=by decide +kernel) (cel:∀ y∈sc.names,y.2=.cell->sc.names.lookup y.1=some .cell:=by decide +kernel)
 (own:∀ p∈sc.names,p.2=.free->S.names.lookup p.1=some .cell\/S.names.lookup p.1=some .free:=by decide +kernel) (frs:∀ x∈F,sc.names.lookup x=some .free:=by decide +kernel) (ix:ixs.map (fun i=>X.N[i]?)=F.map some:=by rfl):ig X M F ixs sc:=N8 S hS kind locs cel own frs ix
theorem Di {i:Nat} {o e:Expr} {f:EF} {apos cpos pos:Pos} (ho:PE X o (sH i)) (he:PE X e (tP X.K f)) (h0:starEach [e] X.env=(false,eval e X.env)::starEach [] X.env:=by rfl) (h1:attributeBase o "append" X.env (eval o X.env)=eval o X.env:=by rfl)
 (h2:((backTo cpos (starEach [e] X.env)).all (fun x=>!x.1)&&(backToKw cpos (keywordEach [] X.env)).all (fun x=>x.1.isSome)
   && decide (([e]:List Expr).length+([]:List Keyword).length+(if ([]:List Keyword).isEmpty then 0 else 1)<30))=true:=by rfl) (h3:(apos.endLine==cpos.line)=true:=by rfl) (hs:swapsWith (.Call (.Attribute o "append" apos) [e] [] cpos) none pos.line X.env=pure false:=by rfl):
 PS X (.Expr (.Call (.Attribute o "append" apos) [e] [] cpos) pos) (eG X.K (lH i f)):=Ss (yw (nj F.plainAttrs_list F.slot_list_append F.type_list_append zJ ho (ak he aD h0) h1 h2 h3 h0) hs)
end
inductive XR (α:Type) where
 | ok (a:α)
 | xc (C:Str) (ρ:Ev)
noncomputable abbrev EX:=Ev->Option (XR (Lc×Ev))
noncomputable abbrev SX:=Ev->Option (XR Fl)
noncomputable abbrev GX:=List PV->Mu->Option (XR (Lc×Mu))
noncomputable def Dj (K:FG) (E:XK) (f:EX):TE:=fun σ H Q=>∃ H0 Z0 ρ pd,SR K H0 Z0 σ H ρ pd/\((∃ l ρ',f ρ=some (.ok (l,ρ'))/\∀ v H',SR K H0 Z0 σ H' ρ' ((v,l)::pd)->Q v H')\/∃ C ρ',f ρ=some (.xc C ρ')/\∀ c H',CN K C c->SR K H0 Z0 σ H' ρ' pd->E (.ref c) none H')
noncomputable def nD (K:FG) (E:XK) (g:SX):TS:=fun D σ H=>∃ H0 Z0 ρ pd,SR K H0 Z0 σ H ρ pd/\((∃ fl,g ρ=some (.ok fl)/\rC K H0 Z0 pd D fl)\/∃ C ρ',g ρ=some (.xc C ρ')/\∀ c σ' H',CN K C c->SR K H0 Z0 σ' H' ρ' pd->E (.ref c) none H')
noncomputable def HD (K:FG) (E:XK) (g:SX):TS:=fun D σ H=>∃ H0 Z0 ρ pd,SR K H0 Z0 σ H ρ pd/\((∃ fl,g ρ=some (.ok fl)/\rC K H0 Z0 pd D fl)\/∃ C ρ',g ρ=some (.xc C ρ')/\∀ c H',CN K C c->SR K H0 Z0 σ H' ρ' pd->E (.ref c) none H')
theorem nD.a {E:XK} {g:SX} {D:Ends} {H:Hp} (q:nD K E g D σ H):HD K E g D σ H:=by
 obtain ⟨H0,Z0,ρ,pd,s,q | ⟨C,ρ',h,k⟩⟩:=q
 . exact ⟨H0,Z0,ρ,pd,s,.inl q⟩
 . exact ⟨H0,Z0,ρ,pd,s,.inr ⟨C,ρ',h,fun c H'=>k c σ H'⟩⟩
noncomputable def Dk (K:FG) (n:Nat) (g:GX):Sp:=fun vs H Q E=>∃ (Z:ZG) (ps:List PV) (mu:Mu),vs.length=n/\mu.length=Z.g.length/\cJ Z.z H/\aJ K Z ps vs/\Slots K (ju H (lL Z.g mu)) Z H (cel Z.g mu)/\
 ((∃ r mu',g ps mu=some (.ok (r,mu'))/\∀ v H',Cj K H Z (lL Z.g mu) H' mu' v r->Q v H')\/∃ C ρ',g ps mu=some (.xc C ρ')/\∀ c v H',CN K C c->Cj K H Z (lL Z.g mu) H' ρ'.mu v (.sh .non)->E (.ref c) none H')
noncomputable def rE (n:Nat) (g:SX):GX:=fun ps mu=>(g (env0 n ps mu)).bind fun x=>match x with
 | .ok (.rt r ρ)=>some (.ok (r,ρ.mu))
 | .ok (.nx ρ)=>some (.ok (.sh .non,ρ.mu))
 | .xc C ρ=>some (.xc C ρ)
 | _=>none
noncomputable def iU (g:SF):SX:=fun ρ=>(g ρ).map .ok
noncomputable def kj (f g:SX):SX:=fun ρ=>(f ρ).bind fun x=>match x with
 | .ok (.nx ρ')=>g ρ'
 | y=>some y
noncomputable def uF (c:TF) (f g:SX):SX:=fun ρ=>(c ρ).bind fun x=>if x.1=true then f x.2 else g x.2
noncomputable def xB (f:EX) (k:Lc×Ev->Option Fl):SX:=fun ρ=>(f ρ).bind fun x=>match x with
 | .ok y=>(k y).map .ok
 | .xc C ρ'=>some (.xc C ρ')
noncomputable def rF (i:Nat):Lc×Ev->Option Fl:=fun y=>if i<y.2.vs.length then some (.nx (y.2.set i (some y.1))) else none
noncomputable def Ob:Lc×Ev->Option Fl:=fun y=>some (.nx y.2)
section
variable {X:Cx} {E:XK}
theorem lu {st:Stmt} {g:SF} (h:PS X st (eG X.K g)):PS X st (nD X.K E (iU g)):=PS.imp h fun D σ H q=>by
 obtain ⟨H0,Z0,ρ,pd,s,⟨fl,h1,k⟩ | ⟨C,ρ',h1,k⟩⟩:=q
 . obtain ⟨a,h2,h3⟩:=map_some h1
   cases h3
   exact ⟨H0,Z0,ρ,pd,fl,s,h2,k⟩
 . obtain ⟨a,h2,h3⟩:=map_some h1
   cases h3
theorem yM:dC X [] (nD X.K E (iU bJ)):=dC.imp Er fun D σ H q=>by
 obtain ⟨H0,Z0,ρ,pd,s,⟨fl,h1,k⟩ | ⟨C,ρ',h1,k⟩⟩:=q
 . cases h1; exact k σ H s
 . cases h1
theorem ir {st:Stmt} {rest:List Stmt} {f g:SX} (h1:PS X st (nD X.K E f)) (h2:dC X rest (nD X.K E g)):dC X (st::rest) (nD X.K E (kj f g)):=dC.imp (Br h1 h2) fun D σ H q=>by
 obtain ⟨H0,Z0,ρ,pd,s,q⟩:=q
 refine ⟨H0,Z0,ρ,pd,s,?_⟩
 unfold kj at q
 cases e:f ρ with
 | none=>rw [e] at q; rcases q with ⟨_,z,_⟩ | ⟨_,_,z,_⟩<;>cases z
 | some x=>
  rw [e,Option.bind_some] at q
  cases x with
  | xc C ρ'=>
   rcases q with ⟨_,z,_⟩ | ⟨_,_,z,k⟩
   . cases z
   . cases z; exact .inr ⟨C,ρ',rfl,k⟩
  | ok fl=>
   refine .inl ⟨fl,rfl,?_⟩
   cases fl with
   | nx ρ'=>exact fun σ' H' s'=>⟨H0,Z0,ρ',pd,s',q⟩
   | rt r ρ'=>rcases q with ⟨_,z,k⟩ | ⟨_,_,z,k⟩<;>cases z; exact k
   | bk ρ'=>rcases q with ⟨_,z,k⟩ | ⟨_,_,z,k⟩<;>cases z; exact k
   | ct ρ'=>rcases q with ⟨_,z,k⟩ | ⟨_,_,z,k⟩<;>cases z; exact k
theorem rY {st:Stmt} {f:SX} (h1:PS X st (nD X.K E f)):dC X [st] (nD X.K E f):=Es h1
theorem HF {c:Expr} {a b:List Stmt} {fc:TF} {f g:SX} {pos:Pos} (hc:PT X c (gC X.K fc)) (ha:dC X a (nD X.K E f)) (hb:dC X b (nD X.K E g)):PS X (.If c a b pos) (nD X.K E (uF fc f g)):=PS.imp (Nk hc ha hb) fun D σ H q=>by
 obtain ⟨H0,Z0,ρ,pd,s,q⟩:=q
 have hx:∃ x,fc ρ=some x:=by
  cases e:fc ρ with
  | some x=>exact ⟨x,rfl⟩
  | none=>unfold uF at q; rw [e] at q; rcases q with ⟨_,z,_⟩ | ⟨_,_,z,_⟩<;>cases z
 obtain ⟨x,h1⟩:=hx
 unfold uF at q
 rw [h1,Option.bind_some] at q
 refine ⟨H0,Z0,ρ,pd,x.1,x.2,s,h1,fun H1 s1=>?_⟩
 dsimp only
 split
 . rename_i c; rw [if_pos c] at q; exact ⟨H0,Z0,x.2,pd,s1,q⟩
 . rename_i c; rw [if_neg c] at q; exact ⟨H0,Z0,x.2,pd,s1,q⟩
theorem xb {f:EX} {k:Lc×Ev->Option Fl} {D:Ends} {H:Hp} {Q:VK} (q:HD K E (xB f k) D σ H) (h:∀ H0 Z0 pd l ρ' fl v H',k (l,ρ')=some fl->rC K H0 Z0 pd D fl->SR K H0 Z0 σ H' ρ' ((v,l)::pd)->Q v H'):Dj K E f σ H Q:=by
 obtain ⟨H0,Z0,ρ,pd,s,q⟩:=q
 refine ⟨H0,Z0,ρ,pd,s,?_⟩
 unfold xB at q
 cases e:f ρ with
 | none=>rw [e] at q; rcases q with ⟨_,z,_⟩ | ⟨_,_,z,_⟩<;>cases z
 | some x=>
  rw [e,Option.bind_some] at q
  cases x with
  | xc C ρ'=>
   rcases q with ⟨_,z,_⟩ | ⟨_,_,z,kk⟩
   . cases z
   . cases z; exact .inr ⟨C,ρ',rfl,kk⟩
  | ok y=>
   rcases q with ⟨fl,z,kk⟩ | ⟨_,_,z,_⟩
   . obtain ⟨fl',z1,z2⟩:=map_some z
     cases z2
     exact .inl ⟨y.1,y.2,rfl,fun v H' s'=>h H0 Z0 pd y.1 y.2 fl v H' z1 kk s'⟩
   . obtain ⟨fl',z1,z2⟩:=map_some z
     cases z2
theorem V9 {H0 H':Hp} {D:Ends} {i:Nat} {l:Lc} {ρ':Ev} {fl:Fl} {v:V} (h:rF i (l,ρ')=some fl) (k:rC K H0 Z0 pd D fl) (s:SR K H0 Z0 σ H' ρ' ((v,l)::pd)):D.nx (σ.set i (some v)) H':=by
 unfold rF at h
 split at h
 . rename_i hl
   cases h
   exact k _ _ (s.store hl)
 . cases h
theorem Qn {e:Expr} {pos:Pos} {f:EX} (he:PE X e (Dj X.K E f)) (hs:swapsWith e none pos.line X.env=pure false:=by rfl):PS X (.Expr e pos) (nD X.K E (xB f Ob)):=PS.imp (yw he hs) fun D σ H q=>xb q.a fun _ _ _ _ _ _ _ _ h k s=>by cases h; exact k _ _ s.pop
structure Dl (K:FG) (mg:Str->Option Value) (C:Str) (c:Addr):Prop where
 cn:CN K C c
 mgC:mg C=some (.ref c)
 ex:W.excIn K c n6 oh=true
noncomputable abbrev JF:=Ev->Option Ev
noncomputable def Dm (K:FG) (f:JF):TJ:=fun σ H Q=>∃ H0 Z0 ρ pd ρ',SR K H0 Z0 σ H ρ pd/\f ρ=some ρ'/\∀ H',SR K H0 Z0 σ H' ρ' pd->Q H'
noncomputable def FN:PV->Bool
 | .str x=>iM x
 | .lst ps=>decide (ps.length<=64)&&(match strsOf ps with | some xs=>xs.all iM | none=>false)
 | .tup ps=>decide (ps.length<=64)&&(match strsOf ps with | some xs=>xs.all iM | none=>false)
 | _=>false
theorem nZ:∀ {ps:List PV} {xs:List Str},strsOf ps=some xs->xs.length=ps.length
 | [],xs,h=>by cases h; rfl
 | .str z::ps,xs,h=>by
  obtain ⟨ys,h3,h4⟩:=map_some h
  subst h4
  rw [List.length_cons,List.length_cons,nZ h3]
theorem J0 {ps:List PV} (h:(decide (ps.length<=64)&&(match strsOf ps with | some xs=>xs.all iM | none=>false))=true):∃ xs,strsOf ps=some xs/\xs.length<=64/\xs.all iM=true:=by
 rw [Bool.and_eq_true,decide_eq_true_eq] at h
 obtain ⟨h1,h2⟩:=h
 split at h2
 . rename_i xs e
   exact ⟨xs,e,by rw [nZ e]; exact h1,h2⟩
 . cases h2
theorem Tj {p:PV} {v:V} (h:FN p=true) (s:SR K H0 Z0 σ H ρ ((v,.sh p)::pd)):Ho K H v:=by
 obtain ⟨g,r⟩:=s.repH
 cases p with
 | str x=>exact .inl ⟨x,cj r,h⟩
 | lst ps=>
  obtain ⟨xs,h1,h2,h3⟩:=J0 h
  unfold Rep at r
  obtain ⟨a,vs,rfl,r1,r2⟩:=r
  rw [tH h1 r2] at r1
  exact .inr ⟨a,xs,rfl,.inl r1,h2,h3⟩
 | tup ps=>
  obtain ⟨xs,h1,h2,h3⟩:=J0 h
  unfold Rep at r
  obtain ⟨a,vs,rfl,r1,r2⟩:=r
  rw [tH h1 r2] at r1
  exact .inr ⟨a,xs,rfl,.inr r1,h2,h3⟩
 | _=>cases h
noncomputable def uG:JF:=fun ρ=>some ρ
noncomputable def jR (f:EF) (g:JF):JF:=fun ρ=>(f ρ).bind fun x=>if FN x.1.pv=true then g x.2 else none
theorem J1:PJ X [] 0 (Dm X.K uG):=fun pins s σ H Q acc I hl q=>by
 obtain ⟨H0,Z0,ρ,pd,ρ',sr,h,k⟩:=q
 cases h
 exact R4 pins s σ H Q acc I hl (k H sr)
theorem Tn {c:Str} {es:List Expr} {j n:Nat} {p:Pos} {f:JF} (hc:c.length<=100) (h:PJ X es n (Dm X.K f)):PJ X (.Constant (.str c) j p::es) (n+100) (Dm X.K f):=VP hc h
theorem Tp {k n:Nat} {e:Expr} {es:List Expr} {p:Pos} {fe:EF} {f:JF} (hr:bR k X.A) (he:PE X e (tP X.K fe)) (h:PJ X es n (Dm X.K f)):PJ X (.FormattedValue e 114 none p::es) (n+700000) (Dm X.K (jR fe f)):=fun pins s σ H Q acc I hl q=>VV hr he h pins s σ H Q acc I hl (by
 obtain ⟨H0,Z0,ρ,pd,ρ',sr,h,k⟩:=q
 obtain ⟨x,h1,h2⟩:=bind_some h
 split at h2
 . rename_i hs
   exact ⟨H0,Z0,ρ,pd,x.1,x.2,sr,h1,fun v H' s'=>⟨Tj hs s'.freeze,H0,Z0,x.2,pd,ρ',s'.pop,h2,k⟩⟩
 . cases h2)
noncomputable def qJ (C:Str) (f:JF):SX:=fun ρ=>(f ρ).map fun ρ'=>.xc C ρ'
theorem Ag {C:Str} {c:Addr} {f:JF} {D:Ends} {H:Hp} (hc:CN K C c) (q:nD K E (qJ C f) D σ H):Dm K f σ H fun H'=>E (.ref c) none H':=by
 obtain ⟨H0,Z0,ρ,pd,s,q⟩:=q
 rcases q with ⟨_,z,_⟩ | ⟨C',ρ',z,k⟩
 . obtain ⟨_,_,z2⟩:=map_some z
   cases z2
 . obtain ⟨ρ1,z1,z2⟩:=map_some z
   cases z2
   exact ⟨H0,Z0,ρ,pd,ρ',s,z1,fun H' s'=>k c σ H' hc s'⟩
theorem Ah {C:Str} {c:Addr} {np cpos pos jp:Pos} {v1 v2:Expr} {es:List Expr} {n k:Nat} {f:JF} (R:Raises X E) (hr:bR k X.A) (hg:Gl X C) (T:Dl X.K X.mg C c) (hj:PJ X (v1::v2::es) n (Dm X.K f)) (hn:n<=sizeLine)
 (hdb:(C==("__debug__" : Str))=false:=by decide) (hst:starEach [Expr.JoinedStr (v1::v2::es) jp] X.env=[(false,eval (Expr.JoinedStr (v1::v2::es) jp) X.env)]:=by rfl) (hpl:(backTo cpos (starEach [Expr.JoinedStr (v1::v2::es) jp] X.env)).any (·.1)=false:=by rfl):
 PS X (.Raise (some (.Call (.Name C np) [.JoinedStr (v1::v2::es) jp] [] cpos)) none pos) (nD X.K E (qJ C f)):=PS.imp (BZ R hr hg T.mgC T.ex (Jz hj hn) hdb hst hpl) fun D σ H q=>by
 obtain ⟨H0,Z0,ρ,pd,ρ',s,h,k⟩:=Ag T.cn q
 exact ⟨H0,Z0,ρ,pd,ρ',s,h,fun H' s' z=>⟨rfl,k H' s'⟩⟩
theorem J2 {C:Str} {c:Addr} {np cpos pos:Pos} {a:Expr} {x:Str} {k:Nat} (R:Raises X E) (hr:bR k X.A) (hg:Gl X C) (T:Dl X.K X.mg C c) (ha:PE X a (tC (.str x)))
 (hdb:(C==("__debug__" : Str))=false:=by decide) (hst:starEach [a] X.env=[(false,eval a X.env)]:=by rfl) (hpl:(backTo cpos (starEach [a] X.env)).any (·.1)=false:=by rfl):
 PS X (.Raise (some (.Call (.Name C np) [a] [] cpos)) none pos) (nD X.K E (qJ C uG)):=PS.imp (BZ R hr hg T.mgC T.ex ha hdb hst hpl) fun D σ H q=>by
 obtain ⟨H0,Z0,ρ,pd,ρ',s,h,k⟩:=Ag T.cn q
 cases h
 exact ⟨rfl,k H s⟩
end
section
variable {P:Program} {w:World} {K:FG} {mg:Str->Option Value} {base:Heap}
theorem nR.okX {x qual:Str} {st:Stmt} {N ps:List Str} {k:Nat} {g:GX} {f:Addr} {fd:FuncData} (F:nR K x qual st f fd) (S:aV N ps (aq st))
 (h:∀ (cdv:Value) (A:Around) (outer:List PySem.Env) (s:Shared) (H:Hp) (E:XK),bR k (A.deeper (envOfC qual (aq st) s.heap.objs.size f cdv))->
   ∃ g':SX,(∀ a mu,g a mu=rE N.length g' a mu)/\(Raises (gH (iK P w) P w K mg base N qual (aq st) f cdv A outer s H E) E->ni (iK P w) (gH (iK P w) P w K mg base N qual (aq st) f cdv A outer s H E) E->dC (gH (iK P w) P w K mg base N qual (aq st) f cdv A outer s H E) (aP st) (nD K E g'))):
 gb P w K mg base (iK P w) (k+1) f fd ps (Dk K ps.length g):=by
 obtain ⟨oc,od,kV,doc,pm,an,cdv,ct,osl,rfl,lk,hcd⟩:=F.ex
 refine Nx lk hcd S (fun vs H Q E q=>?_) fun A outer s H vs Q E hr q=>?_
 . obtain ⟨Z,qs,mu,e,_⟩:=q; exact e
 . obtain ⟨g',eg,b⟩:=h cdv A outer s H E hr
   obtain ⟨Z,qs,mu,e,hg,z,rl,c,kk⟩:=q
   rw [eg] at kk
   refine ⟨_,b (fun pins σ H s h' e C args I hm hE=>Px I hm hE) Pu,ju H (lL Z.g mu),Z,_,[],sV hg z rl c,?_⟩
   have fin:∀ {σ':L2.St} {H':Hp} {ρ':Ev},SR K (ju H (lL Z.g mu)) Z σ' H' ρ' []->Cj K H Z (lL Z.g mu) H' ρ'.mu .non (.sh .non):=fun s'=>by
    obtain ⟨el,Z',hg',z',s''⟩:=s'
    exact ⟨Z',hg',z',(s''.sub (List.sublist_append_left _ _)).consS (rM _)⟩
   unfold rE at kk
   cases q:g' (env0 N.length qs mu) with
   | none=>rw [q] at kk; rcases kk with ⟨_,_,z,_⟩ | ⟨_,_,z,_⟩<;>cases z
   | some x=>
    rw [q,Option.bind_some] at kk
    cases x with
    | xc C ρ'=>
     rcases kk with ⟨_,_,z,_⟩ | ⟨_,_,z,kk⟩
     . cases z
     . cases z
       exact .inr ⟨C,ρ',rfl,fun c' σ' H' hc s'=>kk c' .non H' hc (fin s')⟩
    | ok fl=>
     refine .inl ⟨fl,rfl,?_⟩
     cases fl with
     | rt r' ρ'=>
      rcases kk with ⟨_,_,z,kk⟩ | ⟨_,_,z,_⟩<;>cases z
      intro v σ' H' s'
      obtain ⟨el,Z',hg',z',s''⟩:=s'.top
      refine kk v H' ⟨Z',hg',z',s''.sub ?_⟩
      exact (List.sublist_append_left _ _).cons_cons _
     | nx ρ'=>
      rcases kk with ⟨_,_,z,kk⟩ | ⟨_,_,z,_⟩<;>cases z
      exact fun σ' H' s'=>kk .non H' (fin s')
     | bk ρ'=>rcases kk with ⟨_,_,z,_⟩ | ⟨_,_,z,_⟩<;>cases z
     | ct ρ'=>rcases kk with ⟨_,_,z,_⟩ | ⟨_,_,z,_⟩<;>cases z
noncomputable def DefX (P:Program) (w:World) (K:FG) (mg:Str->Option Value) (base:Heap) (x:Str) (k:Nat) (ps:List Str) (g:GX):Prop:=∃ f fd,gb P w K mg base (iK P w) k f fd ps (Dk K ps.length g)/\mg x=some (.ref f)/\W.keepIn K (.ref f)=true/\Binds K fd ps []
noncomputable def MX (P:Program) (w:World) (K:FG) (mg:Str->Option Value) (base:Heap) (c:Addr) (m:Str) (k:Nat) (ps:List Str) (g:GX):Prop:=∃ f fd,gb P w K mg base (iK P w) k f fd ps (Dk K ps.length g)/\Meth K c m f/\Binds K fd ps []
noncomputable def Tq (P:Program) (w:World) (K:FG) (mg:Str->Option Value) (base:Heap) (c:Addr) (k:Nat) (ps:List Str) (g:GX):Prop:=∃ f fd,gb P w K mg base (iK P w) k f fd ps (Dk K ps.length g)/\Mk K c f/\Binds K fd ps []
end
section
variable {X:Cx} {E:XK}
noncomputable def rX (vs:List (Option Lc)):XR (Lc×Mu)->XR (Lc×Ev)
 | .ok r=>.ok (r.1,⟨vs,r.2⟩)
 | .xc C ρ'=>.xc C ⟨vs,ρ'.mu⟩
noncomputable def lV (g:GX) (a:AF):EX:=fun ρ=>(a ρ).bind fun y=>(g (y.1.map Lc.pv) y.2.mu).map (rX y.2.vs)
theorem J3 {H0 H1:Hp} {y:List Lc×Ev} {vs:List V} {n:Nat} {g:GX} {Q:VK} (hn:y.1.length=n) (e2:vs.length=y.1.length) (s2:SR K H0 Z0 σ H1 y.2 (vs.zip y.1++pd)) {x:XR (Lc×Mu)} (hg:g (y.1.map Lc.pv) y.2.mu=some x)
 (k:match rX y.2.vs x with | .ok r=>∀ v H',SR K H0 Z0 σ H' r.2 ((v,r.1)::pd)->Q v H' | .xc C ρ'=>∀ c H',CN K C c->SR K H0 Z0 σ H' ρ' pd->E (.ref c) none H'):Dk K n g (vs++[]) H1 Q E:=by
 obtain ⟨el,Z,hg',z,rl,sl'⟩:=s2.repl e2
 refine ⟨Z,y.1.map Lc.pv,y.2.mu,by rw [List.append_nil,e2]; exact hn,hg',z.zh,by rw [List.append_nil]; exact rl,sl'.cells hg',?_⟩
 cases x with
 | ok r=>exact .inl ⟨r.1,r.2,hg,fun v H' rr=>k v H' (SR.called el hg' z sl' rr)⟩
 | xc C ρ'=>exact .inr ⟨C,ρ',hg,fun c v H' hc rr=>k c H' hc (SR.called el hg' z sl' rr).pop⟩
theorem J4 {n:Nat} {g:GX} {a:AF} (hn:∀ ρ ls ρ1,a ρ=some (ls,ρ1)->ls.length=n):∀ σ H Q,Dj K E (lV g a) σ H Q->G4 (Dk K n g) [] E (jN K a) σ H Q:=fun σ H Q q=>by
 obtain ⟨H0,Z0,ρ,pd,s,q⟩:=q
 have hx:∃ y x,a ρ=some y/\g (y.1.map Lc.pv) y.2.mu=some x:=by
  have:∃ z,lV g a ρ=some z:=by rcases q with ⟨l,ρ',h,_⟩ | ⟨C,ρ',h,_⟩<;>exact ⟨_,h⟩
  obtain ⟨z,hz⟩:=this
  obtain ⟨y,h1,h2⟩:=bind_some hz
  obtain ⟨x,h3,_⟩:=map_some h2
  exact ⟨y,x,h1,h3⟩
 obtain ⟨y,x,h1,h3⟩:=hx
 have he:lV g a ρ=some (rX y.2.vs x):=by unfold lV; rw [h1,Option.bind_some,h3]; rfl
 rw [he] at q
 refine ⟨H0,Z0,ρ,pd,y.1,y.2,s,h1,fun vs H2 e2 s2=>J3 (hn _ _ _ h1) e2 s2 h3 ?_⟩
 cases x with
 | ok r=>rcases q with ⟨l,ρ',h,k⟩ | ⟨C,ρ',h,k⟩<;>cases h; exact k
 | xc C ρ'=>rcases q with ⟨l,ρ',h,k⟩ | ⟨C,ρ',h,k⟩<;>cases h; exact k
theorem Qo {x:Str} {k:Nat} {ps:List Str} {g:GX} {e:Expr} {es:List Expr} {a:AF} {p pos:Pos} (D:DefX X.prog X.w X.K X.mg X.base x k ps g) (hx:ni (iK X.prog X.w) X E) (hr:bR k X.A) (hg:Gl X x)
 (ha:PA X (e::es) (jN X.K a)) (hn:∀ ρ ls ρ1,a ρ=some (ls,ρ1)->ls.length=ps.length) (hdb:(x==("__debug__" : Str))=false:=by decide) (he:starEach (e::es) X.env=(false,eval e X.env)::starEach es X.env:=by rfl) (hpl:(backTo pos (starEach es X.env)).any (·.1)=false:=by rfl):PE X (.Call (.Name x p) (e::es) [] pos) (Dj X.K E (lV g a)):=by
 obtain ⟨f,fd,F,hm,hk,hb⟩:=D
 exact PE.imp (Et (E:=E) F hr hg hm hk hb .nil hx ha hdb he hpl) (J4 hn)
noncomputable def Vn (n:Nat) (vs:List (Option Lc)):XR (Lc×Mu)->Option (XR (Lc×Ev))
 | .ok (.sh .non,mu')=>some (.ok (.sh (.ptr n),⟨vs,mu'⟩))
 | .xc D ρ'=>some (.xc D ⟨vs,ρ'.mu⟩)
 | _=>none
noncomputable def iV (C:Str) (g:GX) (a:AF):EX:=fun ρ=>(a ρ).bind fun y=>(g (.ptr y.2.mu.length::y.1.map Lc.pv) (y.2.mu++[some (.obj C [] [])])).bind (Vn y.2.mu.length y.2.vs)
theorem J5 {C:Str} {c:Addr} {g:GX} {a:AF} {n':Nat} (T:tL X.K X.mg C c) (hn:∀ ρ ls ρ1,a ρ=some (ls,ρ1)->ls.length+1=n'):∀ σ H Q,Dj X.K E (iV C g a) σ H Q->Nv c (Dk X.K n' g) [] E (jN X.K a) σ H Q:=fun σ H Q q=>by
 obtain ⟨H0,Z0,ρ,pd,s,q⟩:=q
 have:∃ z,iV C g a ρ=some z:=by rcases q with ⟨l,ρ',h,_⟩ | ⟨C,ρ',h,_⟩<;>exact ⟨_,h⟩
 obtain ⟨z,hz⟩:=this
 obtain ⟨y,h1,h2⟩:=bind_some hz
 obtain ⟨r,h3,h4⟩:=bind_some h2
 refine ⟨H0,Z0,ρ,pd,y.1,y.2,s,h1,fun vs H1 e1 s1 x dx hx hdx hne=>?_⟩
 have s2:SR X.K H0 Z0 σ (upd H1 dx (.own x)) y.2 (vs.zip y.1++pd):=s1.ext hdx
 have s3:SR X.K H0 Z0 σ (upd (upd H1 dx (.own x)) x (.ins c dx [])) y.2 ((.ref x,.own (.obj C [] []))::(vs.zip y.1++pd)):=s2.newO (by rw [aY hne.symm]; exact hx) fun Z _ _=>⟨c,dx,[],T.cn,bC,rfl,.nil⟩
 have s4:=s3.toCell
 have s5:SR X.K H0 Z0 σ (upd (upd H1 dx (.own x)) x (.ins c dx [])) ⟨y.2.vs,y.2.mu++[some (.obj C [] [])]⟩ ((.ref x,.sh (.ptr y.2.mu.length))::(.ref x,.sh (.ptr y.2.mu.length))::(vs.zip y.1++pd)):=s4.part fun Z _ r=>r
 have s6:SR X.K H0 Z0 σ (upd (upd H1 dx (.own x)) x (.ins c dx [])) ⟨y.2.vs,y.2.mu++[some (.obj C [] [])]⟩ ((V.ref x::vs).zip (Lc.sh (.ptr y.2.mu.length)::y.1)++(.ref x,.sh (.ptr y.2.mu.length))::pd):=s5.perm (by
  rw [List.zip_cons_cons,List.cons_append]
  exact List.perm_middle.cons _)
 have hq:iV C g a ρ=Vn y.2.mu.length y.2.vs r:=by unfold iV; rw [h1,Option.bind_some,h3,Option.bind_some]
 rw [hq] at q
 refine J3 (n:=n') (E:=E) (vs:=V.ref x::vs) (y:=(Lc.sh (.ptr y.2.mu.length)::y.1,⟨y.2.vs,y.2.mu++[some (PV.obj C [] [])]⟩)) (hn _ _ _ h1) (by rw [List.length_cons,List.length_cons,e1]) s6 (x:=r) (by rw [List.map_cons]; exact h3) ?_
 cases r with
 | xc D ρ'=>
  rcases q with ⟨l,ρ2,h,k⟩ | ⟨C',ρ2,h,k⟩<;>cases h
  exact fun c' H' hc s'=>k c' H' hc s'.pop
 | ok r=>
  obtain ⟨l,mu'⟩:=r
  cases l with
  | own p=>rcases q with ⟨l,ρ2,h,k⟩ | ⟨C',ρ2,h,k⟩<;>cases h
  | sh p=>
   cases p with
   | non=>
    rcases q with ⟨l,ρ2,h,k⟩ | ⟨C',ρ2,h,k⟩<;>cases h
    intro v H' s'
    obtain ⟨_,r0⟩:=s'.repH
    exact ⟨gR r0,k _ _ s'.pop⟩
   | _=>rcases q with ⟨l,ρ2,h,k⟩ | ⟨C',ρ2,h,k⟩<;>cases h
theorem zR.imp {pins:List (Addr×Obj)} {e:Expr} {t t':TE} (h:zR X pins σ e t) (i:∀ H Q,t' σ H Q->t σ H Q):zR X pins σ e t':=fun s H Q I q=>h s H Q I (i H Q q)
theorem zU.imp {pins:List (Addr×Obj)} {b:List Stmt} {t t':TS} (h:zU X pins σ b t) (i:∀ D H,t' D σ H->t D σ H):zU X pins σ b t':=fun s H D I q=>h s H D I (i D H q)
theorem Qp {pins:List (Addr×Obj)} {C:Str} {c:Addr} {k:Nat} {ps:List Str} {g:GX} {e:Expr} {es:List Expr} {a:AF} {p pos:Pos} (T:tL X.K X.mg C c) (M:Tq X.prog X.w X.K X.mg X.base c k ps g) (hx:Be X pins σ E) (hr:bR (k+1) X.A) (hg:Gl X C) (ha:PA X (e::es) (jN X.K a)) (hn:∀ ρ ls ρ1,a ρ=some (ls,ρ1)->ls.length+1=ps.length)
 (hdb:(C==("__debug__" : Str))=false:=by decide) (he:starEach (e::es) X.env=(false,eval e X.env)::starEach es X.env:=by rfl) (hpl:(backTo pos (starEach es X.env)).any (·.1)=false:=by rfl):zR X pins σ (.Call (.Name C p) (e::es) [] pos) (Dj X.K E (iV C g a)):=by
 obtain ⟨f,fd,F,hm,hb⟩:=M
 exact zR.imp (Lq (E:=E) hm F hr hg T.mgC hb hx ha hdb he hpl) fun H Q q=>J5 T hn σ H Q q
theorem Tr {pins:List (Addr×Obj)} {i:Nat} {x:Str} {e:Expr} {pos pos':Pos} {f:EX} (hN:X.N.Nodup) (hi:X.N[i]?=some x) (hx:L2.Loc X.env.scope x) (he:zR X pins σ e (Dj X.K E f)) (hs:swapsWith e (some (.Name x pos')) pos.line X.env=pure false:=by rfl) (hf:X.fn x=true\/X.env.scope.names.lookup x=some .local:=by first | exact .inl rfl | exact .inr rfl | assumption):
 zU X pins σ [.Assign [.Name x pos'] e pos] (HD X.K E (xB f (rF i))):=zU.imp (PB hN hi hx he hs hf) fun D H q=>xb q fun _ _ _ _ _ _ _ _ h k s=>V9 h k s
noncomputable def Oc (X:Cx) (hs:List ExceptHandler) (h:Str->SF):Prop:=∃ th,PH X hs th/\∀ H0 Z0 pd D C c ρ' fl σ H',CN X.K C c->h C ρ'=some fl->SR X.K H0 Z0 σ H' ρ' pd->rC X.K H0 Z0 pd D fl->W.excIn X.K c n6 oh=true/\th c D σ H'
noncomputable def Dn:Str->SF:=fun _ _=>none
noncomputable def tM (L1 L2:List Str) (f:SF) (r:Str->SF):Str->SF:=fun C ρ=>if C∈L1 then f ρ else if C∈L2 then r C ρ else none
theorem Tt {hs:List ExceptHandler}:Oc X hs Dn:=⟨_,R6,fun _ _ _ _ _ _ _ _ _ _ _ z=>by cases z⟩
theorem Qq {x:Str} {d:Addr} {L1 L2:List Str} {b₀:Stmt} {suite:List Stmt} {pos np:Pos} {rest:List ExceptHandler} {f:SF} {r:Str->SF} (hg:Gl X x) (T:Dl X.K X.mg x d) (h1:∀ C∈L1,∃ c,CN X.K C c/\W.excIn X.K c n6 oh=true/\mroIn X.K c d=true) (h2:∀ C∈L2,∃ c,CN X.K C c/\W.excIn X.K c n6 oh=true/\mroIn X.K c d=false)
 (hs:∀ e,dC (X.hand e) (b₀::suite) (eG X.K f)) (hr:Oc X rest r) (hdb:(x==("__debug__" : Str))=false:=by decide):Oc X (.ExceptHandler (some (.Name x np)) none (b₀::suite) pos::rest) (tM L1 L2 f r):=by
 obtain ⟨th,hr1,hr2⟩:=hr
 refine ⟨_,Pz hg T.mgC T.ex hs hr1 hdb,fun H0 Z0 pd D C c ρ' fl σ H' hc h s k=>?_⟩
 unfold tM at h
 unfold Hq
 split at h
 . rename_i hC
   obtain ⟨c',e1,e2,e3⟩:=h1 C hC
   have:=xn hc e1
   subst this
   rw [if_pos e3]
   exact ⟨e2,H0,Z0,ρ',pd,fl,s,h,k⟩
 . split at h
   . rename_i hC
     obtain ⟨c',e1,e2,e3⟩:=h2 C hC
     have:=xn hc e1
     subst this
     rw [if_neg (by rw [e3]; decide)]
     exact hr2 H0 Z0 pd D C c ρ' fl σ H' hc h s k
   . cases h
noncomputable def uH (b:SX) (h:Str->SF):SF:=fun ρ=>(b ρ).bind fun x=>match x with
 | .ok fl=>some fl
 | .xc C ρ'=>h C ρ'
theorem Tu {body:List Stmt} {h₀:ExceptHandler} {hs:List ExceptHandler} {pos:Pos} {b:SX} {h:Str->SF} (hst:X.stack=X.env::X.outer) (hf:X.env.frame=some X.env.locals)
 (hb:∀ pins σ xe E,Be (X.wish xe) pins σ E->zU (X.wish xe) pins σ body (HD X.K E b)) (hh:Oc X (h₀::hs) h):PS X (.Try body (h₀::hs) [] [] pos) (eG X.K (uH b h)):=by
 obtain ⟨th,hh1,hh2⟩:=hh
 refine PS.imp (R7 hst hf hb hh1) fun D σ H q=>?_
 obtain ⟨H0,Z0,ρ,pd,fl,s,e,k⟩:=q
 obtain ⟨x,e1,e2⟩:=bind_some e
 cases x with
 | ok fl'=>
  cases e2
  exact ⟨fun _ _ _=>False,⟨H0,Z0,ρ,pd,s,.inl ⟨fl,e1,k⟩⟩,fun _ _ z=>z.elim⟩
 | xc C ρ'=>
  refine ⟨fun cv _ H'=>∃ c,cv=.ref c/\CN X.K C c/\SR X.K H0 Z0 σ H' ρ' pd,⟨H0,Z0,ρ,pd,s,.inr ⟨C,ρ',e1,fun c H' hc s'=>⟨c,rfl,hc,s'⟩⟩⟩,fun c H' ⟨c',z1,z2,z3⟩=>?_⟩
  cases z1
  exact hh2 H0 Z0 pd D C c ρ' fl σ H' z2 e2 z3 k
end
section
variable {X:Cx}
noncomputable def Od (X:Cx):List V->Hp->VK->Prop:=fun xs H Q=>∃ a ss,xs=[.ref a]/\H a=some (.ext (BX X.prog X.w a ss))/\ss.Nodup/\ss.length<64/\Q (.int ss.length) H
theorem mJ {α:Type} [BEq α] [LawfulBEq α]:∀ {l r:List α},l.Nodup->(∀ x∈l,x∈r)->l.length<=r.length
 | [],_,_,_=>Nat.zero_le _
 | x::l,r,h,s=>by
  have hx:=s x List.mem_cons_self
  have h1:=List.nodup_cons.mp h
  have:=mJ (r:=r.erase x) h1.2 fun y hy=>(List.mem_erase_of_ne (fun e:y=x=>h1.1 (by rw [← e]; exact hy))).mpr (s y (List.mem_cons_of_mem _ hy))
  have e:=List.length_erase_of_mem hx
  have:0<r.length:=List.length_pos_of_mem hx
  rw [List.length_cons]
  omega
theorem J6:m9 X (.builtin "len") (Od X):=by
 intro pins s σ H xs us Q I r h
 obtain ⟨a,ss,rfl,hq,nd,hl,q⟩:=h
 obtain ⟨u,rfl,rx⟩:=vals1 r
 cases rx
 obtain ⟨⟨es,ep,t,S,mem,sz⟩,_⟩:=I.hok a _ hq
 have e1:ss.length<=(dY es).length:=mJ nd fun y hy=>(mem y).mpr hy
 have e2:(dY es).length=es.size:=by unfold dY; rw [List.length_map,Array.length_toList]
 have e3:es.size=ss.length:=by omega
 refine call_len_set (S.at_) ⟨rfl,rfl,rfl⟩ rfl S.fits (by omega) ⟨.int ss.length,H,I.tok _,⟨_,by rw [e3]⟩,q⟩
noncomputable def vp (f:EF):EF:=fun ρ=>(f ρ).bind fun x=>match x.1.pv with
 | .lst ps=>(vg ps).bind fun ss=>if ss.Nodup/\ss.length<64 then some (.sh (.int ss.length),x.2) else none
 | _=>none
theorem Mr {e:Expr} {f:EF} {p p' pos pos':Pos} (h:PE X (.Call (.Name "len" p) [.Call (.Name "set" p') [e] [] pos'] [] pos) (zH (Od X) (wF (zH (RX X) (jN X.K (aj f ao))) Bw))):PE X (.Call (.Name "len" p) [.Call (.Name "set" p') [e] [] pos'] [] pos) (tP X.K (vp f)):=PE.imp h fun σ H Q q=>by
 obtain ⟨H0,Z0,ρ,pd,l,ρ',s,h,k⟩:=q
 obtain ⟨x,h1,h2⟩:=bind_some h
 refine ⟨H0,Z0,ρ,pd,[x.1],x.2,s,?_,fun vs H1 e1 s1=>?_⟩
 . unfold aj ao
   rw [h1]
   rfl
 . obtain ⟨v,rfl⟩:=rN e1
   have s2:SR X.K H0 Z0 σ H1 x.2 ((v,.sh x.1.pv)::pd):=SR.freeze s1
   cases e:x.1.pv with
   | lst ps=>
    rw [e] at h2 s2
    obtain ⟨ss,g1,g2⟩:=bind_some h2
    split at g2
    . rename_i hl
      cases g2
      obtain ⟨el,Z,hg,z,r,so⟩:=s2.sh
      unfold Rep at r
      obtain ⟨a,us,rfl,r1,r2⟩:=r
      have eu:=Ac g1 r2
      subst eu
      refine ⟨a,ss,rfl,b8.same z.zh r1,by omega,fun b hb=>?_⟩
      obtain ⟨z',lz,so'⟩:=so.newF z (a:=b) (o:=.ext (BX X.prog X.w b ss)) hb
      exact ⟨b,ss,rfl,bC,hl.1,hl.2,k _ _ (.mk (Z:=Z.put b (.ext (BX X.prog X.w b ss))) el hg z' (so'.consS (dw _)))⟩
    . cases g2
   | _=>rw [e] at h2; cases h2
end
section
variable {P:Program} {w:World} {K:FG} {mg:Str->Option Value} {base:Heap}
theorem bA.okX {x:Str} {st:Stmt} {N ps:List Str} {k:Nat} {g:GX} (F:bA K mg x st ps) (S:aV N ps (aq st))
 (h:∀ (f:Addr) (cdv:Value) (A:Around) (outer:List PySem.Env) (s:Shared) (H:Hp) (E:XK),bR k (A.deeper (envOfC x (aq st) s.heap.objs.size f cdv))->
   ∃ g':SX,(∀ a mu,g a mu=rE N.length g' a mu)/\(Raises (gH (iK P w) P w K mg base N x (aq st) f cdv A outer s H E) E->ni (iK P w) (gH (iK P w) P w K mg base N x (aq st) f cdv A outer s H E) E->dC (gH (iK P w) P w K mg base N x (aq st) f cdv A outer s H E) (aP st) (nD K E g'))):DefX P w K mg base x (k+1) ps g:=by
 obtain ⟨f,fd,F,hm,hb⟩:=F
 exact ⟨f,fd,nR.okX F S (h f),hm,F.kp,hb⟩
theorem lC.okX {c:Addr} {m qual:Str} {st:Stmt} {N ps:List Str} {k:Nat} {g:GX} (F:lC K c m qual st ps) (S:aV N ps (aq st))
 (h:∀ (f:Addr) (cdv:Value) (A:Around) (outer:List PySem.Env) (s:Shared) (H:Hp) (E:XK),bR k (A.deeper (envOfC qual (aq st) s.heap.objs.size f cdv))->
   ∃ g':SX,(∀ a mu,g a mu=rE N.length g' a mu)/\(Raises (gH (iK P w) P w K mg base N qual (aq st) f cdv A outer s H E) E->ni (iK P w) (gH (iK P w) P w K mg base N qual (aq st) f cdv A outer s H E) E->dC (gH (iK P w) P w K mg base N qual (aq st) f cdv A outer s H E) (aP st) (nD K E g'))):MX P w K mg base c m (k+1) ps g:=by
 obtain ⟨f,fd,F,h1,h2,hb⟩:=F
 exact ⟨f,fd,nR.okX F S (h f),⟨h1,h2,F.kp⟩,hb⟩
theorem Tv {c:Addr} {k:Nat} {ps:List Str} {g:GX} (h:MX P w K mg base c "__init__" k ps g) (mk:W.makesIn K c=true) (kc:W.keepIn K (.ref c)=true):Tq P w K mg base c k ps g:=by
 obtain ⟨f,fd,F,hm,hb⟩:=h
 exact ⟨f,fd,F,⟨mk,hm.at_,hm.fn,kc⟩,hb⟩
end
end PL
namespace Law
open PySem PySem.Spec PyProof.Rows L2 PL
local macro_rules | `(tactic| walk_at "sc")=>`(tactic| exact ⟨rfl,rfl,rfl,by decide +kernel,rfl,by decide +kernel,by decide +kernel⟩)
noncomputable def top (i:Nat):Stmt:=PySem.Challenge.pw_hushwise_k09_whole_orders.main.body.getD i (.Pass ⟨0,0,0,0⟩)
noncomputable abbrev km:Stmt:=top 6
noncomputable abbrev eE:Stmt:=top 7
noncomputable abbrev jA:Stmt:=top 8
noncomputable abbrev iG:Stmt:=top 9
noncomputable abbrev mU:Stmt:=top 10
noncomputable abbrev jU:Stmt:=top 11
noncomputable abbrev gw:Stmt:=top 12
noncomputable abbrev mV:Stmt:=top 13
noncomputable abbrev oO:Stmt:=top 14
noncomputable abbrev mW:Stmt:=top 15
noncomputable abbrev mX:Stmt:=top 16
noncomputable abbrev gU:Stmt:=top 17
noncomputable abbrev gW:Stmt:=top 18
noncomputable abbrev gY:Stmt:=top 21
noncomputable abbrev gh:Stmt:=top 22
noncomputable abbrev gj:Stmt:=top 23
noncomputable abbrev gk:Stmt:=top 24
noncomputable abbrev gZ:Stmt:=top 25
noncomputable abbrev cR:Stmt:=top 26
noncomputable abbrev iH:Stmt:=top 27
noncomputable abbrev jV:Stmt:=top 28
noncomputable abbrev nF:Stmt:=top 29
noncomputable abbrev cu:Stmt:=inClass (top 19) 0
noncomputable abbrev bL:Stmt:=inClass (top 19) 1
noncomputable abbrev eN:Stmt:=inClass (top 19) 2
noncomputable abbrev eO:Stmt:=inClass (top 19) 3
noncomputable abbrev fK:Stmt:=inClass (top 19) 4
noncomputable abbrev fL:Stmt:=inClass (top 19) 5
noncomputable abbrev dI:Stmt:=inClass (top 19) 6
noncomputable abbrev eQ:Stmt:=inClass (top 19) 7
noncomputable abbrev cT:Stmt:=inClass (top 19) 8
theorem HH:aV ["text"] ["text"] (aq km):=by walk_at "sc"
theorem vB:aV ["some", "pairs", "name"] ["some", "pairs", "name"] (aq eE):=by walk_at "sc"
theorem nG:aV ["names", "pairs", "rest", "climbing"] ["names", "pairs"] (aq jA):=by walk_at "sc"
theorem lw:aV ["some", "pairs", "walk", "above"] ["some", "pairs"] (aq iG):=by walk_at "sc"
theorem jK:aV ["name", "pairs", "met", "grown", "low", "high"] ["name", "pairs"] (aq mU):=by walk_at "sc"
theorem qK:aV ["names", "pairs", "above", "name"] ["names", "pairs"] (aq jU):=by walk_at "sc"
theorem yN:aV ["names", "pairs"] ["names", "pairs"] (aq gw):=by walk_at "sc"
theorem wj:aV ["reach", "one", "other", "shared", "rank"] ["reach", "one", "other"] (aq mV):=by walk_at "sc"
theorem qW:aV ["reach", "told", "one", "other"] ["reach"] (aq oO):=by walk_at "sc"
theorem tO:aV ["reach", "both", "rank"] ["reach"] (aq mW):=by walk_at "sc"
theorem tQ:aV ["names", "pairs", "apart"] ["names", "pairs"] (aq mX):=by walk_at "sc"
theorem jZ:aV ["names", "pairs", "name", "low", "high"] ["names", "pairs"] (aq gU):=by walk_at "sc"
theorem nH:aV ["names", "pairs", "ring", "lack"] ["names", "pairs"] (aq gW):=by walk_at "sc"
theorem xx:aV ["_law_script", "_law_k"] ["_law_script", "_law_k"] (aq gY):=by walk_at "sc"
theorem dZ:aV ["_law_cell", "_law_count", "_law_letters", "_law_names_here", "_law_text", "_law_k", "_law_size", "_law_at", "_law_signs"] ["_law_cell", "_law_count"] (aq gh):=by walk_at "sc"
theorem dm:aV ["_law_script", "_law_count", "_law_mode", "_law_pairs_here", "_law_number", "_law_cell", "_law_one", "_law_other"] ["_law_script", "_law_count"] (aq gj):=by walk_at "sc"
theorem iI:aV ["_law_pairs_here", "_law_count", "_law_reach_here", "_law_one", "_law_other", "_law_amid"] ["_law_pairs_here", "_law_count"] (aq gk):=by walk_at "sc"
theorem nJ:aV ["_law_ring", "_law_names_here", "_law_pairs_here", "_law_k", "_law_one"] ["_law_ring", "_law_names_here", "_law_pairs_here"] (aq gZ):=by walk_at "sc"
theorem fG:aV ["_law_lack", "_law_names_here", "_law_reach_here", "_law_one", "_law_other", "_law_both", "_law_best"] ["_law_lack", "_law_names_here", "_law_reach_here"] (aq cR):=by walk_at "sc"
theorem lA:aV ["_law_order", "_law_names_here", "_law_reach_here", "_law_one", "_law_other", "_law_join", "_law_meet", "_law_k"] ["_law_order", "_law_names_here", "_law_reach_here", "_law_one", "_law_other"] (aq iH):=by walk_at "sc"
theorem nM:aV ["_law_order", "_law_names_here", "_law_reach_here", "_law_last", "_law_one", "_law_other"] ["_law_order", "_law_names_here", "_law_reach_here"] (aq jV):=by walk_at "sc"
theorem iW:aV ["_law_script", "_law_count", "_law_names_here", "_law_places", "_law_pairs_here", "_law_reach_here", "_law_turn", "_law_told", "_law_order", "_law_ring", "_law_lack"] ["_law_script"] (aq nF):=by walk_at "sc"
theorem uI:aV ["self", "names", "pairs"] ["self", "names", "pairs"] (aq cu):=by walk_at "sc"
theorem pP:aV ["self", "rank"] ["self", "rank"] (aq bL):=by walk_at "sc"
theorem xG:aV ["self"] ["self"] (aq eN):=by walk_at "sc"
theorem xH:aV ["self", "one", "other"] ["self", "one", "other"] (aq eO):=by walk_at "sc"
theorem yP:aV ["self", "one", "other"] ["self", "one", "other"] (aq fK):=by walk_at "sc"
theorem yQ:aV ["self", "one", "other"] ["self", "one", "other"] (aq fL):=by walk_at "sc"
theorem jL:aV ["self", "some", "rank", "one"] ["self", "some"] (aq dI):=by walk_at "sc"
theorem xJ:aV ["self"] ["self"] (aq eQ):=by walk_at "sc"
theorem uJ:aV ["self"] ["self"] (aq cT):=by walk_at "sc"
noncomputable def jB:PV:=(.str "abcdefghijklmnopqrstuvwxyz")
noncomputable def mY:GF:=cW 1 (bK (jD (rR zX zX (eC (.int 1)) (eB dh (aj (aa 0) ao)) (eC (.int 8))) (eB all1 (aj (bh (dG (aa 0) bO) 1 [] (au 0) bw (aC jk (aa 0) (eC jB))) ao))))
noncomputable def bI:GF:=cW 3 (bK (bh (dG (aa 1) bO) 2 [2,0] (gM 2 (bD (au 0) (bD (au 1) gK))) (cQ (tT (aC eqP (aa 0) (aa 2)) aZ) (cQ (tT (aC uA (aa 1) (aa 2)) aZ) (tT (aC jk (aa 1) (aa 3)) aZ))) (aa 1)))
noncomputable def my:GF:=cW 4 (aK (aL 2 (ou (aj (aF (aa 0) (eC (.int 0))) ao)))
 (aK (aL 3 (aF (aM bI (aj (aa 0) (aj (aa 1) (aj (aF (aa 0) (eC (.int 0))) ao)))) (eC (.int 0))))
 (aK (wQ 20 (pN (tT (aC dN (aa 3) (aa 2)) aZ))
 (aK (lH 2 (aa 3))
 (aL 3 (aF (aM bI (aj (aa 0) (aj (aa 1) (aj (aa 3) ao)))) (eC (.int 0))))))
 (bK (u9 (oN (aa 2) (fC (dW (aa 2) (aa 3))) mj))))))
noncomputable def cU:GF:=cW 4 (aK (aL 2 (eB list1 (aj (aa 0) ao)))
 (aK (aL 3 (bh (dG (aa 2) bO) 1 [2,1] (au 0) (tT (aM bI (aj (aa 1) (aj (aa 2) (aj (aa 0) ao)))) aN) (aa 0)))
 (aK (wQ 20 (tT (aC Cw (eB dh (aj (aa 3) ao)) (eB dh (aj (aa 2) ao))) aZ)
 (aK (aL 2 (aa 3))
 (aL 3 (bh (dG (aa 2) bO) 1 [2,1] (au 0) (tT (aM bI (aj (aa 1) (aj (aa 2) (aj (aa 0) ao)))) aN) (aa 0)))))
 (aK (cG (bN (tT (aa 2) aN))
 (bK (eC .non))
 bJ)
 (bK (aM my (aj (aa 2) (aj (aa 1) ao))))))))
noncomputable def pq:GF:=cW 6 (aK (aL 2 (ou (aj (aa 0) ao)))
 (aK (aL 3 (eC (.bl true)))
 (aK (wQ 70 (tT (aa 3) aN)
 (aK (aL 3 (eC (.bl false)))
 (d9 (dG (aa 1) bO) (gM 2 (bD (au 4) (bD (au 5) gK)))
 (cG (pN (cQ (tT (aC jk (aa 4) (aa 2)) aZ) (tT (aC dN (aa 5) (aa 2)) aZ)))
 (aK (lH 2 (aa 5))
 (aL 3 (eC (.bl true))))
 bJ))))
 (jE 2))))
noncomputable def dq:GF:=cW 4 (aK (aL 2 JT)
 (aK (d9 (dG (aa 0) bO) (au 3)
 (xf 2 (aa 3) (aM pq (aj (aa 3) (aj (aa 1) ao)))))
 (jE 2)))
noncomputable def cN:GF:=cW 2 (bK (aM dq (aj (aa 0) (aj (bh (dG (aa 1) bO) 2 [] (gM 2 (bD (au 0) (bD (au 1) gK))) bw (fO (aj (aa 1) (aj (aa 0) ao)))) ao))))
noncomputable def pW:GF:=cW 5 (aK (aL 3 (bh (dG (jz (aa 0) (aa 1)) bO) 1 [0,2] (au 0) (tT (aC jk (aa 0) (jz (aa 1) (aa 2))) aZ) (aa 0)))
 (aK (d9 (dG (aa 3) bO) (au 4)
 (cG (tT (eB all1 (aj (bh (dG (aa 3) bO) 1 [0,4] (au 0) bw (aC jk (aa 0) (jz (aa 1) (aa 2)))) ao)) aN)
 (jE 4)
 bJ))
 (bK (eC .non))))
noncomputable def jh:GF:=cW 4 (aK (aL 1 JX)
 (aK (d9 (JV (aa 0)) (au 2)
 (d9 (JV (aa 0)) (au 3)
 (xm 1 (aj (aa 2) (aj (aa 3) ao)) (aM pW (aj (aa 0) (aj (aa 2) (aj (aa 3) ao)))))))
 (jE 1)))
noncomputable def gm:GF:=cW 3 (aK (d9 (HB (Hx (aM jh (aj (aa 0) ao)))) (gM 2 (bD (au 1) (bD (au 2) gK)))
 (cG (tT (aC tD (aa 2) (eC .non)) aZ)
 (jE 1)
 bJ))
 (bK (eC .non)))
noncomputable def fM:GF:=cW 3 (aK (aL 2 (aM gm (aj (o9 (aM dq (aj (aa 0) (aj (aa 1) ao)))) ao)))
 (aK (cG (tT (aC jX (aa 2) (eC .non)) aZ)
 (bK (fO (aj (eC (.str "join")) (aj (aF (aa 2) (eC (.int 0))) (aj (aF (aa 2) (eC (.int 1))) ao)))))
 bJ)
 (aK (aL 2 (aM gm (aj (o9 (aM cN (aj (aa 0) (aj (aa 1) ao)))) ao)))
 (aK (cG (tT (aC jX (aa 2) (eC .non)) aZ)
 (bK (fO (aj (eC (.str "meet")) (aj (aF (aa 2) (eC (.int 0))) (aj (aF (aa 2) (eC (.int 1))) ao)))))
 bJ)
 (bK (eC .non))))))
noncomputable def lB:GF:=cW 5 (aK (d9 (dG (aa 0) bO) (au 2)
 (aK (cG (bN (tT (aM mY (aj (aa 2) ao)) aN))
 qT
 bJ)
 (cG (tT (aC wY (xq (aa 0) (aa 2)) (eC (.int 1))) aZ)
 qT
 bJ)))
 (d9 (dG (aa 1) bO) (gM 2 (bD (au 3) (bD (au 4) gK)))
 (cG (gf (tT (aC dN (aa 3) (aa 0)) aZ) (tT (aC dN (aa 4) (aa 0)) aZ))
 qT
 bJ)))
noncomputable def eU:GX:=rE 4 (kj (uF (bN (tT (aa 0) aN))
 (qJ "NoOrder" uG)
 (iU bJ))
 (kj (iU (aL 2 (aM cU (aj (aa 0) (aj (aa 1) ao)))))
 (kj (uF (tT (aC jX (aa 2) (eC .non)) aZ)
 (qJ "NoOrder" (jR (aa 2) uG))
 (iU bJ))
 (kj (iU (aL 3 (aM fM (aj (aa 0) (aj (aa 1) ao)))))
 (uF (tT (aC jX (aa 3) (eC .non)) aZ)
 (qJ "NoOrder" (jR (aa 3) uG))
 (iU bJ))))))
noncomputable def bQ:GF:=cW 2 (aK (cG (tT (aC Cw (aa 1) (eB dh (aj (aa 0) ao))) aZ)
 (bK (aC cB (aF (aa 0) (aa 1)) (eC (.int 1000000007))))
 bJ)
 (bK (eC (.int 0))))
noncomputable def kE:GF:=cW 9 (aK (aL 2 (eC (.str "abcdefghijklmnopqrstuvwxyz")))
 (aK (aL 3 (ou ao))
 (aK (cG (tT (aC eqP (aC cB (aa 0) (eC (.int 2))) (eC (.int 1))) aZ)
 (aK (aL 4 (oV (eC (.str "")) (aj (bh (aU (aj (eC (.int 10)) ao)) 1 [2,0] (au 0) bw (aF (aa 1) (aC cB (aC dO (aC dz (aa 2) (eC (.int 2))) (aC tE (eC (.int 3)) (aa 0))) (eC (.int 26))))) ao)))
 (aK (d9 (aU (aj (aa 1) ao)) (au 5)
 (lH 3 (oN (aa 4) (fC (aC cB (aa 5) (eC (.int 5)))) (fC (aC dO (aC dO (aC cB (aa 5) (eC (.int 5))) (eC (.int 1))) (aC dz (aa 5) (eC (.int 5))))))))
 (jE 3)))
 bJ)
 (aK (aL 6 (aF (ou (aj (eC (.int 1)) (aj (eC (.int 2)) (aj (eC (.int 3)) (aj (eC (.int 5)) (aj (eC (.int 6)) (aj (eC (.int 7)) (aj (eC (.int 8)) ao)))))))) (aC cB (aC dz (aa 0) (eC (.int 2))) (eC (.int 7)))))
 (aK (aL 7 (aC cB (aC dz (aa 0) (eC (.int 14))) (aa 6)))
 (aK (d9 (aU (aj (aa 1) ao)) (au 5)
 (aK (aL 8 (bh (aU (aj (aa 6) ao)) 1 [2,0] (au 0) bw (aF (aa 1) (aC cB (aC dO (aC dz (aa 2) (aC dO (aa 0) (eC (.int 1)))) (aC tE (aa 0) (aa 0))) (eC (.int 26))))))
 (aK (u6 8 (aa 7) (aF (aa 2) (aC cB (aC dO (aC dz (aa 0) (eC (.int 112))) (aa 5)) (eC (.int 26)))))
 (lH 3 (oV (eC (.str "")) (aj (aa 8) ao))))))
 (jE 3)))))))
noncomputable def kI:GF:=cW 8 (aK (aL 2 (aC cB (aM bQ (aj (aa 0) (aj (eC (.int 1)) ao))) (eC (.int 4))))
 (aK (aL 3 (ou ao))
 (aK (d9 (dG (oN (aa 0) (fC (eC (.int 3))) (fC (eC (.int 47)))) bO) (au 4)
 (aK (aL 5 (aC cB (aa 4) (eC (.int 1000000007))))
 (aK (aL 6 (aC cB (aa 5) (aa 1)))
 (aK (aL 7 (aC cB (aC dz (aa 5) (aa 1)) (aa 1)))
 (aK (cG (tT (aC wY (aa 2) (eC (.int 0))) aZ)
 (Hs 6 7 (aj (eB min2 (aj (aa 6) (aj (aa 7) ao))) (aj (eB max2 (aj (aa 6) (aj (aa 7) ao))) ao)))
 bJ)
 (lH 3 (fO (aj (aa 6) (aj (aa 7) ao)))))))))
 (aK (cG (tT (aC wY (aa 2) (eC (.int 1))) aZ)
 (aL 3 (aC dO (aC dO (bh (aU (aj (aa 1) ao)) 1 [] (au 0) bw (fO (aj (eC (.int 0)) (aj (aa 0) ao)))) (aa 3)) (bh (aU (aj (aa 1) ao)) 1 [1] (au 0) bw (fO (aj (aa 0) (aj (aC v5 (aa 1) (eC (.int 1))) ao))))))
 bJ)
 (jE 3)))))
noncomputable def kJ:GF:=cW 6 (aK (aL 2 (oW (bh (aU (aj (aa 1) ao)) 1 [1] (au 0) bw (oW (bh (aU (aj (aa 1) ao)) 1 [0] (au 0) bw (aC eqP (aa 1) (aa 0)))))))
 (aK (d9 (dG (aa 0) bO) (gM 2 (bD (au 3) (bD (au 4) gK)))
 (pM (aF (aa 2) (aa 3)) (aa 4) (eC (.bl true))))
 (aK (d9 (aU (aj (aa 1) ao)) (au 5)
 (d9 (aU (aj (aa 1) ao)) (au 3)
 (cG (tT (aF (aF (aa 2) (aa 3)) (aa 5)) aN)
 (pM (aa 2) (aa 3) (oW (bh (aU (aj (aa 1) ao)) 1 [2,3,5] (au 0) bw (zV (aF (aF (aa 1) (aa 2)) (aa 0)) (aF (aF (aa 1) (aa 3)) (aa 0))))))
 bJ)))
 (bK (xr (aa 2))))))
noncomputable def g8:GF:=cW 5 (aK (cG (gf (bN (tT (N6 "list" (aa 0)) aN)) (gf (tT (aC Cw (eB dh (aj (aa 0) ao)) (eC (.int 2))) aZ) (tT (aC uA (vp (aa 0)) (eB dh (aj (aa 0) ao))) aZ)))
 (bK (eC (.bl false)))
 bJ)
 (aK (d9 (aU (aj (eB dh (aj (aa 0) ao)) ao)) (au 3)
 (aK (aL 4 (aF (aa 0) (aC v5 (aa 3) (eC (.int 1)))))
 (cG (gf (tT (aC dN (aa 4) (aa 1)) aZ) (gf (tT (aC dN (aF (aa 0) (aa 3)) (aa 1)) aZ) (tT (aC dN (fO (aj (dW (aa 1) (aa 4)) (aj (dW (aa 1) (aF (aa 0) (aa 3))) ao))) (aa 2)) aZ)))
 (bK (eC (.bl false)))
 bJ)))
 (bK (eC (.bl true)))))
noncomputable def jx:GF:=cW 7 (aK (cG (gf (bN (tT (N6 "tuple" (aa 0)) aN)) (gf (tT (aC uA (eB dh (aj (aa 0) ao)) (eC (.int 3))) aZ) (gf (tT (aC dN (aF (aa 0) (eC (.int 1))) (aa 1)) aZ) (tT (aC dN (aF (aa 0) (eC (.int 2))) (aa 1)) aZ))))
 (bK (eC (.bl false)))
 bJ)
 (aK (aL 3 (dW (aa 1) (aF (aa 0) (eC (.int 1)))))
 (aK (aL 4 (dW (aa 1) (aF (aa 0) (eC (.int 2)))))
 (aK (cG (tT (aC eqP (aF (aa 0) (eC (.int 0))) (eC (.str "join"))) aZ)
 (aK (aL 5 (bh (aU (aj (eB dh (aj (aa 1) ao)) ao)) 1 [2,3,4] (au 0) (cQ (tT (aF (aF (aa 1) (aa 2)) (aa 0)) aN) (tT (aF (aF (aa 1) (aa 3)) (aa 0)) aN)) (aa 0)))
 (aL 6 (bh (dG (aa 5) bO) 1 [5,2] (au 0) (tT (eB all1 (aj (bh (dG (aa 1) bO) 1 [2,0] (au 0) bw (aF (aF (aa 1) (aa 2)) (aa 0))) ao)) aN) (aa 0))))
 (aK (aL 5 (bh (aU (aj (eB dh (aj (aa 1) ao)) ao)) 1 [2,3,4] (au 0) (cQ (tT (aF (aF (aa 1) (aa 0)) (aa 2)) aN) (tT (aF (aF (aa 1) (aa 0)) (aa 3)) aN)) (aa 0)))
 (aL 6 (bh (dG (aa 5) bO) 1 [5,2] (au 0) (tT (eB all1 (aj (bh (dG (aa 1) bO) 1 [2,0] (au 0) bw (aF (aF (aa 1) (aa 0)) (aa 2))) ao)) aN) (aa 0)))))
 (bK (jD (aC jk (aF (aa 0) (eC (.int 0))) (fO (aj (eC (.str "join")) (aj (eC (.str "meet")) ao)))) (aC eqP (eB dh (aj (aa 6) ao)) (eC (.int 0)))))))))
noncomputable def aW:GF:=cW 2 (cG (tT (aC dN (aa 1) (jH "Order" "names" (aa 0))) aZ)
 qT
 bJ)
noncomputable def cP:GF:=cW 3 (aK (lZ (bG "Order" "refuse_stranger" aW (aa 0) (aj (aa 1) ao)))
 (aK (lZ (bG "Order" "refuse_stranger" aW (aa 0) (aj (aa 2) ao)))
 (bK (Df (jH "Order" "joins" (aa 0)) (aj (aa 1) (aj (aa 2) ao))))))
noncomputable def d7:GF:=cW 3 (aK (lZ (bG "Order" "refuse_stranger" aW (aa 0) (aj (aa 1) ao)))
 (aK (lZ (bG "Order" "refuse_stranger" aW (aa 0) (aj (aa 2) ao)))
 (bK (Df (jH "Order" "meets" (aa 0)) (aj (aa 1) (aj (aa 2) ao))))))
noncomputable def cF:GF:=cW 3 (aK (lZ (bG "Order" "refuse_stranger" aW (aa 0) (aj (aa 1) ao)))
 (aK (lZ (bG "Order" "refuse_stranger" aW (aa 0) (aj (aa 2) ao)))
 (bK (aC jk (aa 2) (jz (jH "Order" "above" (aa 0)) (aa 1))))))
noncomputable def iJ:GF:=cW 8 (aK (aL 5 (dW (aa 1) (bG "Order" "join" cP (aa 0) (aj (aF (aa 1) (aa 3)) (aj (aF (aa 1) (aa 4)) ao)))))
 (aK (aL 6 (dW (aa 1) (bG "Order" "meet" d7 (aa 0) (aj (aF (aa 1) (aa 3)) (aj (aF (aa 1) (aa 4)) ao)))))
 (aK (cG (gf (bN (tT (aF (aF (aa 2) (aa 3)) (aa 5)) aN)) (gf (bN (tT (aF (aF (aa 2) (aa 4)) (aa 5)) aN)) (gf (bN (tT (aF (aF (aa 2) (aa 6)) (aa 3)) aN)) (bN (tT (aF (aF (aa 2) (aa 6)) (aa 4)) aN)))))
 (bK (eC (.bl false)))
 bJ)
 (aK (d9 (aU (aj (eB dh (aj (aa 1) ao)) ao)) (au 7)
 (aK (cG (cQ (tT (aF (aF (aa 2) (aa 3)) (aa 7)) aN) (cQ (tT (aF (aF (aa 2) (aa 4)) (aa 7)) aN) (bN (tT (aF (aF (aa 2) (aa 5)) (aa 7)) aN))))
 (bK (eC (.bl false)))
 bJ)
 (cG (cQ (tT (aF (aF (aa 2) (aa 7)) (aa 3)) aN) (cQ (tT (aF (aF (aa 2) (aa 7)) (aa 4)) aN) (bN (tT (aF (aF (aa 2) (aa 7)) (aa 6)) aN))))
 (bK (eC (.bl false)))
 bJ)))
 (bK (aC eqP (bG "Order" "under" cF (aa 0) (aj (aF (aa 1) (aa 3)) (aj (aF (aa 1) (aa 4)) ao))) (aF (aF (aa 2) (aa 3)) (aa 4))))))))
noncomputable def jr:GF:=cW 1 (bK (jH "Order" "highest" (aa 0)))
noncomputable def iY:GF:=cW 4 (aK (aL 2 (jH "Order" "lowest" (aa 0)))
 (aK (d9 (dG (aa 1) bO) (au 3)
 (aL 2 (bG "Order" "join" cP (aa 0) (aj (aa 2) (aj (aa 3) ao)))))
 (jE 2)))
noncomputable def ie:GF:=cW 1 (bK (jH "Order" "lowest" (aa 0)))
noncomputable def lW:GF:=cW 6 (aK (aL 3 (bG "Order" "joined" iY (aa 0) (aj (aa 1) ao)))
 (aK (d9 (aU (aj (eB dh (aj (aa 1) ao)) ao)) (au 4)
 (aK (d9 (aU (aj (eB dh (aj (aa 1) ao)) ao)) (au 5)
 (aK (cG (gf (tT (aC dN (bG "Order" "join" cP (aa 0) (aj (aF (aa 1) (aa 4)) (aj (aF (aa 1) (aa 5)) ao))) (aa 1)) aZ) (tT (aC dN (bG "Order" "meet" d7 (aa 0) (aj (aF (aa 1) (aa 4)) (aj (aF (aa 1) (aa 5)) ao))) (aa 1)) aZ))
 (bK (eC (.bl false)))
 bJ)
 (aK (cG (cQ (tT (aC uA (aa 4) (aa 5)) aZ) (cQ (tT (aF (aF (aa 2) (aa 4)) (aa 5)) aN) (tT (aF (aF (aa 2) (aa 5)) (aa 4)) aN)))
 (bK (eC (.bl false)))
 bJ)
 (cG (bN (tT (aM iJ (aj (aa 0) (aj (aa 1) (aj (aa 2) (aj (aa 4) (aj (aa 5) ao)))))) aN))
 (bK (eC (.bl false)))
 bJ))))
 (cG (gf (bN (tT (bG "Order" "under" cF (aa 0) (aj (aF (aa 1) (aa 4)) (aj (aa 3) ao))) aN)) (bN (tT (bG "Order" "under" cF (aa 0) (aj (bG "Order" "least" ie (aa 0) ao) (aj (aF (aa 1) (aa 4)) ao))) aN)))
 (bK (eC (.bl false)))
 bJ)))
 (bK (aC eqP (aa 3) (bG "Order" "greatest" jr (aa 0) ao)))))
noncomputable def cV:GX:=rE 3 (kj (iU (lZ (aM lB (aj (aa 1) (aj (aa 2) ao)))))
 (kj (xB (lV eU (aj (aa 1) (aj (aa 2) ao))) Ob)
 (kj (iU (jq "Order" "names" (aa 0) (eB list1 (aj (aa 1) ao))))
 (kj (iU (jq "Order" "above" (aa 0) (o9 (aM dq (aj (aa 1) (aj (aa 2) ao))))))
 (kj (iU (jq "Order" "joins" (aa 0) (aM jh (aj (jH "Order" "above" (aa 0)) ao))))
 (kj (iU (jq "Order" "meets" (aa 0) (aM jh (aj (o9 (aM cN (aj (aa 1) (aj (aa 2) ao)))) ao))))
 (kj (iU (jq "Order" "lowest" (aa 0) (jz (bh (dG (aa 1) bO) 1 [0,1] (au 0) (tT (aC Dc (rD (jz (jH "Order" "above" (aa 1)) (aa 0))) (rD (aa 2))) aZ) (aa 0)) (eC (.int 0)))))
 (iU (jq "Order" "highest" (aa 0) (jz (bh (dG (aa 1) bO) 1 [0] (au 0) (tT (aC Dc (rD (jz (jH "Order" "above" (aa 1)) (aa 0))) (eC (.int 1))) aZ) (aa 0)) (eC (.int 0))))))))))))
noncomputable def jy:GF:=cW 1 (bK (eB list1 (aj (jH "Order" "names" (aa 0)) ao)))
noncomputable def HJ:GF:=cW 11 (aK (aL 1 (aC dO (eC (.int 1)) (aC cB (aM bQ (aj (aa 0) (aj (eC (.int 0)) ao))) (eC (.int 8)))))
 (aK (aL 2 (aM kE (aj (aC dz (aM bQ (aj (aa 0) (aj (eC (.int 0)) ao))) (eC (.int 8))) (aj (aa 1) ao))))
 (aK (aL 3 (aM kI (aj (aa 0) (aj (aa 1) ao))))
 (aK (aL 4 (bh (dG (aa 3) bO) 2 [2] (gM 2 (bD (au 0) (bD (au 1) gK))) bw (fO (aj (aF (aa 2) (aa 0)) (aj (aF (aa 2) (aa 1)) ao)))))
 (aK (aL 5 (aM kJ (aj (aa 3) (aj (aa 1) ao))))
 (aK (aL 6 (aC cB (aM bQ (aj (aa 0) (aj (eC (.int 2)) ao))) (aa 1)))
 (aK (aL 7 (aC dO (oN (aa 2) (fC (aa 6)) mj) (oN (aa 2) mj (fC (aa 6)))))
 (aK (cG (tT (aC eqP (aC cB (aC dz (aM bQ (aj (aa 0) (aj (eC (.int 2)) ao))) (eC (.int 8))) (eC (.int 2))) (eC (.int 1))) aZ)
 (aL 4 (Mm (aa 4) mj mj (fC (LR (eC (.int 1))))))
 bJ)
 (aK (aL 8 (eC .non))
 (aK (uH (xB (iV "Order" cV (aj (eB list1 (aj (aa 7) ao)) (aj (eB list1 (aj (aa 4) ao)) ao))) (rF 8)) (tM ["NoOrder"] [] (aL 8 (eC .non)) Dn))
 (aK (aL 9 (aM cU (aj (eB list1 (aj (aa 7) ao)) (aj (eB list1 (aj (aa 4) ao)) ao))))
 (aK (cG (tT (aC jX (aa 9) (eC .non)) aZ)
 (bK (jD (aC tD (aa 8) (eC .non)) (aM g8 (aj (aa 9) (aj (aa 2) (aj (aa 3) ao))))))
 bJ)
 (aK (aL 10 (aM fM (aj (eB list1 (aj (aa 7) ao)) (aj (eB list1 (aj (aa 4) ao)) ao))))
 (aK (cG (tT (aC jX (aa 10) (eC .non)) aZ)
 (bK (jD (aC tD (aa 8) (eC .non)) (aM jx (aj (aa 10) (aj (aa 2) (aj (aa 5) ao))))))
 bJ)
 (bK (jD (aC jX (aa 8) (eC .non)) (jD (aC eqP (bG "Order" "ranks" jy (aa 8) ao) (aa 7)) (aM lW (aj (aa 8) (aj (aa 2) (aj (aa 5) ao)))))))))))))))))))))
section
variable {P:Program} {w:World} {K:FG} {mg:Str->Option Value} {base:Heap}
theorem J7 {X:Cx} {pos:Pos} (h:∃ t,X.mg "LETTERS" = some (.str "abcdefghijklmnopqrstuvwxyz" t)) (hg:Gl X "LETTERS"):PE X (.Name "LETTERS" pos) (tP X.K (eC jB)):=by
 obtain ⟨t,h⟩:=h
 exact qc (Ox (v:=.str "abcdefghijklmnopqrstuvwxyz") hg h ⟨_,rfl⟩) mL
noncomputable abbrev BL:List Str:=["ValueError", "all", "isinstance", "len", "list", "max", "min", "range", "set", "tuple"]
section
variable {mg:Str->Option Value} (B:Sy mg BL)
include B
theorem Tz:mg "ValueError" = none:=B _ (.head _)
theorem Bk:mg "all" = none:=B _ (.tail _ (.head _))
theorem uK:mg "isinstance" = none:=B _ (.tail _ (.tail _ (.head _)))
theorem iz:mg "len" = none:=B _ (.tail _ (.tail _ (.tail _ (.head _))))
theorem lX:mg "list" = none:=B _ (.tail _ (.tail _ (.tail _ (.tail _ (.head _)))))
theorem U4:mg "max" = none:=B _ (.tail _ (.tail _ (.tail _ (.tail _ (.tail _ (.head _))))))
theorem U5:mg "min" = none:=B _ (.tail _ (.tail _ (.tail _ (.tail _ (.tail _ (.tail _ (.head _)))))))
theorem eV:mg "range" = none:=B _ (.tail _ (.tail _ (.tail _ (.tail _ (.tail _ (.tail _ (.tail _ (.head _))))))))
theorem U6:mg "set" = none:=B _ (.tail _ (.tail _ (.tail _ (.tail _ (.tail _ (.tail _ (.tail _ (.tail _ (.head _)))))))))
theorem Qs:mg "tuple" = none:=B _ (.tail _ (.tail _ (.tail _ (.tail _ (.tail _ (.tail _ (.tail _ (.tail _ (.tail _ (.head _))))))))))
end
section
variable (P:Program) (w:World) (K:FG) (mg:Str->Option Value) (base:Heap) (c:Addr)
noncomputable abbrev HN:=bM P w K mg base "is_name" 1 ["text"] (bT K 1 mY)
noncomputable abbrev pJ:=bM P w K mg base "straight_above" 1 ["some", "pairs", "name"] (bT K 3 bI)
noncomputable abbrev yR:=bM P w K mg base "ring_within" 2 ["some", "pairs"] (bT K 2 my)
noncomputable abbrev xK:=bM P w K mg base "ring_of" 3 ["names", "pairs"] (bT K 2 cU)
noncomputable abbrev HQ:=bM P w K mg base "climbed" 1 ["name", "pairs"] (bT K 2 pq)
noncomputable abbrev qM:=bM P w K mg base "all_above" 2 ["names", "pairs"] (bT K 2 dq)
noncomputable abbrev rZ:=bM P w K mg base "all_beneath" 3 ["names", "pairs"] (bT K 2 cN)
noncomputable abbrev Ms:=bM P w K mg base "bound" 1 ["reach", "one", "other"] (bT K 3 pW)
noncomputable abbrev Ai:=bM P w K mg base "bounds" 2 ["reach"] (bT K 1 jh)
noncomputable abbrev HR:=bM P w K mg base "unbound" 3 ["reach"] (bT K 1 gm)
noncomputable abbrev xM:=bM P w K mg base "lack_of" 4 ["names", "pairs"] (bT K 2 fM)
noncomputable abbrev xN:=bM P w K mg base "refuse_names" 2 ["names", "pairs"] (bT K 2 lB)
noncomputable abbrev qX:=bM P w K mg base "_law_cell_at" 1 ["_law_script", "_law_k"] (bT K 2 bQ)
noncomputable abbrev Ax:=bM P w K mg base "_law_names" 1 ["_law_cell", "_law_count"] (bT K 2 kE)
noncomputable abbrev Ay:=bM P w K mg base "_law_pairs" 2 ["_law_script", "_law_count"] (bT K 2 kI)
noncomputable abbrev Az:=bM P w K mg base "_law_reach" 1 ["_law_pairs_here", "_law_count"] (bT K 2 kJ)
noncomputable abbrev xO:=bM P w K mg base "_law_is_ring" 1 ["_law_ring", "_law_names_here", "_law_pairs_here"] (bT K 3 g8)
noncomputable abbrev xP:=bM P w K mg base "_law_is_lack" 1 ["_law_lack", "_law_names_here", "_law_reach_here"] (bT K 3 jx)
noncomputable abbrev gP:=nC P w K mg base c "refuse_stranger" 1 ["self", "rank"] (bT K 2 aW)
noncomputable abbrev oR:=nC P w K mg base c "join" 2 ["self", "one", "other"] (bT K 3 cP)
noncomputable abbrev su:=nC P w K mg base c "meet" 2 ["self", "one", "other"] (bT K 3 d7)
noncomputable abbrev qY:=nC P w K mg base c "under" 2 ["self", "one", "other"] (bT K 3 cF)
noncomputable abbrev yU:=bM P w K mg base "_law_bounds" 3 ["_law_order", "_law_names_here", "_law_reach_here", "_law_one", "_law_other"] (bT K 5 iJ)
noncomputable abbrev uL:=nC P w K mg base c "greatest" 1 ["self"] (bT K 1 jr)
noncomputable abbrev wu:=nC P w K mg base c "joined" 3 ["self", "some"] (bT K 2 iY)
noncomputable abbrev xQ:=nC P w K mg base c "least" 1 ["self"] (bT K 1 ie)
noncomputable abbrev Do:=bM P w K mg base "_law_made" 4 ["_law_order", "_law_names_here", "_law_reach_here"] (bT K 3 lW)
noncomputable abbrev xR:=nC P w K mg base c "ranks" 1 ["self"] (bT K 1 jy)
end
variable (B:Sy mg BL) (C_LETTERS:∃ t,mg "LETTERS" = some (.str "abcdefghijklmnopqrstuvwxyz" t)) {c_Order:Addr} (T_Order:tL K mg "Order" c_Order) (N_Order:∀ f∈(["names", "above", "joins", "meets", "lowest", "highest"]:List Str),lK K c_Order f) {c_NoOrder:Addr} (XT_NoOrder:Dl K mg "NoOrder" c_NoOrder) (Y_NoOrder:∀ C∈(["NoOrder"]:List Str),∃ c,CN K C c/\W.excIn K c n6 oh=true/\mroIn K c c_NoOrder=true) (Z_NoOrder:∀ C∈([]:List Str),∃ c,CN K C c/\W.excIn K c n6 oh=true/\mroIn K c c_NoOrder=false)
include B C_LETTERS T_Order N_Order XT_NoOrder Y_NoOrder Z_NoOrder
theorem HS (F:bA K mg "is_name" km ["text"]):bM P w K mg base "is_name" 1 ["text"] (bT K 1 mY):=
 F.ok (k:=0) HH fun f cdv A outer s H E hr=>⟨_,fun _ _=>rfl,(aH (bH (yG (Sx Nt Nt JL JL cC (qL (iz B) (qw 0)) cC) (yF (qy (j8 rfl) w5 (fQ (j8 rfl) (by rfl) (Bk B) (by kernel_rfl) (ak (jm ["sign"] [] [] rfl (mR (aq km)) (dD (qw 0)) (fun _ _ _ _=>(d8 0 (show (["sign"]:List Str).Nodup from by decide +kernel))) aO (fun _ _ _ _=>fU) (fun _ _ _ _=>(pF (qx hr) oK (qw 0) (J7 C_LETTERS rfl) (by with_unfolding_all rfl)))) aD)))))))⟩
theorem vC (F:bA K mg "straight_above" eE ["some", "pairs", "name"]):bM P w K mg base "straight_above" 1 ["some", "pairs", "name"] (bT K 3 bI):=
 F.ok (k:=0) vB fun f cdv A outer s H E hr=>⟨_,fun _ _=>rfl,(aH (bH (jm ["low", "high"] ["name", "some"] [2,0] rfl (mR (aq eE)) (dD (qw 1)) (fun _ _ _ _=>(qC rfl (eZ (d8 0 (show (["low", "high", "name", "some"]:List Str).Nodup from by decide +kernel)) (eZ (d8 1 (show (["low", "high", "name", "some"]:List Str).Nodup from by decide +kernel)) nT)))) (qD (gq aO (gq aO qm))) (fun _ _ _ _=>(je (PW.pt (j7 (bY (lO hr) lQ (qw 0) (qw 2) (bZ _)) (j7 (bY (wW hr) wX (qw 1) (qw 2) (bZ _)) (oA (bY (qx hr) oK (qw 1) (qw 3) (by with_unfolding_all rfl)))))))) (fun _ _ _ _=>(qw 1)))))⟩
theorem yV (F:bA K mg "ring_within" iG ["some", "pairs"]) (D_straight_above:pJ P w K mg base):bM P w K mg base "ring_within" 2 ["some", "pairs"] (bT K 2 my):=
 F.ok (k:=1) lw fun f cdv A outer s H E hr=>⟨_,fun _ _=>rfl,(aA (fD 2 lw.nd (Cg (ak (qI (qw 0)) aD)))
  (aA (fD 3 lw.nd (qI (cA D_straight_above (hr.mono (by omega)) rfl (ak (qw 0) (ak (qw 1) (ak (qI (qw 0)) aD))) (aB (aB (aB aR))))))
  (aA (vZ 20 PassesOwn.never (JQ (bY (fJ hr) iD (qw 3) (qw 2) (by with_unfolding_all rfl)))
  (aA (Di (pv 2) (qw 3))
  (aH (fD 3 lw.nd (qI (cA D_straight_above (hr.mono (by omega)) rfl (ak (qw 0) (ak (qw 1) (ak (qw 3) aD))) (aB (aB (aB aR)))))))))
  (aH (bH (UW (rW (qw 2) (mO (qF (nj PySem.F.plainAttrs_list PySem.F.slot_list_index PySem.F.type_list_index (mF hr) (qw 2) (ak (qw 3) aD)))) rQ)))))))⟩
theorem HW (F:bA K mg "ring_of" jA ["names", "pairs"]) (D_ring_within:yR P w K mg base) (D_straight_above:pJ P w K mg base):bM P w K mg base "ring_of" 3 ["names", "pairs"] (bT K 2 cU):=
 F.ok (k:=2) nG fun f cdv A outer s H E hr=>⟨_,fun _ _=>rfl,(aA (lM (i:=2) nG.nd rfl (Or.inr rfl) (PE.imp (gQ fu (by rfl) (lX B) (by kernel_rfl) (ak (qw 0) aD)) (lR lg)))
  (aA (oH (i:=3) ["name"] ["rest", "pairs"] [2,1] nG.nd rfl rfl rfl (mR (aq jA)) (dD (qw 2)) (fun _ _ _ _=>(d8 0 (show (["name", "rest", "pairs"]:List Str).Nodup from by decide +kernel))) aO (fun _ _ _ _=>(je (b7 (cA D_straight_above (hr.mono (by omega)) rfl (ak (qw 1) (ak (qw 2) (ak (qw 0) aD))) (aB (aB (aB aR)))) (fun _=>rfl)))) (fun _ _ _ _=>(qw 0)))
  (aA (vZ 20 PassesOwn.never (bY GD Cy (qL (iz B) (qw 3)) (qL (iz B) (qw 2)) (bZ _))
  (aA (lM (i:=2) nG.nd rfl (Or.inr rfl) (qw 3))
  (aH (oH (i:=3) ["name"] ["rest", "pairs"] [2,1] nG.nd rfl rfl rfl (mR (aq jA)) (dD (qw 2)) (fun _ _ _ _=>(d8 0 (show (["name", "rest", "pairs"]:List Str).Nodup from by decide +kernel))) aO (fun _ _ _ _=>(je (b7 (cA D_straight_above (hr.mono (by omega)) rfl (ak (qw 1) (ak (qw 2) (ak (qw 0) aD))) (aB (aB (aB aR)))) (fun _=>rfl)))) (fun _ _ _ _=>(qw 0))))))
  (aA (cZ (iQ (b7 (qw 2) (fun _=>rfl)))
  (aH (bH pI))
  bU)
  (aH (bH (cA D_ring_within (hr.mono (by omega)) rfl (ak (qw 2) (ak (qw 1) aD)) (aB (aB aR)))))))))⟩
theorem HX (F:bA K mg "climbed" mU ["name", "pairs"]):bM P w K mg base "climbed" 1 ["name", "pairs"] (bT K 2 pq):=
 F.ok (k:=0) jK fun f cdv A outer s H E hr=>⟨_,fun _ _=>rfl,(aA (fD 2 jK.nd (Cg (ak (qw 0) aD)))
  (aA (fD 3 jK.nd (qc jC cz))
  (aA (vZ 70 PassesOwn.never (b7 (qw 3) (fun _=>rfl))
  (aA (fD 3 jK.nd (qc jC cz))
  (aH (gD PassesOwn.never rfl (dD (qw 1)) (qC rfl (eZ (d8 4 jK.nd) (eZ (d8 5 jK.nd) nT))) (qD (gq aO (gq aO qm)))
  (aH (cZ (JQ (PW.pt (j7 (bY (qx hr) oK (qw 4) (qw 2) (by with_unfolding_all rfl)) (oA (bY (fJ hr) iD (qw 5) (qw 2) (by with_unfolding_all rfl))))))
  (aA (Di (pv 2) (qw 5))
  (aH (fD 3 jK.nd (qc jC cz))))
  bU))))))
  (aH (kZ (pv 2))))))⟩
theorem Dp (F:bA K mg "all_above" jU ["names", "pairs"]) (D_climbed:HQ P w K mg base):bM P w K mg base "all_above" 2 ["names", "pairs"] (bT K 2 dq):=
 F.ok (k:=1) qK fun f cdv A outer s H E hr=>⟨_,fun _ _=>rfl,(aA (fD 2 qK.nd S7)
  (aA (gD PassesOwn.never rfl (dD (qw 0)) (d8 3 qK.nd) aO
  (aH (Qk (t7 (cA D_climbed (hr.mono (by omega)) rfl (ak (qw 3) (ak (qw 1) aD)) (aB (aB aR))) (t6 (pv 2) (qw 3) (set_dict (lY hr)))))))
  (aH (kZ (pv 2)))))⟩
theorem yW (F:bA K mg "all_beneath" gw ["names", "pairs"]) (D_all_above:qM P w K mg base):bM P w K mg base "all_beneath" 3 ["names", "pairs"] (bT K 2 cN):=
 F.ok (k:=2) yN fun f cdv A outer s H E hr=>⟨_,fun _ _=>rfl,(aH (bH (cA D_all_above (hr.mono (by omega)) rfl (ak (qw 0) (ak (jm ["low", "high"] [] [] rfl (mR (aq gw)) (dD (qw 1)) (fun _ _ _ _=>(qC rfl (eZ (d8 0 (show (["low", "high"]:List Str).Nodup from by decide +kernel)) (eZ (d8 1 (show (["low", "high"]:List Str).Nodup from by decide +kernel)) nT)))) (qD (gq aO (gq aO qm))) (fun _ _ _ _=>fU) (fun _ _ _ _=>(sU (ak (qw 1) (ak (qw 0) aD))))) aD)) (aB (aB aR)))))⟩
theorem Mt (F:bA K mg "bound" mV ["reach", "one", "other"]):bM P w K mg base "bound" 1 ["reach", "one", "other"] (bT K 3 pW):=
 F.ok (k:=0) wj fun f cdv A outer s H E hr=>⟨_,fun _ _=>rfl,(aA (oH (i:=3) ["rank"] ["reach", "other"] [0,2] wj.nd rfl rfl rfl (mR (aq mV)) (dD (Ab (lY hr) (qw 0) (qw 1) (fun _ _=>rfl))) (fun _ _ _ _=>(d8 0 (show (["rank", "reach", "other"]:List Str).Nodup from by decide +kernel))) aO (fun _ _ _ _=>(je (bY (qx hr) oK (qw 0) (Ab (lY hr) (qw 1) (qw 2) (fun _ _=>rfl)) (by with_unfolding_all rfl)))) (fun _ _ _ _=>(qw 0)))
  (aA (gD PassesOwn.never rfl (dD (qw 3)) (mK (i:=4) wj.nd rfl (Or.inr rfl)) aO
  (aH (cZ (b7 (qy (j8 rfl) w5 (fQ (j8 rfl) (by rfl) (Bk B) (by kernel_rfl) (ak (jm ["beyond"] ["reach", "rank"] [0,4] rfl (mR (aq mV)) (dD (qw 3)) (fun _ _ _ _=>(d8 0 (show (["beyond", "reach", "rank"]:List Str).Nodup from by decide +kernel))) aO (fun _ _ _ _=>fU) (fun _ _ _ _=>(pF (qx hr) oK (qw 0) (Ab (lY hr) (qw 1) (qw 2) (fun _ _=>rfl)) (by with_unfolding_all rfl)))) aD))) (fun _=>rfl))
  (aH (kZ (pv 4)))
  bU)))
  (aH (bH pI))))⟩
theorem J8 (F:bA K mg "bounds" oO ["reach"]) (D_bound:Ms P w K mg base):bM P w K mg base "bounds" 2 ["reach"] (bT K 1 jh):=
 F.ok (k:=1) qW fun f cdv A outer s H E hr=>⟨_,fun _ _=>rfl,(aA (fD 1 qW.nd Te)
  (aA (Fx PassesOwn.never rfl (qw 0) (d8 2 qW.nd) aO
  (aH (Fx PassesOwn.never rfl (qw 0) (d8 3 qW.nd) aO
  (aH (Ql (t7 (cA D_bound (hr.mono (by omega)) rfl (ak (qw 0) (ak (qw 2) (ak (qw 3) aD))) (aB (aB (aB aR)))) (t6 (pv 1) (Bx (ak (qw 2) (ak (qw 3) aD))) (set_dict (lY hr)))))))))
  (aH (kZ (pv 1)))))⟩
theorem HY (F:bA K mg "unbound" mW ["reach"]) (D_bounds:Ai P w K mg base):bM P w K mg base "unbound" 3 ["reach"] (bT K 1 gm):=
 F.ok (k:=2) tO fun f cdv A outer s H E hr=>⟨_,fun _ _=>rfl,(aA (El PassesOwn.never rfl (V7 (cA D_bounds (hr.mono (by omega)) rfl (ak (qw 0) aD) (aB aR))) (qC rfl (eZ (d8 1 tO.nd) (eZ (d8 2 tO.nd) nT))) (qD (gq aO (gq aO qm)))
  (aH (cZ (bY Bu yH (qw 2) pI (bZ _))
  (aH (kZ (pv 1)))
  bU)))
  (aH (bH pI)))⟩
theorem Ia (F:bA K mg "lack_of" mX ["names", "pairs"]) (D_all_above:qM P w K mg base) (D_all_beneath:rZ P w K mg base) (D_unbound:HR P w K mg base):bM P w K mg base "lack_of" 4 ["names", "pairs"] (bT K 2 fM):=
 F.ok (k:=3) tQ fun f cdv A outer s H E hr=>⟨_,fun _ _=>rfl,(aA (fD 2 tQ.nd (cA D_unbound (hr.mono (by omega)) rfl (ak (Oa (cA D_all_above (hr.mono (by omega)) rfl (ak (qw 0) (ak (qw 1) aD)) (aB (aB aR)))) aD) (aB aR)))
  (aA (cZ (bY nU mD (qw 2) pI (bZ _))
  (aH (bH (sU (ak Af (ak (qI (qw 2)) (ak (qI (qw 2)) aD))))))
  bU)
  (aA (fD 2 tQ.nd (cA D_unbound (hr.mono (by omega)) rfl (ak (Oa (cA D_all_beneath (hr.mono (by omega)) rfl (ak (qw 0) (ak (qw 1) aD)) (aB (aB aR)))) aD) (aB aR)))
  (aA (cZ (bY nU mD (qw 2) pI (bZ _))
  (aH (bH (sU (ak Af (ak (qI (qw 2)) (ak (qI (qw 2)) aD))))))
  bU)
  (aH (bH pI))))))⟩
theorem xT (F:bA K mg "refuse_names" gU ["names", "pairs"]) (D_is_name:HN P w K mg base):bM P w K mg base "refuse_names" 2 ["names", "pairs"] (bT K 2 lB):=
 F.ok (k:=1) jZ fun f cdv A outer s H E hr=>⟨_,fun _ _=>rfl,(aA (gD PassesOwn.never rfl (dD (qw 0)) (d8 2 jZ.nd) aO
  (aA (cZ (iQ (b7 (cA D_is_name (hr.mono (by omega)) rfl (ak (qw 2) aD) (aB aR)) (fun _=>rfl)))
  (aH vo)
  bU)
  (aH (cZ (bY GJ Cz (Tg (nj PySem.F.plainAttrs_list PySem.F.slot_list_count PySem.F.type_list_count (Ml hr) (qw 0) (ak (qw 2) aD))) cC (bZ _))
  (aH vo)
  bU))))
  (aH (gD PassesOwn.never rfl (dD (qw 1)) (qC rfl (eZ (d8 3 jZ.nd) (eZ (d8 4 jZ.nd) nT))) (qD (gq aO (gq aO qm)))
  (aH (cZ (PW.pt (kY (bY (fJ hr) iD (qw 3) (qw 0) (by with_unfolding_all rfl)) (qj (bY (fJ hr) iD (qw 4) (qw 0) (by with_unfolding_all rfl)))))
  (aH vo)
  bU)))))⟩
theorem xU (F:bA K mg "refuse_order" gW ["names", "pairs"]) (D_lack_of:xM P w K mg base) (D_ring_of:xK P w K mg base):DefX P w K mg base "refuse_order" 5 ["names", "pairs"] eU:=
 F.okX (k:=4) nH fun f cdv A outer s H E hr=>⟨_,fun _ _=>rfl,fun R PX=>(ir (HF (iQ (b7 (qw 0) (fun _=>rfl)))
  (rY (J2 R hr rfl XT_NoOrder Iv))
  yM)
  (ir (lu (fD 2 nH.nd (cA D_ring_of (hr.mono (by omega)) rfl (ak (qw 0) (ak (qw 1) aD)) (aB (aB aR)))))
  (ir (HF (bY nU mD (qw 2) pI (bZ _))
  (rY (Ah R hr rfl XT_NoOrder (Tp hr (qw 2) (Tn (by decide) J1)) (by decide +kernel)))
  yM)
  (ir (lu (fD 3 nH.nd (cA D_lack_of (hr.mono (by omega)) rfl (ak (qw 0) (ak (qw 1) aD)) (aB (aB aR)))))
  (rY (HF (bY nU mD (qw 3) pI (bZ _))
  (rY (Ah R hr rfl XT_NoOrder (Tp hr (qw 3) (Tn (by decide) J1)) (by decide +kernel)))
  yM))))))⟩
theorem xV (F:bA K mg "_law_cell_at" gY ["_law_script", "_law_k"]):bM P w K mg base "_law_cell_at" 1 ["_law_script", "_law_k"] (bT K 2 bQ):=
 F.ok (k:=0) xx fun f cdv A outer s H E hr=>⟨_,fun _ _=>rfl,(aA (cZ (bY GD Cy (qw 1) (qL (iz B) (qw 0)) (bZ _))
  (aH (bH (fB gA fH (bc (qw 0) (qw 1) (fun _ _=>rfl)) cC)))
  bU)
  (aH (bH cC)))⟩
theorem Ba (F:bA K mg "_law_names" gh ["_law_cell", "_law_count"]):bM P w K mg base "_law_names" 1 ["_law_cell", "_law_count"] (bT K 2 kE):=
 F.ok (k:=0) dZ fun f cdv A outer s H E hr=>⟨_,fun _ _=>rfl,(aA (lM (i:=2) dZ.nd rfl (Or.inr rfl) Af)
  (aA (fD 3 dZ.nd (Cg aD))
  (aA (cZ (bY (lO hr) lQ (fB gA fH (qw 0) cC) cC (bZ _))
  (aA (fD 4 dZ.nd (N7 (nj PySem.F.plainAttrs_str PySem.F.slot_str_join PySem.F.type_str_join Fp Af (ak (jm ["_law_j"] ["_law_letters", "_law_cell"] [2,0] rfl (mR (aq gh)) (cI rfl (eV B) (ak cC aD)) (fun _ _ _ _=>(d8 0 (show (["_law_j", "_law_letters", "_law_cell"]:List Str).Nodup from by decide +kernel))) aO (fun _ _ _ _=>fU) (fun _ _ _ _=>(bc (qw 1) (fB gA fH (fB jP jQ (fB kW jF (qw 2) cC) (fB Jc Fo cC (qw 0))) cC) (fun _ _=>rfl)))) aD))))
  (aA (gD PassesOwn.never rfl (cI rfl (eV B) (ak (qw 1) aD)) (d8 5 dZ.nd) aO
  (aH (Di (pv 3) (rW (qw 4) (mO (fB gA fH (qw 5) cC)) (mO (fB jP jQ (fB jP jQ (fB gA fH (qw 5) cC) cC) (fB kW jF (qw 5) cC)))))))
  (aH (kZ (pv 3)))))
  bU)
  (aA (fD 6 dZ.nd (bc (Cg (ak cC (ak cC (ak cC (ak cC (ak cC (ak cC (ak cC aD)))))))) (fB gA fH (fB kW jF (qw 0) cC) cC) (fun _ _=>rfl)))
  (aA (fD 7 dZ.nd (fB gA fH (fB kW jF (qw 0) cC) (qw 6)))
  (aA (gD PassesOwn.never rfl (cI rfl (eV B) (ak (qw 1) aD)) (d8 5 dZ.nd) aO
  (aA (oH (i:=8) ["_law_j"] ["_law_letters", "_law_cell"] [2,0] dZ.nd rfl rfl rfl (mR (aq gh)) (cI rfl (eV B) (ak (qw 6) aD)) (fun _ _ _ _=>(d8 0 (show (["_law_j", "_law_letters", "_law_cell"]:List Str).Nodup from by decide +kernel))) aO (fun _ _ _ _=>fU) (fun _ _ _ _=>(bc (qw 1) (fB gA fH (fB jP jQ (fB kW jF (qw 2) (fB jP jQ (qw 0) cC)) (fB Jc Fo (qw 0) (qw 0))) cC) (fun _ _=>rfl))))
  (aA (Qd (t7 (bc (qw 2) (fB gA fH (fB jP jQ (fB kW jF (qw 0) cC) (qw 5)) cC) (fun _ _=>rfl)) (t6 (pv 8) (qw 7) set_list)))
  (aH (Di (pv 3) (N7 (nj PySem.F.plainAttrs_str PySem.F.slot_str_join PySem.F.type_str_join Fp Af (ak (qw 8) aD))))))))
  (aH (kZ (pv 3)))))))))⟩
theorem Bb (F:bA K mg "_law_pairs" gj ["_law_script", "_law_count"]) (D__law_cell_at:qX P w K mg base):bM P w K mg base "_law_pairs" 2 ["_law_script", "_law_count"] (bT K 2 kI):=
 F.ok (k:=1) dm fun f cdv A outer s H E hr=>⟨_,fun _ _=>rfl,(aA (fD 2 dm.nd (fB gA fH (cA D__law_cell_at (hr.mono (by omega)) rfl (ak (qw 0) (ak cC aD)) (aB (aB aR))) cC))
  (aA (fD 3 dm.nd (Cg aD))
  (aA (gD PassesOwn.never rfl (dD (rW (qw 0) (mO cC) (mO cC))) (d8 4 dm.nd) aO
  (aA (fD 5 dm.nd (fB gA fH (qw 4) cC))
  (aA (fD 6 dm.nd (fB gA fH (qw 5) (qw 1)))
  (aA (fD 7 dm.nd (fB gA fH (fB kW jF (qw 5) (qw 1)) (qw 1)))
  (aA (cZ (bY GJ Cz (qw 2) cC (bZ _))
  (aH (R9 (i:=6) (j:=7) rfl dm.nd rfl rfl (by decide) (Rk (i:=6) (j:=7) rfl dm.nd rfl rfl (by decide) rfl rfl (ak (qy (zA rfl) S5 (fQ (zA rfl) (by rfl) (U5 B) (by kernel_rfl) (ak (qw 6) (ak (qw 7) aD)))) (ak (qy (zy rfl) S6 (fQ (zy rfl) (by rfl) (U4 B) (by kernel_rfl) (ak (qw 6) (ak (qw 7) aD)))) aD)) rfl)))
  bU)
  (aH (Di (pv 3) (sU (ak (qw 6) (ak (qw 7) aD))))))))))
  (aA (cZ (bY GJ Cz (qw 2) cC (bZ _))
  (aH (fD 3 dm.nd (fB jP jQ (fB jP jQ (jm ["_law_k"] [] [] rfl (mR (aq gj)) (cI rfl (eV B) (ak (qw 1) aD)) (fun _ _ _ _=>(d8 0 (show (["_law_k"]:List Str).Nodup from by decide +kernel))) aO (fun _ _ _ _=>fU) (fun _ _ _ _=>(sU (ak cC (ak (qw 0) aD))))) (qw 3)) (jm ["_law_k"] ["_law_count"] [1] rfl (mR (aq gj)) (cI rfl (eV B) (ak (qw 1) aD)) (fun _ _ _ _=>(d8 0 (show (["_law_k", "_law_count"]:List Str).Nodup from by decide +kernel))) aO (fun _ _ _ _=>fU) (fun _ _ _ _=>(sU (ak (qw 0) (ak (fB Jb Fj (qw 1) cC) aD))))))))
  bU)
  (aH (kZ (pv 3)))))))⟩
theorem Bc (F:bA K mg "_law_reach" gk ["_law_pairs_here", "_law_count"]):bM P w K mg base "_law_reach" 1 ["_law_pairs_here", "_law_count"] (bT K 2 kJ):=
 F.ok (k:=0) iI fun f cdv A outer s H E hr=>⟨_,fun _ _=>rfl,(aA (lM (i:=2) iI.nd rfl (Or.inr rfl) (Ht (jm ["_law_one"] ["_law_count"] [1] rfl (mR (aq gk)) (cI rfl (eV B) (ak (qw 1) aD)) (fun _ _ _ _=>(mK (i:=0) (show (["_law_one", "_law_count"]:List Str).Nodup from by decide +kernel) rfl (Or.inr rfl))) aO (fun _ _ _ _=>fU) (fun _ _ _ _=>(Ht (jm ["_law_other"] ["_law_one"] [0] rfl csn (cI rfl (eV B) (ak (qw 1) aD)) (fun _ _ _ _=>(d8 0 (show (["_law_other", "_law_one"]:List Str).Nodup from by decide +kernel))) aO (fun _ _ _ _=>fU) (fun _ _ _ _=>(pF (lO hr) lQ (qw 1) (qw 0) (bZ _)))))))))
  (aA (gD PassesOwn.never rfl (dD (qw 0)) (qC rfl (eZ (mK (i:=3) iI.nd rfl (Or.inr rfl)) (eZ (d8 4 iI.nd) nT))) (qD (gq aO (gq aO qm)))
  (aH (CJ (t7 (qc jC cz) (t6 (bc (qw 2) (qw 3) (fun _ _=>rfl)) (qw 4) set_list)))))
  (aA (gD PassesOwn.never rfl (cI rfl (eV B) (ak (qw 1) aD)) (mK (i:=5) iI.nd rfl (Or.inr rfl)) aO
  (aH (gD PassesOwn.never rfl (cI rfl (eV B) (ak (qw 1) aD)) (mK (i:=3) iI.nd rfl (Or.inr rfl)) aO
  (aH (cZ (b7 (bc (bc (qw 2) (qw 3) (fun _ _=>rfl)) (qw 5) (fun _ _=>rfl)) (fun _=>rfl))
  (aH (CJ (t7 (Ht (jm ["_law_k"] ["_law_reach_here", "_law_one", "_law_amid"] [2,3,5] rfl (mR (aq gk)) (cI rfl (eV B) (ak (qw 1) aD)) (fun _ _ _ _=>(d8 0 (show (["_law_k", "_law_reach_here", "_law_one", "_law_amid"]:List Str).Nodup from by decide +kernel))) aO (fun _ _ _ _=>fU) (fun _ _ _ _=>(Wl (bc (bc (qw 1) (qw 2) (fun _ _=>rfl)) (qw 0) (fun _ _=>rfl)) (yF (bc (bc (qw 1) (qw 3) (fun _ _=>rfl)) (qw 0) (fun _ _=>rfl))))))) (t6 (qw 2) (qw 3) set_list))))
  bU)))))
  (aH (bH (Ti (qw 2)))))))⟩
theorem xW (F:bA K mg "_law_is_ring" gZ ["_law_ring", "_law_names_here", "_law_pairs_here"]):bM P w K mg base "_law_is_ring" 1 ["_law_ring", "_law_names_here", "_law_pairs_here"] (bT K 3 g8):=
 F.ok (k:=0) nJ fun f cdv A outer s H E hr=>⟨_,fun _ _=>rfl,(aA (cZ (PW.pt (kY (iQ (b7 (Vm (fQ vL (by rfl) (uK B) (by kernel_rfl) (nW (qw 0) (nW (Ep (v:=.ty "list") (u:=.type "list") rfl (lX B) (by kernel_rfl) rfl) uf)))) (fun _=>rfl))) (kY (bY GD Cy (qL (iz B) (qw 0)) cC (bZ _)) (qj (bY (wW hr) wX (Mr (fQ J6 (by rfl) (iz B) PySem.boot_len (nW (gQ (Li rfl) (by rfl) (U6 B) (by kernel_rfl) (ak (qw 0) aD)) uf))) (qL (iz B) (qw 0)) (bZ _))))))
  (aH (bH (qc jC cz)))
  bU)
  (aA (gD PassesOwn.never rfl (cI rfl (eV B) (ak (qL (iz B) (qw 0)) aD)) (d8 3 nJ.nd) aO
  (aA (fD 4 nJ.nd (bc (qw 0) (fB Jb Fj (qw 3) cC) (fun _ _=>rfl)))
  (aH (cZ (PW.pt (kY (bY (fJ hr) iD (qw 4) (qw 1) (by with_unfolding_all rfl)) (kY (bY (fJ hr) iD (bc (qw 0) (qw 3) (fun _ _=>rfl)) (qw 1) (by with_unfolding_all rfl)) (qj (bY (fJ hr) iD (sU (ak (qF (nj PySem.F.plainAttrs_list PySem.F.slot_list_index PySem.F.type_list_index (mF hr) (qw 1) (ak (qw 4) aD))) (ak (qF (nj PySem.F.plainAttrs_list PySem.F.slot_list_index PySem.F.type_list_index (mF hr) (qw 1) (ak (bc (qw 0) (qw 3) (fun _ _=>rfl)) aD))) aD))) (qw 2) (by with_unfolding_all rfl))))))
  (aH (bH (qc jC cz)))
  bU))))
  (aH (bH (qc jC cz)))))⟩
theorem xX (F:bA K mg "_law_is_lack" cR ["_law_lack", "_law_names_here", "_law_reach_here"]):bM P w K mg base "_law_is_lack" 1 ["_law_lack", "_law_names_here", "_law_reach_here"] (bT K 3 jx):=
 F.ok (k:=0) fG fun f cdv A outer s H E hr=>⟨_,fun _ _=>rfl,(aA (cZ (PW.pt (kY (iQ (b7 (Vm (fQ vL (by rfl) (uK B) (by kernel_rfl) (nW (qw 0) (nW (Ep (v:=.ty "tuple") (u:=.type "tuple") rfl (Qs B) (by kernel_rfl) rfl) uf)))) (fun _=>rfl))) (kY (bY (wW hr) wX (qL (iz B) (qw 0)) cC (bZ _)) (kY (bY (fJ hr) iD (qI (qw 0)) (qw 1) (by with_unfolding_all rfl)) (qj (bY (fJ hr) iD (qI (qw 0)) (qw 1) (by with_unfolding_all rfl)))))))
  (aH (bH (qc jC cz)))
  bU)
  (aA (lM (i:=3) fG.nd rfl (Or.inr rfl) (qF (nj PySem.F.plainAttrs_list PySem.F.slot_list_index PySem.F.type_list_index (mF hr) (qw 1) (ak (qI (qw 0)) aD))))
  (aA (lM (i:=4) fG.nd rfl (Or.inr rfl) (qF (nj PySem.F.plainAttrs_list PySem.F.slot_list_index PySem.F.type_list_index (mF hr) (qw 1) (ak (qI (qw 0)) aD))))
  (aA (cZ (bY (lO hr) lQ (qI (qw 0)) Af (bZ _))
  (aA (lM (i:=5) fG.nd rfl (Or.inr rfl) (jm ["_law_k"] ["_law_reach_here", "_law_one", "_law_other"] [2,3,4] rfl (mR (aq cR)) (cI rfl (eV B) (ak (qL (iz B) (qw 1)) aD)) (fun _ _ _ _=>(d8 0 (show (["_law_k", "_law_reach_here", "_law_one", "_law_other"]:List Str).Nodup from by decide +kernel))) aO (fun _ _ _ _=>(je (PW.pt (j7 (b7 (bc (bc (qw 1) (qw 2) (fun _ _=>rfl)) (qw 0) (fun _ _=>rfl)) (fun _=>rfl)) (oA (b7 (bc (bc (qw 1) (qw 3) (fun _ _=>rfl)) (qw 0) (fun _ _=>rfl)) (fun _=>rfl))))))) (fun _ _ _ _=>(qw 0))))
  (aH (oH (i:=6) ["_law_k"] ["_law_both", "_law_reach_here"] [5,2] fG.nd rfl rfl rfl (mR (aq cR)) (dD (qw 5)) (fun _ _ _ _=>(mK (i:=0) (show (["_law_k", "_law_both", "_law_reach_here"]:List Str).Nodup from by decide +kernel) rfl (Or.inr rfl))) aO (fun _ _ _ _=>(je (b7 (qy (j8 rfl) w5 (fQ (j8 rfl) (by rfl) (Bk B) (by kernel_rfl) (ak (jm ["_law_j"] ["_law_reach_here", "_law_k"] [2,0] rfl csn (dD (qw 1)) (fun _ _ _ _=>(d8 0 (show (["_law_j", "_law_reach_here", "_law_k"]:List Str).Nodup from by decide +kernel))) aO (fun _ _ _ _=>fU) (fun _ _ _ _=>(bc (bc (qw 1) (qw 2) (fun _ _=>rfl)) (qw 0) (fun _ _=>rfl)))) aD))) (fun _=>rfl)))) (fun _ _ _ _=>(qw 0)))))
  (aA (lM (i:=5) fG.nd rfl (Or.inr rfl) (jm ["_law_k"] ["_law_reach_here", "_law_one", "_law_other"] [2,3,4] rfl (mR (aq cR)) (cI rfl (eV B) (ak (qL (iz B) (qw 1)) aD)) (fun _ _ _ _=>(d8 0 (show (["_law_k", "_law_reach_here", "_law_one", "_law_other"]:List Str).Nodup from by decide +kernel))) aO (fun _ _ _ _=>(je (PW.pt (j7 (b7 (bc (bc (qw 1) (qw 0) (fun _ _=>rfl)) (qw 2) (fun _ _=>rfl)) (fun _=>rfl)) (oA (b7 (bc (bc (qw 1) (qw 0) (fun _ _=>rfl)) (qw 3) (fun _ _=>rfl)) (fun _=>rfl))))))) (fun _ _ _ _=>(qw 0))))
  (aH (oH (i:=6) ["_law_k"] ["_law_both", "_law_reach_here"] [5,2] fG.nd rfl rfl rfl (mR (aq cR)) (dD (qw 5)) (fun _ _ _ _=>(mK (i:=0) (show (["_law_k", "_law_both", "_law_reach_here"]:List Str).Nodup from by decide +kernel) rfl (Or.inr rfl))) aO (fun _ _ _ _=>(je (b7 (qy (j8 rfl) w5 (fQ (j8 rfl) (by rfl) (Bk B) (by kernel_rfl) (ak (jm ["_law_j"] ["_law_reach_here", "_law_k"] [2,0] rfl csn (dD (qw 1)) (fun _ _ _ _=>(d8 0 (show (["_law_j", "_law_reach_here", "_law_k"]:List Str).Nodup from by decide +kernel))) aO (fun _ _ _ _=>fU) (fun _ _ _ _=>(bc (bc (qw 1) (qw 0) (fun _ _=>rfl)) (qw 2) (fun _ _=>rfl)))) aD))) (fun _=>rfl)))) (fun _ _ _ _=>(qw 0))))))
  (aH (bH (yG (pF (qx hr) oK (qI (qw 0)) (sU (ak Af (ak Af aD))) (by with_unfolding_all rfl)) (yF (pF (lO hr) lQ (qL (iz B) (qw 6)) cC (bZ _))))))))))⟩
theorem pQ (F:lC K c_Order "refuse_stranger" "Order.refuse_stranger" bL ["self", "rank"]):nC P w K mg base c_Order "refuse_stranger" 1 ["self", "rank"] (bT K 2 aW):=
 F.ok (k:=0) pP fun f cdv A outer s H E hr=>⟨_,fun _ _=>rfl,(aH (cZ (bY (fJ hr) iD (qw 1) (qH T_Order (N_Order _ (.head _)) (qw 0)) (by with_unfolding_all rfl))
  (aH vo)
  bU))⟩
theorem yX (F:lC K c_Order "join" "Order.join" fK ["self", "one", "other"]) (D_Order__refuse_stranger:gP P w K mg base c_Order):nC P w K mg base c_Order "join" 2 ["self", "one", "other"] (bT K 3 cP):=
 F.ok (k:=1) yP fun f cdv A outer s H E hr=>⟨_,fun _ _=>rfl,(aA (oE (jJ T_Order D_Order__refuse_stranger (hr.mono (by omega)) (qw 0) (ak (qw 1) aD) (gG (aB aR))))
  (aA (oE (jJ T_Order D_Order__refuse_stranger (hr.mono (by omega)) (qw 0) (ak (qw 2) aD) (gG (aB aR))))
  (aH (bH (Tf (lY hr) (qH T_Order (N_Order _ (.tail _ (.tail _ (.head _)))) (qw 0)) (ak (qw 1) (ak (qw 2) aD)) (fun _ _=>rfl))))))⟩
theorem yZ (F:lC K c_Order "meet" "Order.meet" fL ["self", "one", "other"]) (D_Order__refuse_stranger:gP P w K mg base c_Order):nC P w K mg base c_Order "meet" 2 ["self", "one", "other"] (bT K 3 d7):=
 F.ok (k:=1) yQ fun f cdv A outer s H E hr=>⟨_,fun _ _=>rfl,(aA (oE (jJ T_Order D_Order__refuse_stranger (hr.mono (by omega)) (qw 0) (ak (qw 1) aD) (gG (aB aR))))
  (aA (oE (jJ T_Order D_Order__refuse_stranger (hr.mono (by omega)) (qw 0) (ak (qw 2) aD) (gG (aB aR))))
  (aH (bH (Tf (lY hr) (qH T_Order (N_Order _ (.tail _ (.tail _ (.tail _ (.head _))))) (qw 0)) (ak (qw 1) (ak (qw 2) aD)) (fun _ _=>rfl))))))⟩
theorem xY (F:lC K c_Order "under" "Order.under" eO ["self", "one", "other"]) (D_Order__refuse_stranger:gP P w K mg base c_Order):nC P w K mg base c_Order "under" 2 ["self", "one", "other"] (bT K 3 cF):=
 F.ok (k:=1) xH fun f cdv A outer s H E hr=>⟨_,fun _ _=>rfl,(aA (oE (jJ T_Order D_Order__refuse_stranger (hr.mono (by omega)) (qw 0) (ak (qw 1) aD) (gG (aB aR))))
  (aA (oE (jJ T_Order D_Order__refuse_stranger (hr.mono (by omega)) (qw 0) (ak (qw 2) aD) (gG (aB aR))))
  (aH (bH (pF (qx hr) oK (qw 2) (Ab (lY hr) (qH T_Order (N_Order _ (.tail _ (.head _))) (qw 0)) (qw 1) (fun _ _=>rfl)) (by with_unfolding_all rfl))))))⟩
theorem zc (F:bA K mg "_law_bounds" iH ["_law_order", "_law_names_here", "_law_reach_here", "_law_one", "_law_other"]) (D_Order__join:oR P w K mg base c_Order) (D_Order__meet:su P w K mg base c_Order) (D_Order__under:qY P w K mg base c_Order):bM P w K mg base "_law_bounds" 3 ["_law_order", "_law_names_here", "_law_reach_here", "_law_one", "_law_other"] (bT K 5 iJ):=
 F.ok (k:=2) lA fun f cdv A outer s H E hr=>⟨_,fun _ _=>rfl,(aA (fD 5 lA.nd (qF (nj PySem.F.plainAttrs_list PySem.F.slot_list_index PySem.F.type_list_index (mF hr) (qw 1) (ak (jJ T_Order D_Order__join (hr.mono (by omega)) (qw 0) (ak (bc (qw 1) (qw 3) (fun _ _=>rfl)) (ak (bc (qw 1) (qw 4) (fun _ _=>rfl)) aD)) (gG (aB (aB aR)))) aD))))
  (aA (fD 6 lA.nd (qF (nj PySem.F.plainAttrs_list PySem.F.slot_list_index PySem.F.type_list_index (mF hr) (qw 1) (ak (jJ T_Order D_Order__meet (hr.mono (by omega)) (qw 0) (ak (bc (qw 1) (qw 3) (fun _ _=>rfl)) (ak (bc (qw 1) (qw 4) (fun _ _=>rfl)) aD)) (gG (aB (aB aR)))) aD))))
  (aA (cZ (PW.pt (kY (iQ (b7 (bc (bc (qw 2) (qw 3) (fun _ _=>rfl)) (qw 5) (fun _ _=>rfl)) (fun _=>rfl))) (kY (iQ (b7 (bc (bc (qw 2) (qw 4) (fun _ _=>rfl)) (qw 5) (fun _ _=>rfl)) (fun _=>rfl))) (kY (iQ (b7 (bc (bc (qw 2) (qw 6) (fun _ _=>rfl)) (qw 3) (fun _ _=>rfl)) (fun _=>rfl))) (qj (iQ (b7 (bc (bc (qw 2) (qw 6) (fun _ _=>rfl)) (qw 4) (fun _ _=>rfl)) (fun _=>rfl))))))))
  (aH (bH (qc jC cz)))
  bU)
  (aA (gD PassesOwn.never rfl (cI rfl (eV B) (ak (qL (iz B) (qw 1)) aD)) (d8 7 lA.nd) aO
  (aA (cZ (PW.pt (j7 (b7 (bc (bc (qw 2) (qw 3) (fun _ _=>rfl)) (qw 7) (fun _ _=>rfl)) (fun _=>rfl)) (j7 (b7 (bc (bc (qw 2) (qw 4) (fun _ _=>rfl)) (qw 7) (fun _ _=>rfl)) (fun _=>rfl)) (oA (iQ (b7 (bc (bc (qw 2) (qw 5) (fun _ _=>rfl)) (qw 7) (fun _ _=>rfl)) (fun _=>rfl)))))))
  (aH (bH (qc jC cz)))
  bU)
  (aH (cZ (PW.pt (j7 (b7 (bc (bc (qw 2) (qw 7) (fun _ _=>rfl)) (qw 3) (fun _ _=>rfl)) (fun _=>rfl)) (j7 (b7 (bc (bc (qw 2) (qw 7) (fun _ _=>rfl)) (qw 4) (fun _ _=>rfl)) (fun _=>rfl)) (oA (iQ (b7 (bc (bc (qw 2) (qw 7) (fun _ _=>rfl)) (qw 6) (fun _ _=>rfl)) (fun _=>rfl)))))))
  (aH (bH (qc jC cz)))
  bU))))
  (aH (bH (pF (lO hr) lQ (jJ T_Order D_Order__under (hr.mono (by omega)) (qw 0) (ak (bc (qw 1) (qw 3) (fun _ _=>rfl)) (ak (bc (qw 1) (qw 4) (fun _ _=>rfl)) aD)) (gG (aB (aB aR)))) (bc (bc (qw 2) (qw 3) (fun _ _=>rfl)) (qw 4) (fun _ _=>rfl)) (bZ _))))))))⟩
theorem uM (F:lC K c_Order "greatest" "Order.greatest" cT ["self"]):nC P w K mg base c_Order "greatest" 1 ["self"] (bT K 1 jr):=
 F.ok (k:=0) uJ fun f cdv A outer s H E hr=>⟨_,fun _ _=>rfl,(aH (bH (qH T_Order (N_Order _ (.tail _ (.tail _ (.tail _ (.tail _ (.tail _ (.head _))))))) (qw 0))))⟩
theorem ww (F:lC K c_Order "joined" "Order.joined" dI ["self", "some"]) (D_Order__join:oR P w K mg base c_Order):nC P w K mg base c_Order "joined" 3 ["self", "some"] (bT K 2 iY):=
 F.ok (k:=2) jL fun f cdv A outer s H E hr=>⟨_,fun _ _=>rfl,(aA (fD 2 jL.nd (qH T_Order (N_Order _ (.tail _ (.tail _ (.tail _ (.tail _ (.head _)))))) (qw 0)))
  (aA (gD PassesOwn.never rfl (dD (qw 1)) (d8 3 jL.nd) aO
  (aH (fD 2 jL.nd (jJ T_Order D_Order__join (hr.mono (by omega)) (qw 0) (ak (qw 2) (ak (qw 3) aD)) (gG (aB (aB aR)))))))
  (aH (kZ (pv 2)))))⟩
theorem xZ (F:lC K c_Order "least" "Order.least" eQ ["self"]):nC P w K mg base c_Order "least" 1 ["self"] (bT K 1 ie):=
 F.ok (k:=0) xJ fun f cdv A outer s H E hr=>⟨_,fun _ _=>rfl,(aH (bH (qH T_Order (N_Order _ (.tail _ (.tail _ (.tail _ (.tail _ (.head _)))))) (qw 0))))⟩
theorem Dq (F:bA K mg "_law_made" jV ["_law_order", "_law_names_here", "_law_reach_here"]) (D_Order__greatest:uL P w K mg base c_Order) (D_Order__join:oR P w K mg base c_Order) (D_Order__joined:wu P w K mg base c_Order) (D_Order__least:xQ P w K mg base c_Order) (D_Order__meet:su P w K mg base c_Order) (D_Order__under:qY P w K mg base c_Order) (D__law_bounds:yU P w K mg base):bM P w K mg base "_law_made" 4 ["_law_order", "_law_names_here", "_law_reach_here"] (bT K 3 lW):=
 F.ok (k:=3) nM fun f cdv A outer s H E hr=>⟨_,fun _ _=>rfl,(aA (fD 3 nM.nd (jJ T_Order D_Order__joined (hr.mono (by omega)) (qw 0) (ak (qw 1) aD) (gG (aB aR))))
  (aA (gD PassesOwn.never rfl (cI rfl (eV B) (ak (qL (iz B) (qw 1)) aD)) (d8 4 nM.nd) aO
  (aA (gD PassesOwn.never rfl (cI rfl (eV B) (ak (qL (iz B) (qw 1)) aD)) (d8 5 nM.nd) aO
  (aA (cZ (PW.pt (kY (bY (fJ hr) iD (jJ T_Order D_Order__join (hr.mono (by omega)) (qw 0) (ak (bc (qw 1) (qw 4) (fun _ _=>rfl)) (ak (bc (qw 1) (qw 5) (fun _ _=>rfl)) aD)) (gG (aB (aB aR)))) (qw 1) (by with_unfolding_all rfl)) (qj (bY (fJ hr) iD (jJ T_Order D_Order__meet (hr.mono (by omega)) (qw 0) (ak (bc (qw 1) (qw 4) (fun _ _=>rfl)) (ak (bc (qw 1) (qw 5) (fun _ _=>rfl)) aD)) (gG (aB (aB aR)))) (qw 1) (by with_unfolding_all rfl)))))
  (aH (bH (qc jC cz)))
  bU)
  (aA (cZ (PW.pt (j7 (bY (wW hr) wX (qw 4) (qw 5) (bZ _)) (j7 (b7 (bc (bc (qw 2) (qw 4) (fun _ _=>rfl)) (qw 5) (fun _ _=>rfl)) (fun _=>rfl)) (oA (b7 (bc (bc (qw 2) (qw 5) (fun _ _=>rfl)) (qw 4) (fun _ _=>rfl)) (fun _=>rfl))))))
  (aH (bH (qc jC cz)))
  bU)
  (aH (cZ (iQ (b7 (cA D__law_bounds (hr.mono (by omega)) rfl (ak (qw 0) (ak (qw 1) (ak (qw 2) (ak (qw 4) (ak (qw 5) aD))))) (aB (aB (aB (aB (aB aR)))))) (fun _=>rfl)))
  (aH (bH (qc jC cz)))
  bU)))))
  (aH (cZ (PW.pt (kY (iQ (b7 (jJ T_Order D_Order__under (hr.mono (by omega)) (qw 0) (ak (bc (qw 1) (qw 4) (fun _ _=>rfl)) (ak (qw 3) aD)) (gG (aB (aB aR)))) (fun _=>rfl))) (qj (iQ (b7 (jJ T_Order D_Order__under (hr.mono (by omega)) (qw 0) (ak (De T_Order D_Order__least (hr.mono (by omega)) (qw 0) rfl) (ak (bc (qw 1) (qw 4) (fun _ _=>rfl)) aD)) (gG (aB (aB aR)))) (fun _=>rfl))))))
  (aH (bH (qc jC cz)))
  bU))))
  (aH (bH (pF (lO hr) lQ (qw 3) (De T_Order D_Order__greatest (hr.mono (by omega)) (qw 0) rfl) (bZ _))))))⟩
theorem uN (F:lC K c_Order "__init__" "Order.__init__" cu ["self", "names", "pairs"]) (D_all_above:qM P w K mg base) (D_all_beneath:rZ P w K mg base) (D_bounds:Ai P w K mg base) (D_refuse_names:xN P w K mg base) (D_refuse_order:DefX P w K mg base "refuse_order" 5 ["names", "pairs"] eU):MX P w K mg base c_Order "__init__" 6 ["self", "names", "pairs"] cV:=
 F.okX (k:=5) uI fun f cdv A outer s H E hr=>⟨_,fun _ _=>rfl,fun R PX=>(ir (lu (oE (cA D_refuse_names (hr.mono (by omega)) rfl (ak (qw 1) (ak (qw 2) aD)) (aB (aB aR)))))
  (ir (Qn (Qo D_refuse_order PX (hr.mono (by omega)) rfl (ak (qw 1) (ak (qw 2) aD)) (aB (aB aR))))
  (ir (lu (pU T_Order (N_Order _ (.head _)) (qw 0) (PE.imp (gQ fu (by rfl) (lX B) (by kernel_rfl) (ak (qw 1) aD)) (lR lg))))
  (ir (lu (pU T_Order (N_Order _ (.tail _ (.head _))) (qw 0) (Oa (cA D_all_above (hr.mono (by omega)) rfl (ak (qw 1) (ak (qw 2) aD)) (aB (aB aR))))))
  (ir (lu (pU T_Order (N_Order _ (.tail _ (.tail _ (.head _)))) (qw 0) (cA D_bounds (hr.mono (by omega)) rfl (ak (qH T_Order (N_Order _ (.tail _ (.head _))) (qw 0)) aD) (aB aR))))
  (ir (lu (pU T_Order (N_Order _ (.tail _ (.tail _ (.tail _ (.head _))))) (qw 0) (cA D_bounds (hr.mono (by omega)) rfl (ak (Oa (cA D_all_beneath (hr.mono (by omega)) rfl (ak (qw 1) (ak (qw 2) aD)) (aB (aB aR)))) aD) (aB aR))))
  (ir (lu (pU T_Order (N_Order _ (.tail _ (.tail _ (.tail _ (.tail _ (.head _)))))) (qw 0) (Ab (lY hr) (jm ["name"] ["self", "names"] [0,1] rfl (mR (aq cu)) (dD (qw 1)) (fun _ _ _ _=>(d8 0 (show (["name", "self", "names"]:List Str).Nodup from by decide +kernel))) aO (fun _ _ _ _=>(je (bY (JW hr) Fz (Mj (fQ p8 (by rfl) (iz B) PySem.boot_len (ak (Ab (lY hr) (qH T_Order (N_Order _ (.tail _ (.head _))) (qw 1)) (qw 0) (fun _ _=>rfl)) aD))) (Mj (fQ p8 (by rfl) (iz B) PySem.boot_len (ak (qw 2) aD))) (bZ _)))) (fun _ _ _ _=>(qw 0))) cC (fun _ _=>rfl))))
  (rY (lu (pU T_Order (N_Order _ (.tail _ (.tail _ (.tail _ (.tail _ (.tail _ (.head _))))))) (qw 0) (Ab (lY hr) (jm ["name"] ["self"] [0] rfl (mR (aq cu)) (dD (qw 1)) (fun _ _ _ _=>(d8 0 (show (["name", "self"]:List Str).Nodup from by decide +kernel))) aO (fun _ _ _ _=>(je (bY (JW hr) Fz (Mj (fQ p8 (by rfl) (iz B) PySem.boot_len (ak (Ab (lY hr) (qH T_Order (N_Order _ (.tail _ (.head _))) (qw 1)) (qw 0) (fun _ _=>rfl)) aD))) cC (bZ _)))) (fun _ _ _ _=>(qw 0))) cC (fun _ _=>rfl))))))))))))⟩
theorem yc (F:lC K c_Order "ranks" "Order.ranks" eN ["self"]):nC P w K mg base c_Order "ranks" 1 ["self"] (bT K 1 jy):=
 F.ok (k:=0) xG fun f cdv A outer s H E hr=>⟨_,fun _ _=>rfl,(aH (bH (PE.imp (gQ fu (by rfl) (lX B) (by kernel_rfl) (ak (qH T_Order (N_Order _ (.head _)) (qw 0)) aD)) (lR lg))))⟩
theorem TQ {f:Addr} {fd:FuncData} (F:nR K "law" "law" nF f fd) (D_Order____init__:Tq P w K mg base c_Order 6 ["self", "names", "pairs"] cV) (D_Order__ranks:xR P w K mg base c_Order) (D__law_cell_at:qX P w K mg base) (D__law_is_lack:xP P w K mg base) (D__law_is_ring:xO P w K mg base) (D__law_made:Do P w K mg base) (D__law_names:Ax P w K mg base) (D__law_pairs:Ay P w K mg base) (D__law_reach:Az P w K mg base) (D_lack_of:xM P w K mg base) (D_ring_of:xK P w K mg base):gb P w K mg base oY 8 f fd ["_law_script"] (bT K 1 HJ):=
 nR.okP (k:=7) F iW fun cdv A outer s H E hr=>⟨_,fun _ _=>rfl,(aA (fD 1 iW.nd (fB jP jQ cC (fB gA fH (cA D__law_cell_at (hr.mono (by omega)) rfl (ak (qw 0) (ak cC aD)) (aB (aB aR))) cC)))
  (aA (lM (i:=2) iW.nd rfl (Or.inr rfl) (cA D__law_names (hr.mono (by omega)) rfl (ak (fB kW jF (cA D__law_cell_at (hr.mono (by omega)) rfl (ak (qw 0) (ak cC aD)) (aB (aB aR))) cC) (ak (qw 1) aD)) (aB (aB aR))))
  (aA (fD 3 iW.nd (cA D__law_pairs (hr.mono (by omega)) rfl (ak (qw 0) (ak (qw 1) aD)) (aB (aB aR))))
  (aA (oH (i:=4) ["_law_one", "_law_other"] ["_law_names_here"] [2] iW.nd rfl rfl rfl (mR (aq nF)) (dD (qw 3)) (fun _ _ _ _=>(qC rfl (eZ (d8 0 (show (["_law_one", "_law_other", "_law_names_here"]:List Str).Nodup from by decide +kernel)) (eZ (d8 1 (show (["_law_one", "_law_other", "_law_names_here"]:List Str).Nodup from by decide +kernel)) nT)))) (qD (gq aO (gq aO qm))) (fun _ _ _ _=>fU) (fun _ _ _ _=>(sU (ak (bc (qw 2) (qw 0) (fun _ _=>rfl)) (ak (bc (qw 2) (qw 1) (fun _ _=>rfl)) aD)))))
  (aA (fD 5 iW.nd (cA D__law_reach (hr.mono (by omega)) rfl (ak (qw 3) (ak (qw 1) aD)) (aB (aB aR))))
  (aA (fD 6 iW.nd (fB gA fH (cA D__law_cell_at (hr.mono (by omega)) rfl (ak (qw 0) (ak cC aD)) (aB (aB aR))) (qw 1)))
  (aA (fD 7 iW.nd (fB jP jQ (rW (qw 2) (mO (qw 6)) rQ) (rW (qw 2) rQ (mO (qw 6)))))
  (aA (cZ (bY (lO hr) lQ (fB gA fH (fB kW jF (cA D__law_cell_at (hr.mono (by omega)) rfl (ak (qw 0) (ak cC aD)) (aB (aB aR))) cC) cC) cC (bZ _))
  (aH (fD 4 iW.nd (Qm (qw 4) rQ rQ (mO (V6 cC)))))
  bU)
  (aA (fD 8 iW.nd pI)
  (aA (Tu rfl rfl (fun pins σ xe E hp=>(Tr (i:=8) iW.nd rfl (Or.inl rfl) (Qp T_Order D_Order____init__ hp (hr.mono (by omega)) rfl (ak (PE.imp (gQ fu (by rfl) (lX B) (by kernel_rfl) (ak (qw 7) aD)) (lR lg)) (ak (PE.imp (gQ fu (by rfl) (lX B) (by kernel_rfl) (ak (qw 4) aD)) (lR lg)) aD)) (gG (aB (aB aR)))))) (Qq rfl XT_NoOrder Y_NoOrder Z_NoOrder (fun e=>(aH (fD 8 iW.nd pI))) Tt))
  (aA (fD 9 iW.nd (cA D_ring_of (hr.mono (by omega)) rfl (ak (PE.imp (gQ fu (by rfl) (lX B) (by kernel_rfl) (ak (qw 7) aD)) (lR lg)) (ak (PE.imp (gQ fu (by rfl) (lX B) (by kernel_rfl) (ak (qw 4) aD)) (lR lg)) aD)) (aB (aB aR))))
  (aA (cZ (bY nU mD (qw 9) pI (bZ _))
  (aH (bH (yG (pF Bu yH (qw 8) pI (bZ _)) (yF (cA D__law_is_ring (hr.mono (by omega)) rfl (ak (qw 9) (ak (qw 2) (ak (qw 3) aD))) (aB (aB (aB aR))))))))
  bU)
  (aA (fD 10 iW.nd (cA D_lack_of (hr.mono (by omega)) rfl (ak (PE.imp (gQ fu (by rfl) (lX B) (by kernel_rfl) (ak (qw 7) aD)) (lR lg)) (ak (PE.imp (gQ fu (by rfl) (lX B) (by kernel_rfl) (ak (qw 4) aD)) (lR lg)) aD)) (aB (aB aR))))
  (aA (cZ (bY nU mD (qw 10) pI (bZ _))
  (aH (bH (yG (pF Bu yH (qw 8) pI (bZ _)) (yF (cA D__law_is_lack (hr.mono (by omega)) rfl (ak (qw 10) (ak (qw 2) (ak (qw 5) aD))) (aB (aB (aB aR))))))))
  bU)
  (aH (bH (yG (pF nU mD (qw 8) pI (bZ _)) (yG (pF (lO hr) lQ (De T_Order D_Order__ranks (hr.mono (by omega)) (qw 8) rfl) (qw 7) (bZ _)) (yF (cA D__law_made (hr.mono (by omega)) rfl (ak (qw 8) (ak (qw 2) (ak (qw 5) aD))) (aB (aB (aB aR)))))))))))))))))))))))⟩
end
local macro_rules | `(tactic| walk_at "op")=>`(tactic| first | exact rfl | exact modP_go rfl rfl (by omega) | exact fdivP_go rfl rfl (by omega) (by omega) | exact mulP_gor rfl rfl (by omega) (by omega) | exact mulP_gol rfl rfl (by omega) (by omega) | assumption)
local macro_rules | `(tactic| walk_at "ev")=>`(tactic| first
 | ((with_reducible refine' bx ?h1 ?h2 ?h3 ?h4 ?h5); (case h1=>walk_at "ev"); (case h2=>exact rfl); (case h3=>walk_at "ev"); (case h4=>exact rfl); (case h5=>walk_at "op"))
 | ((with_reducible refine' aG ?h1 ?h2); (case h1=>walk_at "ev"); (case h2=>walk_at "ev"))
 | ((with_reducible refine' aQ ?h1 ?h2 ?h3); (case h1=>walk_at "ev"); (case h2=>exact rfl); (case h3=>exact rfl))
 | ((with_reducible refine' dR ?h1); (case h1=>walk_at "ev"))
 | ((with_reducible refine' az ?h1 ?h2); (case h1=>walk_at "ev"); (case h2=>walk_at "ev"))
 | ((with_reducible refine' aX ?h1 ?h2 ?h3 ?h4 ?h5); (case h1=>walk_at "ev"); (case h2=>exact rfl); (case h3=>exact rfl); (case h4=>exact rfl); (case h5=>walk_at "call"))
 | ((with_reducible refine' yI ?h1 ?h2 ?h3); (case h1=>walk_at "ev"); (case h2=>exact rfl); (case h3=>walk_at "op"))
 | ((with_reducible refine' bW ?h1 ?h2 ?h3); (case h1=>walk_at "ev"); (case h2=>exact rfl); (case h3=>exact rfl))
 | ((with_reducible refine' jw ?h1); (case h1=>walk_at "ev"))
 | ((with_reducible refine' jO ?h1 ?h2); (case h1=>walk_at "ev"); (case h2=>walk_at "ev"))
 | ((with_reducible refine' jY ?h1 ?h2); (case h1=>walk_at "ev"); (case h2=>walk_at "ev"))
 | ((with_reducible refine' v9 ?h1); (case h1=>walk_at "ev"))
 | ((with_reducible refine' CT ?h1 ?h2); (case h1=>walk_at "ev"); (case h2=>exact rfl))
 | ((with_reducible refine' CV ?h1 ?h2 ?h3); (case h1=>walk_at "ev"); (case h2=>exact rfl); (case h3=>exact rfl))
 | ((with_reducible refine' lU ?h1 ?h2 ?h3); (case h1=>walk_at "ev"); (case h2=>exact rfl); (case h3=>exact rfl))
 | ((with_reducible refine' newc_go ?h1 ?h2 ?h3 ?h4); (case h1=>walk_at "ev"); (case h2=>exact rfl); (case h3=>exact rfl); (case h4=>exact rfl))
 | ((with_reducible refine' is_go ?h1 ?h2 ?h3); (case h1=>walk_at "ev"); (case h2=>exact rfl); (case h3=>exact rfl))
 | ((with_reducible refine' gF ?h1 ?h2 ?h3); (case h1=>walk_at "ev"); (case h2=>exact rfl); (case h3=>exact rfl))
 | exact rfl
 | assumption)
local macro_rules | `(tactic| walk_at "call")=>`(tactic| first | assumption | exact rfl)
noncomputable abbrev SS (xs:List Str):List PV:=xs.map .str
noncomputable abbrev PP (ps:List (Str×Str)):List PV:=ps.map fun x=>.tup [.str x.1,.str x.2]
noncomputable abbrev zS (x:List Str):Option Lc:=some (.sh (.lst (SS x)))
noncomputable abbrev zP (x:List (Str×Str)):Option Lc:=some (.sh (.lst (PP x)))
noncomputable abbrev zI (x:Int):Option Lc:=some (.sh (.int x))
noncomputable abbrev zT (x:Str):Option Lc:=some (.sh (.str x))
noncomputable abbrev wS (x:List Str):Lc:=.sh (.lst (SS x))
noncomputable abbrev yL (x:List PV):Option Lc:=some (.sh (.lst x))
noncomputable abbrev yO (x:List PV):Option Lc:=some (.own (.lst x))
noncomputable abbrev yS (x:PV):Option Lc:=some (.sh x)
noncomputable def has (xs:List Str) (x:Str):Bool:=xs.any fun y=>y==x
theorem bu {xs:List Str} {x:Str}:has xs x=true ↔ x∈xs:=by
 unfold has
 rw [List.any_eq_true]
 constructor
 . rintro ⟨y,hy,e⟩
   rw [← eq_of_beq e]; exact hy
 . intro h; exact ⟨x,h,by simp⟩
theorem nO {xs:List Str} {x:Str}:has xs x=false ↔ x∉xs:=by rw [← bu]; simp
theorem in_str {x:Str}:∀ xs:List Str,jf (bF 150) (.str x) (SS xs)=some (has xs x)
 | []=>rfl
 | y::ys=>by
  show (some (y==x)).bind (fun b=>(jf (bF 150) (.str x) (SS ys)).map fun c=>b||c)=_
  rw [in_str ys]
  rfl
theorem yd {xs:List Str} {x:Str}:jk (.str x) (.lst (SS xs))=yS (.bl (has xs x)):=by
 show (jf (bF 150) (.str x) (SS xs)).map _=_
 rw [in_str]; rfl
theorem kO {xs:List Str} {x:Str}:dN (.str x) (.lst (SS xs))=yS (.bl (!has xs x)):=by
 show (jf (bF 150) (.str x) (SS xs)).map _=_
 rw [in_str]; rfl
theorem TV {ns:List Int} {i:Int} (h0:0<=i) (h1:i<ns.length):∃ c∈ns,pH (.lst (ns.map .int)) (.int i)=zI c:=by
 obtain ⟨x,e,e2⟩:=v8 (l:=ns.map PV.int) (i:=i) h0 (by rw [List.length_map]; exact h1)
 rw [List.getElem?_map] at e2
 obtain ⟨c,hc,rfl⟩:=map_some e2
 exact ⟨c,List.mem_of_getElem? hc,by show (gn (ns.map PV.int) i).map _=_; rw [e]; rfl⟩
theorem cell_eq {ns:List Int} {k:Int} {mu:Mu} (h0:0<=k):∃ c,0<=c/\bQ [.lst (ns.map .int),.int k] mu=some (.sh (.int c),mu):=by
 have t:tT (aC Cw (aa 1) (eB dh (aj (aa 0) ao))) aZ (env0 2 [.lst (ns.map .int),.int k] mu)=some (decide (k<(ns.map PV.int).length),⟨[yL (ns.map .int),zI k],mu⟩):=rfl
 by_cases h:k<(ns.map PV.int).length
 . obtain ⟨c,_,e⟩:=TV (ns:=ns) h0 (by rw [List.length_map] at h; exact h)
   exact ⟨c%1000000007,Int.emod_nonneg _ (by decide),bB (ρ:=⟨[yL (ns.map .int),zI k],mu⟩) (lq ((jG (t.trans (by rw [decide_eq_true h]))).trans (dR (bx (lr (l:=.sh (.lst (ns.map .int))) (m:=.sh (.int k)) rfl rfl rfl rfl (fun n h=>by cases h) e) rfl rfl rfl (jg (by decide))))))⟩
 . exact ⟨0,by decide,bB (ρ:=⟨[yL (ns.map .int),zI k],mu⟩) (aG ((cL (t.trans (by rw [decide_eq_false h]))).trans rfl) rfl)⟩
noncomputable abbrev LET:Str := "abcdefghijklmnopqrstuvwxyz"
noncomputable def LE (i:Int):Nat:=97+(i%26).toNat
noncomputable abbrev one (c:Nat):Str:=⟨#[c]⟩
theorem Dr (i:Int):pH (.str LET) (.int (i%26))=zT (one (LE i)):=by
 unfold LE
 have h0:=Int.emod_nonneg i (b:=26) (by decide)
 have h1:=Int.emod_lt_of_pos i (b:=26) (by decide)
 generalize i%26=r at h0 h1
 obtain ⟨n,rfl⟩:=Int.eq_ofNat_of_zero_le h0
 have h2:n<26:=by omega
 have:∀ n:Nat,n<26->(match pH (.str LET) (.int (n:Int)) with | some (.sh (.str x))=>x.cps.toList==[97+n] | _=>false)=true:=by decide +kernel
 have h3:=this n h2
 split at h3
 . rename_i x e
   rw [e]
   have h4:x.cps.toList=[97+n]:=by simpa using h3
   have h5:x=one (97+n):=by
    cases x with | mk cps=>
    show Str.mk cps=Str.mk #[97+n]
    congr 1
    exact Array.toList_inj.mp h4
   rw [h5]
   rfl
 . cases h3
theorem Ib:∀ cs:List Nat,Txt.join "" (cs.map one)=⟨cs.toArray⟩:=by
 intro cs
 unfold Txt.join
 rw [StrLaws.glued_eq_join]
 induction cs with
 | nil=>rfl
 | cons c cs ih=>
  cases cs with
  | nil=>rfl
  | cons d cs=>
   show (one c ++ "" ++ Str.join "" ((d::cs).map one):Str)=_
   rw [ih]
   show Str.mk ((#[c]++#[])++(d::cs).toArray)=_
   simp
theorem strs_map:∀ xs:List Str,strsOf (SS xs)=some xs
 | []=>rfl
 | x::xs=>by
  show (strsOf (SS xs)).map _=_
  rw [strs_map xs]
  rfl
theorem FP:∀ cs:List Nat,((cs.map one).map (·.length)).sum=cs.length
 | []=>rfl
 | c::cs=>by rw [List.map_cons,List.map_cons,List.sum_cons,FP cs,List.length_cons]; show 1+_=_; omega
theorem FQ {fa:EF} {ρ ρ1:Ev} {m:Lc} {cs:List Nat} (h:fa ρ=some (m,ρ1)) (hm:m.pv=.lst (SS (cs.map one))) (hl:cs.length<=100):oV (eC (.str "")) (aj fa ao) ρ=some (.sh (.str ⟨cs.toArray⟩),ρ1):=by
 rw [← Ib]
 refine Mi rfl (az h rfl) rfl hm (strs_map _) ?_
 rw [FP,List.length_map,show ("" : Str).length=0 from rfl]
 omega
theorem letters {elt:EF} {c k:Int} {mu:Mu} {g:Nat->Nat} (hk0:0<=k) (hk:k<100) (he:∀ i:Nat,(i:Int)<k->elt ⟨[zI (0+i),zT LET,zI c],mu⟩=some (.sh (.str (one (g i))),⟨[zI (0+i),zT LET,zI c],mu⟩)):
 dH (au 0) bw elt (cg 0 k.toNat) ⟨[none,zT LET,zI c],mu⟩ []=some (SS (((List.range k.toNat).map g).map one),mu):=by
 have:=iR (b:=au 0) (te:=elt) (mu:=mu) (fun ρ=>∃ o,ρ=⟨[o,zT LET,zI c],mu⟩) (fun ρ ⟨o,e⟩=>by rw [e]) (fun p=>match p with | .int i=>.str (one (g i.toNat)) | _=>.non)
  (xs:=cg 0 k.toNat) (ρ:=⟨[none,zT LET,zI c],mu⟩) ⟨none,rfl⟩ (by rw [gr]; omega) (by
    rintro x hx ρ ⟨o,rfl⟩
    obtain ⟨i,hi,rfl⟩:=rT hx
    refine ⟨_,rfl,_,_,he i (by omega),?_,_,rfl⟩
    show PV.str _=PV.str (one (g (0+(i:Int)).toNat))
    rw [Int.zero_add,Int.toNat_natCast]) (by
    rintro x hx ρ ρ1 ⟨o,rfl⟩ e
    cases e
    exact ⟨_,rfl⟩)
 rw [this]
 congr 2
 unfold cg SS
 rw [List.map_map,List.map_map,List.map_map]
 refine List.map_congr_left fun i _=>?_
 show PV.str (one (g (0+(i:Int)).toNat))=PV.str (one (g i))
 rw [Int.zero_add,Int.toNat_natCast]
theorem U7 {c:Int}:∃ m:Int,0<m/\m<=8/\pH (.lst [.int 1,.int 2,.int 3,.int 5,.int 6,.int 7,.int 8]) (.int (c%7))=zI m:=by
 have h0:=Int.emod_nonneg c (b:=7) (by decide)
 have h1:=Int.emod_lt_of_pos c (b:=7) (by decide)
 generalize c%7=r at h0 h1
 rcases (by omega:r=0\/r=1\/r=2\/r=3\/r=4\/r=5\/r=6) with rfl | rfl | rfl | rfl | rfl | rfl | rfl
 . exact ⟨1,by decide,by decide,rfl⟩
 . exact ⟨2,by decide,by decide,rfl⟩
 . exact ⟨3,by decide,by decide,rfl⟩
 . exact ⟨5,by decide,by decide,rfl⟩
 . exact ⟨6,by decide,by decide,rfl⟩
 . exact ⟨7,by decide,by decide,rfl⟩
 . exact ⟨8,by decide,by decide,rfl⟩
theorem Ds {xs:List Str} {x:Str}:SS xs++[.str x]=SS (xs++[x]):=by show _=List.map PV.str (xs++[x]); rw [List.map_append]; rfl
noncomputable abbrev NE (c n:Int) (l3 o4 o5 o6 o7 o8:Option Lc) (mu:Mu):Ev:=⟨[zI c,zI n,zT LET,l3,o4,o5,o6,o7,o8],mu⟩
theorem nodup_range {nm:Nat->Str}:∀ {n:Nat},(∀ i j,i<n->j<n->nm i=nm j->i=j)->((List.range n).map nm).Nodup
 | 0,_=>by simp
 | n+1,h=>by
  rw [List.range_succ,List.map_append,List.map_singleton]
  refine List.nodup_append.mpr ⟨nodup_range fun i j hi hj=>h i j (by omega) (by omega),by simp,?_⟩
  rintro a ha b hb e
  obtain ⟨i,hi,rfl⟩:=List.mem_map.mp ha
  have hb':b=nm n:=by simpa using hb
  rw [hb'] at e
  have h1:=List.mem_range.mp hi
  have:=h i n (by omega) (by omega) e
  omega
noncomputable def cO (d:Int):List Nat:=(List.range 10).map fun i:Nat=>LE (d/2+3*(0+i))
noncomputable def vN (d:Int) (k:Nat):Str:=j6 ⟨(cO d).toArray⟩ (some ((0+k:Int)%5)) (some ((0+k:Int)%5+1+(0+k:Int)/5))
theorem Qt {d:Int}:∀ i j,i<8->j<8->vN d i=vN d j->i=j:=by
 have key:∀ k,k<8->(vN d k).cps.toList=((cO d).drop (k%5)).take (1+k/5):=by
  intro k hk
  rcases (by omega:k=0\/k=1\/k=2\/k=3\/k=4\/k=5\/k=6\/k=7) with rfl | rfl | rfl | rfl | rfl | rfl | rfl | rfl<;>rfl
 have hl:(cO d).length=10:=by unfold cO; rw [List.length_map,List.length_range]
 have hh:∀ k,k<8->(vN d k).cps.toList.length=1+k/5/\(vN d k).cps.toList[0]?=some (LE (d/2+3*(0+((k%5:Nat):Int)))):=fun k hk=>by
  rw [key k hk]
  refine ⟨by rw [List.length_take,List.length_drop,hl]; omega,?_⟩
  rw [List.getElem?_take,if_pos (by omega),List.getElem?_drop,cO,List.getElem?_map,List.getElem?_range (by omega)]
  rfl
 intro i j hi hj h
 obtain ⟨a1,a2⟩:=hh i hi
 obtain ⟨b1,b2⟩:=hh j hj
 rw [h,b1] at a1
 rw [h,b2] at a2
 have:=Option.some.inj a2
 unfold LE at this
 omega
noncomputable def nmE (l:List Nat) (d:Int) (a:Nat) (k:Nat):Str:=⟨(l.set a (LE (d/112+(0+k)))).toArray⟩
theorem Qu {l:List Nat} {d:Int} {a:Nat} (ha:a<l.length):∀ i j,i<8->j<8->nmE l d a i=nmE l d a j->i=j:=by
 intro i j hi hj h
 have h':=congrArg (fun z:Str=>z.cps.toList[a]?) h
 have e:∀ k,(nmE l d a k).cps.toList[a]?=some (LE (d/112+(0+k))):=fun k=>by
  show (l.set a (LE (d/112+(0+k)))).toArray.toList[a]?=_
  simp [ha]
 rw [e,e] at h'
 have h2:=Option.some.inj h'
 unfold LE at h2
 omega
theorem Qv {l:List Nat} {a c:Nat}:(SS (l.map one)).set a (.str (one c))=SS ((l.set a c).map one):=by
 show (List.map PV.str (l.map one)).set a _=List.map PV.str (List.map one (l.set a c))
 rw [List.map_set,List.map_set]
noncomputable def tZ (c:Nat):Bool:=!(Builtin.Str.occurrences ("abcdefghijklmnopqrstuvwxyz" : Str) ⟨#[c]⟩ 0 ("abcdefghijklmnopqrstuvwxyz" : Str).length 1).isEmpty
noncomputable def wy (x:Str):Bool:=decide ((1:Int)<=x.length)&&decide ((x.length:Int)<=8)
noncomputable def nameB (x:Str):Bool:=wy x&&x.cps.toList.all tZ
theorem Mv {x:Str} {o:List (Option Lc)} {mu:Mu} (hx:x.length<=100000):rR zX zX (eC (PV.int 1)) (eB dh (aj (aa 0) ao)) (eC (PV.int 8)) ⟨zT x::o,mu⟩=some (.sh (.bl (wy x)),⟨zT x::o,mu⟩):=by
 simp [rR,eC,eB,dh,Lz,aj,ao,aa,Ev.set,Lc.pv,zX,ux,hx,wy]
 by_cases h:(1:Int)<=x.length
 . simp [h]
 . simp [h]
theorem ye (f:Nat->Bool):∀ cs:List Nat,boolsOf (cs.map fun c=>.bl (f c))=some (cs.map f)
 | []=>rfl
 | c::cs=>by
  show (boolsOf (cs.map fun c=>.bl (f c))).map _=_
  rw [ye f cs]
  rfl
theorem Mw (f:Nat->Bool) (cs:List Nat):(cs.map f).all id=cs.all f:=by simp [List.all_map]
theorem Qw {x:Str} {mu:Mu} (hx:x.length<=100000):mY [.str x] mu=some (.sh (.bl (nameB x)),mu):=by
 have comp:dH (au 0) bw (aC jk (aa 0) (eC jB)) (x.cps.toList.map fun c=>.str ⟨#[c]⟩) ⟨[none],mu⟩ []=some (x.cps.toList.map fun c=>.bl (tZ c),mu):=by
  have:=iR (b:=au 0) (te:=aC jk (aa 0) (eC jB)) (mu:=mu) (fun ρ=>∃ o,ρ=⟨[o],mu⟩) (fun ρ ⟨o,e⟩=>by rw [e]) (fun p=>match p with | .str y=>.bl (tZ (y.cps.toList.getD 0 0)) | _=>.non)
   (xs:=x.cps.toList.map fun c=>.str ⟨#[c]⟩) (ρ:=⟨[none],mu⟩) ⟨none,rfl⟩ (by rw [List.length_map,Array.length_toList]; exact hx) ?_ ?_
  . rw [this,List.map_map]
    rfl
  . rintro y hy ρ ⟨o,rfl⟩
    obtain ⟨c,_,rfl⟩:=List.mem_map.mp hy
    exact ⟨_,rfl,_,_,rfl,rfl,_,rfl⟩
  . rintro y hy ρ ρ1 ⟨o,rfl⟩ h
    cases h
    exact ⟨_,rfl⟩
 have e:mY [.str x] mu=((jD (rR zX zX (eC (.int 1)) (eB dh (aj (aa 0) ao)) (eC (.int 8))) (eB all1 (aj (bh (dG (aa 0) bO) 1 [] (au 0) bw (aC jk (aa 0) (eC jB))) ao)) ⟨[zT x],mu⟩).map fun x=>Fl.rt x.1 x.2).bind fun x=>match x with
  | .rt r ρ=>some (r,ρ.mu)
  | .nx ρ=>some (.sh .non,ρ.mu)
  | _=>none:=rfl
 have e2:eB all1 (aj (bh (dG (aa 0) bO) 1 [] (au 0) bw (aC jk (aa 0) (eC jB))) ao) ⟨[zT x],mu⟩=some (.sh (.bl (x.cps.toList.all tZ)),⟨[zT x],mu⟩):=by
  have e3:bh (dG (aa 0) bO) 1 [] (au 0) bw (aC jk (aa 0) (eC jB)) ⟨[zT x],mu⟩=some (.own (.lst (x.cps.toList.map fun c=>.bl (tZ c))),⟨[zT x],mu⟩):=by
   show (dH (au 0) bw (aC jk (aa 0) (eC jB)) (x.cps.toList.map fun c=>.str ⟨#[c]⟩) ⟨[none],mu⟩ []).map _=_
   rw [comp]
   rfl
  unfold eB aj
  rw [e3]
  show (all1 [.lst _]).map _=_
  show ((boolsOf (x.cps.toList.map fun c=>.bl (tZ c))).map _).map _=_
  rw [ye,Option.map_some,Option.map_some,Mw]
 rw [e]
 unfold jD
 rw [Mv hx,Option.bind_some]
 cases hl:wy x with
 | true=>
  show ((eB all1 _ _).map _).bind _=_
  rw [e2]
  simp [nameB,hl]
 | false=>simp [nameB,hl,Lc.pv]
theorem Dt (i:Int):tZ (LE i)=true:=by
 unfold LE
 have h0:=Int.emod_nonneg i (b:=26) (by decide)
 have h1:=Int.emod_lt_of_pos i (b:=26) (by decide)
 have:∀ n:Nat,n<26->tZ (97+n)=true:=by decide +kernel
 exact this _ (by omega)
theorem Du {x:Str} (h1:1<=x.cps.toList.length) (h2:x.cps.toList.length<=8) (h:∀ c∈x.cps.toList,tZ c=true):nameB x=true:=by
 unfold nameB wy
 have e:x.length=x.cps.toList.length:=by rw [Array.length_toList]; rfl
 rw [Bool.and_eq_true,Bool.and_eq_true]
 exact ⟨⟨decide_eq_true (by omega),decide_eq_true (by omega)⟩,List.all_eq_true.mpr h⟩
theorem Mx {d:Int}:∀ k,k<8->nameB (vN d k)=true:=by
 have hc:cO d=[LE (d/2+3*(0+0)),LE (d/2+3*(0+1)),LE (d/2+3*(0+2)),LE (d/2+3*(0+3)),LE (d/2+3*(0+4)),LE (d/2+3*(0+5)),LE (d/2+3*(0+6)),LE (d/2+3*(0+7)),LE (d/2+3*(0+8)),LE (d/2+3*(0+9))]:=rfl
 have key:∀ k,k<8->(vN d k).cps.toList=((cO d).drop (k%5)).take (1+k/5):=by
  intro k hk
  unfold vN j6
  rw [hc]
  rcases (by omega:k=0\/k=1\/k=2\/k=3\/k=4\/k=5\/k=6\/k=7) with rfl | rfl | rfl | rfl | rfl | rfl | rfl | rfl<;>rfl
 intro k hk
 have hl:(cO d).length=10:=by rw [hc]; rfl
 refine Du ?_ ?_ fun c h=>?_
 . rw [key k hk,List.length_take,List.length_drop,hl]; omega
 . rw [key k hk,List.length_take,List.length_drop,hl]; omega
 . rw [key k hk] at h
   have:=List.mem_of_mem_drop (List.mem_of_mem_take h)
   unfold cO at this
   obtain ⟨i,_,rfl⟩:=List.mem_map.mp this
   exact Dt _
theorem My {l:List Nat} {d:Int} {a:Nat} (h1:1<=l.length) (h8:l.length<=8) (h:∀ c∈l,tZ c=true) (k:Nat):nameB (nmE l d a k)=true:=by
 have e:(nmE l d a k).cps.toList=l.set a (LE (d/112+(0+k))):=by unfold nmE; simp
 refine Du ?_ ?_ fun c hc=>?_
 . rw [e,List.length_set]; exact h1
 . rw [e,List.length_set]; exact h8
 . rw [e] at hc
   rcases List.mem_or_eq_of_mem_set hc with h' | h'
   . exact h c h'
   . rw [h']; exact Dt _
theorem Mz {c n:Int} {mu:Mu} (hn0:0<=n) (hn:n<=8):∃ xs:List Str,kE [.int c,.int n] mu=some (.own (.lst (SS xs)),mu)/\xs.length=n.toNat/\xs.Nodup/\∀ x∈xs,nameB x=true:=by
 obtain ⟨d,hcc⟩:∃ d,c=d:=⟨c,rfl⟩
 have head:∀ (g:SF) R,g (NE d n (yO (SS [])) none none none none none mu)=R->(aK (aL 2 (eC (.str "abcdefghijklmnopqrstuvwxyz"))) (aK (aL 3 (ou ao)) g)) (env0 9 [.int c,.int n] mu)=R:=fun g R hg=>by
  subst hcc
  exact aG rfl (aG rfl hg)
 have t1:tT (aC eqP (aC cB (aa 0) (eC (.int 2))) (eC (.int 1))) aZ (NE d n (yO (SS [])) none none none none none mu)=some (d%2==1,NE d n (yO (SS [])) none none none none none mu):=rfl
 have rg:∀ l3 o4 o6 o7 o8,aU (aj (aa 1) ao) (NE d n l3 o4 none o6 o7 o8 mu)=some (cg 0 n.toNat,NE d n l3 o4 none o6 o7 o8 mu):=fun l3 o4 o6 o7 o8=>dB (l:=.sh (.int n)) rfl rfl (by omega) (by omega)
 cases h2:(d%2==1) with
 | true=>
  have ec:=letters (elt:=aF (aa 1) (aC cB (aC dO (aC dz (aa 2) (eC (.int 2))) (aC tE (eC (.int 3)) (aa 0))) (eC (.int 26)))) (c:=d) (k:=10) (mu:=mu) (g:=fun i:Nat=>LE (d/2+3*(0+i))) (by decide) (by decide) (fun i _=>lr (q:=.int ((d/2+3*(0+i))%26)) rfl rfl (by walk_at "ev") rfl (fun n h=>by cases h) (Dr (d/2+3*(0+i))))
  obtain ⟨t,rt,lt⟩:∃ t:Str,t=⟨(cO d).toArray⟩/\t.length<=100000:=⟨_,rfl,by show (cO d).toArray.size<=_; unfold cO; simp⟩
  have ej:∀ (fa:EF) (ρ ρ1:Ev) (m:Lc),fa ρ=some (m,ρ1)->m.pv=.lst (SS ((cO d).map one))->oV (eC (.str "")) (aj fa ao) ρ=some (.sh (.str t),ρ1):=fun fa ρ ρ1 m h hm=>by rw [rt]; exact FQ h hm (by unfold cO; simp)
  have hnm:∀ j:Nat,j6 t (some ((0+j:Int)%5)) (some ((0+j:Int)%5+1+(0+j:Int)/5))=vN d j:=fun j=>by rw [rt]; rfl
  clear rt
  have s4:aL 4 (oV (eC (.str "")) (aj (bh (aU (aj (eC (.int 10)) ao)) 1 [2,0] (au 0) bw (aF (aa 1) (aC cB (aC dO (aC dz (aa 2) (eC (.int 2))) (aC tE (eC (.int 3)) (aa 0))) (eC (.int 26))))) ao)) (NE d n (yO (SS [])) none none none none none mu)=some (.nx (NE d n (yO (SS [])) (zT t) none none none none mu)):=
   aQ (ej _ _ (NE d n (yO (SS [])) none none none none none mu) (.own (.lst (SS ((cO d).map one)))) ((cX (ρ1:=NE d n (yO (SS [])) none none none none none mu) (dB (l:=.sh (.int 10)) (n:=10) rfl rfl (by decide) (by decide)) ec).trans rfl) rfl) rfl rfl
  obtain ⟨ρ',ef,xs,o5,rfl,hx⟩:=jT (b:=au 5) (body:=lH 3 (oN (aa 4) (fC (aC cB (aa 5) (eC (.int 5)))) (fC (aC dO (aC dO (aC cB (aa 5) (eC (.int 5))) (eC (.int 1))) (aC dz (aa 5) (eC (.int 5))))))) (xs:=cg 0 n.toNat) (ρ:=NE d n (yO (SS [])) (zT t) none none none none mu)
   (fun i ρ=>∃ xs o5,ρ=NE d n (yO (SS xs)) (zT t) o5 none none none mu/\xs=(List.range i).map (vN d)) ⟨[],none,rfl,rfl⟩ (by
     rintro i x ρ hx ⟨xs,o5,rfl,hl⟩
     have hi:i<n.toNat:=by have:=(List.getElem?_eq_some_iff.mp hx).1; rw [gr] at this; exact this
     obtain ⟨j,rfl,rfl⟩:∃ j:Nat,j=i/\x=.int (0+(j:Int)):=⟨i,rfl,by unfold cg at hx; rw [List.getElem?_map,List.getElem?_range hi] at hx; cases hx; rfl⟩
     have hlx:xs.length=j:=by rw [hl]; simp
     have es:oN (aa 4) (fC (aC cB (aa 5) (eC (.int 5)))) (fC (aC dO (aC dO (aC cB (aa 5) (eC (.int 5))) (eC (.int 1))) (aC dz (aa 5) (eC (.int 5))))) (NE d n (yO (SS xs)) (zT t) (zI (0+j)) none none none mu)=some (.sh (.str (j6 t (some ((0+j:Int)%5)) (some ((0+j:Int)%5+1+(0+j:Int)/5)))),NE d n (yO (SS xs)) (zT t) (zI (0+j)) none none none mu):=by
      show (if t.length<=100000 then _ else none)=_
      rw [if_pos lt]
      rfl
     refine ⟨_,rfl,NE d n (some (.own (.lst (SS (xs++[j6 t (some ((0+j:Int)%5)) (some ((0+j:Int)%5+1+(0+j:Int)/5))]))))) (zT t) (zI (0+j)) none none none mu,.inl ((uD rfl es rfl rfl (by rw [List.length_map]; omega) rfl).trans ?_),_,_,rfl,by rw [hnm,hl,List.range_succ,List.map_append]; rfl⟩
     rw [← Ds]
     rfl)
  rw [gr] at hx
  have hnd:xs.Nodup:=by rw [hx]; exact nodup_range fun i j hi hj=>Qt i j (by omega) (by omega)
  have hnm2:∀ x∈xs,nameB x=true:=fun x h=>by
   rw [hx] at h
   obtain ⟨k,hk,rfl⟩:=List.mem_map.mp h
   exact Mx k (by have:=List.mem_range.mp hk; omega)
  have hx:xs.length=n.toNat:=by rw [hx]; simp
  refine ⟨xs,bB (ρ:=NE d n none (zT t) o5 none none none mu) (head _ _ (lq ((jG (t1.trans (by rw [h2]))).trans (aG s4 (aG (dU (rg _ _ _ _ _) ef) rfl))))),hx,hnd,hnm2⟩
 | false=>
  obtain ⟨m,hm0,hm8,em⟩:=U7 (c:=d/2)
  have s6:aL 6 (aF (ou (aj (eC (.int 1)) (aj (eC (.int 2)) (aj (eC (.int 3)) (aj (eC (.int 5)) (aj (eC (.int 6)) (aj (eC (.int 7)) (aj (eC (.int 8)) ao)))))))) (aC cB (aC dz (aa 0) (eC (.int 2))) (eC (.int 7)))) (NE d n (yO (SS [])) none none none none none mu)=some (.nx (NE d n (yO (SS [])) none none (zI m) none none mu)):=
   aQ (lr (l:=.own (.lst [.int 1,.int 2,.int 3,.int 5,.int 6,.int 7,.int 8])) (q:=.int (d/2%7)) rfl rfl rfl rfl (fun n h=>by cases h) em) rfl rfl
  have s7:aL 7 (aC cB (aC dz (aa 0) (eC (.int 14))) (aa 6)) (NE d n (yO (SS [])) none none (zI m) none none mu)=some (.nx (NE d n (yO (SS [])) none none (zI m) (zI (d/14%m)) none mu)):=
   aQ (bx rfl rfl rfl rfl (jg hm0)) rfl rfl
  have ha0:=Int.emod_nonneg (d/14) (b:=m) (by omega)
  have ha1:=Int.emod_lt_of_pos (d/14) (b:=m) hm0
  generalize d/14%m=at_ at s7 ha0 ha1
  have ec0:=letters (elt:=aF (aa 1) (aC cB (aC dO (aC dz (aa 2) (aC dO (aa 0) (eC (.int 1)))) (aC tE (aa 0) (aa 0))) (eC (.int 26)))) (c:=d) (k:=m) (mu:=mu) (g:=fun i:Nat=>LE (d/((0+i:Int)+1)+(0+i)*(0+i))) (by omega) (by omega) (fun i hi=>lr (q:=.int ((d/((0+i:Int)+1)+(0+i)*(0+i))%26)) rfl rfl (uC (uC (uC rfl rfl (qR (by omega) (by omega))) (uC rfl rfl (SM (by omega) (by omega))) rfl) rfl (jg (by decide))) rfl (fun n h=>by cases h) (Dr (d/((0+i:Int)+1)+(0+i)*(0+i))))
  obtain ⟨l,rl⟩:∃ l,l=(List.range m.toNat).map fun i:Nat=>LE (d/((0+i:Int)+1)+(0+i)*(0+i)):=⟨_,rfl⟩
  rw [← rl] at ec0
  have l1:l.length=m.toNat:=by rw [rl]; simp
  obtain ⟨ps,hps⟩:∃ ps,ps=SS (l.map one):=⟨_,rfl⟩
  have ec:=ec0
  rw [← hps] at ec
  have lps:ps.length=m.toNat:=by rw [hps,List.length_map,List.length_map,l1]
  obtain ⟨ρ',ef,xs,o5,o8,rfl,hx⟩:=jT (b:=au 5) (body:=aK (aL 8 (bh (aU (aj (aa 6) ao)) 1 [2,0] (au 0) bw (aF (aa 1) (aC cB (aC dO (aC dz (aa 2) (aC dO (aa 0) (eC (.int 1)))) (aC tE (aa 0) (aa 0))) (eC (.int 26))))))
   (aK (u6 8 (aa 7) (aF (aa 2) (aC cB (aC dO (aC dz (aa 0) (eC (.int 112))) (aa 5)) (eC (.int 26)))))
   (lH 3 (oV (eC (.str "")) (aj (aa 8) ao))))) (xs:=cg 0 n.toNat) (ρ:=NE d n (yO (SS [])) none none (zI m) (zI at_) none mu)
   (fun i ρ=>∃ xs o5 o8,ρ=NE d n (yO (SS xs)) none o5 (zI m) (zI at_) o8 mu/\xs=(List.range i).map (nmE l d at_.toNat)) ⟨[],none,none,rfl,rfl⟩ (by
     rintro i x ρ hx ⟨xs,o5,o8,rfl,hl⟩
     have hi:i<n.toNat:=by have:=(List.getElem?_eq_some_iff.mp hx).1; rw [gr] at this; exact this
     obtain ⟨j,rfl,rfl⟩:∃ j:Nat,j=i/\x=.int (0+(j:Int)):=⟨i,rfl,by unfold cg at hx; rw [List.getElem?_map,List.getElem?_range hi] at hx; cases hx; rfl⟩
     have hlx:xs.length=j:=by rw [hl]; simp
     obtain ⟨ch,hch,e⟩:∃ ch,ch=LE (d/112+(0+j))/\pH (.str LET) (.int ((d/112+(0+j))%26))=yS (.str ⟨#[ch]⟩):=⟨_,rfl,Dr _⟩
     obtain ⟨t,rt⟩:∃ t:Str,t=nmE l d at_.toNat j:=⟨_,rfl⟩
     have ej:∀ (fa:EF) (ρ ρ1:Ev) (m:Lc),fa ρ=some (m,ρ1)->m.pv=.lst (ps.set at_.toNat (.str ⟨#[ch]⟩))->oV (eC (.str "")) (aj fa ao) ρ=some (.sh (.str t),ρ1):=fun fa ρ ρ1 m h hm=>by
      rw [rt]
      rw [hps,Qv,hch] at hm
      exact FQ h hm (by rw [List.length_set,l1]; omega)
     have g1:aL 8 (bh (aU (aj (aa 6) ao)) 1 [2,0] (au 0) bw (aF (aa 1) (aC cB (aC dO (aC dz (aa 2) (aC dO (aa 0) (eC (.int 1)))) (aC tE (aa 0) (aa 0))) (eC (.int 26))))) (NE d n (yO (SS xs)) none (zI (0+j)) (zI m) (zI at_) o8 mu)=some (.nx (NE d n (yO (SS xs)) none (zI (0+j)) (zI m) (zI at_) (yO ps) mu)):=
      aQ ((cX (ρ1:=NE d n (yO (SS xs)) none (zI (0+j)) (zI m) (zI at_) o8 mu) (dB (l:=.sh (.int m)) (n:=m) rfl rfl (by omega) (by omega)) ec).trans rfl) rfl rfl
     have g2:u6 8 (aa 7) (aF (aa 2) (aC cB (aC dO (aC dz (aa 0) (eC (.int 112))) (aa 5)) (eC (.int 26)))) (NE d n (yO (SS xs)) none (zI (0+j)) (zI m) (zI at_) (yO ps) mu)=some (.nx (NE d n (yO (SS xs)) none (zI (0+j)) (zI m) (zI at_) (yO (ps.set at_.toNat (.str ⟨#[ch]⟩))) mu)):=by
      refine Qi (k:=at_) (j:=at_.toNat) (lr (q:=.int ((d/112+(0+j))%26)) rfl rfl rfl rfl (fun n h=>by cases h) e) rfl rfl rfl rfl rfl ?_ rfl
      unfold oX
      rw [if_pos ha0,if_pos (by omega)]
     refine ⟨_,rfl,NE d n (yO (SS (xs++[t]))) none (zI (0+j)) (zI m) (zI at_) (yL (ps.set at_.toNat (.str ⟨#[ch]⟩))) mu,.inl (aG g1 (aG g2 ((uD rfl (ej (aa 8) _ (NE d n (yO (SS xs)) none (zI (0+j)) (zI m) (zI at_) (yL (ps.set at_.toNat (.str ⟨#[ch]⟩))) mu) (.sh (.lst (ps.set at_.toNat (.str ⟨#[ch]⟩)))) rfl rfl) rfl rfl (by rw [List.length_map]; omega) rfl).trans ?_))),_,_,_,rfl,by rw [rt,hl,List.range_succ,List.map_append]; rfl⟩
     rw [← Ds]
     rfl)
  rw [gr] at hx
  have hnd:xs.Nodup:=by rw [hx]; exact nodup_range fun i j hi hj=>Qu (by omega) i j (by omega) (by omega)
  have hnm2:∀ x∈xs,nameB x=true:=fun x h=>by
   rw [hx] at h
   obtain ⟨k,hk,rfl⟩:=List.mem_map.mp h
   exact My (by omega) (by omega) (fun c hc=>by rw [rl] at hc; obtain ⟨i,_,rfl⟩:=List.mem_map.mp hc; exact Dt _) k
  have hx:xs.length=n.toNat:=by rw [hx]; simp
  exact ⟨xs,bB (ρ:=NE d n none none o5 (zI m) (zI at_) o8 mu) (head _ _ (aG ((cL (t1.trans (by rw [h2]))).trans rfl) (aG s6 (aG s7 (aG (dU (rg _ _ _ _ _) ef) rfl))))),hx,hnd,hnm2⟩
theorem ji {b:BF} {body:SF} {x:PV} {xs:List PV} {ρ ρ1 ρ2:Ev} {R:Option Fl} (h1:b x ρ=some ρ1) (h2:body ρ1=some (.nx ρ2)) (h3:eX b body xs ρ2=R):eX b body (x::xs) ρ=R:=by
 show (b x ρ).bind _=R
 rw [h1,Option.bind_some,h2,Option.bind_some]
 exact h3
theorem at0 {p:PV} {t:List PV}:gn (p::t) 0=some p:=by
 obtain ⟨x,h,h2⟩:=v8 (l:=p::t) (i:=0) (by decide) (by simp only [List.length_cons]; omega)
 rw [h,← h2]; rfl
theorem uO {α:Type} {l:List α} {p q:α->Bool} (h:∀ x,q x=true->p x=true) {x:α} (hx:x∈l) (h1:p x=true) (h2:q x=false):(l.filter q).length<(l.filter p).length:=by
 induction l with
 | nil=>cases hx
 | cons y ys ih=>
  have hle:∀ ys:List α,(ys.filter q).length<=(ys.filter p).length:=fun ys=>by
   induction ys with
   | nil=>exact Nat.le_refl _
   | cons z zs ihz=>
    rw [List.filter_cons,List.filter_cons]
    cases hq:q z with
    | true=>rw [h z hq]; simp only [if_true,List.length_cons]; omega
    | false=>cases hpz:p z<;>simp only [if_true,Bool.false_eq_true,if_false,List.length_cons]<;>omega
  rw [List.filter_cons,List.filter_cons]
  rcases List.mem_cons.mp hx with rfl | hx
  . rw [h1,h2]
    simp only [if_true,Bool.false_eq_true,if_false,List.length_cons]
    have:=hle ys
    omega
  . have:=ih hx
    cases hq:q y with
    | true=>rw [h y hq]; simp only [if_true,List.length_cons]; omega
    | false=>cases hpy:p y<;>simp only [if_true,Bool.false_eq_true,if_false,List.length_cons]<;>omega
noncomputable def hit (met:List Str) (q:Str×Str):Bool:=has met q.1&&!has met q.2
noncomputable def pass:List (Str×Str)->List Str->Bool->List Str×Bool
 | [],met,g=>(met,g)
 | q::r,met,g=>if hit met q then pass r (met++[q.2]) true else pass r met g
noncomputable def pK (ps:List (Str×Str)):Nat->List Str->List Str
 | 0,met=>met
 | n+1,met=>if (pass ps met false).2 then pK ps n (pass ps met false).1 else (pass ps met false).1
noncomputable def dg (ps:List (Str×Str)) (x:Str):List Str:=pK ps 69 [x]
noncomputable abbrev CE (N P:PV) (l2 l3 o4 o5:Option Lc) (mu:Mu):Ev:=⟨[yS N,yS P,l2,l3,o4,o5],mu⟩
noncomputable abbrev Vo:SF:=cG (pN (cQ (tT (aC jk (aa 4) (aa 2)) aZ) (tT (aC dN (aa 5) (aa 2)) aZ))) (aK (lH 2 (aa 5)) (aL 3 (eC (.bl true)))) bJ
theorem tR:∀ (ps:List (Str×Str)) (met:List Str) (g:Bool),(pass ps met g).1.length<=met.length+ps.length
 | [],met,g=>by simp [pass]
 | q::r,met,g=>by
  unfold pass
  split
  . have:=tR r (met++[q.2]) true
    simp at this ⊢; omega
  . have:=tR r met g
    simp at this ⊢; omega
theorem zf {N P:PV} {mu:Mu}:∀ (ps:List (Str×Str)) (met:List Str) (g:Bool) (o4 o5:Option Lc),met.length+ps.length<=10000->
 ∃ o4' o5',eX (gM 2 (bD (au 4) (bD (au 5) gK))) Vo (PP ps) (CE N P (yO (SS met)) (yS (.bl g)) o4 o5 mu)=some (.nx (CE N P (yO (SS (pass ps met g).1)) (yS (.bl (pass ps met g).2)) o4' o5' mu))
 | [],met,g,o4,o5,_=>⟨o4,o5,rfl⟩
 | q::r,met,g,o4,o5,hz=>by
  rw [List.length_cons] at hz
  have t1:pN (cQ (tT (aC jk (aa 4) (aa 2)) aZ) (tT (aC dN (aa 5) (aa 2)) aZ)) (CE N P (yO (SS met)) (yS (.bl g)) (yS (.str q.1)) (yS (.str q.2)) mu)=some (hit met q,CE N P (yO (SS met)) (yS (.bl g)) (yS (.str q.1)) (yS (.str q.2)) mu):=
   v9 (jO (bW (bx rfl rfl rfl rfl yd) rfl rfl) (bW (bx rfl rfl rfl rfl kO) rfl rfl))
  unfold pass
  cases hh:hit met q with
  | true=>
   obtain ⟨a,b,e⟩:=zf r (met++[q.2]) true (yS (.str q.1)) (yS (.str q.2)) (by simp; omega)
   refine ⟨a,b,?_⟩
   rw [if_pos rfl]
   refine ji rfl ((jG (t1.trans (by rw [hh]))).trans (aG (uD (l:=.sh (.str q.2)) rfl rfl rfl rfl (by rw [List.length_map]; omega) rfl) (aQ rfl rfl rfl))) ?_
   show eX _ _ _ (CE N P (yO (SS met++[.str q.2])) (yS (.bl true)) (yS (.str q.1)) (yS (.str q.2)) mu)=_
   rw [Ds]
   exact e
  | false=>
   obtain ⟨a,b,e⟩:=zf r met g (yS (.str q.1)) (yS (.str q.2)) (by omega)
   refine ⟨a,b,?_⟩
   rw [if_neg Bool.false_ne_true]
   exact ji rfl ((cL (t1.trans (by rw [hh]))).trans rfl) e
theorem mZ:∀ (ps:List (Str×Str)) (met:List Str) (g:Bool) (x:Str),x∈met->x∈(pass ps met g).1
 | [],met,g,x,h=>h
 | q::r,met,g,x,h=>by
  unfold pass
  split
  . exact mZ r _ _ x (List.mem_append_left _ h)
  . exact mZ r _ _ x h
theorem tU {P:Str->Prop}:∀ (ps:List (Str×Str)) (met:List Str) (g:Bool),(∀ q∈ps,P q.1->P q.2)->(∀ x∈met,P x)->∀ x∈(pass ps met g).1,P x
 | [],met,g,_,h=>h
 | q::r,met,g,hq,h=>by
  unfold pass
  split
  . rename_i hh
    refine tU r _ _ (fun q' h'=>hq q' (List.mem_cons_of_mem _ h')) fun x hx=>?_
    rcases List.mem_append.mp hx with hx | hx
    . exact h x hx
    . have e:x=q.2:=by simpa using hx
      subst e
      unfold hit at hh
      rw [Bool.and_eq_true] at hh
      exact hq q List.mem_cons_self (h _ (bu.mp hh.1))
  . exact tU r _ _ (fun q' h'=>hq q' (List.mem_cons_of_mem _ h')) h
theorem pR:∀ (ps:List (Str×Str)) (met:List Str) (g:Bool),met.Nodup->(pass ps met g).1.Nodup
 | [],met,g,h=>h
 | q::r,met,g,h=>by
  unfold pass
  split
  . rename_i hh
    unfold hit at hh
    rw [Bool.and_eq_true] at hh
    have hn:q.2∉met:=nO.mp (by simpa using hh.2)
    refine pR r _ _ (List.nodup_append.mpr ⟨h,by simp,?_⟩)
    rintro a ha b hb e
    have:b=q.2:=by simpa using hb
    subst this e
    exact hn ha
  . exact pR r _ _ h
theorem zg:∀ (ps:List (Str×Str)) (met:List Str),(pass ps met true).2=true
 | [],met=>rfl
 | q::r,met=>by
  unfold pass
  split
  . exact zg r _
  . exact zg r _
theorem FT:∀ (ps:List (Str×Str)) (met:List Str),(pass ps met false).2=false->(pass ps met false).1=met/\∀ q∈ps,q.1∈met->q.2∈met
 | [],met,_=>⟨rfl,fun q h=>by cases h⟩
 | q::r,met,h=>by
  unfold pass at h ⊢
  split at h
  . rw [zg] at h; cases h
  . rename_i hh
    obtain ⟨h1,h2⟩:=FT r met h
    rw [if_neg hh]
    refine ⟨h1,fun q' hq' h3=>?_⟩
    rcases List.mem_cons.mp hq' with rfl | hq'
    . refine Decidable.byContradiction fun h4=>hh ?_
      unfold hit
      rw [bu.mpr h3,nO.mpr h4]
      rfl
    . exact h2 q' hq' h3
theorem Dv:∀ (ps:List (Str×Str)) (met:List Str),(pass ps met false).2=true->∃ q∈ps,q.2∉met/\q.2∈(pass ps met false).1
 | [],met,h=>by cases h
 | q::r,met,h=>by
  unfold pass at h ⊢
  split at h
  . rename_i hh
    rw [if_pos hh]
    have hh':=hh
    unfold hit at hh'
    rw [Bool.and_eq_true] at hh'
    exact ⟨q,List.mem_cons_self,nO.mp (by simpa using hh'.2),mZ _ _ _ _ (List.mem_append_right _ (by simp))⟩
  . rename_i hh
    rw [if_neg hh]
    obtain ⟨q',h1,h2⟩:=Dv r met h
    exact ⟨q',List.mem_cons_of_mem _ h1,h2⟩
theorem Dw {ps:List (Str×Str)}:∀ (n:Nat) (met:List Str) (x:Str),x∈met->x∈pK ps n met
 | 0,met,x,h=>h
 | n+1,met,x,h=>by
  unfold pK
  split
  . exact Dw n _ x (mZ _ _ _ x h)
  . exact mZ _ _ _ x h
theorem zj {P:Str->Prop} {ps:List (Str×Str)} (hq:∀ q∈ps,P q.1->P q.2):∀ (n:Nat) (met:List Str),(∀ x∈met,P x)->∀ x∈pK ps n met,P x
 | 0,met,h=>h
 | n+1,met,h=>by
  unfold pK
  split
  . exact zj hq n _ (tU _ _ _ hq h)
  . exact tU _ _ _ hq h
theorem Aj {ps:List (Str×Str)}:∀ (n:Nat) (met:List Str),met.Nodup->(pK ps n met).Nodup
 | 0,met,h=>h
 | n+1,met,h=>by
  unfold pK
  split
  . exact Aj n _ (pR _ _ _ h)
  . exact pR _ _ _ h
noncomputable abbrev left (ps:List (Str×Str)) (met:List Str):Nat:=(ps.filter fun q=>!has met q.2).length
theorem FZ {ps:List (Str×Str)} {met:List Str} (h:(pass ps met false).2=true):left ps (pass ps met false).1<left ps met:=by
 obtain ⟨q,h1,h2,h3⟩:=Dv ps met h
 refine uO (fun x hx=>?_) h1 (by rw [nO.mpr h2]; rfl) (by rw [bu.mpr h3]; rfl)
 have h4:has (pass ps met false).1 x.2=false:=by simpa using hx
 rw [nO.mpr fun z=>nO.mp h4 (mZ _ _ _ _ z)]
 rfl
theorem yf {ps:List (Str×Str)}:∀ (n:Nat) (met:List Str),left ps met<n->∀ q∈ps,q.1∈pK ps n met->q.2∈pK ps n met
 | n+1,met,h=>by
  unfold pK
  split
  . rename_i hh
    exact yf n _ (by have:=FZ hh; omega)
  . rename_i hh
    have hh':(pass ps met false).2=false:=by simpa using hh
    obtain ⟨h1,h2⟩:=FT ps met hh'
    rw [h1]
    exact h2
noncomputable abbrev Dy:SF:=aK (aL 3 (eC (.bl false))) (d9 (dG (aa 1) bO) (gM 2 (bD (au 4) (bD (au 5) gK))) Vo)
theorem qN {N:PV} {ps:List (Str×Str)} {mu:Mu}:∀ (n:Nat) (met:List Str) (o4 o5:Option Lc),left ps met<n->met.length+n*ps.length<=10000->
 ∃ o4' o5',lN (tT (aa 3) aN) Dy (n+1) (CE N (.lst (PP ps)) (yO (SS met)) (yS (.bl true)) o4 o5 mu)=some (.nx (CE N (.lst (PP ps)) (yO (SS (pK ps n met))) (yS (.bl false)) o4' o5' mu))
 | n+1,met,o4,o5,hn,hl=>by
  have hp:=tR ps met false
  have e0:(n+1)*ps.length=n*ps.length+ps.length:=Nat.succ_mul _ _
  obtain ⟨a,b,e⟩:=zf (N:=N) (P:=.lst (PP ps)) (mu:=mu) ps met false o4 o5 (by omega)
  have hb:Dy (CE N (.lst (PP ps)) (yO (SS met)) (yS (.bl true)) o4 o5 mu)=some (.nx (CE N (.lst (PP ps)) (yO (SS (pass ps met false).1)) (yS (.bl (pass ps met false).2)) a b mu)):=
   aG (ρ':=CE N (.lst (PP ps)) (yO (SS met)) (yS (.bl false)) o4 o5 mu) (aQ rfl rfl rfl) (dU (ρ1:=CE N (.lst (PP ps)) (yO (SS met)) (yS (.bl false)) o4 o5 mu) (gF (l:=.sh (.lst (PP ps))) rfl rfl rfl) e)
  have hw:∀ (k:Nat),lN (tT (aa 3) aN) Dy (k+1) (CE N (.lst (PP ps)) (yO (SS met)) (yS (.bl true)) o4 o5 mu)=lN (tT (aa 3) aN) Dy k (CE N (.lst (PP ps)) (yO (SS (pass ps met false).1)) (yS (.bl (pass ps met false).2)) a b mu):=fun k=>by
   show ((tT (aa 3) aN _).bind _)=_
   rw [show tT (aa 3) aN (CE N (.lst (PP ps)) (yO (SS met)) (yS (.bl true)) o4 o5 mu)=some (true,CE N (.lst (PP ps)) (yO (SS met)) (yS (.bl true)) o4 o5 mu) from rfl,Option.bind_some,if_pos rfl,hb,Option.bind_some]
  unfold pK
  rw [hw]
  split
  . rename_i hh
    rw [hh]
    exact qN n _ a b (by have:=FZ hh; omega) (by omega)
  . rename_i hh
    have hh':(pass ps met false).2=false:=by simpa using hh
    rw [hh']
    exact ⟨a,b,rfl⟩
theorem Ie {x:Str} {ps:List (Str×Str)} {mu:Mu} (hl:ps.length<=68):pq [.str x,.lst (PP ps)] mu=some (.own (.lst (SS (dg ps x))),mu):=by
 obtain ⟨a,b,e⟩:=qN (N:=.str x) (ps:=ps) (mu:=mu) 69 [x] none none (by have:=List.length_filter_le (fun q:Str×Str=>!has [x] q.2) ps; show (ps.filter _).length<69; omega) (by simp; omega)
 exact bB (ρ:=CE (.str x) (.lst (PP ps)) none (yS (.bl false)) a b mu) (aG (ρ':=CE (.str x) (.lst (PP ps)) (yO (SS [x])) none none none mu) (aQ (CV (ls:=[.sh (.str x)]) rfl rfl rfl) rfl rfl) (aG (ρ':=CE (.str x) (.lst (PP ps)) (yO (SS [x])) (yS (.bl true)) none none mu) (aQ rfl rfl rfl) (aG e rfl)))
inductive Rt {α:Type} (E:α->α->Prop):α->α->Prop
 | refl (a:α):Rt E a a
 | step {a b c:α}:Rt E a b->E b c->Rt E a c
theorem Rt.trans {α:Type} {E:α->α->Prop} {a b c:α} (h:Rt E a b) (g:Rt E b c):Rt E a c:=by
 induction g with
 | refl=>exact h
 | step _ e ih=>exact ih.step e
theorem Rt.head {α:Type} {E:α->α->Prop} {a b c:α} (e:E a b) (g:Rt E b c):Rt E a c:=Rt.trans (.step (.refl a) e) g
theorem Rt.back {α:Type} {E:α->α->Prop} {a b:α} (h:Rt E a b):Rt (fun x y=>E y x) b a:=by
 induction h with
 | refl=>exact .refl _
 | step _ e ih=>exact .head e ih
theorem vq {ps:List (Str×Str)} {x y:Str} (hl:ps.length<=68):y∈dg ps x ↔ Rt (fun a b=>(a,b)∈ps) x y:=by
 constructor
 . refine zj (P:=fun y=>Rt (fun a b=>(a,b)∈ps) x y) (fun q hq h=>h.step hq) 69 [x] (fun z hz=>?_) y
   have:z=x:=by simpa using hz
   subst this
   exact .refl _
 . intro h
   induction h with
   | refl=>exact Dw 69 [x] x (by simp)
   | step _ e ih=>exact yf 69 [x] (by have:=List.length_filter_le (fun q:Str×Str=>!has [x] q.2) ps; show (ps.filter _).length<69; omega) _ e ih
theorem uP {ps:List (Str×Str)} {x:Str}:(dg ps x).Nodup:=Aj 69 [x] (by simp)
theorem Ga {ps:List (Str×Str)} {x:Str} (hl:ps.length<=68):(dg ps x).length<=10000:=by
 have:∀ (n:Nat) (met:List Str),(pK ps n met).length<=met.length+n*ps.length:=by
  intro n
  induction n with
  | zero=>intro met; simp [pK]
  | succ n ih=>
   intro met
   have e0:(n+1)*ps.length=n*ps.length+ps.length:=Nat.succ_mul _ _
   have hp:=tR ps met false
   unfold pK
   split
   . have:=ih (pass ps met false).1
     omega
   . omega
 have:=this 69 [x]
 simp only [List.length_singleton] at this
 unfold dg
 omega
theorem Dz {α β:Type}:∀ l:List (α×β),(l.map (·.1)).zip (l.map (·.2))=l
 | []=>rfl
 | x::l=>by rw [List.map_cons,List.map_cons,List.zip_cons_cons,Dz l]
theorem Qx {i:Nat} {fi fv:EF} {ρ ρ1 ρ2 ρ':Ev} {x y:Lc} {p:PV} {k:Key} {l0 l:PD} (h:fv ρ=some (x,ρ1)) (hxp:x.pv=p) (h0:ρ1.vs[i]?=some (some (.own (nu l0)))) (h2:fi ρ1=some (y,ρ2)) (hy:yJ y.pv=some k) (h1:ρ2.vs[i]?=some (some (.own (nu l)))) (hl:l.length<100000) (e:ρ2.set i (some (.own (nu (tK l k p))))=ρ'):xf i fi fv ρ=some (.nx ρ'):=by
 unfold xf
 rw [h,Option.bind_some]
 dsimp only
 rw [h0]
 unfold nu at *
 dsimp only
 rw [h2,Option.bind_some]
 dsimp only
 rw [hy,h1]
 dsimp only
 rw [List.length_map,if_pos hl,Dz,hxp]
 rw [← e]
theorem Qy {i:Nat} {fi:AF} {fv:EF} {ρ ρ1 ρ2 ρ':Ev} {x:Lc} {ys:List Lc} {p:PV} {k:List Key} {l0 l:iT} (h:fv ρ=some (x,ρ1)) (hxp:x.pv=p) (h0:ρ1.vs[i]?=some (some (.own (ik l0)))) (h2:fi ρ1=some (ys,ρ2)) (hy:vm (ys.map Lc.pv)=some k) (h1:ρ2.vs[i]?=some (some (.own (ik l)))) (hl:l.length<100000) (hk:k.length<=1000) (e:ρ2.set i (some (.own (ik (qG l k p))))=ρ'):xm i fi fv ρ=some (.nx ρ'):=by
 unfold xm
 rw [h,Option.bind_some]
 dsimp only
 rw [h0]
 unfold ik at *
 dsimp only
 rw [h2,Option.bind_some]
 dsimp only
 rw [hy,h1]
 dsimp only
 rw [List.length_map,if_pos ⟨hl,hk⟩,Dz,hxp]
 rw [← e]
theorem uQ {fa fb:EF} {ρ ρ1 ρ2:Ev} {l m:Lc} {d:PD} {x:Str} {p:PV} (h1:fa ρ=some (l,ρ1)) (hx:l.pv=.df (d.map (·.1)) (d.map (·.2))) (h2:fb ρ1=some (m,ρ2)) (hy:m.pv=.str x) (h3:mG d (.inr x)=some p):jz fa fb ρ=some (.sh p,ρ2):=by
 unfold jz
 rw [h1,Option.bind_some,h2,Option.bind_some]
 dsimp only
 rw [hx,hy]
 show (some (Sum.inr x:Key)).bind _=_
 rw [Option.bind_some,Dz,h3]
 rfl
noncomputable abbrev ab (ps:List (Str×Str)) (x:Str):Key×PV:=(.inr x,.lst (SS (dg ps x)))
noncomputable abbrev iZ (ps:List (Str×Str)) (l:List Str):PD:=l.map (ab ps)
theorem J9 {ps:List (Str×Str)} {x:Str}:∀ {l:List Str},x∉l->mG (iZ ps l) (.inr x)=none
 | [],_=>rfl
 | y::l,h=>by
  show (if (Sum.inr y:Key)=.inr x then _ else _)=_
  rw [if_neg (fun e=>h (by cases e; exact List.mem_cons_self))]
  exact J9 fun z=>h (List.mem_cons_of_mem _ z)
theorem pX {ps:List (Str×Str)} {x:Str}:∀ {l:List Str},x∈l->mG (iZ ps l) (.inr x)=some (.lst (SS (dg ps x)))
 | y::l,h=>by
  show (if (Sum.inr y:Key)=.inr x then _ else _)=_
  by_cases e:y=x
  . subst e
    rw [if_pos rfl]
  . rw [if_neg (fun e'=>e (by cases e'; rfl))]
    rcases List.mem_cons.mp h with h | h
    . exact absurd h.symm e
    . exact pX h
noncomputable abbrev AE (N P:PV) (l2 o3:Option Lc) (mu:Mu):Ev:=⟨[yS N,yS P,l2,o3],mu⟩
theorem yg {N:PV} {ps:List (Str×Str)} {mu:Mu} (hp:ps.length<=68):∀ (xs dn:List Str) (o3:Option Lc),(dn++xs).Nodup->dn.length+xs.length<=1000->
 ∃ o3',eX (au 3) (xf 2 (aa 3) (aM pq (aj (aa 3) (aj (aa 1) ao)))) (SS xs) (AE N (.lst (PP ps)) (some (.own (nu (iZ ps dn)))) o3 mu)=some (.nx (AE N (.lst (PP ps)) (some (.own (nu (iZ ps (dn++xs))))) o3' mu))
 | [],dn,o3,_,_=>⟨o3,by rw [List.append_nil]; rfl⟩
 | x::xs,dn,o3,hd,hl=>by
  rw [List.length_cons] at hl
  have hx:x∉dn:=fun h=>(List.nodup_append.mp hd).2.2 x h x List.mem_cons_self rfl
  obtain ⟨a,e⟩:=yg hp (N:=N) (mu:=mu) xs (dn++[x]) (zT x) (by rw [List.append_assoc]; exact hd) (by simp; omega)
  refine ⟨a,?_⟩
  rw [List.append_assoc] at e
  refine ji (ρ1:=AE N (.lst (PP ps)) (some (.own (nu (iZ ps dn)))) (zT x) mu) rfl (Qx (k:=.inr x) (l0:=iZ ps dn) (l:=iZ ps dn) (aX (r:=.own (.lst (SS (dg ps x)))) (mu:=mu) (az rfl (az rfl rfl)) rfl rfl rfl (Ie hp)) rfl rfl rfl rfl rfl (by rw [List.length_map]; omega) rfl) ?_
  have e2:tK (iZ ps dn) (.inr x) (.lst (SS (dg ps x)))=iZ ps (dn++[x]):=by
   unfold tK
   rw [J9 hx]
   show iZ ps dn++[ab ps x]=List.map (ab ps) (dn++[x])
   rw [List.map_append]
   rfl
  show eX _ _ _ (AE N (.lst (PP ps)) (some (.own (nu (tK (iZ ps dn) (.inr x) (.lst (SS (dg ps x))))))) (zT x) mu)=_
  rw [e2]
  exact e
theorem qO {names:List Str} {ps:List (Str×Str)} {mu:Mu} (hp:ps.length<=68) (hd:names.Nodup) (hl:names.length<=1000):dq [.lst (SS names),.lst (PP ps)] mu=some (.own (nu (iZ ps names)),mu):=by
 obtain ⟨a,e⟩:=yg hp (N:=.lst (SS names)) (mu:=mu) names [] none hd (by simpa using hl)
 exact bB (ρ:=AE (.lst (SS names)) (.lst (PP ps)) none a mu) (aG (ρ':=AE (.lst (SS names)) (.lst (PP ps)) (some (.own (nu (iZ ps [])))) none mu) (aQ rfl rfl rfl) (aG (dU (ρ1:=AE (.lst (SS names)) (.lst (PP ps)) (some (.own (nu (iZ ps [])))) none mu) (gF (l:=wS names) rfl rfl rfl) e) rfl))
noncomputable abbrev fZ (ps:List (Str×Str)):List (Str×Str):=ps.map fun q=>(q.2,q.1)
theorem sy {names:List Str} {ps:List (Str×Str)} {mu:Mu} (hp:ps.length<=68) (hd:names.Nodup) (hl:names.length<=1000):cN [.lst (SS names),.lst (PP ps)] mu=some (.own (nu (iZ (fZ ps) names)),mu):=by
 have c:dH (gM 2 (bD (au 0) (bD (au 1) gK))) bw (fO (aj (aa 1) (aj (aa 0) ao))) (PP ps) ⟨[none,none],mu⟩ []=some (PP (fZ ps),mu):=by
  have:=iR (b:=gM 2 (bD (au 0) (bD (au 1) gK))) (te:=fO (aj (aa 1) (aj (aa 0) ao))) (mu:=mu) (fun ρ=>∃ o p,ρ=⟨[o,p],mu⟩) (fun ρ ⟨o,p,e⟩=>by rw [e]) (fun p=>match p with | .tup [a,b]=>.tup [b,a] | _=>.non) (xs:=PP ps) (ρ:=⟨[none,none],mu⟩) ⟨none,none,rfl⟩ (by rw [List.length_map]; omega) (by
   rintro x hx ρ ⟨o,p,rfl⟩
   obtain ⟨⟨a,b⟩,_,rfl⟩:=List.mem_map.mp hx
   exact ⟨⟨[zT a,zT b],mu⟩,rfl,.sh (.tup [.str b,.str a]),⟨[zT a,zT b],mu⟩,lU (ls:=[.sh (.str b),.sh (.str a)]) rfl rfl rfl,rfl,_,_,rfl⟩) (by
   rintro x hx ρ ρ1 ⟨o,p,rfl⟩ e
   obtain ⟨⟨a,b⟩,_,rfl⟩:=List.mem_map.mp hx
   cases e
   exact ⟨_,_,rfl⟩)
  rw [this]
  unfold PP fZ
  rw [List.map_map,List.map_map]
  rfl
 refine bB (ρ:=⟨[zS names,zP ps],mu⟩) (dR (aX (ls:=[wS names,.own (.lst (PP (fZ ps)))]) (ps:=[.lst (SS names),.lst (PP (fZ ps))]) (mu:=mu) (az (ρ1:=⟨[zS names,zP ps],mu⟩) rfl (az (l:=.own (.lst (PP (fZ ps)))) (ls:=[]) ((cX (ρ1:=⟨[zS names,zP ps],mu⟩) (gF (l:=.sh (.lst (PP ps))) rfl rfl rfl) c).trans rfl) rfl)) rfl rfl rfl (qO (by rw [List.length_map]; exact hp) hd hl)))
theorem Ak {α:Type} {f:α->Bool}:∀ l:List α,Su (.lst (l.map fun x=>.bl (f x)))=yS (.bl (l.all f)):=by
 intro l
 have h:∀ l:List α,boolsOf (l.map fun x=>PV.bl (f x))=some (l.map f):=by
  intro l
  induction l with
  | nil=>rfl
  | cons x l ih=>
   show (boolsOf (l.map fun x=>PV.bl (f x))).map _=_
   rw [ih]
   rfl
 show (boolsOf (l.map fun x=>PV.bl (f x))).map _=_
 rw [h,Option.map_some,List.all_map]
 rfl
noncomputable abbrev DF (ps:List (Str×Str)) (names:List Str):PV:=.df ((iZ ps names).map (·.1)) ((iZ ps names).map (·.2))
noncomputable def shd (ps:List (Str×Str)) (a b:Str):List Str:=(dg ps a).filter (has (dg ps b))
noncomputable def good (ps:List (Str×Str)) (a b r:Str):Bool:=(shd ps a b).all (has (dg ps r))
noncomputable def bnd (ps:List (Str×Str)) (a b:Str):PV:=match (shd ps a b).find? (good ps a b) with
 | some r=>.str r
 | none=>.non
noncomputable abbrev BE (D A B:PV) (l3 o4:Option Lc) (mu:Mu):Ev:=⟨[yS D,yS A,yS B,l3,o4],mu⟩
theorem jc {ps:List (Str×Str)} {names:List Str} (hc:∀ q∈ps,q.2∈names) {a x:Str} (ha:a∈names):x∈dg ps a->x∈names:=by
 refine zj (P:=fun y=>y∈names) (fun q hq _=>hc q hq) 69 [a] (fun z hz=>?_) x
 have:z=a:=by simpa using hz
 subst this
 exact ha
noncomputable abbrev Oe:SF:=cG (tT (eB all1 (aj (bh (dG (aa 3) bO) 1 [0,4] (au 0) bw (aC jk (aa 0) (jz (aa 1) (aa 2)))) ao)) aN) (jE 4) bJ
theorem Ka {b:BF} {body:SF} {x:PV} {xs:List PV} {ρ ρ1 ρ2:Ev} {r:Lc} (h1:b x ρ=some ρ1) (h2:body ρ1=some (.rt r ρ2)):eX b body (x::xs) ρ=some (.rt r ρ2):=by
 show (b x ρ).bind _=_
 rw [h1,Option.bind_some,h2,Option.bind_some]
theorem yh {ps:List (Str×Str)} {names:List Str} {a b:Str} {mu:Mu} (hl:(shd ps a b).length<=10000):∀ (xs:List Str) (o4:Option Lc),(∀ x∈xs,x∈names)->
 (match xs.find? (good ps a b) with
   | some r=>∃ ρ',eX (au 4) Oe (SS xs) (BE (DF ps names) (.str a) (.str b) (zS (shd ps a b)) o4 mu)=some (.rt (.sh (.str r)) ρ')/\ρ'.mu=mu
   | none=>∃ o4',eX (au 4) Oe (SS xs) (BE (DF ps names) (.str a) (.str b) (zS (shd ps a b)) o4 mu)=some (.nx (BE (DF ps names) (.str a) (.str b) (zS (shd ps a b)) o4' mu)))
 | [],o4,_=>⟨o4,rfl⟩
 | x::xs,o4,hx=>by
  have c:dH (au 0) bw (aC jk (aa 0) (jz (aa 1) (aa 2))) (SS (shd ps a b)) ⟨[none,yS (DF ps names),zT x],mu⟩ []=some ((shd ps a b).map fun y=>.bl (has (dg ps x) y),mu):=by
   have:=iR (b:=au 0) (te:=aC jk (aa 0) (jz (aa 1) (aa 2))) (mu:=mu) (fun ρ=>∃ o,ρ=⟨[o,yS (DF ps names),zT x],mu⟩) (fun ρ ⟨o,e⟩=>by rw [e]) (fun p=>match p with | .str y=>.bl (has (dg ps x) y) | _=>.non) (xs:=SS (shd ps a b)) (ρ:=⟨[none,yS (DF ps names),zT x],mu⟩) ⟨none,rfl⟩ (by rw [List.length_map]; omega) (by
    rintro z hz ρ ⟨o,rfl⟩
    obtain ⟨y,_,rfl⟩:=List.mem_map.mp hz
    exact ⟨⟨[zT y,yS (DF ps names),zT x],mu⟩,rfl,_,_,bx rfl rfl (uQ (d:=iZ ps names) rfl rfl rfl rfl (pX (hx x List.mem_cons_self))) rfl yd,rfl,_,rfl⟩) (by
    rintro z hz ρ ρ1 ⟨o,rfl⟩ e
    cases e
    exact ⟨_,rfl⟩)
   rw [this,List.map_map]
   rfl
  have t1:tT (eB all1 (aj (bh (dG (aa 3) bO) 1 [0,4] (au 0) bw (aC jk (aa 0) (jz (aa 1) (aa 2)))) ao)) aN (BE (DF ps names) (.str a) (.str b) (zS (shd ps a b)) (zT x) mu)=some (good ps a b x,BE (DF ps names) (.str a) (.str b) (zS (shd ps a b)) (zT x) mu):=
   bW (yI (ls:=[.own (.lst ((shd ps a b).map fun y=>.bl (has (dg ps x) y)))]) (az ((cX (ρ1:=BE (DF ps names) (.str a) (.str b) (zS (shd ps a b)) (zT x) mu) (gF (l:=wS (shd ps a b)) rfl rfl rfl) c).trans rfl) rfl) rfl (Ak (f:=has (dg ps x)) (shd ps a b))) rfl rfl
  rw [List.find?_cons]
  cases hg:good ps a b x with
  | true=>
   obtain ⟨ρ',e1,e2⟩:∃ ρ',jE 4 (BE (DF ps names) (.str a) (.str b) (zS (shd ps a b)) (zT x) mu)=some (.rt (.sh (.str x)) ρ')/\ρ'.mu=mu:=⟨_,rfl,rfl⟩
   exact ⟨ρ',Ka rfl ((jG (t1.trans (by rw [hg]))).trans e1),e2⟩
  | false=>
   have ih:=yh (ps:=ps) (names:=names) (a:=a) (b:=b) (mu:=mu) hl xs (zT x) fun y hy=>hx y (List.mem_cons_of_mem _ hy)
   dsimp only
   have e:eX (au 4) Oe (SS (x::xs)) (BE (DF ps names) (.str a) (.str b) (zS (shd ps a b)) o4 mu)=eX (au 4) Oe (SS xs) (BE (DF ps names) (.str a) (.str b) (zS (shd ps a b)) (zT x) mu):=ji rfl ((cL (t1.trans (by rw [hg]))).trans rfl) rfl
   rw [e]
   exact ih
theorem MF {ps:List (Str×Str)} {names:List Str} {a b:Str} {mu:Mu} (hp:ps.length<=68) (hc:∀ q∈ps,q.2∈names) (ha:a∈names) (hb:b∈names):pW [DF ps names,.str a,.str b] mu=some (.sh (bnd ps a b),mu):=by
 have hl:(shd ps a b).length<=10000:=Nat.le_trans (List.length_filter_le _ _) (Ga hp)
 have c:dH (au 0) (tT (aC jk (aa 0) (jz (aa 1) (aa 2))) aZ) (aa 0) (SS (dg ps a)) ⟨[none,yS (DF ps names),zT b],mu⟩ []=some (SS (shd ps a b),mu):=by
  have:=j9 (b:=au 0) (tc:=tT (aC jk (aa 0) (jz (aa 1) (aa 2))) aZ) (te:=aa 0) (mu:=mu) (fun ρ=>∃ o,ρ=⟨[o,yS (DF ps names),zT b],mu⟩) (fun ρ ⟨o,e⟩=>by rw [e]) (fun p=>match p with | .str y=>has (dg ps b) y | _=>false) (fun p=>p) (xs:=SS (dg ps a)) (ρ:=⟨[none,yS (DF ps names),zT b],mu⟩) (acc:=[]) ⟨none,rfl⟩ (by have:=Ga (x:=a) hp; simp; omega) (by
   rintro z hz ρ ⟨o,rfl⟩
   obtain ⟨y,_,rfl⟩:=List.mem_map.mp hz
   exact ⟨⟨[zT y,yS (DF ps names),zT b],mu⟩,rfl,_,bW (bx rfl rfl (uQ (d:=iZ ps names) rfl rfl rfl rfl (pX hb)) rfl yd) rfl rfl,⟨_,rfl⟩,fun _=>⟨_,_,rfl,rfl,_,rfl⟩⟩)
  rw [this,List.nil_append,List.filter_map,List.map_map]
  rfl
 have s3:aL 3 (bh (dG (jz (aa 0) (aa 1)) bO) 1 [0,2] (au 0) (tT (aC jk (aa 0) (jz (aa 1) (aa 2))) aZ) (aa 0)) (BE (DF ps names) (.str a) (.str b) none none mu)=some (.nx (BE (DF ps names) (.str a) (.str b) (yO (SS (shd ps a b))) none mu)):=
  aQ ((cX (ρ1:=BE (DF ps names) (.str a) (.str b) none none mu) (gF (l:=wS (dg ps a)) (uQ (d:=iZ ps names) rfl rfl rfl rfl (pX ha)) rfl rfl) c).trans rfl) rfl rfl
 have lp:=yh (ps:=ps) (names:=names) (a:=a) (b:=b) (mu:=mu) hl (shd ps a b) none fun x hx=>jc hc ha (List.mem_filter.mp hx).1
 have it:dG (aa 3) bO (BE (DF ps names) (.str a) (.str b) (yO (SS (shd ps a b))) none mu)=some (SS (shd ps a b),BE (DF ps names) (.str a) (.str b) (zS (shd ps a b)) none mu):=gF (l:=wS (shd ps a b)) rfl rfl rfl
 unfold bnd
 cases hf:(shd ps a b).find? (good ps a b) with
 | some r=>
  rw [hf] at lp
  obtain ⟨ρ',e,hm⟩:=lp
  have:pW [DF ps names,.str a,.str b] mu=some (.sh (.str r),ρ'.mu):=bB (ρ:=ρ') (aG s3 (lq (dU it e)))
  rw [hm] at this
  exact this
 | none=>
  rw [hf] at lp
  obtain ⟨o4,e⟩:=lp
  exact bB (ρ:=BE (DF ps names) (.str a) (.str b) (zS (shd ps a b)) o4 mu) (aG s3 (aG (dU it e) rfl))
noncomputable abbrev en (ps:List (Str×Str)) (a b:Str):List Key×PV:=([.inr a,.inr b],bnd ps a b)
noncomputable def Tb (ps:List (Str×Str)) (names:List Str) (l:iT):Prop:=∀ e∈l,∃ a∈names,∃ b∈names,e=en ps a b
theorem DG {k:List Key} {p:PV}:∀ {l:iT},mH l k=some p->(k,p)∈l
 | kv::r,h=>by
  unfold mH at h
  split at h
  . rename_i e
    cases h
    subst e
    exact List.mem_cons_self
  . exact List.mem_cons_of_mem _ (DG h)
theorem DK {k:List Key} {p:PV}:∀ {l:iT},(∀ e∈l,e.1=k->e.2=p)->xj k p l=l
 | [],_=>rfl
 | kv::r,h=>by
  unfold xj
  rw [DK fun e he=>h e (List.mem_cons_of_mem _ he)]
  by_cases e:kv.1=k
  . rw [if_pos e]
    have:=h kv List.mem_cons_self e
    rw [← this]
  . rw [if_neg e]
theorem Qz {ps:List (Str×Str)} {names:List Str} {l:iT} {a b:Str} (h:Tb ps names l) (ha:a∈names) (hb:b∈names):Tb ps names (qG l [.inr a,.inr b] (bnd ps a b))/\en ps a b∈qG l [.inr a,.inr b] (bnd ps a b)/\(∀ e∈l,e∈qG l [.inr a,.inr b] (bnd ps a b))/\(qG l [.inr a,.inr b] (bnd ps a b)).length<=l.length+1:=by
 have hv:∀ e∈l,e.1=[.inr a,.inr b]->e.2=bnd ps a b:=by
  intro e he e1
  obtain ⟨a',_,b',_,rfl⟩:=h e he
  cases e1
  rfl
 unfold qG
 cases hh:mH l [.inr a,.inr b] with
 | some p=>
  have hm:=DG hh
  have hp:=hv _ hm rfl
  dsimp only at hp ⊢
  subst hp
  rw [DK hv]
  exact ⟨h,hm,fun e he=>he,by omega⟩
 | none=>
  dsimp only
  refine ⟨fun e he=>?_,List.mem_append_right _ (by simp),fun e he=>List.mem_append_left _ he,by simp⟩
  rcases List.mem_append.mp he with he | he
  . exact h e he
  . have:e=en ps a b:=by simpa using he
    exact ⟨a,ha,b,hb,this⟩
noncomputable abbrev BB (D:PV) (l1 o2 o3:Option Lc) (mu:Mu):Ev:=⟨[yS D,l1,o2,o3],mu⟩
noncomputable abbrev Vp:SF:=xm 1 (aj (aa 2) (aj (aa 3) ao)) (aM pW (aj (aa 0) (aj (aa 2) (aj (aa 3) ao))))
theorem Al {ps:List (Str×Str)} {names:List Str} {a:Str} {mu:Mu} (hp:ps.length<=68) (hc:∀ q∈ps,q.2∈names) (ha:a∈names):∀ (xs:List Str) (l:iT) (o3:Option Lc),(∀ x∈xs,x∈names)->Tb ps names l->l.length+xs.length<=10000->
 ∃ l' o3',eX (au 3) Vp (SS xs) (BB (DF ps names) (some (.own (ik l))) (zT a) o3 mu)=some (.nx (BB (DF ps names) (some (.own (ik l'))) (zT a) o3' mu))/\Tb ps names l'/\(∀ e∈l,e∈l')/\(∀ x∈xs,en ps a x∈l')/\l'.length<=l.length+xs.length
 | [],l,o3,_,h,_=>⟨l,o3,rfl,h,fun e he=>he,fun x hx=>(by cases hx),by simp⟩
 | x::xs,l,o3,hx,h,hl=>by
  rw [List.length_cons] at hl
  obtain ⟨h1,h2,h3,h4⟩:=Qz h ha (hx x List.mem_cons_self)
  obtain ⟨l',o',e,h5,h6,h7,h8⟩:=Al hp hc ha (mu:=mu) xs _ (zT x) (fun y hy=>hx y (List.mem_cons_of_mem _ hy)) h1 (by omega)
  refine ⟨l',o',?_,h5,fun e he=>h6 e (h3 e he),fun y hy=>?_,by rw [List.length_cons]; omega⟩
  . refine ji (ρ1:=BB (DF ps names) (some (.own (ik l))) (zT a) (zT x) mu) rfl (Qy (k:=[.inr a,.inr x]) (l0:=l) (l:=l) (aX (r:=.sh (bnd ps a x)) (mu:=mu) (az rfl (az rfl (az rfl rfl))) rfl rfl rfl (MF hp hc ha (hx x List.mem_cons_self))) rfl rfl (az rfl (az rfl rfl)) rfl rfl (by omega) (by show 2<=1000; decide) rfl) ?_
    exact e
  . rcases List.mem_cons.mp hy with rfl | hy
    . exact h6 _ h2
    . exact h7 y hy
theorem Gb {ps:List (Str×Str)} {names:List Str} {l1 o2 o3:Option Lc} {mu:Mu}:JV (aa 0) (BB (DF ps names) l1 o2 o3 mu)=some (SS names,BB (DF ps names) l1 o2 o3 mu):=by
 have e:(((iZ ps names).map (·.1)).map vM)=SS names:=by
  unfold iZ
  rw [List.map_map,List.map_map]
  rfl
 show some (((iZ ps names).map (·.1)).map vM,BB (DF ps names) l1 o2 o3 mu)=_
 rw [e]
theorem yj {ps:List (Str×Str)} {names:List Str} {mu:Mu} (hp:ps.length<=68) (hc:∀ q∈ps,q.2∈names) (hn:names.length<=50):∀ (xs:List Str) (l:iT) (o2 o3:Option Lc),(∀ x∈xs,x∈names)->Tb ps names l->l.length+xs.length*names.length<=10000->
 ∃ l' o2' o3',eX (au 2) (d9 (JV (aa 0)) (au 3) Vp) (SS xs) (BB (DF ps names) (some (.own (ik l))) o2 o3 mu)=some (.nx (BB (DF ps names) (some (.own (ik l'))) o2' o3' mu))/\Tb ps names l'/\(∀ e∈l,e∈l')/\(∀ x∈xs,∀ y∈names,en ps x y∈l')/\l'.length<=l.length+xs.length*names.length
 | [],l,o2,o3,_,h,_=>⟨l,o2,o3,rfl,h,fun e he=>he,fun x hx=>(by cases hx),by simp⟩
 | x::xs,l,o2,o3,hx,h,hl=>by
  have e0:(xs.length+1)*names.length=xs.length*names.length+names.length:=Nat.succ_mul _ _
  rw [List.length_cons,e0] at hl
  obtain ⟨l1,o1,e1,h1,h2,h3,h4⟩:=Al hp hc (hx x List.mem_cons_self) (mu:=mu) names l o3 (fun y hy=>hy) h (by omega)
  obtain ⟨l',o',o'',e,h5,h6,h7,h8⟩:=yj hp hc hn (mu:=mu) xs l1 (zT x) o1 (fun y hy=>hx y (List.mem_cons_of_mem _ hy)) h1 (by omega)
  refine ⟨l',o',o'',?_,h5,fun e he=>h6 e (h2 e he),fun y hy z hz=>?_,by rw [List.length_cons,e0]; omega⟩
  . exact ji (ρ1:=BB (DF ps names) (some (.own (ik l))) (zT x) o3 mu) rfl (dU Gb e1) e
  . rcases List.mem_cons.mp hy with rfl | hy
    . exact h6 _ (h3 z hz)
    . exact h7 y hy z hz
theorem uR {ps:List (Str×Str)} {names:List Str} {mu:Mu} (hp:ps.length<=68) (hc:∀ q∈ps,q.2∈names) (hn:names.length<=50):∃ l,jh [DF ps names] mu=some (.own (ik l),mu)/\Tb ps names l/\∀ x∈names,∀ y∈names,en ps x y∈l:=by
 have hh:names.length*names.length<=50*50:=Nat.mul_le_mul hn hn
 obtain ⟨l,o2,o3,e,h1,h2,h3,h4⟩:=yj hp hc hn (mu:=mu) names [] none none (fun y hy=>hy) (fun e he=>(by cases he)) (by simp; omega)
 refine ⟨l,?_,h1,h3⟩
 exact bB (ρ:=BB (DF ps names) none o2 o3 mu) (aG (ρ':=BB (DF ps names) (some (.own (ik []))) none none mu) (aQ rfl rfl rfl) (aG (dU Gb e) rfl))
noncomputable abbrev Gd (e:List Key×PV):PV:=.tup [.tup (e.1.map vM),e.2]
theorem Am:∀ l:iT,ph (l.map (·.1)) (l.map (·.2))=l.map Gd
 | []=>rfl
 | x::l=>by
  show PV.tup [.tup (x.1.map vM),x.2]::ph (l.map (·.1)) (l.map (·.2))=_
  rw [Am l]
  rfl
theorem Kc {ps:List (Str×Str)} {a b:Str}:(tB (bnd ps a b)=true/\bnd ps a b=.non)\/(tB (bnd ps a b)=false/\bnd ps a b≠.non):=by
 unfold bnd
 split
 . exact .inr ⟨rfl,fun h=>by cases h⟩
 . exact .inl ⟨rfl,rfl⟩
noncomputable abbrev UE (D:PV) (o1 o2:Option Lc) (mu:Mu):Ev:=⟨[yS D,o1,o2],mu⟩
noncomputable abbrev Og:SF:=cG (tT (aC tD (aa 2) (eC .non)) aZ) (jE 1) bJ
theorem uT {ps:List (Str×Str)} {names:List Str} {D:PV} {mu:Mu}:∀ (l:iT) (o1 o2:Option Lc),Tb ps names l->
 (∃ o1' o2',eX (gM 2 (bD (au 1) (bD (au 2) gK))) Og (l.map Gd) (UE D o1 o2 mu)=some (.nx (UE D o1' o2' mu))/\∀ e∈l,e.2≠.non)\/
 (∃ ρ' a b,eX (gM 2 (bD (au 1) (bD (au 2) gK))) Og (l.map Gd) (UE D o1 o2 mu)=some (.rt (.sh (.tup [.str a,.str b])) ρ')/\ρ'.mu=mu/\a∈names/\b∈names/\bnd ps a b=.non)
 | [],o1,o2,_=>.inl ⟨o1,o2,rfl,fun e he=>(by cases he)⟩
 | e::l,o1,o2,h=>by
  obtain ⟨a,ha,b,hb,rfl⟩:=h e List.mem_cons_self
  have t1:tT (aC tD (aa 2) (eC .non)) aZ (UE D (yS (.tup [.str a,.str b])) (yS (bnd ps a b)) mu)=some (tB (bnd ps a b),UE D (yS (.tup [.str a,.str b])) (yS (bnd ps a b)) mu):=bW (l:=.sh (.bl (tB (bnd ps a b)))) (bx rfl rfl rfl rfl rfl) rfl rfl
  rcases Kc (ps:=ps) (a:=a) (b:=b) with ⟨hb1,hz⟩ | ⟨hb1,hz⟩
  . rw [hb1] at t1
    obtain ⟨ρ',e1,e2⟩:∃ ρ',jE 1 (UE D (yS (.tup [.str a,.str b])) (yS (bnd ps a b)) mu)=some (.rt (.sh (.tup [.str a,.str b])) ρ')/\ρ'.mu=mu:=⟨_,rfl,rfl⟩
    exact .inr ⟨ρ',a,b,Ka rfl ((jG t1).trans e1),e2,ha,hb,hz⟩
  . rw [hb1] at t1
    have e1:eX (gM 2 (bD (au 1) (bD (au 2) gK))) Og ((en ps a b::l).map Gd) (UE D o1 o2 mu)=eX (gM 2 (bD (au 1) (bD (au 2) gK))) Og (l.map Gd) (UE D (yS (.tup [.str a,.str b])) (yS (bnd ps a b)) mu):=ji rfl ((cL t1).trans rfl) rfl
    rw [e1]
    rcases uT (D:=D) (mu:=mu) l (yS (.tup [.str a,.str b])) (yS (bnd ps a b)) (fun e he=>h e (List.mem_cons_of_mem _ he)) with ⟨p,q,h1,h2⟩ | r
    . refine .inl ⟨p,q,h1,fun e he=>?_⟩
      rcases List.mem_cons.mp he with rfl | he
      . exact hz
      . exact h2 e he
    . exact .inr r
theorem ym {ps:List (Str×Str)} {names:List Str} {mu:Mu} (hp:ps.length<=68) (hc:∀ q∈ps,q.2∈names) (hn:names.length<=50):
 (gm [DF ps names] mu=some (.sh .non,mu)/\∀ a∈names,∀ b∈names,bnd ps a b≠.non)\/∃ a∈names,∃ b∈names,gm [DF ps names] mu=some (.sh (.tup [.str a,.str b]),mu)/\bnd ps a b=.non:=by
 obtain ⟨l,e,h1,h2⟩:=uR (mu:=mu) hp hc hn
 have it:HB (Hx (aM jh (aj (aa 0) ao))) (UE (DF ps names) none none mu)=some (l.map Gd,UE (DF ps names) none none mu):=by
  have e1:aM jh (aj (aa 0) ao) (UE (DF ps names) none none mu)=some (.own (ik l),UE (DF ps names) none none mu):=aX (az rfl rfl) rfl rfl rfl e
  unfold HB Hx
  rw [e1]
  show (if (l.map (·.2)).length=(l.map (·.1)).length then some (ph (l.map (·.1)) (l.map (·.2)),UE (DF ps names) none none mu) else none)=_
  rw [if_pos (by simp),Am]
 rcases uT (D:=DF ps names) (mu:=mu) l none none h1 with ⟨o1,o2,h3,h4⟩ | ⟨ρ',a,b,h3,h4,ha,hb,h5⟩
 . exact .inl ⟨bB (ρ:=UE (DF ps names) o1 o2 mu) (aG (dU it h3) rfl),fun a ha b hb=>h4 _ (h2 a ha b hb)⟩
 . refine .inr ⟨a,ha,b,hb,?_,h5⟩
   have:gm [DF ps names] mu=some (.sh (.tup [.str a,.str b]),ρ'.mu):=bB (lq (dU it h3))
   rw [h4] at this
   exact this
noncomputable def TX (names:List Str) (ps:List (Str×Str)) (l:PV):Prop:=
 (l=.non/\(∀ a∈names,∀ b∈names,bnd ps a b≠.non)/\∀ a∈names,∀ b∈names,bnd (fZ ps) a b≠.non)\/
 (∃ a∈names,∃ b∈names,l=.tup [.str "join",.str a,.str b]/\bnd ps a b=.non)\/
 (∃ a∈names,∃ b∈names,l=.tup [.str "meet",.str a,.str b]/\bnd (fZ ps) a b=.non)
noncomputable abbrev j4 (N P:PV) (o2:Option Lc) (mu:Mu):Ev:=⟨[yS N,yS P,o2],mu⟩
theorem Ig {ps:List (Str×Str)} {names:List Str} {mu:Mu} (hp:ps.length<=68) (hc:∀ q∈ps,q.1∈names/\q.2∈names) (hd:names.Nodup) (hn:names.length<=50):∃ l,fM [.lst (SS names),.lst (PP ps)] mu=some (.sh l,mu)/\TX names ps l:=by
 have hp':(fZ ps).length<=68:=by rw [List.length_map]; exact hp
 have hc':∀ q∈fZ ps,q.2∈names:=fun q hq=>by
  obtain ⟨q',hq',rfl⟩:=List.mem_map.mp hq
  exact (hc q' hq').1
 have fz1:∀ o2,o9 (aM dq (aj (aa 0) (aj (aa 1) ao))) (j4 (.lst (SS names)) (.lst (PP ps)) o2 mu)=some (.sh (DF ps names),j4 (.lst (SS names)) (.lst (PP ps)) o2 mu):=fun o2=>by
  have e1:aM dq (aj (aa 0) (aj (aa 1) ao)) (j4 (.lst (SS names)) (.lst (PP ps)) o2 mu)=some (.own (nu (iZ ps names)),j4 (.lst (SS names)) (.lst (PP ps)) o2 mu):=aX (az rfl (az rfl rfl)) rfl rfl rfl (qO hp hd (by omega))
  unfold o9
  rw [e1]
  rfl
 have fz2:∀ o2,o9 (aM cN (aj (aa 0) (aj (aa 1) ao))) (j4 (.lst (SS names)) (.lst (PP ps)) o2 mu)=some (.sh (DF (fZ ps) names),j4 (.lst (SS names)) (.lst (PP ps)) o2 mu):=fun o2=>by
  have e1:aM cN (aj (aa 0) (aj (aa 1) ao)) (j4 (.lst (SS names)) (.lst (PP ps)) o2 mu)=some (.own (nu (iZ (fZ ps) names)),j4 (.lst (SS names)) (.lst (PP ps)) o2 mu):=aX (az rfl (az rfl rfl)) rfl rfl rfl (sy hp hd (by omega))
  unfold o9
  rw [e1]
  rfl
 rcases ym (mu:=mu) hp (fun q hq=>(hc q hq).2) hn with ⟨u1,h1⟩ | ⟨a,ha,b,hb,u1,h1⟩
 . have s1:aL 2 (aM gm (aj (o9 (aM dq (aj (aa 0) (aj (aa 1) ao)))) ao)) (j4 (.lst (SS names)) (.lst (PP ps)) none mu)=some (.nx (j4 (.lst (SS names)) (.lst (PP ps)) (some (.sh .non)) mu)):=aQ (aX (az (fz1 _) rfl) rfl rfl rfl u1) rfl rfl
   rcases ym (mu:=mu) hp' hc' hn with ⟨u2,h2⟩ | ⟨a,ha,b,hb,u2,h2⟩
   . have s2:aL 2 (aM gm (aj (o9 (aM cN (aj (aa 0) (aj (aa 1) ao)))) ao)) (j4 (.lst (SS names)) (.lst (PP ps)) (some (.sh .non)) mu)=some (.nx (j4 (.lst (SS names)) (.lst (PP ps)) (some (.sh .non)) mu)):=aQ (aX (az (fz2 _) rfl) rfl rfl rfl u2) rfl rfl
     exact ⟨.non,bB (ρ:=j4 (.lst (SS names)) (.lst (PP ps)) (some (.sh .non)) mu) (aG s1 (aG ((cL (ρ1:=j4 (.lst (SS names)) (.lst (PP ps)) (some (.sh .non)) mu) rfl).trans rfl) (aG s2 (aG ((cL (ρ1:=j4 (.lst (SS names)) (.lst (PP ps)) (some (.sh .non)) mu) rfl).trans rfl) rfl)))),.inl ⟨rfl,h1,h2⟩⟩
   . have s2:aL 2 (aM gm (aj (o9 (aM cN (aj (aa 0) (aj (aa 1) ao)))) ao)) (j4 (.lst (SS names)) (.lst (PP ps)) (some (.sh .non)) mu)=some (.nx (j4 (.lst (SS names)) (.lst (PP ps)) (yS (.tup [.str a,.str b])) mu)):=aQ (aX (az (fz2 _) rfl) rfl rfl rfl u2) rfl rfl
     exact ⟨.tup [.str "meet",.str a,.str b],bB (ρ:=j4 (.lst (SS names)) (.lst (PP ps)) (yS (.tup [.str a,.str b])) mu) (aG s1 (aG ((cL (ρ1:=j4 (.lst (SS names)) (.lst (PP ps)) (some (.sh .non)) mu) rfl).trans rfl) (aG s2 (lq ((jG (ρ1:=j4 (.lst (SS names)) (.lst (PP ps)) (yS (.tup [.str a,.str b])) mu) rfl).trans (dR (lU (ls:=[.sh (.str "meet"),.sh (.str a),.sh (.str b)]) rfl rfl rfl))))))),.inr (.inr ⟨a,ha,b,hb,rfl,h2⟩)⟩
 . have s1:aL 2 (aM gm (aj (o9 (aM dq (aj (aa 0) (aj (aa 1) ao)))) ao)) (j4 (.lst (SS names)) (.lst (PP ps)) none mu)=some (.nx (j4 (.lst (SS names)) (.lst (PP ps)) (yS (.tup [.str a,.str b])) mu)):=aQ (aX (az (fz1 _) rfl) rfl rfl rfl u1) rfl rfl
   exact ⟨.tup [.str "join",.str a,.str b],bB (ρ:=j4 (.lst (SS names)) (.lst (PP ps)) (yS (.tup [.str a,.str b])) mu) (aG s1 (lq ((jG (ρ1:=j4 (.lst (SS names)) (.lst (PP ps)) (yS (.tup [.str a,.str b])) mu) rfl).trans (dR (lU (ls:=[.sh (.str "join"),.sh (.str a),.sh (.str b)]) rfl rfl rfl))))),.inr (.inl ⟨a,ha,b,hb,rfl,h1⟩)⟩
namespace Rg
noncomputable def edge (sm:List Str) (nm:Str) (q:Str×Str):Bool:=q.1==nm&&(!(q.2==nm)&&has sm q.2)
noncomputable def pA (sm:List Str) (ps:List (Str×Str)) (nm:Str):List Str:=(ps.filter (edge sm nm)).map (·.2)
theorem Ge {sm:List Str} {ps:List (Str×Str)} {nm b:Str}:b∈pA sm ps nm ↔ (nm,b)∈ps/\b≠nm/\b∈sm:=by
 unfold pA
 constructor
 . intro h
   obtain ⟨q,hq,rfl⟩:=List.mem_map.mp h
   obtain ⟨h1,h2⟩:=List.mem_filter.mp hq
   unfold edge at h2
   rw [Bool.and_eq_true,Bool.and_eq_true] at h2
   have e:q.1=nm:=eq_of_beq h2.1
   refine ⟨by rw [← e]; exact h1,fun z=>?_,bu.mp h2.2.2⟩
   have:=h2.2.1
   rw [z] at this
   simp at this
 . rintro ⟨h1,h2,h3⟩
   refine List.mem_map.mpr ⟨(nm,b),List.mem_filter.mpr ⟨h1,?_⟩,rfl⟩
   unfold edge
   rw [Bool.and_eq_true,Bool.and_eq_true]
   exact ⟨by simp,by simpa using h2,bu.mpr h3⟩
theorem DN {sm:List Str} {ps:List (Str×Str)} {nm:Str} {mu:Mu} (hl:ps.length<=1000):bI [.lst (SS sm),.lst (PP ps),.str nm] mu=some (.own (.lst (SS (pA sm ps nm))),mu):=by
 have c:dH (gM 2 (bD (au 0) (bD (au 1) gK))) (cQ (tT (aC eqP (aa 0) (aa 2)) aZ) (cQ (tT (aC uA (aa 1) (aa 2)) aZ) (tT (aC jk (aa 1) (aa 3)) aZ))) (aa 1) (PP ps) ⟨[none,none,zT nm,zS sm],mu⟩ []=some (SS (pA sm ps nm),mu):=by
  have:=j9 (b:=gM 2 (bD (au 0) (bD (au 1) gK))) (tc:=cQ (tT (aC eqP (aa 0) (aa 2)) aZ) (cQ (tT (aC uA (aa 1) (aa 2)) aZ) (tT (aC jk (aa 1) (aa 3)) aZ))) (te:=aa 1) (mu:=mu)
   (fun ρ=>∃ o0 o1,ρ=⟨[o0,o1,zT nm,zS sm],mu⟩) (fun ρ ⟨_,_,e⟩=>by rw [e]) (fun p=>match p with | .tup [.str a,.str b]=>edge sm nm (a,b) | _=>false) (fun p=>match p with | .tup [_,b]=>b | _=>.non)
   (xs:=PP ps) (ρ:=⟨[none,none,zT nm,zS sm],mu⟩) (acc:=[]) ⟨none,none,rfl⟩ (by simp; omega) (by
     rintro x hx ρ ⟨o0,o1,rfl⟩
     obtain ⟨⟨a,b⟩,_,rfl⟩:=List.mem_map.mp hx
     refine ⟨_,rfl,⟨[zT a,zT b,zT nm,zS sm],mu⟩,?_,⟨_,_,rfl⟩,fun _=>⟨_,_,rfl,rfl,_,_,rfl⟩⟩
     exact jO (bW (l:=.sh (.bl (a==nm))) rfl rfl rfl) (jO (bW (l:=.sh (.bl (!(b==nm)))) rfl rfl rfl) (bW (bx rfl rfl rfl rfl yd) rfl rfl)))
  rw [this,List.nil_append,List.filter_map,List.map_map]
  unfold SS pA
  rw [List.map_map]
  rfl
 refine bB (ρ:=⟨[zS sm,zP ps,zT nm],mu⟩) (dR ?_)
 exact (cX (ρ1:=⟨[zS sm,zP ps,zT nm],mu⟩) (gF (l:=.sh (.lst (PP ps))) rfl rfl rfl) c).trans rfl
noncomputable def cM (ps:List (Str×Str)) (rest:List Str):List Str:=rest.filter fun n=>!(pA rest ps n).isEmpty
theorem truL {l:List Str}:aN (.lst (SS l))=some (!l.isEmpty):=by cases l<;>rfl
noncomputable abbrev DP:EF:=bh (dG (aa 2) bO) 1 [2,1] (au 0) (tT (aM bI (aj (aa 1) (aj (aa 2) (aj (aa 0) ao)))) aN) (aa 0)
theorem DQ {N:Option Lc} {ps:List (Str×Str)} {rest:List Str} {o3:Option Lc} {l:Lc} {mu:Mu} (hp:ps.length<=1000) (hr:rest.length<=1000) (hl:l.pv=.lst (SS rest)):DP ⟨[N,zP ps,some l,o3],mu⟩=some (.own (.lst (SS (cM ps rest))),⟨[N,zP ps,zS rest,o3],mu⟩):=by
 have c:dH (au 0) (tT (aM bI (aj (aa 1) (aj (aa 2) (aj (aa 0) ao)))) aN) (aa 0) (SS rest) ⟨[none,zS rest,zP ps],mu⟩ []=some (SS (cM ps rest),mu):=by
  have:=j9 (b:=au 0) (tc:=tT (aM bI (aj (aa 1) (aj (aa 2) (aj (aa 0) ao)))) aN) (te:=aa 0) (mu:=mu)
   (fun ρ=>∃ o0,ρ=⟨[o0,zS rest,zP ps],mu⟩) (fun ρ ⟨_,e⟩=>by rw [e]) (fun p=>match p with | .str a=>!(pA rest ps a).isEmpty | _=>false) (fun p=>p)
   (xs:=SS rest) (ρ:=⟨[none,zS rest,zP ps],mu⟩) (acc:=[]) ⟨none,rfl⟩ (by simp; omega) (by
     rintro x hx ρ ⟨o0,rfl⟩
     obtain ⟨a,_,rfl⟩:=List.mem_map.mp hx
     refine ⟨_,rfl,⟨[zT a,zS rest,zP ps],mu⟩,?_,⟨_,rfl⟩,fun _=>⟨_,_,rfl,rfl,_,rfl⟩⟩
     exact bW (l:=.own (.lst (SS (pA rest ps a)))) (aX (az rfl (az rfl (az rfl rfl))) rfl rfl rfl (DN hp)) rfl truL)
  rw [this,List.nil_append,List.filter_map,List.map_map]
  rfl
 refine (cX (ρ1:=⟨[N,zP ps,zS rest,o3],mu⟩) (gF (l:=wS rest) ?_ rfl rfl) c).trans rfl
 show some (Lc.sh l.pv,_)=_
 rw [hl]
 rfl
structure zm (names:List Str) (ps:List (Str×Str)) (rest:List Str):Prop where
 sub:∀ x∈rest,x∈names
 hgt:∃ (h:Str->Nat) (k:Nat),(∀ a∈names,a∉rest->h a<k)/\∀ a∈names,a∉rest->∀ b∈names,(a,b)∈ps->b≠a->b∉rest/\h b<h a
theorem zm.step {names:List Str} {ps:List (Str×Str)} {rest:List Str} (I:zm names ps rest):zm names ps (cM ps rest):=by
 obtain ⟨sub,h,k,h1,h2⟩:=I
 have sb:∀ x∈cM ps rest,x∈rest:=fun x hx=>(List.mem_filter.mp hx).1
 refine ⟨fun x hx=>sub x (sb x hx),fun a=>if a∈rest then k else h a,k+1,fun a ha hn=>?_,fun a ha hn b hb he hne=>?_⟩
 . by_cases hr:a∈rest
   . simp only [hr,if_true]; omega
   . simp only [hr,if_false]; have:=h1 a ha hr; omega
 . by_cases hr:a∈rest
   . have hbr:b∉rest:=fun hbr=>by
      apply hn
      refine List.mem_filter.mpr ⟨hr,?_⟩
      have:b∈pA rest ps a:=Ge.mpr ⟨he,hne,hbr⟩
      cases hc:pA rest ps a with
      | nil=>rw [hc] at this; cases this
      | cons _ _=>rfl
     refine ⟨fun z=>hbr (sb b z),?_⟩
     simp only [hr,if_true,hbr,if_false]
     exact h1 b hb hbr
   . obtain ⟨q1,q2⟩:=h2 a ha hr b hb he hne
     refine ⟨fun z=>q1 (sb b z),?_⟩
     simp only [hr,if_false,q1]
     exact q2
noncomputable abbrev TY:TF:=tT (aC Cw (eB dh (aj (aa 3) ao)) (eB dh (aj (aa 2) ao))) aZ
noncomputable abbrev Dy:SF:=aK (aL 2 (aa 3)) (aL 3 DP)
theorem qN {names:List Str} {N:Option Lc} {ps:List (Str×Str)} {mu:Mu} (hp:ps.length<=1000):∀ (n:Nat) (rest:List Str),rest.length<n->rest.length<=1000->zm names ps rest->
 ∃ rest',lN TY Dy n ⟨[N,zP ps,zS rest,yO (SS (cM ps rest))],mu⟩=some (.nx ⟨[N,zP ps,yL (SS rest'),zS (cM ps rest')],mu⟩)/\zm names ps rest'/\cM ps rest'=rest'/\rest'.length<=rest.length
 | n+1,rest,hn,hr,I=>by
  have hc:TY ⟨[N,zP ps,zS rest,yO (SS (cM ps rest))],mu⟩=some (decide (((SS (cM ps rest)).length:Int)<(SS rest).length),⟨[N,zP ps,zS rest,zS (cM ps rest)],mu⟩):=rfl
  have hle:(cM ps rest).length<=rest.length:=List.length_filter_le _ _
  show ∃ rest',((TY _).bind _)=_/\_
  rw [hc,Option.bind_some]
  by_cases hlt:(cM ps rest).length<rest.length
  . rw [decide_eq_true (by rw [List.length_map,List.length_map]; omega)]
    obtain ⟨r',e,I',c',l'⟩:=qN hp n (cM ps rest) (by omega) (by omega) I.step
    refine ⟨r',?_,I',c',by omega⟩
    have hb:Dy ⟨[N,zP ps,zS rest,zS (cM ps rest)],mu⟩=some (.nx ⟨[N,zP ps,zS (cM ps rest),yO (SS (cM ps (cM ps rest)))],mu⟩):=
     aG (aQ rfl rfl rfl) (aQ (DQ (l:=wS (cM ps rest)) hp (by omega) rfl) rfl rfl)
    rw [if_pos rfl,hb,Option.bind_some]
    exact e
  . rw [decide_eq_false (by rw [List.length_map,List.length_map]; omega)]
    refine ⟨rest,?_,I,?_,Nat.le_refl _⟩
    . rw [if_neg Bool.false_ne_true]
    . exact (List.filter_sublist).eq_of_length (by show (cM ps rest).length=rest.length; omega)
theorem ji {b:BF} {body:SF} {x:PV} {xs:List PV} {ρ ρ1 ρ2:Ev} {R:Option Fl} (h1:b x ρ=some ρ1) (h2:body ρ1=some (.nx ρ2)) (h3:eX b body xs ρ2=R):eX b body (x::xs) ρ=R:=by
 show (b x ρ).bind _=R
 rw [h1,Option.bind_some,h2,Option.bind_some]
 exact h3
theorem at0 {p:PV} {t:List PV}:gn (p::t) 0=some p:=by
 obtain ⟨x,h,h2⟩:=v8 (l:=p::t) (i:=0) (by decide) (by simp only [List.length_cons]; omega)
 rw [h,← h2]; rfl
noncomputable def nx (sm:List Str) (ps:List (Str×Str)) (x:Str):Str:=(pA sm ps x).headD ""
noncomputable def wk (sm:List Str) (ps:List (Str×Str)) (s0:Str):Nat->Str
 | 0=>s0
 | n+1=>nx sm ps (wk sm ps s0 n)
theorem Bl {sm:List Str} {ps:List (Str×Str)} (hc:cM ps sm=sm) {x:Str} (hx:x∈sm):pA sm ps x=nx sm ps x::(pA sm ps x).tail/\(x,nx sm ps x)∈ps/\nx sm ps x≠x/\nx sm ps x∈sm:=by
 have h:x∈cM ps sm:=by rw [hc]; exact hx
 have h2:=(List.mem_filter.mp h).2
 unfold nx
 cases e:pA sm ps x with
 | nil=>rw [e] at h2; cases h2
 | cons y ys=>
  have:y∈pA sm ps x:=by rw [e]; exact List.mem_cons_self
  exact ⟨rfl,Ge.mp this⟩
theorem uU {sm:List Str} {ps:List (Str×Str)} {s0:Str} (hc:cM ps sm=sm) (h0:s0∈sm):∀ n,wk sm ps s0 n∈sm
 | 0=>h0
 | n+1=>(Bl hc (uU hc h0 n)).2.2.2
theorem Oh {sm:List Str} {ps:List (Str×Str)} {x:Str} {mu:Mu} {fa:EF} {w o3:Option Lc} {w' o3':Option Lc} (hp:ps.length<=1000) (hc:cM ps sm=sm) (hx:x∈sm)
 (hf:fa ⟨[zS sm,zP ps,w,o3],mu⟩=some (.sh (.str x),⟨[zS sm,zP ps,w',o3'],mu⟩)):
 aF (aM bI (aj (aa 0) (aj (aa 1) (aj fa ao)))) (eC (.int 0)) ⟨[zS sm,zP ps,w,o3],mu⟩=some (.sh (.str (nx sm ps x)),⟨[zS sm,zP ps,w',o3'],mu⟩):=by
 refine lr (l:=.own (.lst (SS (pA sm ps x)))) (aX (ps:=[.lst (SS sm),.lst (PP ps),.str x]) (az rfl (az rfl (az hf rfl))) rfl rfl rfl (DN hp)) rfl rfl rfl (fun n h=>by cases h) ?_
 show (gn (SS (pA sm ps x)) 0).map _=_
 rw [(Bl hc hx).1]
 show (gn (PV.str (nx sm ps x)::SS _) 0).map _=_
 rw [at0]; rfl
theorem uO {l:List Str} {p q:Str->Bool} (h:∀ x,q x=true->p x=true) {x:Str} (hx:x∈l) (h1:p x=true) (h2:q x=false):(l.filter q).length<(l.filter p).length:=by
 induction l with
 | nil=>cases hx
 | cons y ys ih=>
  have hle:∀ ys:List Str,(ys.filter q).length<=(ys.filter p).length:=fun ys=>by
   induction ys with
   | nil=>exact Nat.le_refl _
   | cons z zs ihz=>
    rw [List.filter_cons,List.filter_cons]
    cases hq:q z with
    | true=>rw [h z hq]; simp only [if_true,List.length_cons]; omega
    | false=>cases hpz:p z<;>simp only [if_true,Bool.false_eq_true,if_false,List.length_cons]<;>omega
  rw [List.filter_cons,List.filter_cons]
  rcases List.mem_cons.mp hx with rfl | hx
  . rw [h1,h2]
    simp only [if_true,Bool.false_eq_true,if_false,List.length_cons]
    have:=hle ys
    omega
  . have:=ih hx
    cases hq:q y with
    | true=>rw [h y hq]; simp only [if_true,List.length_cons]; omega
    | false=>cases hpy:p y<;>simp only [if_true,Bool.false_eq_true,if_false,List.length_cons]<;>omega
noncomputable abbrev WK (sm:List Str) (ps:List (Str×Str)) (s0:Str) (k:Nat):List Str:=(List.range (k+1)).map (wk sm ps s0)
theorem zp {sm:List Str} {ps:List (Str×Str)} {s0:Str} {k:Nat}:WK sm ps s0 (k+1)=WK sm ps s0 k++[wk sm ps s0 (k+1)]:=by
 unfold WK
 rw [List.range_succ (n:=k+1),List.map_append]
 rfl
noncomputable abbrev T3:TF:=pN (tT (aC dN (aa 3) (aa 2)) aZ)
noncomputable abbrev Vq:SF:=aK (lH 2 (aa 3)) (aL 3 (aF (aM bI (aj (aa 0) (aj (aa 1) (aj (aa 3) ao)))) (eC (.int 0))))
theorem An {sm:List Str} {ps:List (Str×Str)} {s0:Str} {mu:Mu} (hp:ps.length<=1000) (hc:cM ps sm=sm) (h0:s0∈sm):∀ (n k:Nat),(sm.filter fun x=>!has (WK sm ps s0 k) x).length<n->n+k<=1000->(∀ i j,i<j->j<=k->wk sm ps s0 i≠wk sm ps s0 j)->
 ∃ m,lN T3 Vq n ⟨[zS sm,zP ps,yO (SS (WK sm ps s0 k)),zT (wk sm ps s0 (k+1))],mu⟩=some (.nx ⟨[zS sm,zP ps,yO (SS (WK sm ps s0 m)),zT (wk sm ps s0 (m+1))],mu⟩)/\
  (∀ i j,i<j->j<=m->wk sm ps s0 i≠wk sm ps s0 j)/\wk sm ps s0 (m+1)∈WK sm ps s0 m/\m<=1000
 | n+1,k,hn,hk,hd=>by
  have hc1:T3 ⟨[zS sm,zP ps,yO (SS (WK sm ps s0 k)),zT (wk sm ps s0 (k+1))],mu⟩=some (!has (WK sm ps s0 k) (wk sm ps s0 (k+1)),⟨[zS sm,zP ps,yO (SS (WK sm ps s0 k)),zT (wk sm ps s0 (k+1))],mu⟩):=
   v9 (bW (bx rfl rfl rfl rfl kO) rfl rfl)
  show ∃ m,((T3 _).bind _)=_/\_
  rw [hc1,Option.bind_some]
  cases hh:has (WK sm ps s0 k) (wk sm ps s0 (k+1)) with
  | true=>
   refine ⟨k,?_,hd,bu.mp hh,by omega⟩
   show (if (!true)=true then _ else _)=_
   rw [if_neg (by decide)]
  | false=>
   have hmem:=uU hc h0 (k+1)
   have hnot:=nO.mp hh
   have hd':∀ i j,i<j->j<=k+1->wk sm ps s0 i≠wk sm ps s0 j:=fun i j hij hj=>by
    by_cases hjk:j<=k
    . exact hd i j hij hjk
    . have:j=k+1:=by omega
      subst this
      intro e
      exact hnot (List.mem_map.mpr ⟨i,List.mem_range.mpr (by omega),e⟩)
   have hlt:(sm.filter fun x=>!has (WK sm ps s0 (k+1)) x).length<(sm.filter fun x=>!has (WK sm ps s0 k) x).length:=by
    refine uO (fun x hx=>?_) hmem (by simp [hh]) ?_
    . have h1:has (WK sm ps s0 (k+1)) x=false:=by simpa using hx
      have h2:=nO.mp h1
      have:has (WK sm ps s0 k) x=false:=nO.mpr fun z=>h2 (by rw [zp]; exact List.mem_append_left _ z)
      simp [this]
    . have:has (WK sm ps s0 (k+1)) (wk sm ps s0 (k+1))=true:=bu.mpr (by rw [zp]; exact List.mem_append_right _ (by simp))
      simp [this]
   obtain ⟨m,e,r⟩:=An hp hc h0 n (k+1) (by omega) (by omega) hd'
   refine ⟨m,?_,r⟩
   show (if (!false)=true then _ else _)=_
   rw [if_pos (by decide)]
   have hb:Vq ⟨[zS sm,zP ps,yO (SS (WK sm ps s0 k)),zT (wk sm ps s0 (k+1))],mu⟩=some (.nx ⟨[zS sm,zP ps,yO (SS (WK sm ps s0 (k+1))),zT (wk sm ps s0 (k+2))],mu⟩):=by
    refine aG (ρ':=⟨[zS sm,zP ps,yO (SS (WK sm ps s0 (k+1))),zT (wk sm ps s0 (k+1))],mu⟩) ?_ ?_
    . refine (uD (l:=.sh (.str (wk sm ps s0 (k+1)))) rfl rfl rfl rfl (by rw [List.length_map,List.length_map,List.length_range]; omega) rfl).trans ?_
      have e1:SS (WK sm ps s0 (k+1))=SS (WK sm ps s0 k)++[.str (wk sm ps s0 (k+1))]:=by rw [zp]; exact List.map_append
      rw [e1]
      rfl
    . exact aQ (Oh (x:=wk sm ps s0 (k+1)) hp hc hmem rfl) rfl rfl
   rw [hb,Option.bind_some]
   exact e
structure RingOk (names:List Str) (ps:List (Str×Str)) (r:List Str):Prop where
 two:2<=r.length
 sub:∀ x∈r,x∈names
 dis:∀ (k:Nat) x,r[k]?=some x->x∉r.take k
 nxt:∀ (k:Nat) x,r[k]?=some x->∃ y,r[(k+1)%r.length]?=some y/\(x,y)∈ps
 few:r.length<=2000
theorem Gf:∀ l:List Str,qz (SS l)=true
 | []=>rfl
 | x::l=>by
  show (true&&qz (SS l))=true
  rw [Gf l]; rfl
theorem Kd {sm:List Str} {ps:List (Str×Str)} {mu:Mu} (hp:ps.length<=1000) (hc:cM ps sm=sm) (hne:sm≠[]) (hl:sm.length<20):∃ r,my [.lst (SS sm),.lst (PP ps)] mu=some (.own (.lst (SS r)),mu)/\RingOk sm ps r:=by
 obtain ⟨s0,t,rfl⟩:∃ s0 t,sm=s0::t:=by cases sm with | nil=>exact absurd rfl hne | cons a b=>exact ⟨a,b,rfl⟩
 generalize hsm:s0::t=sm at hc hl
 have h0:s0∈sm:=by rw [← hsm]; exact List.mem_cons_self
 have hix:∀ w o3,aF (aa 0) (eC (.int 0)) ⟨[zS sm,zP ps,w,o3],mu⟩=some (.sh (.str s0),⟨[zS sm,zP ps,w,o3],mu⟩):=fun w o3=>by
  refine lr (l:=wS sm) rfl rfl rfl rfl (fun n h=>by cases h) ?_
  show (gn (SS sm) 0).map _=_
  rw [← hsm]
  show (gn (PV.str s0::SS t) 0).map _=_
  rw [at0]; rfl
 have s1:aL 2 (ou (aj (aF (aa 0) (eC (.int 0))) ao)) (env0 4 [.lst (SS sm),.lst (PP ps)] mu)=some (.nx ⟨[zS sm,zP ps,yO (SS (WK sm ps s0 0)),none],mu⟩):=
  aQ (CV (ls:=[.sh (.str s0)]) (az (hix none none) rfl) rfl rfl) rfl rfl
 have s2:aL 3 (aF (aM bI (aj (aa 0) (aj (aa 1) (aj (aF (aa 0) (eC (.int 0))) ao)))) (eC (.int 0))) ⟨[zS sm,zP ps,yO (SS (WK sm ps s0 0)),none],mu⟩=some (.nx ⟨[zS sm,zP ps,yO (SS (WK sm ps s0 0)),zT (wk sm ps s0 1)],mu⟩):=
  aQ (Oh (x:=s0) hp hc h0 (hix _ _)) rfl rfl
 obtain ⟨m,e,hd,hin,hm⟩:=An (mu:=mu) hp hc h0 20 0 (Nat.lt_of_le_of_lt (List.length_filter_le _ _) hl) (by omega) (fun i j hij hj=>by omega)
 have hfi:jf (bF 150) (.str (wk sm ps s0 (m+1))) (SS (WK sm ps s0 m))=some true:=by rw [in_str,bu.mpr hin]
 have hlen:(WK sm ps s0 m).length=m+1:=by rw [List.length_map,List.length_range]
 generalize hj:(SS (WK sm ps s0 m)).findIdx (fun q=>(bF 150 q (.str (wk sm ps s0 (m+1)))).getD false)=j
 have hex:∃ q∈SS (WK sm ps s0 m),(fun q=>(bF 150 q (.str (wk sm ps s0 (m+1)))).getD false) q=true:=by
  refine ⟨.str (wk sm ps s0 (m+1)),List.mem_map.mpr ⟨_,hin,rfl⟩,?_⟩
  show (wk sm ps s0 (m+1)==wk sm ps s0 (m+1))=true
  simp
 have hjl:j<m+1:=by
  have w:(SS (WK sm ps s0 m)).findIdx (fun q=>(bF 150 q (.str (wk sm ps s0 (m+1)))).getD false)<(SS (WK sm ps s0 m)).length:=List.findIdx_lt_length.mpr hex
  rw [hj,List.length_map,hlen] at w
  exact w
 have hjw:wk sm ps s0 j=wk sm ps s0 (m+1):=by
  have w:(SS (WK sm ps s0 m)).findIdx (fun q=>(bF 150 q (.str (wk sm ps s0 (m+1)))).getD false)<(SS (WK sm ps s0 m)).length:=List.findIdx_lt_length.mpr hex
  have:=List.findIdx_getElem (w:=w)
  simp only [hj] at this
  have e2:(SS (WK sm ps s0 m))[j]'(by rw [hj] at w; exact w)=.str (wk sm ps s0 j):=by simp
  rw [e2] at this
  exact eq_of_beq (show (wk sm ps s0 j==wk sm ps s0 (m+1))=true from this)
 have cut:nq (SS (WK sm ps s0 m)) (some (j:Int)) none=SS ((WK sm ps s0 m).drop j):=by
  unfold nq
  rw [HT.sIx_none,HT.sIx_nat,List.length_map,hlen,show min j (m+1)=j from by omega,← List.map_drop]
  exact List.take_of_length_le (by rw [List.length_map,List.length_drop,hlen]; omega)
 refine ⟨(WK sm ps s0 m).drop j,?_,?_⟩
 . refine bB (ρ:=⟨[zS sm,zP ps,yO (SS (WK sm ps s0 m)),zT (wk sm ps s0 (m+1))],mu⟩) (aG s1 (aG s2 (aG e (dR (CT (ρ1:=Ev.peek ⟨[zS sm,zP ps,yO (SS (WK sm ps s0 m)),zT (wk sm ps s0 (m+1))],mu⟩) ?_ (Gf _))))))
   have hI:dW (aa 2) (aa 3) (Ev.peek ⟨[zS sm,zP ps,yO (SS (WK sm ps s0 m)),zT (wk sm ps s0 (m+1))],mu⟩)=some (.sh (.int (j:Int)),Ev.peek ⟨[zS sm,zP ps,yO (SS (WK sm ps s0 m)),zT (wk sm ps s0 (m+1))],mu⟩):=by
    show (if jf (bF 150) (.str (wk sm ps s0 (m+1))) (SS (WK sm ps s0 m))=some true/\(SS (WK sm ps s0 m)).length<=100000 then _ else _)=_
    rw [if_pos ⟨hfi,by rw [List.length_map,hlen]; omega⟩]
    show some (Lc.sh (.int (((SS (WK sm ps s0 m)).findIdx (fun q=>(bF 150 q (.str (wk sm ps s0 (m+1)))).getD false):Nat):Int)),_)=_
    rw [hj]
    rfl
   have hO:fC (dW (aa 2) (aa 3)) (Ev.peek ⟨[zS sm,zP ps,yO (SS (WK sm ps s0 m)),zT (wk sm ps s0 (m+1))],mu⟩)=some (some (j:Int),Ev.peek ⟨[zS sm,zP ps,yO (SS (WK sm ps s0 m)),zT (wk sm ps s0 (m+1))],mu⟩):=by
    unfold fC
    rw [hI]
    rfl
   rw [← cut]
   show (((fC (dW (aa 2) (aa 3)) (Ev.peek ⟨[zS sm,zP ps,yO (SS (WK sm ps s0 m)),zT (wk sm ps s0 (m+1))],mu⟩))).bind _)=_
   rw [hO]
   rfl
 . have hnx:∀ i,(wk sm ps s0 i,wk sm ps s0 (i+1))∈ps/\wk sm ps s0 (i+1)≠wk sm ps s0 i:=fun i=>⟨(Bl hc (uU hc h0 i)).2.1,(Bl hc (uU hc h0 i)).2.2.1⟩
   have hjm:j<m:=by
    by_cases h:j=m
    . exfalso; rw [h] at hjw; exact (hnx m).2 hjw.symm
    . omega
   have hL:((WK sm ps s0 m).drop j).length=m+1-j:=by rw [List.length_drop,hlen]
   have hget:∀ k,k<m+1-j->((WK sm ps s0 m).drop j)[k]?=some (wk sm ps s0 (j+k)):=fun k hk=>by
    rw [List.getElem?_drop,List.getElem?_map,List.getElem?_range (by omega)]; rfl
   have hgi:∀ k x,((WK sm ps s0 m).drop j)[k]?=some x->k<m+1-j/\x=wk sm ps s0 (j+k):=fun k x hx=>by
    have hk:=(List.getElem?_eq_some_iff.mp hx).1
    rw [hL] at hk
    rw [hget k hk] at hx
    exact ⟨hk,(Option.some.inj hx).symm⟩
   refine ⟨by omega,fun x hx=>?_,fun k x hx hm'=>?_,fun k x hx=>?_,by omega⟩
   . obtain ⟨i,hi,rfl⟩:=List.mem_map.mp (List.mem_of_mem_drop hx)
     exact uU hc h0 i
   . obtain ⟨hk,rfl⟩:=hgi k x hx
     obtain ⟨i,hi,e3⟩:=List.getElem_of_mem hm'
     rw [List.length_take,hL] at hi
     have e4:((WK sm ps s0 m).drop j)[i]?=some (wk sm ps s0 (j+k)):=by
      rw [List.getElem_take] at e3
      rw [← e3]
      exact List.getElem?_eq_getElem _
     obtain ⟨_,e5⟩:=hgi i _ e4
     exact hd (j+i) (j+k) (by omega) (by omega) e5.symm
   . obtain ⟨hk,rfl⟩:=hgi k x hx
     refine ⟨wk sm ps s0 (j+k+1),?_,(hnx (j+k)).1⟩
     rw [hL]
     by_cases hlast:k+1=m+1-j
     . rw [hlast,Nat.mod_self,hget 0 (by omega),Nat.add_zero,hjw,show j+k+1=m+1 from by omega]
     . rw [Nat.mod_eq_of_lt (by omega),hget (k+1) (by omega)]
       rfl
theorem ringof_eq {names:List Str} {ps:List (Str×Str)} {mu:Mu} (hp:ps.length<=1000) (hl:names.length<19):(cU [.lst (SS names),.lst (PP ps)] mu=some (.sh .non,mu)/\∃ h:Str->Nat,∀ a∈names,∀ b∈names,(a,b)∈ps->b≠a->h b<h a)\/
 ∃ r,cU [.lst (SS names),.lst (PP ps)] mu=some (.own (.lst (SS r)),mu)/\RingOk names ps r:=by
 have I0:zm names ps names:=⟨fun x h=>h,fun _=>0,0,fun a ha hn=>absurd ha hn,fun a ha hn=>absurd ha hn⟩
 have s1:aL 2 (eB list1 (aj (aa 0) ao)) (env0 4 [.lst (SS names),.lst (PP ps)] mu)=some (.nx ⟨[zS names,zP ps,yO (SS names),none],mu⟩):=rfl
 have s2:aL 3 DP ⟨[zS names,zP ps,yO (SS names),none],mu⟩=some (.nx ⟨[zS names,zP ps,zS names,yO (SS (cM ps names))],mu⟩):=
  aQ (DQ (l:=.own (.lst (SS names))) hp (by omega) rfl) rfl rfl
 obtain ⟨rest,e,I,hc,hlr⟩:=qN (N:=zS names) (mu:=mu) hp 20 names (by omega) (by omega) I0
 have t:bN (tT (aa 2) aN) ⟨[zS names,zP ps,zS rest,zS (cM ps rest)],mu⟩=some (!!rest.isEmpty,⟨[zS names,zP ps,zS rest,zS (cM ps rest)],mu⟩):=
  jw (bW (l:=wS rest) rfl rfl truL)
 cases hr:rest with
 | nil=>
  subst hr
  obtain ⟨_,h,k,h1,h2⟩:=I
  refine .inl ⟨bB (ρ:=⟨[zS names,zP ps,zS [],zS (cM ps [])],mu⟩) (aG s1 (aG s2 (aG e (lq ((jG t).trans rfl))))),h,fun a ha b hb he hne=>(h2 a ha (by simp) b hb he hne).2⟩
 | cons x xs=>
  have hne:rest≠[]:=by rw [hr]; simp
  obtain ⟨r,er,ok⟩:=Kd (mu:=mu) hp hc hne (by omega)
  refine .inr ⟨r,?_,ok.two,fun x hx=>I.sub x (ok.sub x hx),ok.dis,ok.nxt,ok.few⟩
  refine bB (ρ:=⟨[zS names,zP ps,zS rest,zS (cM ps rest)],mu⟩) (aG s1 (aG s2 (aG e (aG ((cL (ρ1:=⟨[zS names,zP ps,zS rest,zS (cM ps rest)],mu⟩) (t.trans (by rw [hr]; rfl))).trans rfl) ?_))))
  exact dR (aX (ps:=[.lst (SS rest),.lst (PP ps)]) (az rfl (az rfl rfl)) rfl rfl rfl er)
theorem ring_no {names r:List Str} {ps:List (Str×Str)} (ok:RingOk names ps r) {h:Str->Nat} (hh:∀ q∈ps,q.1≠q.2->h q.1<h q.2):False:=by
 have two:=ok.two
 have up:∀ k (hk:k<r.length),k+1<r.length->∃ hk1:k+1<r.length,h r[k]<h r[k+1]:=fun k hk hk1=>by
  obtain ⟨y,h1,h2⟩:=ok.nxt k r[k] (List.getElem?_eq_getElem hk)
  rw [Nat.mod_eq_of_lt hk1,List.getElem?_eq_getElem hk1] at h1
  cases h1
  refine ⟨hk1,hh _ h2 fun e=>?_⟩
  have e':r[k]=r[k+1]:=e
  refine ok.dis (k+1) r[k+1] (List.getElem?_eq_getElem hk1) ?_
  rw [← e']
  exact List.mem_take_iff_getElem.mpr ⟨k,by omega,rfl⟩
 have all:∀ k (hk:k<r.length),h (r[0]'(by omega))<=h r[k]:=fun k=>by
  induction k with
  | zero=>exact fun hk=>Nat.le_refl _
  | succ k ih=>
   intro hk
   obtain ⟨_,h1⟩:=up k (by omega) hk
   have:=ih (by omega)
   omega
 obtain ⟨y,h1,h2⟩:=ok.nxt (r.length-1) (r[r.length-1]'(by omega)) (List.getElem?_eq_getElem (by omega))
 rw [show r.length-1+1=r.length by omega,Nat.mod_self,List.getElem?_eq_getElem (by omega)] at h1
 cases h1
 have h3:=hh _ h2 fun e=>by
  have e':r[r.length-1]'(by omega)=r[0]'(by omega):=e
  refine ok.dis (r.length-1) (r[r.length-1]'(by omega)) (List.getElem?_eq_getElem (by omega)) ?_
  rw [e']
  exact List.mem_take_iff_getElem.mpr ⟨0,by omega,rfl⟩
 have h4:=all (r.length-1) (by omega)
 have h5:h (r[r.length-1]'(by omega))<h (r[0]'(by omega)):=h3
 omega
end Rg
structure Base (xs:List Str) (ps:List (Str×Str)):Prop where
 nd:xs.Nodup
 ne:xs≠[]
 l8:xs.length<=8
 lp:ps.length<=68
 nm:∀ x∈xs,nameB x=true
 mem:∀ q∈ps,q.1∈xs/\q.2∈xs
structure nP (xs:List Str) (ps:List (Str×Str)):Prop extends Base xs ps where
 acyc:∃ h:Str->Nat,∀ q∈ps,q.1≠q.2->h q.1<h q.2
 up:∀ a∈xs,∀ b∈xs,bnd ps a b≠.non
 dn:∀ a∈xs,∀ b∈xs,bnd (fZ ps) a b≠.non
 lo:∃ x∈xs,(dg ps x).length=xs.length
 hi:∃ x∈xs,(dg ps x).length=1
theorem Ao {b:BF} {body:SF} {xs:List PV} {ρ:Ev} (J:Ev->Prop) (h0:J ρ) (hs:∀ x∈xs,∀ ρ,J ρ->∃ ρ1,b x ρ=some ρ1/\∃ ρ2,body ρ1=some (.nx ρ2)/\J ρ2):∃ ρ',eX b body xs ρ=some (.nx ρ')/\J ρ':=by
 induction xs generalizing ρ with
 | nil=>exact ⟨ρ,rfl,h0⟩
 | cons x xs ih=>
  obtain ⟨ρ1,e1,ρ2,e2,h2⟩:=hs x List.mem_cons_self ρ h0
  obtain ⟨ρ',e3,h3⟩:=ih h2 fun y hy=>hs y (List.mem_cons_of_mem _ hy)
  exact ⟨ρ',ji e1 e2 e3,h3⟩
theorem MJ {xs:List Str} (hd:xs.Nodup) (x:Str):((SS xs).countP fun q=>(bF 150 q (.str x)).getD false)<=1:=by
 unfold SS
 rw [List.countP_map]
 have e:(fun q:PV=>(bF 150 q (.str x)).getD false) ∘ PV.str=fun y=>y==x:=rfl
 rw [e]
 have:=List.Nodup.count (a:=x) hd
 show List.count x xs<=1
 rw [this]
 split<;>omega
theorem qZ {xs:List Str} {ps:List (Str×Str)} {mu:Mu} (ok:Base xs ps):lB [.lst (SS xs),.lst (PP ps)] mu=some (.sh .non,mu):=by
 obtain ⟨ρ1,e1,o2,rfl⟩:=Ao (b:=au 2) (body:=aK (cG (bN (tT (aM mY (aj (aa 2) ao)) aN)) qT bJ) (cG (tT (aC wY (xq (aa 0) (aa 2)) (eC (.int 1))) aZ) qT bJ)) (xs:=SS xs) (ρ:=⟨[zS xs,zP ps,none,none,none],mu⟩) (fun ρ=>∃ o2,ρ=⟨[zS xs,zP ps,o2,none,none],mu⟩) ⟨none,rfl⟩ (by
  rintro p hp ρ ⟨o2,rfl⟩
  obtain ⟨x,hx,rfl⟩:=List.mem_map.mp hp
  refine ⟨⟨[zS xs,zP ps,zT x,none,none],mu⟩,rfl,⟨[zS xs,zP ps,zT x,none,none],mu⟩,aG (ρ':=⟨[zS xs,zP ps,zT x,none,none],mu⟩) ?_ ?_,_,rfl⟩
  . have hl:x.length<=100000:=by
     have h:=ok.nm x hx
     unfold nameB wy at h
     rw [Bool.and_eq_true,Bool.and_eq_true] at h
     have:=of_decide_eq_true h.1.2
     omega
    refine (cL (ρ1:=⟨[zS xs,zP ps,zT x,none,none],mu⟩) (jw (b:=true) (bW (l:=.sh (.bl true)) ((aX (az rfl rfl) rfl rfl rfl (Qw hl)).trans (by rw [ok.nm x hx]; rfl)) rfl rfl))).trans rfl
  . have hc:=MJ ok.nd x
    have ec:xq (aa 0) (aa 2) ⟨[zS xs,zP ps,zT x,none,none],mu⟩=some (.sh (.int (((SS xs).countP fun q=>(bF 150 q (.str x)).getD false:Nat))),⟨[zS xs,zP ps,zT x,none,none],mu⟩):=by
     show (if (jf (bF 150) (.str x) (SS xs)).isSome=true/\(SS xs).length<=100000 then _ else none)=_
     rw [if_pos ⟨by rw [in_str]; rfl,by rw [List.length_map]; have:=ok.l8; omega⟩]
     rfl
    generalize ((SS xs).countP fun q=>(bF 150 q (.str x)).getD false)=c at hc ec
    refine (cL (ρ1:=⟨[zS xs,zP ps,zT x,none,none],mu⟩) ((bW (l:=.sh (.bl (decide ((1:Int)<(c:Nat))))) (bx ec rfl rfl rfl rfl) rfl rfl).trans (by rw [decide_eq_false (by omega)]))).trans rfl)
 obtain ⟨ρ2,e2,o3,o4,rfl⟩:=Ao (b:=gM 2 (bD (au 3) (bD (au 4) gK))) (body:=cG (gf (tT (aC dN (aa 3) (aa 0)) aZ) (tT (aC dN (aa 4) (aa 0)) aZ)) qT bJ) (xs:=PP ps) (ρ:=⟨[zS xs,zP ps,o2,none,none],mu⟩) (fun ρ=>∃ o3 o4,ρ=⟨[zS xs,zP ps,o2,o3,o4],mu⟩) ⟨none,none,rfl⟩ (by
  rintro p hp ρ ⟨o3,o4,rfl⟩
  obtain ⟨q,hq,rfl⟩:=List.mem_map.mp hp
  obtain ⟨h1,h2⟩:=ok.mem q hq
  refine ⟨⟨[zS xs,zP ps,o2,yS (.str q.1),yS (.str q.2)],mu⟩,rfl,⟨[zS xs,zP ps,o2,yS (.str q.1),yS (.str q.2)],mu⟩,?_,_,_,rfl⟩
  exact (cL (ρ1:=⟨[zS xs,zP ps,o2,yS (.str q.1),yS (.str q.2)],mu⟩) (jY (b:=false) (b2:=false) ((bW (bx rfl rfl rfl rfl kO) rfl rfl).trans (by rw [bu.mpr h1]; rfl)) ((bW (bx rfl rfl rfl rfl kO) rfl rfl).trans (by rw [bu.mpr h2]; rfl)))).trans rfl)
 exact Fq (ρ:=⟨[zS xs,zP ps,o2,o3,o4],mu⟩) (aG (dU (ρ1:=⟨[zS xs,zP ps,none,none,none],mu⟩) (gF (l:=wS xs) rfl rfl rfl) e1) (dU (ρ1:=⟨[zS xs,zP ps,o2,none,none],mu⟩) (gF (l:=.sh (.lst (PP ps))) rfl rfl rfl) e2))
theorem T4 {c:Nat} (h:tZ c=true):c<16 ^ 8:=by
 have all:∀ d∈("abcdefghijklmnopqrstuvwxyz" : Str).cps.toList,d<16 ^ 8:=by decide +kernel
 by_cases hc:c<16 ^ 8
 . exact hc
 . unfold tZ at h
   rw [W.occ_nil_of_no _ _ 1 fun i hi=>?_] at h
   . cases h
   . cases e:Builtin.Str.subAt ("abcdefghijklmnopqrstuvwxyz" : Str) ⟨#[c]⟩ i with
     | false=>rfl
     | true=>
      have e2:("abcdefghijklmnopqrstuvwxyz" : Str).cps.extract i (i+1)=#[c]:=beq_iff_eq.mp e
      have m:c∈(("abcdefghijklmnopqrstuvwxyz" : Str).cps.extract i (i+1)).toList:=by rw [e2]; exact List.mem_singleton.mpr rfl
      rw [Array.toList_extract] at m
      have m':c∈(("abcdefghijklmnopqrstuvwxyz" : Str).cps.toList.drop i).take (i+1-i):=m
      exact absurd (all c (List.mem_of_mem_drop (List.mem_of_mem_take m'))) hc
theorem wz {x:Str} (h:nameB x=true):iM x=true:=by
 unfold nameB wy at h
 rw [Bool.and_eq_true,Bool.and_eq_true] at h
 have h2:=of_decide_eq_true h.1.2
 unfold iM
 rw [Bool.and_eq_true]
 refine ⟨decide_eq_true (by omega),List.all_eq_true.mpr fun c hc=>decide_eq_true (T4 (List.all_eq_true.mp h.2 c hc))⟩
theorem T5 {r:List Str} (h:∀ x∈r,nameB x=true) (hl:r.length<=64):FN (.lst (SS r))=true:=by
 show (decide ((SS r).length<=64)&&(match strsOf (SS r) with | some xs=>xs.all iM | none=>false))=true
 rw [strs_map,Bool.and_eq_true]
 exact ⟨decide_eq_true (by rw [List.length_map]; exact hl),List.all_eq_true.mpr fun x hx=>wz (h x hx)⟩
theorem T6 {a b w:Str} (hw:iM w=true) (ha:nameB a=true) (hb:nameB b=true):FN (.tup [.str w,.str a,.str b])=true:=by
 show (iM w&&(iM a&&(iM b&&true)))=true
 rw [hw,wz ha,wz hb]; rfl
section
variable {f g:SX} {s:SF} {c:TF} {ρ ρ' ρ1:Ev} {R:Option (XR Fl)} {fl:Fl} {C:Str} {b:Bool} {l:Lc}
theorem dJ (h:f ρ=some (.ok (.nx ρ'))) (h2:g ρ'=R):kj f g ρ=R:=by unfold kj; rw [h,Option.bind_some]; exact h2
theorem Gg (h:f ρ=some (.xc C ρ')):kj f g ρ=some (.xc C ρ'):=by unfold kj; rw [h,Option.bind_some]
theorem fW (h:s ρ=some fl):iU s ρ=some (.ok fl):=by unfold iU; rw [h]; rfl
theorem Oi (h:c ρ=some (true,ρ1)):uF c f g ρ=f ρ1:=by unfold uF; rw [h,Option.bind_some,if_pos rfl]
theorem Bm (h:c ρ=some (false,ρ1)):uF c f g ρ=g ρ1:=by unfold uF; rw [h,Option.bind_some,if_neg Bool.false_ne_true]
theorem Oj {fe:EF} {j:JF} (h:fe ρ=some (l,ρ1)) (hs:FN l.pv=true):jR fe j ρ=j ρ1:=by unfold jR; rw [h,Option.bind_some,if_pos hs]
theorem Gh {n:Nat} {ps:List PV} {mu:Mu} (h:f (env0 n ps mu)=some (.ok (.nx ρ))):rE n f ps mu=some (.ok (.sh .non,ρ.mu)):=by unfold rE; rw [h,Option.bind_some]
theorem zq {n:Nat} {ps:List PV} {mu:Mu} (h:f (env0 n ps mu)=some (.xc C ρ)):rE n f ps mu=some (.xc C ρ):=by unfold rE; rw [h,Option.bind_some]
theorem MK {G:GX} {a:AF} {ls:List Lc} {ps:List PV} {mu:Mu} {v:List (Option Lc)} {mu1:Mu} (h:a ρ=some (ls,ρ1)) (hp:ls.map Lc.pv=ps) (hv:ρ1.vs=v) (hm:ρ1.mu=mu1) (h2:G ps mu1=some (.ok (l,mu))):lV G a ρ=some (.ok (l,⟨v,mu⟩)):=by
 subst hp hv hm
 unfold lV
 rw [h,Option.bind_some,h2]; rfl
theorem MN {G:GX} {a:AF} {ls:List Lc} {ps:List PV} {v:List (Option Lc)} {mu1:Mu} (h:a ρ=some (ls,ρ1)) (hp:ls.map Lc.pv=ps) (hv:ρ1.vs=v) (hm:ρ1.mu=mu1) (h2:G ps mu1=some (.xc C ρ')):lV G a ρ=some (.xc C ⟨v,ρ'.mu⟩):=by
 subst hp hv hm
 unfold lV
 rw [h,Option.bind_some,h2]; rfl
theorem U8 {fe:EX} {k:Lc×Ev->Option Fl} (h:fe ρ=some (.ok (l,ρ1))) (h2:k (l,ρ1)=some fl):xB fe k ρ=some (.ok fl):=by unfold xB; rw [h,Option.bind_some]; show (k (l,ρ1)).map _=_; rw [h2]; rfl
theorem U9 {fe:EX} {k:Lc×Ev->Option Fl} (h:fe ρ=some (.xc C ρ1)):xB fe k ρ=some (.xc C ρ1):=by unfold xB; rw [h,Option.bind_some]
end
theorem Ke:∀ {l:List Nat} {x:Nat},x∈l->x<=l.sum
 | y::l,x,h=>by
  rw [List.sum_cons]
  rcases List.mem_cons.mp h with rfl | h
  . exact Nat.le_add_right _ _
  . exact Nat.le_trans (Ke h) (Nat.le_add_left _ _)
noncomputable def Ol (ps:List (Str×Str)):Prop:=∃ h:Str->Nat,∀ q∈ps,q.1≠q.2->h q.1<h q.2
theorem QB {xs:List Str} {ps:List (Str×Str)} (B:Base xs ps):(Ol ps/\∀ mu,cU [.lst (SS xs),.lst (PP ps)] mu=some (.sh .non,mu))\/(∀ mu,∃ r,cU [.lst (SS xs),.lst (PP ps)] mu=some (.own (.lst (SS r)),mu)/\Rg.RingOk xs ps r):=by
 have lp:=B.lp
 have l8:=B.l8
 have two:∀ mu,(cU [.lst (SS xs),.lst (PP ps)] mu=some (.sh .non,mu)/\Ol ps)\/∃ r,cU [.lst (SS xs),.lst (PP ps)] mu=some (.own (.lst (SS r)),mu)/\Rg.RingOk xs ps r:=fun mu=>by
  rcases Rg.ringof_eq (names:=xs) (ps:=ps) (mu:=mu) (by omega) (by omega) with ⟨e,h,hh⟩ | h
  . refine .inl ⟨e,fun x=>(xs.map h).sum-h x,fun q hq hne=>?_⟩
    obtain ⟨h1,h2⟩:=B.mem q hq
    have:=hh q.1 h1 q.2 h2 hq (Ne.symm hne)
    have le:∀ x∈xs,h x<=(xs.map h).sum:=fun x hx=>Ke (List.mem_map.mpr ⟨x,hx,rfl⟩)
    have:=le _ h1
    show (xs.map h).sum-h q.1<(xs.map h).sum-h q.2
    omega
  . exact .inr h
 rcases two [] with ⟨_,hn⟩ | ⟨r,_,rk⟩
 . refine .inl ⟨hn,fun mu=>?_⟩
   rcases two mu with ⟨e,_⟩ | ⟨r,_,rk⟩
   . exact e
   . obtain ⟨h,hh⟩:=hn
     exact (Rg.ring_no rk hh).elim
 . refine .inr fun mu=>?_
   rcases two mu with ⟨_,h,hh⟩ | x
   . exact (Rg.ring_no rk hh).elim
   . exact x
noncomputable def yo (xs:List Str) (ps:List (Str×Str)) (l:PV):Prop:=(∃ a∈xs,∃ b∈xs,l=.tup [.str "join",.str a,.str b]/\bnd ps a b=.non)\/(∃ a∈xs,∃ b∈xs,l=.tup [.str "meet",.str a,.str b]/\bnd (fZ ps) a b=.non)
theorem QC {xs:List Str} {ps:List (Str×Str)} (B:Base xs ps):(((∀ a∈xs,∀ b∈xs,bnd ps a b≠.non)/\∀ a∈xs,∀ b∈xs,bnd (fZ ps) a b≠.non)/\∀ mu,fM [.lst (SS xs),.lst (PP ps)] mu=some (.sh .non,mu))\/(∀ mu,∃ l,fM [.lst (SS xs),.lst (PP ps)] mu=some (.sh l,mu)/\yo xs ps l):=by
 have l8:=B.l8
 have two:=fun mu=>Ig (mu:=mu) B.lp B.mem B.nd (by omega)
 have no:∀ {l:PV},yo xs ps l->¬ ((∀ a∈xs,∀ b∈xs,bnd ps a b≠.non)/\∀ a∈xs,∀ b∈xs,bnd (fZ ps) a b≠.non):=fun h ⟨g1,g2⟩=>by
  rcases h with ⟨a,ha,b,hb,_,h⟩ | ⟨a,ha,b,hb,_,h⟩
  . exact g1 a ha b hb h
  . exact g2 a ha b hb h
 obtain ⟨l,_,h | h⟩:=two []
 . refine .inl ⟨h.2,fun mu=>?_⟩
   obtain ⟨l',e',h' | h'⟩:=two mu
   . rw [e',h'.1]
   . exact (no h' h.2).elim
 . refine .inr fun mu=>?_
   obtain ⟨l',e',h' | h'⟩:=two mu
   . exact (no h h'.2).elim
   . exact ⟨l',e',h'⟩
noncomputable abbrev RE (xs:List Str) (ps:List (Str×Str)) (o2 o3:Option Lc) (mu:Mu):Ev:=⟨[zS xs,zP ps,o2,o3],mu⟩
theorem uV {xs:List Str} {ps:List (Str×Str)} {mu:Mu} (hn:xs≠[]):uF (bN (tT (aa 0) aN)) (qJ "NoOrder" uG) (iU bJ) (env0 4 [.lst (SS xs),.lst (PP ps)] mu)=some (.ok (.nx (RE xs ps none none mu))):=by
 have hne:xs.isEmpty=false:=by
  cases xs with
  | nil=>exact absurd rfl hn
  | cons _ _=>rfl
 have t0:bN (tT (aa 0) aN) (env0 4 [.lst (SS xs),.lst (PP ps)] mu)=some (false,RE xs ps none none mu):=(jw (b:=!xs.isEmpty) (bW (l:=wS xs) rfl rfl Rg.truL)).trans (by rw [hne]; rfl)
 exact (Bm t0).trans rfl
theorem Em {xs:List Str} {ps:List (Str×Str)} {mu:Mu} (B:Base xs ps) {r:List Str} (e:cU [.lst (SS xs),.lst (PP ps)] mu=some (.own (.lst (SS r)),mu)) (rk:Rg.RingOk xs ps r) (h64:r.length<=64):∃ ρ,ρ.mu=mu/\eU [.lst (SS xs),.lst (PP ps)] mu=some (.xc "NoOrder" ρ):=by
 refine ⟨RE xs ps (zS r) none mu,rfl,zq (dJ (uV B.ne) (dJ (ρ':=RE xs ps (yO (SS r)) none mu) (fW (aQ (aX (az rfl (az rfl rfl)) rfl rfl rfl e) rfl rfl)) (Gg ((Oi (ρ1:=RE xs ps (zS r) none mu) rfl).trans ?_))))⟩
 show ((jR (aa 2) uG _).map _)=_
 rw [Oj (l:=wS r) (ρ1:=RE xs ps (zS r) none mu) rfl (T5 (fun x hx=>B.nm x (rk.sub x hx)) h64)]
 rfl
theorem En {xs:List Str} {ps:List (Str×Str)} {mu:Mu} (B:Base xs ps) (er:cU [.lst (SS xs),.lst (PP ps)] mu=some (.sh .non,mu)) {l:PV} (e:fM [.lst (SS xs),.lst (PP ps)] mu=some (.sh l,mu)) (lk:yo xs ps l):∃ ρ,ρ.mu=mu/\eU [.lst (SS xs),.lst (PP ps)] mu=some (.xc "NoOrder" ρ):=by
 have hs:FN l=true/\jX l .non=yS (.bl true):=by
  rcases lk with ⟨a,ha,b,hb,rfl,_⟩ | ⟨a,ha,b,hb,rfl,_⟩<;>exact ⟨T6 (by decide +kernel) (B.nm a ha) (B.nm b hb),rfl⟩
 refine ⟨RE xs ps (some (.sh .non)) (yS l) mu,rfl,zq (dJ (uV B.ne) (dJ (ρ':=RE xs ps (some (.sh .non)) none mu) (fW (aQ (aX (az rfl (az rfl rfl)) rfl rfl rfl er) rfl rfl)) (dJ (ρ':=RE xs ps (some (.sh .non)) none mu) ((Bm (ρ1:=RE xs ps (some (.sh .non)) none mu) rfl).trans rfl)
  (dJ (ρ':=RE xs ps (some (.sh .non)) (yS l) mu) (fW (aQ (aX (az rfl (az rfl rfl)) rfl rfl rfl e) rfl rfl)) ((Oi (ρ1:=RE xs ps (some (.sh .non)) (yS l) mu) (bW (bx (l:=.sh l) (m:=.sh .non) rfl rfl rfl rfl hs.2) rfl rfl)).trans ?_)))))⟩
 show ((jR (aa 3) uG _).map _)=_
 rw [Oj (l:=.sh l) (ρ1:=RE xs ps (some (.sh .non)) (yS l) mu) rfl hs.1]
 rfl
theorem Kf {xs:List Str} {ps:List (Str×Str)} {mu:Mu} (B:Base xs ps) (er:cU [.lst (SS xs),.lst (PP ps)] mu=some (.sh .non,mu)) (e:fM [.lst (SS xs),.lst (PP ps)] mu=some (.sh .non,mu)):eU [.lst (SS xs),.lst (PP ps)] mu=some (.ok (.sh .non,mu)):=
 Gh (ρ:=RE xs ps (some (.sh .non)) (some (.sh .non)) mu) (dJ (uV B.ne) (dJ (ρ':=RE xs ps (some (.sh .non)) none mu) (fW (aQ (aX (az rfl (az rfl rfl)) rfl rfl rfl er) rfl rfl)) (dJ (ρ':=RE xs ps (some (.sh .non)) none mu) ((Bm (ρ1:=RE xs ps (some (.sh .non)) none mu) rfl).trans rfl)
  (dJ (ρ':=RE xs ps (some (.sh .non)) (some (.sh .non)) mu) (fW (aQ (aX (az rfl (az rfl rfl)) rfl rfl rfl e) rfl rfl)) ((Bm (ρ1:=RE xs ps (some (.sh .non)) (some (.sh .non)) mu) rfl).trans rfl)))))
theorem QD {C f:Str} {fo fv:EF} {ρ ρ1 ρ2:Ev} {y x:Lc} {p:PV} {n:Nat} {l:FD} (h1:fv ρ=some (y,ρ1)) (hy:y.pv=p) (h2:fo ρ1=some (x,ρ2)) (hx:x.pv=.ptr n) (hm:ρ2.mu[n]?=some (some (cH C l))) (hl:l.length<1000):jq C f fo fv ρ=some (.nx ⟨ρ2.vs,ρ2.mu.set n (some (cH C (iw f p l)))⟩):=by
 unfold jq
 rw [h1,Option.bind_some,h2,Option.bind_some,hx]
 dsimp only
 rw [hm]
 unfold cH
 dsimp only
 rw [if_pos ⟨rfl,by rw [List.length_map]; exact hl⟩,Dz,hy]
theorem nQ {C f:Str} {fo:EF} {ρ ρ1:Ev} {x:Lc} {p:PV} {n:Nat} {l:FD} (h2:fo ρ=some (x,ρ1)) (hx:x.pv=.ptr n) (hm:ρ1.mu[n]?=some (some (cH C l))) (hp:gO l f=some p):jH C f fo ρ=some (.sh p,ρ1):=by
 unfold jH
 rw [h2,Option.bind_some,hx]
 dsimp only
 rw [hm]
 unfold cH
 dsimp only
 rw [if_pos rfl,Dz,hp]
 rfl
theorem vy {C m:Str} {g:GF} {fo:EF} {a:AF} {ρ ρ1 ρ2:Ev} {x:Lc} {ls:List Lc} {n:Nat} {l:FD} {r:Lc} {mu2:Mu} {ps:List PV} (h1:fo ρ=some (x,ρ1)) (hx:x.pv=.ptr n) (hm:ρ1.mu[n]?=some (some (cH C l))) (hc:(l.map (·.1)).contains m=false) (h2:a ρ1=some (ls,ρ2)) (hps:ls.map Lc.pv=ps) (h3:g (.ptr n::ps) ρ2.mu=some (r,mu2)):bG C m g fo a ρ=some (r,⟨ρ2.vs,mu2⟩):=by
 unfold bG
 rw [h1,Option.bind_some,hx]
 dsimp only
 rw [hm]
 unfold cH
 dsimp only
 rw [if_pos ⟨rfl,hc⟩,h2,Option.bind_some,hps,h3]
 rfl
noncomputable abbrev oF (xs:List Str) (ps:List (Str×Str)) (lj lm:iT) (lo hi:Str):FD:=[("names",.lst (SS xs)),("above",DF ps xs),("joins",ik lj),("meets",ik lm),("lowest",.str lo),("highest",.str hi)]
structure Om (xs:List Str) (ps:List (Str×Str)) (l:FD):Prop where
 ex:∃ lj lm lo hi,l=oF xs ps lj lm lo hi/\Tb ps xs lj/\(∀ x∈xs,∀ y∈xs,en ps x y∈lj)/\Tb (fZ ps) xs lm/\(∀ x∈xs,∀ y∈xs,en (fZ ps) x y∈lm)/\(lo∈xs/\(dg ps lo).length=xs.length)/\hi∈xs/\(dg ps hi).length=1
theorem Aq {xs:List Str} {ps:List (Str×Str)} {mu:Mu} {n:Nat} {l:FD} {c:Nat} {tc:TF} {vs:List (Option Lc)} (hl:xs.length<=1000) (ht:∀ x∈xs,tc ⟨zT x::vs,mu⟩=some (decide ((dg ps x).length=c),⟨zT x::vs,mu⟩)):dH (au 0) tc (aa 0) (SS xs) ⟨none::vs,mu⟩ []=some (SS (xs.filter fun x=>decide ((dg ps x).length=c)),mu):=by
 have:=j9 (b:=au 0) (tc:=tc) (te:=aa 0) (mu:=mu) (fun ρ=>∃ o,ρ=⟨o::vs,mu⟩) (fun ρ ⟨o,e⟩=>by rw [e]) (fun p=>match p with | .str y=>decide ((dg ps y).length=c) | _=>false) (fun p=>p) (xs:=SS xs) (ρ:=⟨none::vs,mu⟩) (acc:=[]) ⟨none,rfl⟩ (by simp; omega) (by
  rintro z hz ρ ⟨o,rfl⟩
  obtain ⟨y,hy,rfl⟩:=List.mem_map.mp hz
  exact ⟨⟨zT y::vs,mu⟩,rfl,_,ht y hy,⟨_,rfl⟩,fun _=>⟨_,_,rfl,rfl,_,rfl⟩⟩)
 rw [this,List.nil_append,List.filter_map,List.map_map]
 rfl
theorem T7 {ys:List Str} (h:ys≠[]):∃ y∈ys,pH (.lst (SS ys)) (.int 0)=zT y:=by
 cases ys with
 | nil=>exact absurd rfl h
 | cons y t=>exact ⟨y,List.mem_cons_self,by show (gn (SS (y::t)) 0).map _=_; rw [show SS (y::t)=.str y::SS t from rfl,at0]; rfl⟩
theorem Kg {fa fb:EF} {ρ ρ1 ρ2:Ev} {l m r:Lc} {qs:List PV} {q:PV} (h1:fa ρ=some (l,ρ1)) (hx:l.pv=.lst qs) (h2:fb ρ1=some (m,ρ2)) (hy:m.pv=q) (h3:pH (.lst qs) q=some r):jz fa fb ρ=some (r,ρ2):=by
 unfold jz
 rw [h1,Option.bind_some,h2,Option.bind_some]
 dsimp only
 rw [hx]
 dsimp only
 exact lr (fa:=fun _=>some (l,ρ1)) (fb:=fun _=>some (m,ρ2)) rfl hx rfl hy (fun n h=>by cases h) h3
theorem Gi {f:EF} {ρ ρ1:Ev} {l:Lc} {qs:List PV} (h:f ρ=some (l,ρ1)) (hl:l.pv=.lst qs):rD f ρ=some (.sh (.int (qs.length:Nat)),ρ1):=by
 unfold rD
 rw [h,Option.bind_some,hl]
 rfl
theorem Gj {a b:Int}:Dc (.int a) (.int b)=yS (.bl (a==b)):=rfl
noncomputable abbrev Kh (xs:List Str):FD:=[("names",.lst (SS xs))]
noncomputable abbrev Kl (xs:List Str) (ps:List (Str×Str)):FD:=[("names",.lst (SS xs)),("above",DF ps xs)]
noncomputable abbrev Ar (xs:List Str) (ps:List (Str×Str)) (lj:iT):FD:=[("names",.lst (SS xs)),("above",DF ps xs),("joins",ik lj)]
noncomputable abbrev Gk (xs:List Str) (ps:List (Str×Str)) (lj lm:iT):FD:=[("names",.lst (SS xs)),("above",DF ps xs),("joins",ik lj),("meets",ik lm)]
noncomputable abbrev Gm (xs:List Str) (ps:List (Str×Str)) (lj lm:iT) (lo:Str):FD:=[("names",.lst (SS xs)),("above",DF ps xs),("joins",ik lj),("meets",ik lm),("lowest",.str lo)]
theorem iu {f g:Str} {p q:PV} {r:FD} (h:¬ g=f):iw f p ((g,q)::r)=(g,q)::iw f p r:=by
 show (if g=f then _ else _)=_
 rw [if_neg h]
theorem QF {xs:List Str} {ps:List (Str×Str)} {mu:Mu} (ok:nP xs ps) (hro:eU [.lst (SS xs),.lst (PP ps)] (mu++[some (cH "Order" [])])=some (.ok (.sh .non,mu++[some (cH "Order" [])]))):∃ l,Om xs ps l/\cV [.ptr mu.length,.lst (SS xs),.lst (PP ps)] (mu++[some (cH "Order" [])])=some (.ok (.sh .non,mu++[some (cH "Order" l)])):=by
 have l8:=ok.l8
 have hset:∀ (p q:Option PV),(mu++[p]).set mu.length q=mu++[q]:=fun p q=>by rw [List.set_append_right _ _ (Nat.le_refl _)]; simp
 have hget:∀ (p:Option PV),(mu++[p])[mu.length]?=some p:=fun p=>by rw [List.getElem?_append_right (Nat.le_refl _)]; simp
 obtain ⟨lj,ej,t1,t2⟩:=uR (ps:=ps) (names:=xs) (mu:=mu++[some (cH "Order" (Kl xs ps))]) ok.lp (fun q hq=>(ok.mem q hq).2) (by omega)
 have hsw:∀ q∈fZ ps,q.2∈xs:=fun q hq=>by
  obtain ⟨q',hq',rfl⟩:=List.mem_map.mp hq
  exact (ok.mem q' hq').1
 obtain ⟨lm,em,t3,t4⟩:=uR (ps:=fZ ps) (names:=xs) (mu:=mu++[some (cH "Order" (Ar xs ps lj))]) (by rw [List.length_map]; exact ok.lp) hsw (by omega)
 let E:FD->Ev:=fun l=>⟨[yS (.ptr mu.length),zS xs,zP ps],mu++[some (cH "Order" l)]⟩
 have sf:∀ (f:Str) (fv:EF) (l:FD) (y:Lc),fv (E l)=some (y,E l)->l.length<1000->jq "Order" f (aa 0) fv (E l)=some (.nx (E (iw f y.pv l))):=fun f fv l y h hl=>by
  rw [QD h rfl (x:=.sh (.ptr mu.length)) (ρ2:=E l) rfl rfl (hget _) hl,show (E l).mu=mu++[some (cH "Order" l)] from rfl,hset]
 have s1:jq "Order" "names" (aa 0) (eB list1 (aj (aa 1) ao)) (E [])=some (.nx (E (Kh xs))):=sf _ _ [] (.own (.lst (SS xs))) rfl (by decide)
 have p2:iw "above" (DF ps xs) (Kh xs)=(Kl xs ps):=by
  rw [iu (show ¬ (("names" : Str) = "above") from by decide +kernel)]
  rfl
 have s2:jq "Order" "above" (aa 0) (o9 (aM dq (aj (aa 1) (aj (aa 2) ao)))) (E (Kh xs))=some (.nx (E (Kl xs ps))):=by
  rw [← p2]
  refine sf _ _ _ (.sh (DF ps xs)) ?_ (by show 1<1000; decide)
  have e1:aM dq (aj (aa 1) (aj (aa 2) ao)) (E (Kh xs))=some (.own (nu (iZ ps xs)),E (Kh xs)):=aX (az rfl (az rfl rfl)) rfl rfl rfl (qO ok.lp ok.nd (by omega))
  unfold o9
  rw [e1]
  rfl
 have fab:∀ (fo:EF) (ρ:Ev) (l:FD),fo ρ=some (.sh (.ptr mu.length),ρ)->ρ.mu=mu++[some (cH "Order" (("names",.lst (SS xs))::("above",DF ps xs)::l))]->jH "Order" "above" fo ρ=some (.sh (DF ps xs),ρ):=fun fo ρ l h hm=>by
  refine nQ h rfl (by rw [hm]; exact hget _) ?_
  show (if ("names" : Str) = "above" then _ else _)=_
  rw [if_neg (show ¬ (("names" : Str) = "above") from by decide +kernel)]
  show (if ("above" : Str) = "above" then _ else _)=_
  rw [if_pos rfl]
 have p3:iw "joins" (ik lj) (Kl xs ps)=(Ar xs ps lj):=by
  rw [iu (show ¬ (("names" : Str) = "joins") from by decide +kernel),iu (show ¬ (("above" : Str) = "joins") from by decide +kernel)]
  rfl
 have s3:jq "Order" "joins" (aa 0) (aM jh (aj (jH "Order" "above" (aa 0)) ao)) (E (Kl xs ps))=some (.nx (E (Ar xs ps lj))):=by
  rw [← p3]
  refine sf _ _ _ (.own (ik lj)) ?_ (by show 2<1000; decide)
  exact aX (az (fab _ _ [] rfl rfl) rfl) rfl rfl rfl ej
 have p4:iw "meets" (ik lm) (Ar xs ps lj)=(Gk xs ps lj lm):=by
  rw [iu (show ¬ (("names" : Str) = "meets") from by decide +kernel),iu (show ¬ (("above" : Str) = "meets") from by decide +kernel),iu (show ¬ (("joins" : Str) = "meets") from by decide +kernel)]
  rfl
 have s4:jq "Order" "meets" (aa 0) (aM jh (aj (o9 (aM cN (aj (aa 1) (aj (aa 2) ao)))) ao)) (E (Ar xs ps lj))=some (.nx (E (Gk xs ps lj lm))):=by
  rw [← p4]
  refine sf _ _ _ (.own (ik lm)) ?_ (by show 3<1000; decide)
  have e1:aM cN (aj (aa 1) (aj (aa 2) ao)) (E (Ar xs ps lj))=some (.own (nu (iZ (fZ ps) xs)),E (Ar xs ps lj)):=aX (az rfl (az rfl rfl)) rfl rfl rfl (sy ok.lp ok.nd (by omega))
  refine aX (az (l:=.sh (DF (fZ ps) xs)) (ls:=[]) (ρ1:=E (Ar xs ps lj)) ?_ rfl) rfl rfl rfl em
  unfold o9
  rw [e1]
  rfl
 have lenA:∀ (ρ:Ev) (l:FD) (x:Str),x∈xs->ρ.vs[0]?=some (zT x)->ρ.vs[1]?=some (yS (.ptr mu.length))->ρ.set 0 (zT x)=ρ->ρ.set 1 (yS (.ptr mu.length))=ρ->ρ.mu=mu++[some (cH "Order" (("names",.lst (SS xs))::("above",DF ps xs)::l))]->rD (jz (jH "Order" "above" (aa 1)) (aa 0)) ρ=some (.sh (.int ((dg ps x).length:Nat)),ρ):=fun ρ l x hx h0 h1 hs0 hs1 hm=>by
  have v0:aa 0 ρ=some (.sh (.str x),ρ):=by unfold aa; rw [h0]; show some (Lc.sh (PV.str x),ρ.set 0 (zT x))=_; rw [hs0]
  have v1:aa 1 ρ=some (.sh (.ptr mu.length),ρ):=by unfold aa; rw [h1]; show some (Lc.sh (PV.ptr mu.length),ρ.set 1 (yS (.ptr mu.length)))=_; rw [hs1]
  have:=Gi (uQ (d:=iZ ps xs) (fab _ _ l v1 hm) rfl v0 rfl (pX hx)) rfl
  rw [this,List.length_map]
 have lo_ne:(xs.filter fun x=>decide ((dg ps x).length=xs.length))≠[]:=by
  obtain ⟨x,hx,h⟩:=ok.lo
  exact List.ne_nil_of_mem (List.mem_filter.mpr ⟨hx,decide_eq_true h⟩)
 have hi_ne:(xs.filter fun x=>decide ((dg ps x).length=1))≠[]:=by
  obtain ⟨x,hx,h⟩:=ok.hi
  exact List.ne_nil_of_mem (List.mem_filter.mpr ⟨hx,decide_eq_true h⟩)
 obtain ⟨lo,hlo,alo⟩:=T7 lo_ne
 obtain ⟨hi,hhi,ahi⟩:=T7 hi_ne
 have p5:iw "lowest" (.str lo) (Gk xs ps lj lm)=(Gm xs ps lj lm lo):=by
  rw [iu (show ¬ (("names" : Str) = "lowest") from by decide +kernel),iu (show ¬ (("above" : Str) = "lowest") from by decide +kernel),iu (show ¬ (("joins" : Str) = "lowest") from by decide +kernel),iu (show ¬ (("meets" : Str) = "lowest") from by decide +kernel)]
  rfl
 have s5:jq "Order" "lowest" (aa 0) (jz (bh (dG (aa 1) bO) 1 [0,1] (au 0) (tT (aC Dc (rD (jz (jH "Order" "above" (aa 1)) (aa 0))) (rD (aa 2))) aZ) (aa 0)) (eC (.int 0))) (E (Gk xs ps lj lm))=some (.nx (E (Gm xs ps lj lm lo))):=by
  rw [← p5]
  refine sf _ _ _ (.sh (.str lo)) ?_ (by show 4<1000; decide)
  refine Kg (l:=.own (.lst (SS (xs.filter fun x=>decide ((dg ps x).length=xs.length))))) ((cX (ρ1:=E (Gk xs ps lj lm)) (gF (l:=wS xs) rfl rfl rfl) (Aq (ps:=ps) (n:=0) (l:=[]) (c:=xs.length) (vs:=[yS (.ptr mu.length),zS xs]) (mu:=mu++[some (cH "Order" (Gk xs ps lj lm))]) (by omega) fun x hx=>?_)).trans rfl) rfl rfl rfl alo
  refine (bW (l:=.sh (.bl ((((dg ps x).length:Nat):Int)==((SS xs).length:Nat)))) (bx (lenA _ _ x hx rfl rfl rfl rfl rfl) rfl (Gi (l:=wS xs) rfl rfl) rfl Gj) rfl rfl).trans ?_
  rw [List.length_map]
  congr 2
  rw [Bool.eq_iff_iff,beq_iff_eq,decide_eq_true_eq]
  omega
 have p6:iw "highest" (.str hi) (Gm xs ps lj lm lo)=oF xs ps lj lm lo hi:=by
  rw [iu (show ¬ (("names" : Str) = "highest") from by decide +kernel),iu (show ¬ (("above" : Str) = "highest") from by decide +kernel),iu (show ¬ (("joins" : Str) = "highest") from by decide +kernel),iu (show ¬ (("meets" : Str) = "highest") from by decide +kernel),iu (show ¬ (("lowest" : Str) = "highest") from by decide +kernel)]
  rfl
 have s6:jq "Order" "highest" (aa 0) (jz (bh (dG (aa 1) bO) 1 [0] (au 0) (tT (aC Dc (rD (jz (jH "Order" "above" (aa 1)) (aa 0))) (eC (.int 1))) aZ) (aa 0)) (eC (.int 0))) (E (Gm xs ps lj lm lo))=some (.nx (E (oF xs ps lj lm lo hi))):=by
  rw [← p6]
  refine sf _ _ _ (.sh (.str hi)) ?_ (by show 5<1000; decide)
  refine Kg (l:=.own (.lst (SS (xs.filter fun x=>decide ((dg ps x).length=1))))) ((cX (ρ1:=E (Gm xs ps lj lm lo)) (gF (l:=wS xs) rfl rfl rfl) (Aq (ps:=ps) (n:=0) (l:=[]) (c:=1) (vs:=[yS (.ptr mu.length)]) (mu:=mu++[some (cH "Order" (Gm xs ps lj lm lo))]) (by omega) fun x hx=>?_)).trans rfl) rfl rfl rfl ahi
  refine (bW (l:=.sh (.bl ((((dg ps x).length:Nat):Int)==1))) (bx (lenA _ _ x hx rfl rfl rfl rfl rfl) rfl rfl rfl Gj) rfl rfl).trans ?_
  congr 2
  rw [Bool.eq_iff_iff,beq_iff_eq,decide_eq_true_eq]
  omega
 refine ⟨oF xs ps lj lm lo hi,⟨⟨lj,lm,lo,hi,rfl,t1,t2,t3,t4,⟨(List.mem_filter.mp hlo).1,of_decide_eq_true (List.mem_filter.mp hlo).2⟩,(List.mem_filter.mp hhi).1,of_decide_eq_true (List.mem_filter.mp hhi).2⟩⟩,?_⟩
 exact Gh (ρ:=E (oF xs ps lj lm lo hi)) (dJ (ρ':=E []) (fW (vd (aX (az rfl (az rfl rfl)) rfl rfl rfl (qZ ok.toBase)))) (dJ (ρ':=E []) (U8 (MK (az rfl (az rfl rfl)) rfl rfl rfl hro) rfl) (dJ (fW s1) (dJ (fW s2) (dJ (fW s3) (dJ (fW s4) (dJ (fW s5) (fW s6))))))))
theorem Gn {xs:List Str} {ps:List (Str×Str)} {mu:Mu} {ρ:Ev} (B:Base xs ps) (h:eU [.lst (SS xs),.lst (PP ps)] (mu++[some (cH "Order" [])])=some (.xc "NoOrder" ρ)):∃ ρ',ρ'.mu=ρ.mu/\cV [.ptr mu.length,.lst (SS xs),.lst (PP ps)] (mu++[some (cH "Order" [])])=some (.xc "NoOrder" ρ'):=
 ⟨⟨[yS (.ptr mu.length),zS xs,zP ps],ρ.mu⟩,rfl,zq (dJ (ρ':=⟨[yS (.ptr mu.length),zS xs,zP ps],mu++[some (cH "Order" [])]⟩) (fW (vd (aX (az rfl (az rfl rfl)) rfl rfl rfl (qZ B)))) (Gg (U9 (MN (az rfl (az rfl rfl)) rfl rfl rfl h))))⟩
theorem fX {f g:Str} {q:PV} {r:FD} (h:¬ g=f):gO ((g,q)::r) f=gO r f:=by
 show (if g=f then _ else _)=_
 rw [if_neg h]
theorem oU {f:Str} {q:PV} {r:FD}:gO ((f,q)::r) f=some q:=by
 show (if f=f then _ else _)=_
 rw [if_pos rfl]
section
variable {xs:List Str} {ps:List (Str×Str)} {lj lm:iT} {lo hi:Str}
theorem DR:gO (oF xs ps lj lm lo hi) "names" = some (.lst (SS xs)):=by
 exact oU
theorem MP:gO (oF xs ps lj lm lo hi) "above" = some (DF ps xs):=by
 rw [fX (show ¬ (("names" : Str) = "above") from by decide +kernel)]
 exact oU
theorem MT:gO (oF xs ps lj lm lo hi) "joins" = some (ik lj):=by
 rw [fX (show ¬ (("names" : Str) = "joins") from by decide +kernel)]
 rw [fX (show ¬ (("above" : Str) = "joins") from by decide +kernel)]
 exact oU
theorem M3:gO (oF xs ps lj lm lo hi) "meets" = some (ik lm):=by
 rw [fX (show ¬ (("names" : Str) = "meets") from by decide +kernel)]
 rw [fX (show ¬ (("above" : Str) = "meets") from by decide +kernel)]
 rw [fX (show ¬ (("joins" : Str) = "meets") from by decide +kernel)]
 exact oU
theorem Av:gO (oF xs ps lj lm lo hi) "lowest" = some (.str lo):=by
 rw [fX (show ¬ (("names" : Str) = "lowest") from by decide +kernel)]
 rw [fX (show ¬ (("above" : Str) = "lowest") from by decide +kernel)]
 rw [fX (show ¬ (("joins" : Str) = "lowest") from by decide +kernel)]
 rw [fX (show ¬ (("meets" : Str) = "lowest") from by decide +kernel)]
 exact oU
theorem Ih:gO (oF xs ps lj lm lo hi) "highest" = some (.str hi):=by
 rw [fX (show ¬ (("names" : Str) = "highest") from by decide +kernel)]
 rw [fX (show ¬ (("above" : Str) = "highest") from by decide +kernel)]
 rw [fX (show ¬ (("joins" : Str) = "highest") from by decide +kernel)]
 rw [fX (show ¬ (("meets" : Str) = "highest") from by decide +kernel)]
 rw [fX (show ¬ (("lowest" : Str) = "highest") from by decide +kernel)]
 exact oU
end
theorem zr {ps:List (Str×Str)} {xs:List Str} {a b:Str}:∀ {l:iT},Tb ps xs l->en ps a b∈l->mH l [.inr a,.inr b]=some (bnd ps a b)
 | kv::r,h,hm=>by
  unfold mH
  split
  . rename_i e
    obtain ⟨a',_,b',_,e2⟩:=h kv List.mem_cons_self
    rw [e2] at e ⊢
    cases e
    rfl
  . rename_i e
    rcases List.mem_cons.mp hm with h1 | h1
    . rw [← h1] at e
      exact absurd rfl e
    . exact zr (fun e he=>h e (List.mem_cons_of_mem _ he)) h1
noncomputable def pL (n:Nat) (mu:Mu) (xs:List Str) (ps:List (Str×Str)):Prop:=nP xs ps/\∃ l,Om xs ps l/\mu[n]?=some (some (cH "Order" l))
noncomputable def U (ps:List (Str×Str)) (a b:Str):Bool:=has (dg ps a) b
noncomputable def jn (ps:List (Str×Str)) (a b:Str):Str:=match bnd ps a b with
 | .str r=>r
 | _ => ""
section
variable {n:Nat} {mu:Mu} {xs:List Str} {ps:List (Str×Str)} {a b:Str}
theorem DW (h:bnd ps a b≠.non):bnd ps a b=.str (jn ps a b):=by
 unfold jn
 unfold bnd at h ⊢
 split
 . rename_i r e
   rfl
 . rename_i e
   rw [e] at h
   exact absurd rfl h
theorem refuse_eq (O:pL n mu xs ps) (ha:a∈xs):aW [.ptr n,.str a] mu=some (.sh .non,mu):=by
 obtain ⟨ok,l,⟨lj,lm,lo,hi,rfl,_⟩,hm⟩:=O
 exact Fq (ρ:=⟨[yS (.ptr n),zT a],mu⟩) ((cL (ρ1:=⟨[yS (.ptr n),zT a],mu⟩) ((bW (bx rfl rfl (nQ (x:=.sh (.ptr n)) (ρ1:=⟨[yS (.ptr n),zT a],mu⟩) rfl rfl hm DR) rfl kO) rfl rfl).trans (by rw [bu.mpr ha]; rfl))).trans rfl)
theorem ut (O:pL n mu xs ps) (ha:a∈xs) (hb:b∈xs) (f:SF) (R:Option Fl) (h:f ⟨[yS (.ptr n),zT a,zT b],mu⟩=R):(aK (lZ (bG "Order" "refuse_stranger" aW (aa 0) (aj (aa 1) ao))) (aK (lZ (bG "Order" "refuse_stranger" aW (aa 0) (aj (aa 2) ao))) f)) ⟨[yS (.ptr n),zT a,zT b],mu⟩=R:=by
 have O':=O
 obtain ⟨ok,l,⟨lj,lm,lo,hi,rfl,_⟩,hm⟩:=O
 have hc:((oF xs ps lj lm lo hi).map (·.1)).contains ("refuse_stranger" : Str)=false:=by
  show (["names", "above", "joins", "meets", "lowest", "highest"]:List Str).contains "refuse_stranger" = false
  decide +kernel
 exact aG (ρ':=⟨[yS (.ptr n),zT a,zT b],mu⟩) (vd (vy (x:=.sh (.ptr n)) (ρ1:=⟨[yS (.ptr n),zT a,zT b],mu⟩) (ρ2:=⟨[yS (.ptr n),zT a,zT b],mu⟩) rfl rfl hm hc (az rfl rfl) rfl (refuse_eq O' ha))) (aG (ρ':=⟨[yS (.ptr n),zT a,zT b],mu⟩) (vd (vy (x:=.sh (.ptr n)) (ρ1:=⟨[yS (.ptr n),zT a,zT b],mu⟩) (ρ2:=⟨[yS (.ptr n),zT a,zT b],mu⟩) rfl rfl hm hc (az rfl rfl) rfl (refuse_eq O' hb))) h)
theorem Km {fa:EF} {fi:AF} {ρ ρ1 ρ2:Ev} {l:iT} {x:Lc} {ls:List Lc} {k:List Key} {p:PV} (h1:fa ρ=some (x,ρ1)) (hx:x.pv=ik l) (h2:fi ρ1=some (ls,ρ2)) (hk:vm (ls.map Lc.pv)=some k) (hl:k.length<=1000) (hv:mH l k=some p):Df fa fi ρ=some (.sh p,ρ2):=by
 unfold Df
 rw [h1,Option.bind_some,h2,Option.bind_some,hx]
 unfold ik
 dsimp only
 rw [hk,Option.bind_some,if_pos hl,Dz,hv]
 rfl
theorem M4 (O:pL n mu xs ps) (ha:a∈xs) (hb:b∈xs):cP [.ptr n,.str a,.str b] mu=some (.sh (.str (jn ps a b)),mu):=by
 have O':=O
 obtain ⟨ok,l,⟨lj,lm,lo,hi,rfl,t1,t2,_⟩,hm⟩:=O
 rw [← DW (ok.up a ha b hb)]
 exact bB (ρ:=⟨[yS (.ptr n),zT a,zT b],mu⟩) (ut O' ha hb _ _ (dR (Km (l:=lj) (k:=[.inr a,.inr b]) (nQ (x:=.sh (.ptr n)) (ρ1:=⟨[yS (.ptr n),zT a,zT b],mu⟩) rfl rfl hm MT) rfl (az rfl (az rfl rfl)) rfl (by show 2<=1000; decide) (zr t1 (t2 a ha b hb)))))
theorem M5 (O:pL n mu xs ps) (ha:a∈xs) (hb:b∈xs):d7 [.ptr n,.str a,.str b] mu=some (.sh (.str (jn (fZ ps) a b)),mu):=by
 have O':=O
 obtain ⟨ok,l,⟨lj,lm,lo,hi,rfl,_,_,t1,t2,_⟩,hm⟩:=O
 rw [← DW (ok.dn a ha b hb)]
 exact bB (ρ:=⟨[yS (.ptr n),zT a,zT b],mu⟩) (ut O' ha hb _ _ (dR (Km (l:=lm) (k:=[.inr a,.inr b]) (nQ (x:=.sh (.ptr n)) (ρ1:=⟨[yS (.ptr n),zT a,zT b],mu⟩) rfl rfl hm M3) rfl (az rfl (az rfl rfl)) rfl (by show 2<=1000; decide) (zr t1 (t2 a ha b hb)))))
theorem me {m:Str} {g:GF} {fo fa fb:EF} {ρ:Ev} {r:PV} (O:pL n mu xs ps) (hρ:ρ.mu=mu) (ho:fo ρ=some (.sh (.ptr n),ρ)) (ha:fa ρ=some (.sh (.str a),ρ)) (hb:fb ρ=some (.sh (.str b),ρ)) (hc:(["names", "above", "joins", "meets", "lowest", "highest"]:List Str).contains m=false) (hg:g [.ptr n,.str a,.str b] mu=some (.sh r,mu)):bG "Order" m g fo (aj fa (aj fb ao)) ρ=some (.sh r,ρ):=by
 obtain ⟨ok,l,⟨lj,lm,lo,hi,rfl,_⟩,hm⟩:=O
 have:=vy (C := "Order") (m:=m) (g:=g) (fo:=fo) (a:=aj fa (aj fb ao)) (l:=oF xs ps lj lm lo hi) (n:=n) (ps:=[.str a,.str b]) ho rfl (by rw [hρ]; exact hm) hc (az ha (az hb rfl)) rfl (by rw [hρ]; exact hg)
 rw [this,← hρ]
theorem T8 (O:pL n mu xs ps) {fo fa fb:EF} {ρ:Ev} (ina:a∈xs) (inb:b∈xs) (hρ:ρ.mu=mu) (ho:fo ρ=some (.sh (.ptr n),ρ)) (ha:fa ρ=some (.sh (.str a),ρ)) (hb:fb ρ=some (.sh (.str b),ρ)):bG "Order" "join" cP fo (aj fa (aj fb ao)) ρ=some (.sh (.str (jn ps a b)),ρ):=me O hρ ho ha hb (by decide +kernel) (M4 O ina inb)
theorem Vr (O:pL n mu xs ps) {fo fa fb:EF} {ρ:Ev} (ina:a∈xs) (inb:b∈xs) (hρ:ρ.mu=mu) (ho:fo ρ=some (.sh (.ptr n),ρ)) (ha:fa ρ=some (.sh (.str a),ρ)) (hb:fb ρ=some (.sh (.str b),ρ)):bG "Order" "meet" d7 fo (aj fa (aj fb ao)) ρ=some (.sh (.str (jn (fZ ps) a b)),ρ):=me O hρ ho ha hb (by decide +kernel) (M5 O ina inb)
theorem q8 (ok:ps.length<=68):U ps a b=true ↔ Rt (fun a b=>(a,b)∈ps) a b:=by
 unfold U
 rw [bu,vq ok]
theorem T9 (ok:ps.length<=68):U ps a a=true:=(q8 ok).mpr (.refl a)
theorem vz (ok:ps.length<=68) {c:Str} (h:U ps a b=true) (g:U ps b c=true):U ps a c=true:=(q8 ok).mpr (((q8 ok).mp h).trans ((q8 ok).mp g))
theorem Ko (ok:ps.length<=68) (an:Ol ps) (h:U ps a b=true) (g:U ps b a=true):a=b:=by
 obtain ⟨ht,hh⟩:=an
 have key:∀ {x y:Str},Rt (fun a b=>(a,b)∈ps) x y->x=y\/ht x<ht y:=by
  intro x y r
  induction r with
  | refl=>exact .inl rfl
  | @step y z _ e ih=>
   by_cases hyz:y=z
   . rw [← hyz]; exact ih
   . have:=hh (y,z) e hyz
     rcases ih with rfl | ih
     . exact .inr this
     . exact .inr (Nat.lt_trans ih this)
 rcases key ((q8 ok).mp h) with e | h1
 . exact e
 . rcases key ((q8 ok).mp g) with e | h2
   . exact e.symm
   . omega
theorem q9 (ok:ps.length<=68):b∈dg (fZ ps) a ↔ U ps b a=true:=by
 rw [q8 ok,vq (by rw [List.length_map]; exact ok)]
 have e1:∀ x y:Str,(x,y)∈fZ ps ↔ (y,x)∈ps:=fun x y=>by
  constructor
  . intro h
    obtain ⟨q,hq,e⟩:=List.mem_map.mp h
    cases e
    exact hq
  . intro h
    exact List.mem_map.mpr ⟨(y,x),h,rfl⟩
 constructor
 . intro h
   have h':=h.back
   clear h
   induction h' with
   | refl=>exact .refl _
   | step _ e ih=>exact ih.step ((e1 _ _).mp e)
 . intro h
   have h':=h.back
   clear h
   induction h' with
   | refl=>exact .refl _
   | step _ e ih=>exact ih.step ((e1 _ _).mpr e)
theorem jW {qs:List (Str×Str)} (h:bnd qs a b≠.non):jn qs a b∈dg qs a/\jn qs a b∈dg qs b/\∀ y∈dg qs a,y∈dg qs b->y∈dg qs (jn qs a b):=by
 have e:=DW h
 unfold bnd at e
 split at e
 . rename_i r hf
   injection e with e
   rw [← e]
   have h1:=List.mem_of_find?_eq_some hf
   have h2:=List.find?_some hf
   unfold shd at h1
   obtain ⟨g1,g2⟩:=List.mem_filter.mp h1
   refine ⟨g1,bu.mp g2,fun y hy hy'=>?_⟩
   unfold good at h2
   exact bu.mp (List.all_eq_true.mp h2 y (List.mem_filter.mpr ⟨hy,bu.mpr hy'⟩))
 . cases e
theorem Ii (ok:nP xs ps) (ha:a∈xs) (hb:b∈xs):jn ps a b∈xs:=jc (fun q hq=>(ok.mem q hq).2) ha (jW (ok.up a ha b hb)).1
theorem Oo (ok:nP xs ps) (ha:a∈xs) (hb:b∈xs):jn (fZ ps) a b∈xs:=jc (fun q hq=>by
 obtain ⟨q',hq',rfl⟩:=List.mem_map.mp hq
 exact (ok.mem q' hq').1) ha (jW (ok.dn a ha b hb)).1
theorem Ua (ok:nP xs ps) (ha:a∈xs) (hb:b∈xs):U ps a (jn ps a b)=true:=bu.mpr (jW (ok.up a ha b hb)).1
theorem Ub (ok:nP xs ps) (ha:a∈xs) (hb:b∈xs):U ps b (jn ps a b)=true:=bu.mpr (jW (ok.up a ha b hb)).2.1
theorem Wa (ok:nP xs ps) (ha:a∈xs) (hb:b∈xs) {c:Str} (h:U ps a c=true) (g:U ps b c=true):U ps (jn ps a b) c=true:=bu.mpr ((jW (ok.up a ha b hb)).2.2 c (bu.mp h) (bu.mp g))
theorem Wb (ok:nP xs ps) (ha:a∈xs) (hb:b∈xs):U ps (jn (fZ ps) a b) a=true:=(q9 ok.lp).mp (jW (ok.dn a ha b hb)).1
theorem Wc (ok:nP xs ps) (ha:a∈xs) (hb:b∈xs):U ps (jn (fZ ps) a b) b=true:=(q9 ok.lp).mp (jW (ok.dn a ha b hb)).2.1
theorem Wd (ok:nP xs ps) (ha:a∈xs) (hb:b∈xs) {c:Str} (h:U ps c a=true) (g:U ps c b=true):U ps c (jn (fZ ps) a b)=true:=(q9 ok.lp).mp ((jW (ok.dn a ha b hb)).2.2 c ((q9 ok.lp).mpr h) ((q9 ok.lp).mpr g))
theorem Kp (B:Base xs ps) (dn:∀ a∈xs,∀ b∈xs,bnd (fZ ps) a b≠.non):∀ l:List Str,(∀ x∈l,x∈xs)->∃ m∈xs,∀ x∈l,U ps m x=true
 | [],_=>by
  obtain ⟨y,hy⟩:=List.exists_mem_of_ne_nil _ B.ne
  exact ⟨y,hy,fun x hx=>by cases hx⟩
 | y::l,h=>by
  obtain ⟨m,hm,hl⟩:=Kp B dn l fun x hx=>h x (List.mem_cons_of_mem _ hx)
  have hy:=h y List.mem_cons_self
  obtain ⟨h1,h2,_⟩:=jW (dn m hm y hy)
  refine ⟨jn (fZ ps) m y,jc (fun q hq=>by
   obtain ⟨q',hq',rfl⟩:=List.mem_map.mp hq
   exact (B.mem q' hq').1) hm h1,fun x hx=>?_⟩
  rcases List.mem_cons.mp hx with rfl | hx
  . exact (q9 B.lp).mp h2
  . exact vz B.lp ((q9 B.lp).mp h1) (hl x hx)
theorem Gp (B:Base xs ps) (up:∀ a∈xs,∀ b∈xs,bnd ps a b≠.non):∀ l:List Str,(∀ x∈l,x∈xs)->∃ m∈xs,∀ x∈l,U ps x m=true
 | [],_=>by
  obtain ⟨y,hy⟩:=List.exists_mem_of_ne_nil _ B.ne
  exact ⟨y,hy,fun x hx=>by cases hx⟩
 | y::l,h=>by
  obtain ⟨m,hm,hl⟩:=Gp B up l fun x hx=>h x (List.mem_cons_of_mem _ hx)
  have hy:=h y List.mem_cons_self
  obtain ⟨h1,h2,_⟩:=jW (up m hm y hy)
  refine ⟨jn ps m y,jc (fun q hq=>(B.mem q hq).2) hm h1,fun x hx=>?_⟩
  rcases List.mem_cons.mp hx with rfl | hx
  . exact bu.mpr h2
  . exact vz B.lp (hl x hx) (bu.mpr h1)
theorem Uc (B:Base xs ps) (an:Ol ps) (up:∀ a∈xs,∀ b∈xs,bnd ps a b≠.non) (dn:∀ a∈xs,∀ b∈xs,bnd (fZ ps) a b≠.non):nP xs ps:=by
 refine ⟨B,an,up,dn,?_,?_⟩
 . obtain ⟨m,hm,h⟩:=Kp B dn xs fun x hx=>hx
   refine ⟨m,hm,Nat.le_antisymm (mJ uP fun x hx=>jc (fun q hq=>(B.mem q hq).2) hm hx) (mJ B.nd fun x hx=>bu.mp (h x hx))⟩
 . obtain ⟨m,hm,h⟩:=Gp B up xs fun x hx=>hx
   refine ⟨m,hm,Nat.le_antisymm (mJ (r:=[m]) uP fun x hx=>?_) (List.length_pos_of_mem ((vq B.lp).mpr (.refl m)))⟩
   exact List.mem_singleton.mpr (Ko B.lp an (h x (jc (fun q hq=>(B.mem q hq).2) hm hx)) (bu.mpr hx))
end
noncomputable abbrev QQ (qs:List (Nat×Nat)):List PV:=qs.map fun q=>.tup [.int (q.1:Nat),.int (q.2:Nat)]
theorem Ud {qs:List (Nat×Nat)} {a b:Nat}:QQ qs++[.tup [.int (a:Nat),.int (b:Nat)]]=QQ (qs++[(a,b)]):=by show _=List.map _ (qs++[(a,b)]); rw [List.map_append]; rfl
noncomputable def okN (n:Nat) (qs:List (Nat×Nat)):Prop:=∀ q∈qs,q.1<n/\q.2<n
theorem okN.app {n:Nat} {a b:List (Nat×Nat)} (ha:okN n a) (hb:okN n b):okN n (a++b):=fun q hq=>(List.mem_append.mp hq).elim (ha q) (hb q)
noncomputable abbrev QE (S:PV) (n:Nat) (m l3 o4 o5 o6 o7:Option Lc) (mu:Mu):Ev:=⟨[yS S,zI (n:Nat),m,l3,o4,o5,o6,o7],mu⟩
theorem Gq {n:Nat} {te:EF} {g:Nat->Nat×Nat} {vs:List (Option Lc)} {mu:Mu} (h8:n<=8) (he:∀ i:Nat,te ⟨zI (0+i)::vs,mu⟩=some (.sh (.tup [.int ((g i).1:Nat),.int ((g i).2:Nat)]),⟨zI (0+i)::vs,mu⟩)):dH (au 0) bw te (cg 0 n) ⟨none::vs,mu⟩ []=some (QQ ((List.range n).map g),mu):=by
 have:=iR (b:=au 0) (te:=te) (mu:=mu) (fun ρ=>∃ o,ρ=⟨o::vs,mu⟩) (fun ρ ⟨o,e⟩=>by rw [e]) (fun p=>match p with | .int i=>.tup [.int ((g i.toNat).1:Nat),.int ((g i.toNat).2:Nat)] | _=>.non) (xs:=cg 0 n) (ρ:=⟨none::vs,mu⟩) ⟨none,rfl⟩ (by rw [gr]; omega) (by
  rintro x hx ρ ⟨o,rfl⟩
  obtain ⟨i,hi,rfl⟩:=rT hx
  refine ⟨⟨zI (0+i)::vs,mu⟩,rfl,_,_,he i,?_,_,rfl⟩
  show PV.tup _=PV.tup [.int ((g (0+(i:Int)).toNat).1:Nat),.int ((g (0+(i:Int)).toNat).2:Nat)]
  rw [Int.zero_add,Int.toNat_natCast]) (by
  rintro x hx ρ ρ1 ⟨o,rfl⟩ e
  cases e
  exact ⟨_,rfl⟩)
 rw [this]
 congr 2
 unfold cg QQ
 rw [List.map_map,List.map_map]
 refine List.map_congr_left fun i _=>?_
 show PV.tup [.int ((g (0+(i:Int)).toNat).1:Nat),.int ((g (0+(i:Int)).toNat).2:Nat)]=PV.tup [.int ((g i).1:Nat),.int ((g i).2:Nat)]
 rw [Int.zero_add,Int.toNat_natCast]
theorem M6 {a b:List PV} (h:a.length+b.length<=100000):dO (.lst a) (.lst b)=yO (a++b):=by
 show (if _<=_ then _ else none)=_
 rw [if_pos h]
noncomputable abbrev Ue:SF:=aK (aL 5 (aC cB (aa 4) (eC (.int 1000000007)))) (aK (aL 6 (aC cB (aa 5) (aa 1))) (aK (aL 7 (aC cB (aC dz (aa 5) (aa 1)) (aa 1))) (aK (cG (tT (aC wY (aa 2) (eC (.int 0))) aZ)
 (Hs 6 7 (aj (eB min2 (aj (aa 6) (aj (aa 7) ao))) (aj (eB max2 (aj (aa 6) (aj (aa 7) ao))) ao)))
 bJ)
 (lH 3 (fO (aj (aa 6) (aj (aa 7) ao)))))))
theorem natOf {a:Int} (h:0<=a):∃ u:Nat,a=(u:Int):=⟨a.toNat,by omega⟩
theorem QG {S:PV} {n:Nat} {m z:Int} {qs:List (Nat×Nat)} {o5 o6 o7:Option Lc} {mu:Mu} (h1:1<=n) (h8:n<=8) (hl:qs.length<=1000):∃ a b p5 p6 p7,a<n/\b<n/\Ue (QE S n (zI m) (yO (QQ qs)) (zI z) o5 o6 o7 mu)=some (.nx (QE S n (zI m) (yO (QQ (qs++[(a,b)]))) (zI z) p5 p6 p7 mu)):=by
 generalize hc:z%1000000007=c
 obtain ⟨u,hu⟩:=natOf (Int.emod_nonneg c (b:=(n:Int)) (by omega))
 obtain ⟨v,hv⟩:=natOf (Int.emod_nonneg (c/n) (b:=(n:Int)) (by omega))
 have u1:=Int.emod_lt_of_pos c (b:=(n:Int)) (by omega)
 have v1:=Int.emod_lt_of_pos (c/n) (b:=(n:Int)) (by omega)
 have s1:aL 5 (aC cB (aa 4) (eC (.int 1000000007))) (QE S n (zI m) (yO (QQ qs)) (zI z) o5 o6 o7 mu)=some (.nx (QE S n (zI m) (yO (QQ qs)) (zI z) (zI c) o6 o7 mu)):=by subst hc; exact aQ (bx rfl rfl rfl rfl (jg (by decide))) rfl rfl
 have s2:aL 6 (aC cB (aa 5) (aa 1)) (QE S n (zI m) (yO (QQ qs)) (zI z) (zI c) o6 o7 mu)=some (.nx (QE S n (zI m) (yO (QQ qs)) (zI z) (zI c) (zI (u:Nat)) o7 mu)):=by rw [← hu]; exact aQ (bx rfl rfl rfl rfl (jg (by omega))) rfl rfl
 have s3:aL 7 (aC cB (aC dz (aa 5) (aa 1)) (aa 1)) (QE S n (zI m) (yO (QQ qs)) (zI z) (zI c) (zI (u:Nat)) o7 mu)=some (.nx (QE S n (zI m) (yO (QQ qs)) (zI z) (zI c) (zI (u:Nat)) (zI (v:Nat)) mu)):=by rw [← hv]; exact aQ (bx (bx rfl rfl rfl rfl (qR (by omega) (by omega))) rfl rfl rfl (jg (by omega))) rfl rfl
 have app:∀ a b:Nat,lH 3 (fO (aj (aa 6) (aj (aa 7) ao))) (QE S n (zI m) (yO (QQ qs)) (zI z) (zI c) (zI (a:Nat)) (zI (b:Nat)) mu)=some (.nx (QE S n (zI m) (yO (QQ (qs++[(a,b)]))) (zI z) (zI c) (zI (a:Nat)) (zI (b:Nat)) mu)):=fun a b=>by
  refine (uD (l:=.sh (.tup [.int (a:Nat),.int (b:Nat)])) rfl (lU (ls:=[.sh (.int (a:Nat)),.sh (.int (b:Nat))]) rfl rfl rfl) rfl rfl (by rw [List.length_map]; omega) rfl).trans ?_
  rw [← Ud]; rfl
 have t:tT (aC wY (aa 2) (eC (.int 0))) aZ (QE S n (zI m) (yO (QQ qs)) (zI z) (zI c) (zI (u:Nat)) (zI (v:Nat)) mu)=some (decide (0<m),QE S n (zI m) (yO (QQ qs)) (zI z) (zI c) (zI (u:Nat)) (zI (v:Nat)) mu):=rfl
 by_cases hm:0<m
 . have mn:min2 [.int (u:Nat),.int (v:Nat)]=zI ((min u v:Nat):Int):=by
    show some (Lc.sh (PV.int (if (v:Int)<u then v else u)))=_
    congr 3
    split<;>omega
   have mx:max2 [.int (u:Nat),.int (v:Nat)]=zI ((max u v:Nat):Int):=by
    show some (Lc.sh (PV.int (if (v:Int)>u then v else u)))=_
    congr 3
    split<;>omega
   refine ⟨min u v,max u v,_,_,_,by omega,by omega,aG s1 (aG s2 (aG s3 (aG (ρ':=QE S n (zI m) (yO (QQ qs)) (zI z) (zI c) (zI ((min u v:Nat):Int)) (zI ((max u v:Nat):Int)) mu) ((jG (t.trans (by rw [decide_eq_true hm]))).trans ?_) (app _ _))))⟩
   have ea:aj (eB min2 (aj (aa 6) (aj (aa 7) ao))) (aj (eB max2 (aj (aa 6) (aj (aa 7) ao))) ao) (QE S n (zI m) (yO (QQ qs)) (zI z) (zI c) (zI (u:Nat)) (zI (v:Nat)) mu)=some ([.sh (.int ((min u v:Nat):Int)),.sh (.int ((max u v:Nat):Int))],QE S n (zI m) (yO (QQ qs)) (zI z) (zI c) (zI (u:Nat)) (zI (v:Nat)) mu):=
    az (yI (ls:=[.sh (.int (u:Nat)),.sh (.int (v:Nat))]) (az rfl (az rfl rfl)) rfl mn) (az (yI (ls:=[.sh (.int (u:Nat)),.sh (.int (v:Nat))]) (az rfl (az rfl rfl)) rfl mx) rfl)
   unfold Hs
   rw [ea]
   rfl
 . exact ⟨u,v,_,_,_,by omega,by omega,aG s1 (aG s2 (aG s3 (aG ((cL (t.trans (by rw [decide_eq_false hm]))).trans rfl) (app _ _))))⟩
theorem M7 {ns:List Int} {n:Nat} {mu:Mu} (hz:ns.length<=63) (h1:1<=n) (h8:n<=8):∃ qs:List (Nat×Nat),kI [.lst (ns.map .int),.int (n:Nat)] mu=some (.own (.lst (QQ qs)),mu)/\qs.length<=60/\okN n qs:=by
 obtain ⟨a1,ha1,e1⟩:=cell_eq (ns:=ns) (k:=1) (mu:=mu) (by decide)
 obtain ⟨ms,ecut,hms⟩:∃ ms:List Int,nq (ns.map PV.int) (some 3) (some 47)=ms.map .int/\ms.length<=44:=by
  refine ⟨(ns.drop (HT.sIx (ns.map PV.int).length 0 (some 3))).take (HT.sIx (ns.map PV.int).length (ns.map PV.int).length (some 47)-HT.sIx (ns.map PV.int).length 0 (some 3)),?_,?_⟩
  . unfold nq
    rw [List.map_take,List.map_drop]
  . rw [List.length_take,List.length_drop]
    have e2:HT.sIx (ns.map PV.int).length (ns.map PV.int).length (some 47)=min 47 (ns.map PV.int).length:=rfl
    have e3:HT.sIx (ns.map PV.int).length 0 (some 3)=min 3 (ns.map PV.int).length:=rfl
    rw [e2,e3,List.length_map]
    omega
 generalize hS:PV.lst (ns.map PV.int)=S at e1
 generalize hm:a1%4=m
 have s2:aL 2 (aC cB (aM bQ (aj (aa 0) (aj (eC (.int 1)) ao))) (eC (.int 4))) (env0 8 [S,.int (n:Nat)] mu)=some (.nx (QE S n (zI m) none none none none none mu)):=by
  rw [← hm]
  exact aQ (bx (aX (az rfl (az rfl rfl)) rfl rfl rfl e1) rfl rfl rfl (jg (by decide))) rfl rfl
 have s3:aL 3 (ou ao) (QE S n (zI m) none none none none none mu)=some (.nx (QE S n (zI m) (yO (QQ [])) none none none none mu)):=rfl
 obtain ⟨ρ',ef,qs,o4,o5,o6,o7,rfl,hl,hin⟩:=jT (b:=au 4) (body:=Ue) (xs:=ms.map .int) (ρ:=QE S n (zI m) (yO (QQ [])) none none none none mu)
  (fun i ρ=>∃ qs o4 o5 o6 o7,ρ=QE S n (zI m) (yO (QQ qs)) o4 o5 o6 o7 mu/\qs.length=i/\okN n qs) ⟨[],none,none,none,none,rfl,rfl,fun q h=>by cases h⟩ (by
    rintro i x ρ hx ⟨qs,o4,o5,o6,o7,rfl,hl,hin⟩
    have hi:=(List.getElem?_eq_some_iff.mp hx).1
    rw [List.length_map] at hi
    obtain ⟨z,_,rfl⟩:=List.mem_map.mp (List.mem_of_getElem? hx)
    obtain ⟨a,b,p5,p6,p7,ha,hb,e⟩:=QG (S:=S) (m:=m) (z:=z) (qs:=qs) (o5:=o5) (o6:=o6) (o7:=o7) (mu:=mu) h1 h8 (by omega)
    exact ⟨_,rfl,_,.inl e,_,_,_,_,_,rfl,by rw [List.length_append,hl]; rfl,hin.app fun q hq=>by rw [List.mem_singleton.mp hq]; exact ⟨ha,hb⟩⟩)
 rw [List.length_map] at hl
 have s4:d9 (dG (oN (aa 0) (fC (eC (.int 3))) (fC (eC (.int 47)))) bO) (au 4) Ue (QE S n (zI m) (yO (QQ [])) none none none none mu)=some (.nx (QE S n (zI m) (yO (QQ qs)) o4 o5 o6 o7 mu)):=by
  refine dU (xs:=ms.map .int) (gF (l:=.own (.lst (ms.map .int))) ?_ rfl rfl) ef
  rw [← ecut,← hS]
  rfl
 have s5:∃ qs2:List (Nat×Nat),qs2.length<=60/\okN n qs2/\cG (tT (aC wY (aa 2) (eC (.int 1))) aZ)
  (aL 3 (aC dO (aC dO (bh (aU (aj (aa 1) ao)) 1 [] (au 0) bw (fO (aj (eC (.int 0)) (aj (aa 0) ao)))) (aa 3)) (bh (aU (aj (aa 1) ao)) 1 [1] (au 0) bw (fO (aj (aa 0) (aj (aC v5 (aa 1) (eC (.int 1))) ao))))))
  bJ (QE S n (zI m) (yO (QQ qs)) o4 o5 o6 o7 mu)=some (.nx (QE S n (zI m) (yO (QQ qs2)) o4 o5 o6 o7 mu)):=by
  have t:tT (aC wY (aa 2) (eC (.int 1))) aZ (QE S n (zI m) (yO (QQ qs)) o4 o5 o6 o7 mu)=some (decide (1<m),QE S n (zI m) (yO (QQ qs)) o4 o5 o6 o7 mu):=rfl
  by_cases hb:1<m
  . have rg:∀ l,aU (aj (aa 1) ao) (QE S n (zI m) l o4 o5 o6 o7 mu)=some (cg 0 n,QE S n (zI m) l o4 o5 o6 o7 mu):=fun l=>dB (l:=.sh (.int (n:Nat))) rfl rfl (by omega) (by omega)
    have k1:bh (aU (aj (aa 1) ao)) 1 [] (au 0) bw (fO (aj (eC (.int 0)) (aj (aa 0) ao))) (QE S n (zI m) (yO (QQ qs)) o4 o5 o6 o7 mu)=some (.own (.lst (QQ ((List.range n).map fun i=>(0,i)))),QE S n (zI m) (yO (QQ qs)) o4 o5 o6 o7 mu):=
     cX (rg _) (Gq (g:=fun i=>(0,i)) (vs:=[]) h8 fun i=>by
      refine (lU (ls:=[.sh (.int 0),.sh (.int (0+(i:Int)))]) rfl rfl rfl).trans ?_
      simp only [Int.zero_add]
      rfl)
    have k2:bh (aU (aj (aa 1) ao)) 1 [1] (au 0) bw (fO (aj (aa 0) (aj (aC v5 (aa 1) (eC (.int 1))) ao))) (QE S n (zI m) (yL (QQ qs)) o4 o5 o6 o7 mu)=some (.own (.lst (QQ ((List.range n).map fun i=>(i,n-1)))),QE S n (zI m) (yL (QQ qs)) o4 o5 o6 o7 mu):=
     cX (rg _) (Gq (g:=fun i=>(i,n-1)) (vs:=[zI (n:Nat)]) h8 fun i=>by
      refine (lU (ls:=[.sh (.int (0+(i:Int))),.sh (.int ((n:Int)-1))]) rfl rfl rfl).trans ?_
      have:((n:Int)-1)=((n-1:Nat):Int):=by omega
      simp only [Int.zero_add,List.map_cons,Lc.pv,this]
      rfl)
    refine ⟨(List.range n).map (fun i=>(0,i))++qs++(List.range n).map fun i=>(i,n-1),?_,?_,(jG (t.trans (by rw [decide_eq_true hb]))).trans ?_⟩
    . simp only [List.length_append,List.length_map,List.length_range]; omega
    . refine (okN.app (fun q hq=>?_) hin).app fun q hq=>?_
      . obtain ⟨i,hi,rfl⟩:=List.mem_map.mp hq
        exact ⟨h1,List.mem_range.mp hi⟩
      . obtain ⟨i,hi,rfl⟩:=List.mem_map.mp hq
        exact ⟨List.mem_range.mp hi,by show n-1<n; omega⟩
    . refine aQ (l:=.own (.lst (QQ ((List.range n).map (fun i=>(0,i))++qs++(List.range n).map fun i=>(i,n-1))))) (bx (bx (r:=.own (.lst (QQ ((List.range n).map (fun i=>(0,i))++qs)))) k1 rfl (m:=.sh (.lst (QQ qs))) rfl rfl ?_) rfl k2 rfl ?_) rfl rfl
      . exact (M6 (by simp only [List.length_map,List.length_range]; omega)).trans (by rw [← List.map_append])
      . exact (M6 (by simp only [List.length_map,List.length_range,List.length_append]; omega)).trans (by rw [← List.map_append])
  . exact ⟨qs,by omega,hin,(cL (t.trans (by rw [decide_eq_false hb]))).trans rfl⟩
 obtain ⟨qs2,h2,h3,s5⟩:=s5
 exact ⟨qs2,bB (ρ:=QE S n (zI m) none o4 o5 o6 o7 mu) (aG s2 (aG s3 (aG s4 (aG s5 rfl)))),h2,h3⟩
noncomputable abbrev dX (R:Nat->Nat->Bool) (n i:Nat):List PV:=(List.range n).map fun j=>.bl (R i j)
theorem yp {R:Nat->Nat->Bool} {n i j:Nat} (hj:j<n):(dX R n i)[j]?=some (.bl (R i j)):=by
 rw [List.getElem?_map,List.getElem?_range hj]; rfl
theorem pY {α:Type} {xs:List α} {k:Nat} {p:α} (h:xs[k]?=some p):gn xs (k:Int)=some p:=by
 have hk:=(List.getElem?_eq_some_iff.mp h).1
 unfold gn oX
 rw [if_pos (by omega),if_pos (by omega)]
 exact h
theorem Gr {n k:Nat} (h:k<n):oX n (k:Int)=some k:=by
 unfold oX
 rw [if_pos (by omega),if_pos (by omega)]
 rfl
theorem Ij {b:BF} {te:EF} {x:PV} {xs:List PV} {ρ ρ1 ρ2:Ev} {acc:List PV} {l:Lc} {R:Option (List PV×Mu)} (h1:b x ρ=some ρ1) (h2:te ρ1=some (l,ρ2)) (hz:acc.length<100000) (h3:dH b bw te xs ρ2 (acc++[l.pv])=R):dH b bw te (x::xs) ρ acc=R:=by
 show (b x ρ).bind _=R
 rw [h1,Option.bind_some]
 show (some (true,ρ1)).bind _=R
 rw [Option.bind_some,if_pos rfl,h2,Option.bind_some,if_pos hz]
 exact h3
theorem yq {te:EF} {vs:List (Option Lc)} {g:PV->PV}:∀ (xs:List PV) (mu:Mu) (acc:List PV) (o:Option Lc),acc.length+xs.length<=1000->
 (∀ x∈xs,∀ mu,te ⟨yS x::vs,mu⟩=some (.sh (.ptr mu.length),⟨yS x::vs,mu++[some (g x)]⟩))->
 dH (au 0) bw te xs ⟨o::vs,mu⟩ acc=some (acc++(List.range xs.length).map (fun i=>.ptr (mu.length+i)),mu++xs.map fun x=>some (g x))
 | [],mu,acc,o,_,_=>by simp [dH]
 | x::xs,mu,acc,o,hl,h=>by
  rw [List.length_cons] at hl
  refine Ij (ρ1:=⟨yS x::vs,mu⟩) rfl (h x List.mem_cons_self mu) (by omega) ((yq xs (mu++[some (g x)]) (acc++[.ptr mu.length]) (yS x) (by rw [List.length_append]; simp; omega) fun y hy=>h y (List.mem_cons_of_mem _ hy)).trans ?_)
  rw [List.length_cons,List.range_succ_eq_map,List.map_cons,List.map_map,List.map_cons,List.append_assoc,List.append_assoc,List.length_append]
  congr 3
  show PV.ptr mu.length::_=PV.ptr (mu.length+0)::_
  congr 1
  refine List.map_congr_left fun i _=>?_
  show PV.ptr (mu.length+1+i)=PV.ptr (mu.length+(i+1))
  congr 1
  omega
theorem zu {f:EF} {p:PV} {ρ ρ1:Ev} (h:f ρ=some (.own p,ρ1)):oW f ρ=some (.sh (.ptr ρ1.mu.length),⟨ρ1.vs,ρ1.mu++[some p]⟩):=by
 unfold oW
 rw [h]
 rfl
structure lD (n:Nat) (R:Nat->Nat->Bool) (mu:Mu) (c:Nat) (pt:List Nat):Prop where
 len:pt.length=n
 out:mu[c]?=some (some (.lst (pt.map .ptr)))
 row:∀ i a,pt[i]?=some a->a≠c/\mu[a]?=some (some (.lst (dX R n i)))
noncomputable abbrev WE (P:PV) (n c:Nat) (o3 o4 o5:Option Lc) (mu:Mu):Ev:=⟨[yS P,zI (n:Nat),yS (.ptr c),o3,o4,o5],mu⟩
theorem lD.get {n c:Nat} {R:Nat->Nat->Bool} {mu:Mu} {pt:List Nat} (M:lD n R mu c pt) {i:Nat} (hi:i<n):∃ a,pt[i]?=some a/\a≠c/\mu[a]?=some (some (.lst (dX R n i))):=by
 have h:pt[i]?=some (pt[i]'(by rw [M.len]; exact hi)):=List.getElem?_eq_getElem _
 exact ⟨_,h,M.row i _ h⟩
theorem lD.at {n c:Nat} {R:Nat->Nat->Bool} {mu:Mu} {pt:List Nat} (M:lD n R mu c pt) {i j:Nat} (hi:i<n) (hj:j<n) {fa fb fc:EF} {ρ:Ev} (hm:ρ.mu=mu) (ha:fa ρ=some (.sh (.ptr c),ρ)) (hb:fb ρ=some (.sh (.int (i:Nat)),ρ)) (hc:fc ρ=some (.sh (.int (j:Nat)),ρ)):aF (aF fa fb) fc ρ=some (.sh (.bl (R i j)),ρ):=by
 obtain ⟨a,h1,h2,h3⟩:=M.get hi
 exact CZ (CZ ha rfl hb rfl (by rw [hm]; exact M.out) (pY (p:=.ptr a) (by rw [List.getElem?_map,h1]; rfl))) rfl hc rfl (by rw [hm]; exact h3) (pY (yp hj))
noncomputable def Gs (qs:List (Nat×Nat)):Nat->Nat->Prop:=fun a b=>(a,b)∈qs
theorem QH {R R':Nat->Nat->Bool} {n i j:Nat} (h:∀ b,b<n->R' i b=if b=j then true else R i b):(dX R n i).set j (.bl true)=dX R' n i:=by
 refine List.ext_getElem? fun b=>?_
 by_cases hb:b<n
 . rw [yp hb,h b hb,List.getElem?_set]
   by_cases e:j=b
   . subst e
     simp [hb]
   . rw [if_neg e,yp hb,if_neg (fun z=>e z.symm)]
 . rw [List.getElem?_eq_none (by simp; omega),List.getElem?_eq_none (by simp; omega)]
theorem Kq {R R':Nat->Nat->Bool} {n i:Nat} (h:∀ b,b<n->R' i b=R i b):dX R n i=dX R' n i:=List.map_congr_left fun b hb=>by rw [h b (List.mem_range.mp hb)]
theorem lD.put {n c:Nat} {R:Nat->Nat->Bool} {mu:Mu} {pt:List Nat} (M:lD n R mu c pt) (nd:pt.Nodup) {i j:Nat} (hi:i<n) (hj:j<n) {P:PV} {o5:Option Lc}:∃ mu',lD n (fun a b=>R a b||(a==i&&b==j)) mu' c pt/\
 pM (aF (aa 2) (aa 3)) (aa 4) (eC (.bl true)) (WE P n c (zI (i:Nat)) (zI (j:Nat)) o5 mu)=some (.nx (WE P n c (zI (i:Nat)) (zI (j:Nat)) o5 mu')):=by
 obtain ⟨a,h1,h2,h3⟩:=M.get hi
 refine ⟨mu.set a (some (.lst ((dX R n i).set j (.bl true)))),⟨M.len,?_,fun k b hk=>?_⟩,Ft (ρ2:=WE P n c (zI (i:Nat)) (zI (j:Nat)) o5 mu) (ρ3:=WE P n c (zI (i:Nat)) (zI (j:Nat)) o5 mu) rfl rfl (CZ (l:=.sh (.ptr c)) rfl rfl rfl rfl M.out (pY (p:=.ptr a) (by rw [List.getElem?_map,h1]; rfl))) rfl rfl rfl h3 (by rw [List.length_map,List.length_range]; exact Gr hj)⟩
 . rw [List.getElem?_set_ne h2]; exact M.out
 . obtain ⟨g1,g2⟩:=M.row k b hk
   refine ⟨g1,?_⟩
   by_cases e:k=i
   . subst e
     rw [h1] at hk
     cases hk
     rw [List.getElem?_set_self (List.getElem?_eq_some_iff.mp h3).1,QH fun x _=>?_]
     by_cases ex:x=j
     . rw [if_pos ex]; simp [ex]
     . rw [if_neg ex]; simp [ex]
   . have:a≠b:=fun z=>e (by
      subst z
      have l1:=(List.getElem?_eq_some_iff.mp hk)
      have l2:=(List.getElem?_eq_some_iff.mp h1)
      obtain ⟨x1,y1⟩:=l1
      obtain ⟨x2,y2⟩:=l2
      exact (List.getElem_inj nd).mp (y1.trans y2.symm))
     rw [List.getElem?_set_ne this,g2,Kq fun x _=>?_]
     simp [e]
theorem lD.new {n c:Nat} {R R':Nat->Nat->Bool} {mu:Mu} {pt:List Nat} (M:lD n R mu c pt) {i:Nat} (hi:i<n) (h:∀ a b,a<n->b<n->a≠i->R' a b=R a b):lD n R' ((mu++[some (PV.lst (dX R' n i))]).set c (some (PV.lst ((pt.map PV.ptr).set i (.ptr mu.length))))) c (pt.set i mu.length):=by
 have hc:=(List.getElem?_eq_some_iff.mp M.out).1
 refine ⟨by rw [List.length_set]; exact M.len,?_,fun k a hk=>?_⟩
 . rw [List.getElem?_set_self (by rw [List.length_append]; omega),List.map_set]
 . rw [List.getElem?_set] at hk
   split at hk
   . rename_i e
     subst e
     rw [if_pos (by rw [M.len]; exact hi)] at hk
     cases hk
     refine ⟨by omega,?_⟩
     rw [List.getElem?_set_ne (by omega),List.getElem?_append_right (Nat.le_refl _)]
     simp
   . rename_i e
     obtain ⟨g1,g2⟩:=M.row k a hk
     have hk':k<n:=by rw [← M.len]; exact (List.getElem?_eq_some_iff.mp hk).1
     refine ⟨g1,?_⟩
     rw [List.getElem?_set_ne (Ne.symm g1),List.getElem?_append_left (List.getElem?_eq_some_iff.mp g2).1,g2,Kq fun b hb=>h k b hk' hb (fun z=>e z.symm)]
theorem Kr {n:Nat} {P:PV} (h8:n<=8):∃ mu,lD n (fun a b=>decide (a=b)) mu n (List.range n)/\aL 2 (oW (bh (aU (aj (aa 1) ao)) 1 [1] (au 0) bw (oW (bh (aU (aj (aa 1) ao)) 1 [0] (au 0) bw (aC eqP (aa 1) (aa 0)))))) (env0 6 [P,.int (n:Nat)] [])=some (.nx (WE P n n none none none mu)):=by
 have inner:∀ x∈cg 0 n,∀ mu:Mu,oW (bh (aU (aj (aa 1) ao)) 1 [0] (au 0) bw (aC eqP (aa 1) (aa 0))) ⟨[yS x,zI (n:Nat)],mu⟩=some (.sh (.ptr mu.length),⟨[yS x,zI (n:Nat)],mu++[some ((fun x=>match x with | .int i=>.lst (dX (fun a b=>decide (a=b)) n i.toNat) | _=>.non) x)]⟩):=fun x hx mu=>by
  obtain ⟨i,hi,rfl⟩:=rT hx
  refine zu (ρ1:=⟨[zI (0+i),zI (n:Nat)],mu⟩) (cX (ρ1:=⟨[zI (0+i),zI (n:Nat)],mu⟩) (dB (l:=.sh (.int (n:Nat))) rfl rfl (by omega) (by omega)) ?_)
  have:=iR (b:=au 0) (te:=aC eqP (aa 1) (aa 0)) (mu:=mu) (fun ρ=>∃ o,ρ=⟨[o,zI (0+i)],mu⟩) (fun ρ ⟨o,e⟩=>by rw [e]) (fun p=>match p with | .int j=>.bl (decide ((0+(i:Int)).toNat=j.toNat)) | _=>.non) (xs:=cg 0 n) (ρ:=⟨[none,zI (0+i)],mu⟩) ⟨none,rfl⟩ (by rw [gr]; omega) (by
   rintro x hx ρ ⟨o,rfl⟩
   obtain ⟨j,hj,rfl⟩:=rT hx
   refine ⟨⟨[zI (0+j),zI (0+i)],mu⟩,rfl,.sh (.bl (((0:Int)+i)==(0+j))),_,rfl,?_,_,rfl⟩
   show PV.bl _=PV.bl (decide ((0+(i:Int)).toNat=(0+(j:Int)).toNat))
   congr 1
   rw [Bool.eq_iff_iff,beq_iff_eq,decide_eq_true_eq]
   omega) (by
   rintro x hx ρ ρ1 ⟨o,rfl⟩ e
   cases e
   exact ⟨_,rfl⟩)
  refine Eq.trans this ?_
  congr 2
  unfold cg dX
  rw [List.map_map]
  refine List.map_congr_left fun j _=>?_
  show PV.bl (decide ((0+(i:Int)).toNat=(0+(j:Int)).toNat))=PV.bl (decide ((0+(i:Int)).toNat=j))
  congr 2
  exact propext ⟨fun h=>by omega,fun h=>by omega⟩
 have cc:=yq (vs:=[zI (n:Nat)]) (g:=fun x=>match x with | .int i=>.lst (dX (fun a b=>decide (a=b)) n i.toNat) | _=>.non) (cg 0 n) [] [] none (by rw [gr]; simp; omega) inner
 rw [gr,List.nil_append,List.nil_append] at cc
 have lm:((cg 0 n).map fun x=>some ((fun x=>match x with | .int i=>PV.lst (dX (fun a b=>decide (a=b)) n i.toNat) | _=>.non) x)).length=n:=by rw [List.length_map,gr]
 have ep:(List.range n).map (fun i=>PV.ptr (([]:Mu).length+i))=(List.range n).map PV.ptr:=List.map_congr_left fun i _=>by show PV.ptr (0+i)=_; rw [Nat.zero_add]
 rw [ep] at cc
 refine ⟨((cg 0 n).map fun x=>some ((fun x=>match x with | .int i=>PV.lst (dX (fun a b=>decide (a=b)) n i.toNat) | _=>.non) x))++[some (.lst ((List.range n).map PV.ptr))],⟨List.length_range,?_,fun i a hi=>?_⟩,?_⟩
 . rw [List.getElem?_append_right (by omega),lm,Nat.sub_self]; rfl
 . have hi':i<n:=by simpa using (List.getElem?_eq_some_iff.mp hi).1
   rw [List.getElem?_range hi'] at hi
   cases hi
   refine ⟨by omega,?_⟩
   rw [List.getElem?_append_left (by omega),List.getElem?_map]
   unfold cg
   rw [List.getElem?_map,List.getElem?_range hi']
   show some (some (PV.lst (dX (fun a b=>decide (a=b)) n (0+(i:Int)).toNat)))=_
   rw [Int.zero_add,Int.toNat_natCast]
 . have e1:=zu (cX (f:=aU (aj (aa 1) ao)) (m:=1) (ixs:=[1]) (b:=au 0) (tc:=bw) (ρ:=env0 6 [P,.int (n:Nat)] []) (ρ1:=env0 6 [P,.int (n:Nat)] []) (dB (l:=.sh (.int (n:Nat))) rfl rfl (by omega) (by omega)) cc)
   refine aQ e1 rfl ?_
   show (⟨_,_⟩:Ev)=⟨_,_⟩
   have:((cg 0 n).map fun x=>some ((fun x=>match x with | .int i=>PV.lst (dX (fun a b=>decide (a=b)) n i.toNat) | _=>.non) x)).length=n:=lm
   simp only [this]
   rfl
theorem sE {n i:Nat} {x:PV} (h:(cg 0 n)[i]?=some x):i<n/\x=.int (i:Nat):=by
 have hi:i<n:=by have:=(List.getElem?_eq_some_iff.mp h).1; rwa [gr] at this
 unfold cg at h
 rw [List.getElem?_map,List.getElem?_range hi] at h
 have h':some (PV.int (0+(i:Int)))=some x:=h
 rw [Int.zero_add] at h'
 exact ⟨hi,(Option.some.inj h').symm⟩
theorem DX {b:Bool}:aN (.bl b)=some b:=rfl
noncomputable abbrev QP (qs:List (Nat×Nat)):PV:=.lst (QQ qs)
theorem Eo {n c:Nat} {P:PV} {qs:List (Nat×Nat)} (ok:okN n qs) {R:Nat->Nat->Bool} {mu:Mu} {pt:List Nat} (M:lD n R mu c pt) (nd:pt.Nodup) (hR:∀ a b,R a b=true ↔ a=b):∃ R' mu' o3 o4,lD n R' mu' c pt/\(∀ a b,R' a b=true ↔ a=b\/(a,b)∈qs)/\
 eX (gM 2 (bD (au 3) (bD (au 4) gK))) (pM (aF (aa 2) (aa 3)) (aa 4) (eC (.bl true))) (QQ qs) (WE P n c none none none mu)=some (.nx (WE P n c o3 o4 none mu')):=by
 obtain ⟨ρ',ef,R',mu',o3,o4,rfl,M',h'⟩:=jT (b:=gM 2 (bD (au 3) (bD (au 4) gK))) (body:=pM (aF (aa 2) (aa 3)) (aa 4) (eC (.bl true))) (xs:=QQ qs) (ρ:=WE P n c none none none mu)
  (fun i ρ=>∃ R mu o3 o4,ρ=WE P n c o3 o4 none mu/\lD n R mu c pt/\∀ a b,R a b=true ↔ a=b\/(a,b)∈qs.take i) ⟨R,mu,none,none,rfl,M,fun a b=>by rw [hR]; simp⟩ (by
    rintro i x ρ hx ⟨R,mu,o3,o4,rfl,M,hR⟩
    rw [List.getElem?_map] at hx
    obtain ⟨q,hq,rfl⟩:=Option.map_eq_some_iff.mp hx
    obtain ⟨h1,h2⟩:=ok q (List.mem_of_getElem? hq)
    obtain ⟨mu2,M2,e⟩:=M.put nd h1 h2 (P:=P) (o5:=none)
    refine ⟨WE P n c (zI (q.1:Nat)) (zI (q.2:Nat)) none mu,rfl,_,.inl e,_,mu2,_,_,rfl,M2,fun a b=>?_⟩
    rw [Bool.or_eq_true,hR,Bool.and_eq_true,beq_iff_eq,beq_iff_eq,List.take_succ,hq,List.mem_append,or_assoc]
    refine or_congr_right (or_congr_right ?_)
    rw [Option.toList_some,List.mem_singleton]
    exact ⟨fun ⟨e1,e2⟩=>by rw [e1,e2],fun e=>by rw [← e]; exact ⟨rfl,rfl⟩⟩)
 refine ⟨R',mu',o3,o4,M',fun a b=>?_,ef⟩
 rw [h' a b,List.length_map,List.take_length]
noncomputable abbrev Oq:SF:=cG (tT (aF (aF (aa 2) (aa 3)) (aa 5)) aN)
 (pM (aa 2) (aa 3) (oW (bh (aU (aj (aa 1) ao)) 1 [2,3,5] (au 0) bw (zV (aF (aF (aa 1) (aa 2)) (aa 0)) (aF (aF (aa 1) (aa 3)) (aa 0))))))
 bJ
theorem Va {fa fb:EF} {ρ:Ev} {a b:Bool} (ha:fa ρ=some (.sh (.bl a),ρ)) (hb:fb ρ=some (.sh (.bl b),ρ)):zV fa fb ρ=some (.sh (.bl (a||b)),ρ):=by
 unfold zV
 rw [ha]
 cases a with
 | true=>rfl
 | false=>
  show fb ρ=_
  rw [hb]; rfl
theorem M8 {n c m i:Nat} {P:PV} {R:Nat->Nat->Bool} {mu:Mu} {pt:List Nat} {o4:Option Lc} (h8:n<=8) (M:lD n R mu c pt) (hm:m<n) (hi:i<n):∃ R' mu' pt',lD n R' mu' c pt'/\(∀ a b,a<n->b<n->R' a b=if a=i then (R i b||(R i m&&R m b)) else R a b)/\
 Oq (WE P n c (zI (i:Nat)) o4 (zI (m:Nat)) mu)=some (.nx (WE P n c (zI (i:Nat)) o4 (zI (m:Nat)) mu')):=by
 have t:tT (aF (aF (aa 2) (aa 3)) (aa 5)) aN (WE P n c (zI (i:Nat)) o4 (zI (m:Nat)) mu)=some (R i m,WE P n c (zI (i:Nat)) o4 (zI (m:Nat)) mu):=bW (M.at hi hm rfl rfl rfl rfl) rfl DX
 cases hR:R i m with
 | false=>
  refine ⟨R,mu,pt,M,fun a b ha hb=>?_,(cL (t.trans (by rw [hR]))).trans rfl⟩
  split
  . rename_i e; rw [e]; simp
  . rfl
 | true=>
  let R':Nat->Nat->Bool:=fun a b=>if a=i then (R i b||R m b) else R a b
  have hne:∀ a b,a<n->b<n->a≠i->R' a b=R a b:=fun a b _ _ h=>if_neg h
  refine ⟨R',_,_,M.new hi hne,fun a b ha hb=>?_,(jG (t.trans (by rw [hR]))).trans ?_⟩
  . show (if a=i then _ else _)=_
    split
    . rw [Bool.true_and]
    . rfl
  . have cp:dH (au 0) bw (zV (aF (aF (aa 1) (aa 2)) (aa 0)) (aF (aF (aa 1) (aa 3)) (aa 0))) (cg 0 n) ⟨[none,yS (.ptr c),zI (i:Nat),zI (m:Nat)],mu⟩ []=some (dX R' n i,mu):=by
     have:=iR (b:=au 0) (te:=zV (aF (aF (aa 1) (aa 2)) (aa 0)) (aF (aF (aa 1) (aa 3)) (aa 0))) (mu:=mu) (fun ρ=>∃ o,ρ=⟨[o,yS (.ptr c),zI (i:Nat),zI (m:Nat)],mu⟩) (fun ρ ⟨o,e⟩=>by rw [e]) (fun p=>match p with | .int j=>.bl (R i j.toNat||R m j.toNat) | _=>.non) (xs:=cg 0 n) (ρ:=⟨[none,yS (.ptr c),zI (i:Nat),zI (m:Nat)],mu⟩) ⟨none,rfl⟩ (by rw [gr]; omega) (by
      rintro x hx ρ ⟨o,rfl⟩
      obtain ⟨j,hj,rfl⟩:=rT hx
      have e0:PV.int (0+(j:Int))=.int (j:Nat):=by rw [Int.zero_add]
      rw [e0]
      exact ⟨⟨[zI (j:Nat),yS (.ptr c),zI (i:Nat),zI (m:Nat)],mu⟩,rfl,.sh (.bl (R i j||R m j)),_,Va (M.at hi hj rfl rfl rfl rfl) (M.at hm hj rfl rfl rfl rfl),rfl,_,rfl⟩) (by
      rintro x hx ρ ρ1 ⟨o,rfl⟩ e
      cases e
      exact ⟨_,rfl⟩)
     refine this.trans ?_
     congr 2
     unfold cg dX
     rw [List.map_map]
     refine List.map_congr_left fun j _=>?_
     show PV.bl (R i (0+(j:Int)).toNat||R m (0+(j:Int)).toNat)=PV.bl (if i=i then _ else _)
     rw [Int.zero_add,Int.toNat_natCast,if_pos rfl]
    have e1:=zu (cX (f:=aU (aj (aa 1) ao)) (m:=1) (ixs:=[2,3,5]) (b:=au 0) (tc:=bw) (ρ:=WE P n c (zI (i:Nat)) o4 (zI (m:Nat)) mu) (ρ1:=WE P n c (zI (i:Nat)) o4 (zI (m:Nat)) mu) (dB (l:=.sh (.int (n:Nat))) rfl rfl (by omega) (by omega)) cp)
    have hc:=(List.getElem?_eq_some_iff.mp M.out).1
    exact Ft (fo:=aa 2) (fi:=aa 3) (p:=.ptr mu.length) (n:=c) (k:=(i:Nat)) (o:=.sh (.ptr c)) (y:=.sh (.int (i:Nat))) (ρ2:=WE P n c (zI (i:Nat)) o4 (zI (m:Nat)) (mu++[some (.lst (dX R' n i))])) (ρ1:=WE P n c (zI (i:Nat)) o4 (zI (m:Nat)) (mu++[some (.lst (dX R' n i))])) (ρ3:=WE P n c (zI (i:Nat)) o4 (zI (m:Nat)) (mu++[some (.lst (dX R' n i))])) (ws:=pt.map PV.ptr) e1 rfl rfl rfl rfl rfl (by show (mu++[some (PV.lst (dX R' n i))])[c]?=_; rw [List.getElem?_append_left hc]; exact M.out) (by rw [List.length_map,M.len]; exact Gr hi)
theorem Ks {n c m:Nat} {P:PV} {R:Nat->Nat->Bool} {mu:Mu} {pt:List Nat} {o3 o4:Option Lc} (h8:n<=8) (M:lD n R mu c pt) (hm:m<n):∃ R' mu' pt' p3,lD n R' mu' c pt'/\(∀ a b,a<n->b<n->R' a b=(R a b||(R a m&&R m b)))/\
 d9 (aU (aj (aa 1) ao)) (au 3) Oq (WE P n c o3 o4 (zI (m:Nat)) mu)=some (.nx (WE P n c p3 o4 (zI (m:Nat)) mu')):=by
 obtain ⟨ρ',ef,R',mu',pt',p3,rfl,M',h'⟩:=jT (b:=au 3) (body:=Oq) (xs:=cg 0 n) (ρ:=WE P n c o3 o4 (zI (m:Nat)) mu)
  (fun i ρ=>∃ R' mu' pt' p3,ρ=WE P n c p3 o4 (zI (m:Nat)) mu'/\lD n R' mu' c pt'/\∀ a b,a<n->b<n->R' a b=if a<i then (R a b||(R a m&&R m b)) else R a b) ⟨R,mu,pt,o3,rfl,M,fun a b _ _=>by rw [if_neg (Nat.not_lt_zero a)]⟩ (by
    rintro i x ρ hx ⟨R1,mu1,pt1,p3,rfl,M1,h1⟩
    obtain ⟨hi,rfl⟩:=sE hx
    obtain ⟨R2,mu2,pt2,M2,h2,e⟩:=M8 (P:=P) (o4:=o4) h8 M1 hm hi
    refine ⟨WE P n c (zI (i:Nat)) o4 (zI (m:Nat)) mu1,rfl,_,.inl e,R2,mu2,pt2,_,rfl,M2,fun a b ha hb=>?_⟩
    have rm:∀ b,b<n->R1 m b=R m b:=fun b hb=>by
     rw [h1 m b hm hb]
     split
     . cases R m b<;>cases R m m<;>rfl
     . rfl
    rw [h2 a b ha hb]
    by_cases e:a=i
    . subst e
      rw [if_pos rfl,if_pos (Nat.lt_succ_self _),h1 a b ha hb,h1 a m ha hm,rm b hb,if_neg (Nat.lt_irrefl _),if_neg (Nat.lt_irrefl _)]
    . rw [if_neg e,h1 a b ha hb]
      by_cases e2:a<i
      . rw [if_pos e2,if_pos (by omega)]
      . rw [if_neg e2,if_neg (by omega)])
 rw [gr] at h'
 exact ⟨R',mu',pt',p3,M',fun a b ha hb=>by rw [h' a b ha hb,if_pos ha],dU (dB (l:=.sh (.int (n:Nat))) rfl rfl (by omega) (by omega)) ef⟩
structure DY (n:Nat) (qs:List (Nat×Nat)) (k:Nat) (R:Nat->Nat->Bool):Prop where
 rfl':∀ a,a<n->R a a=true
 one:∀ a b,a<n->b<n->(a,b)∈qs->R a b=true
 snd:∀ a b,a<n->b<n->R a b=true->Rt (Gs qs) a b
 cl:∀ a b x,a<n->b<n->x<k->x<n->R a x=true->R x b=true->R a b=true
theorem DY.pass {n k:Nat} {qs:List (Nat×Nat)} {R R':Nat->Nat->Bool} (C:DY n qs k R) (hk:k<n) (h:∀ a b,a<n->b<n->R' a b=(R a b||(R a k&&R k b))):DY n qs (k+1) R':=by
 have iff:∀ a b,a<n->b<n->(R' a b=true ↔ R a b=true\/(R a k=true/\R k b=true)):=fun a b ha hb=>by rw [h a b ha hb,Bool.or_eq_true,Bool.and_eq_true]
 refine ⟨fun a ha=>(iff a a ha ha).mpr (.inl (C.rfl' a ha)),fun a b ha hb e=>(iff a b ha hb).mpr (.inl (C.one a b ha hb e)),fun a b ha hb e=>?_,fun a b x ha hb hx hx' e1 e2=>?_⟩
 . rcases (iff a b ha hb).mp e with e | ⟨e1,e2⟩
   . exact C.snd a b ha hb e
   . exact (C.snd a k ha hk e1).trans (C.snd k b hk hb e2)
 . refine (iff a b ha hb).mpr ?_
   have f1:=(iff a x ha hx').mp e1
   have f2:=(iff x b hx' hb).mp e2
   by_cases e:x=k
   . subst e
     refine .inr ⟨?_,?_⟩
     . rcases f1 with f | f
       . exact f
       . exact f.1
     . rcases f2 with f | f
       . exact f
       . exact f.2
   . have hlt:x<k:=by omega
     rcases f1 with f1 | f1<;>rcases f2 with f2 | f2
     . exact .inl (C.cl a b x ha hb hlt hx' f1 f2)
     . exact .inr ⟨C.cl a k x ha hk hlt hx' f1 f2.1,f2.2⟩
     . exact .inr ⟨f1.1,C.cl k b x hk hb hlt hx' f1.2 f2⟩
     . exact .inr ⟨f1.1,f2.2⟩
theorem DY.all {n:Nat} {qs:List (Nat×Nat)} {R:Nat->Nat->Bool} (C:DY n qs n R) (ok:okN n qs) {a b:Nat} (ha:a<n) (hb:b<n):R a b=true ↔ Rt (Gs qs) a b:=by
 refine ⟨C.snd a b ha hb,fun h=>?_⟩
 have:b<n/\R a b=true:=by
  clear hb
  induction h with
  | refl=>exact ⟨ha,C.rfl' a ha⟩
  | @step y z _ e ih=>
   obtain ⟨h1,h2⟩:=ok _ e
   exact ⟨h2,C.cl a z y ha h2 h1 h1 ih.2 (C.one y z h1 h2 e)⟩
 exact this.2
noncomputable abbrev cD (R:Nat->Nat->Bool) (n:Nat):PV:=.lst ((List.range n).map fun i=>.lst (dX R n i))
theorem lD.res {n c:Nat} {R:Nat->Nat->Bool} {mu:Mu} {pt:List Nat} (M:lD n R mu c pt):kh mu 40 (.ptr c)=cD R n:=by
 show (match mu[c]? with | some (some p)=>kh mu 39 p | _=>.ptr c)=_
 rw [M.out]
 show PV.lst ((pt.map PV.ptr).map (kh mu 38))=PV.lst _
 congr 1
 refine List.ext_getElem? fun i=>?_
 by_cases hi:i<n
 . obtain ⟨a,h1,h2,h3⟩:=M.get hi
   rw [List.getElem?_map,List.getElem?_map,h1,List.getElem?_map,List.getElem?_range hi]
   show some (match mu[a]? with | some (some p)=>kh mu 37 p | _=>.ptr a)=some (PV.lst (dX R n i))
   rw [h3]
   show some (PV.lst ((dX R n i).map (kh mu 36)))=_
   congr 2
   unfold dX
   rw [List.map_map]
   rfl
 . rw [List.getElem?_eq_none (by rw [List.length_map,List.length_map,M.len]; omega),List.getElem?_eq_none (by simp; omega)]
theorem M9 {n:Nat} {qs:List (Nat×Nat)} (h8:n<=8) (ok:okN n qs):∃ R mu',kJ [QP qs,.int (n:Nat)] []=some (.sh (cD R n),mu')/\∀ a b,a<n->b<n->(R a b=true ↔ Rt (Gs qs) a b):=by
 obtain ⟨mu,M,e1⟩:=Kr (n:=n) (P:=QP qs) h8
 obtain ⟨R1,mu1,o3,o4,M1,h1,e2⟩:=Eo (P:=QP qs) ok M List.nodup_range fun a b=>by simp
 have C0:DY n qs 0 R1:=⟨fun a _=>(h1 a a).mpr (.inl rfl),fun a b _ _ e=>(h1 a b).mpr (.inr e),fun a b _ _ e=>by
  rcases (h1 a b).mp e with rfl | e
  . exact .refl a
  . exact .step (.refl a) e,fun a b x _ _ h=>absurd h (Nat.not_lt_zero x)⟩
 obtain ⟨ρ',ef,R2,mu2,pt2,p3,p5,rfl,M2,C2⟩:=jT (b:=au 5) (body:=d9 (aU (aj (aa 1) ao)) (au 3) Oq) (xs:=cg 0 n) (ρ:=WE (QP qs) n n o3 o4 none mu1)
  (fun i ρ=>∃ R mu pt p3 p5,ρ=WE (QP qs) n n p3 o4 p5 mu/\lD n R mu n pt/\DY n qs i R) ⟨R1,mu1,_,o3,none,rfl,M1,C0⟩ (by
    rintro i x ρ hx ⟨R,mu,pt,p3,p5,rfl,M,C⟩
    obtain ⟨hi,rfl⟩:=sE hx
    obtain ⟨R',mu',pt',q3,M',h',e⟩:=Ks (P:=QP qs) (o3:=p3) (o4:=o4) h8 M hi
    exact ⟨WE (QP qs) n n p3 o4 (zI (i:Nat)) mu,rfl,_,.inl e,R',mu',pt',q3,_,rfl,M',C.pass hi h'⟩)
 rw [gr] at C2
 refine ⟨R2,_,bB (ρ:=⟨(WE (QP qs) n n p3 o4 p5 mu2).vs,mu2.map fun _=>none⟩) (aG e1 (aG (dU (gF (l:=.sh (QP qs)) rfl rfl rfl) e2) (aG (dU (dB (l:=.sh (.int (n:Nat))) rfl rfl (by omega) (by omega)) ef) (dR (Mq (l:=.sh (.ptr n)) (ρ1:=WE (QP qs) n n p3 o4 p5 mu2) rfl M2.res))))),fun a b ha hb=>C2.all ok ha hb⟩
theorem Ea {xs:List Str} (hd:xs.Nodup) {i j:Nat} (hi:i<xs.length) (hj:j<xs.length) (e:xs[i]=xs[j]):i=j:=by
 rcases Nat.lt_trichotomy i j with h | h | h
 . exact absurd e (List.pairwise_iff_getElem.mp hd i j hi hj h)
 . exact h
 . exact absurd e.symm (List.pairwise_iff_getElem.mp hd j i hj hi h)
theorem Eb {xs:List Str} (hd:xs.Nodup) {i j:Nat} {a:Str} (hi:xs[i]?=some a) (hj:xs[j]?=some a):i=j:=by
 obtain ⟨h1,e1⟩:=List.getElem?_eq_some_iff.mp hi
 obtain ⟨h2,e2⟩:=List.getElem?_eq_some_iff.mp hj
 exact Ea hd h1 h2 (e1.trans e2.symm)
theorem yr {xs:List Str} {a:Str} (h:a∈xs):∃ i:Nat,i<xs.length/\xs[i]?=some a:=by
 obtain ⟨i,hi,e⟩:=List.getElem_of_mem h
 exact ⟨i,hi,by rw [← e]; exact List.getElem?_eq_getElem hi⟩
theorem Bo {xs:List Str} {i:Nat} {a:Str} (h:xs[i]?=some a):i<xs.length:=(List.getElem?_eq_some_iff.mp h).1
theorem tV {xs:List Str} {i:Nat} (h:i<xs.length):∃ a∈xs,xs[i]?=some a:=⟨xs[i],List.getElem_mem h,List.getElem?_eq_getElem h⟩
theorem QJ {xs:List Str} (hd:xs.Nodup):∀ {i:Nat} (h:i<xs.length),(SS xs).findIdx (fun q=>(bF 150 q (.str xs[i])).getD false)=i:=by
 intro i h
 rw [List.findIdx_eq (by rw [List.length_map]; exact h)]
 refine ⟨?_,fun j hj=>?_⟩
 . rw [List.getElem_map]
   show (xs[i]==xs[i])=true
   simp
 . have hj':j<xs.length:=by omega
   rw [List.getElem_map]
   show (xs[j]==xs[i])=false
   rw [beq_eq_false_iff_ne]
   intro e
   have:=Ea hd hj' h e
   omega
theorem vA {xs:List Str} (hd:xs.Nodup) (hl:xs.length<=8) {fa fb:EF} {ρ ρ1 ρ2:Ev} {l m:Lc} {i:Nat} {a:Str} (hi:xs[i]?=some a) (h1:fa ρ=some (l,ρ1)) (hx:l.pv=.lst (SS xs)) (h2:fb ρ1=some (m,ρ2)) (hy:m.pv=.str a):dW fa fb ρ=some (.sh (.int (i:Nat)),ρ2):=by
 obtain ⟨h,rfl⟩:=List.getElem?_eq_some_iff.mp hi
 unfold dW
 rw [h1,Option.bind_some,h2,Option.bind_some,hx]
 dsimp only
 rw [hy,if_pos ⟨by rw [in_str,bu.mpr (List.getElem_mem h)],by rw [List.length_map]; omega⟩,QJ hd h]
theorem Ot {a b:Nat}:∀ qs:List (Nat×Nat),jf (bF 150) (.tup [.int (a:Nat),.int (b:Nat)]) (QQ qs)=some (decide ((a,b)∈qs))
 | []=>rfl
 | q::qs=>by
  show (some (((q.1:Nat):Int)==((a:Nat):Int)&&(((q.2:Nat):Int)==((b:Nat):Int)&&true)&&((2:Nat)==2))).bind (fun c=>(jf (bF 150) (.tup [.int (a:Nat),.int (b:Nat)]) (QQ qs)).map fun d=>c||d)=_
  rw [Ot qs]
  show some _=some _
  congr 1
  rw [beq_self_eq_true,Bool.and_true,Bool.and_true,Bool.eq_iff_iff,Bool.or_eq_true,Bool.and_eq_true,beq_iff_eq,beq_iff_eq,decide_eq_true_iff,decide_eq_true_iff,List.mem_cons]
  refine or_congr_left ⟨fun ⟨h1,h2⟩=>?_,fun h=>?_⟩
  . have e1:q.1=a:=by omega
    have e2:q.2=b:=by omega
    rw [← e1,← e2]
  . rw [← h]; exact ⟨rfl,rfl⟩
theorem QK {a b:Nat} {qs:List (Nat×Nat)}:dN (.tup [.int (a:Nat),.int (b:Nat)]) (.lst (QQ qs))=yS (.bl (!decide ((a,b)∈qs))):=by
 show (jf (bF 150) _ (QQ qs)).map _=_
 rw [Ot]; rfl
theorem Nb {xs:List Str} {k:Nat} {x:Str} (h:xs[k]?=some x):pH (.lst (SS xs)) (.int (k:Nat))=zT x:=by
 show (gn (SS xs) (k:Int)).map _=_
 rw [pY (p:=.str x) (by rw [List.getElem?_map,h]; rfl)]
 rfl
theorem QL {xs:List Str} {k:Nat} {x:Str} (hk:k<xs.length) (h:xs[if k=0 then xs.length-1 else k-1]?=some x):pH (.lst (SS xs)) (.int ((k:Int)-1))=zT x:=by
 by_cases e:k=0
 . subst e
   rw [if_pos rfl] at h
   show (gn (SS xs) (((0:Nat):Int)-1)).map _=_
   unfold gn oX
   rw [if_neg (by omega),List.length_map,if_pos (by omega),Option.bind_some,show (((0:Nat):Int)-1+(xs.length:Int)).toNat=xs.length-1 from by omega,List.getElem?_map,h]
   rfl
 . rw [if_neg e] at h
   rw [show ((k:Int)-1)=((k-1:Nat):Int) from by omega]
   exact Nb h
theorem Gu:∀ l:List Str,vg (SS l)=some l
 | []=>rfl
 | x::l=>by
  show (vg (SS l)).map (x::·)=_
  rw [Gu l]; rfl
structure lE (xs ts:List Str) (ps:List (Str×Str)) (qs:List (Nat×Nat)) (R:Nat->Nat->Bool):Prop where
 nd:xs.Nodup
 l8:xs.length<=8
 B:Base ts ps
 tm:∀ x,x∈ts ↔ x∈xs
 ok:okN xs.length qs
 pm:∀ a b,(a,b)∈ps ↔ ∃ i j:Nat,xs[i]?=some a/\xs[j]?=some b/\(i,j)∈qs
 re:∀ a b,a<xs.length->b<xs.length->(R a b=true ↔ Rt (Gs qs) a b)
section
variable {xs ts:List Str} {ps:List (Str×Str)} {qs:List (Nat×Nat)} {R:Nat->Nat->Bool}
theorem lE.to (S:lE xs ts ps qs R) {i:Nat} {a y:Str} (hi:xs[i]?=some a) (h:Rt (fun a b=>(a,b)∈ps) a y):∃ j:Nat,xs[j]?=some y/\Rt (Gs qs) i j:=by
 induction h with
 | refl=>exact ⟨i,hi,.refl i⟩
 | @step y z _ e ih=>
  obtain ⟨j,hj,r⟩:=ih
  obtain ⟨j',k,h1,h2,h3⟩:=(S.pm y z).mp e
  have:=Eb S.nd hj h1
  subst this
  exact ⟨k,h2,r.step h3⟩
theorem lE.up (S:lE xs ts ps qs R) {i j:Nat} {a:Str} (hi:xs[i]?=some a) (h:Rt (Gs qs) i j):∃ y,xs[j]?=some y/\Rt (fun a b=>(a,b)∈ps) a y:=by
 induction h with
 | refl=>exact ⟨a,hi,.refl a⟩
 | @step y z _ e ih=>
  obtain ⟨b,hb,r⟩:=ih
  obtain ⟨c,_,hc⟩:=tV (S.ok _ e).2
  exact ⟨c,hc,r.step ((S.pm b c).mpr ⟨y,z,hb,hc,e⟩)⟩
theorem lE.ur (S:lE xs ts ps qs R) {i j:Nat} {a b:Str} (hi:xs[i]?=some a) (hj:xs[j]?=some b):U ps a b=R i j:=by
 rw [Bool.eq_iff_iff,q8 S.B.lp,S.re i j (Bo hi) (Bo hj)]
 constructor
 . intro h
   obtain ⟨k,hk,r⟩:=S.to hi h
   have:=Eb S.nd hj hk
   subst this
   exact r
 . intro h
   obtain ⟨y,hy,r⟩:=S.up hi h
   rw [hj] at hy
   cases hy
   exact r
theorem lE.in_ (S:lE xs ts ps qs R) {i:Nat} {a:Str} (hi:xs[i]?=some a):a∈ts:=(S.tm a).mpr (List.mem_of_getElem? hi)
noncomputable abbrev KE (r xs:List Str) (qs:List (Nat×Nat)) (o3 o4:Option Lc) (mu:Mu):Ev:=⟨[zS r,zS xs,yS (QP qs),o3,o4],mu⟩
noncomputable abbrev Vs:SF:=aK (aL 4 (aF (aa 0) (aC v5 (aa 3) (eC (.int 1)))))
 (cG (gf (tT (aC dN (aa 4) (aa 1)) aZ) (gf (tT (aC dN (aF (aa 0) (aa 3)) (aa 1)) aZ) (tT (aC dN (fO (aj (dW (aa 1) (aa 4)) (aj (dW (aa 1) (aF (aa 0) (aa 3))) ao))) (aa 2)) aZ)))
 (bK (eC (.bl false)))
 bJ)
theorem Gv {r:List Str} (rk:Rg.RingOk ts ps r):r.Nodup:=by
 refine List.pairwise_iff_getElem.mpr fun i j hi hj hij e=>?_
 exact rk.dis j r[j] (List.getElem?_eq_getElem hj) (by rw [← e]; exact List.mem_take_iff_getElem.mpr ⟨i,by omega,rfl⟩)
theorem Gw {r:List Str} (B:Base ts ps) (rk:Rg.RingOk ts ps r):r.length<=8:=Nat.le_trans (mJ (Gv rk) rk.sub) B.l8
theorem Ku (S:lE xs ts ps qs R) {r:List Str} (rk:Rg.RingOk ts ps r) {k:Nat} (hk:k<r.length) {o4:Option Lc} {mu:Mu}:∃ p4,Vs (KE r xs qs (zI (k:Nat)) o4 mu)=some (.nx (KE r xs qs (zI (k:Nat)) p4 mu)):=by
 have two:=rk.two
 obtain ⟨x,hx,e1⟩:=tV (xs:=r) (i:=if k=0 then r.length-1 else k-1) (by split<;>omega)
 obtain ⟨y,h1,h2⟩:=rk.nxt _ x e1
 have ek:((if k=0 then r.length-1 else k-1)+1)%r.length=k:=by
  split
  . rename_i e
    rw [show r.length-1+1=r.length by omega,Nat.mod_self,e]
  . rw [show k-1+1=k by omega,Nat.mod_eq_of_lt hk]
 rw [ek] at h1
 obtain ⟨i,j,hi,hj,hq⟩:=(S.pm x y).mp h2
 have iy:∀ o4,aF (aa 0) (aa 3) (KE r xs qs (zI (k:Nat)) o4 mu)=some (.sh (.str y),KE r xs qs (zI (k:Nat)) o4 mu):=fun o4=>lr (l:=wS r) (m:=.sh (.int (k:Nat))) rfl rfl rfl rfl (fun n h=>by cases h) (Nb h1)
 have s1:aL 4 (aF (aa 0) (aC v5 (aa 3) (eC (.int 1)))) (KE r xs qs (zI (k:Nat)) o4 mu)=some (.nx (KE r xs qs (zI (k:Nat)) (zT x) mu)):=aQ (lr (l:=wS r) (m:=.sh (.int ((k:Int)-1))) rfl rfl (bx rfl rfl rfl rfl rfl) rfl (fun n h=>by cases h) (QL hk e1)) rfl rfl
 have g1:tT (aC dN (aa 4) (aa 1)) aZ (KE r xs qs (zI (k:Nat)) (zT x) mu)=some (false,KE r xs qs (zI (k:Nat)) (zT x) mu):=(bW (bx rfl rfl rfl rfl kO) rfl rfl).trans (by rw [bu.mpr (List.mem_of_getElem? hi)]; rfl)
 have g2:tT (aC dN (aF (aa 0) (aa 3)) (aa 1)) aZ (KE r xs qs (zI (k:Nat)) (zT x) mu)=some (false,KE r xs qs (zI (k:Nat)) (zT x) mu):=(bW (bx (iy _) rfl rfl rfl kO) rfl rfl).trans (by rw [bu.mpr (List.mem_of_getElem? hj)]; rfl)
 have g3:tT (aC dN (fO (aj (dW (aa 1) (aa 4)) (aj (dW (aa 1) (aF (aa 0) (aa 3))) ao))) (aa 2)) aZ (KE r xs qs (zI (k:Nat)) (zT x) mu)=some (false,KE r xs qs (zI (k:Nat)) (zT x) mu):=
  (bW (bx (lU (ls:=[.sh (.int (i:Nat)),.sh (.int (j:Nat))]) (az (vA S.nd S.l8 (l:=wS xs) (m:=.sh (.str x)) hi rfl rfl rfl rfl) (az (vA S.nd S.l8 (l:=wS xs) (m:=.sh (.str y)) hj rfl rfl (iy _) rfl) rfl)) rfl rfl) rfl rfl rfl QK) rfl rfl).trans (by rw [decide_eq_true hq]; rfl)
 exact ⟨_,aG s1 ((cL (jY (b:=false) (b2:=false) g1 (jY (b:=false) (b2:=false) g2 g3))).trans rfl)⟩
theorem Ik (S:lE xs ts ps qs R) {r:List Str} (rk:Rg.RingOk ts ps r) {mu:Mu}:g8 [.lst (SS r),.lst (SS xs),QP qs] mu=some (.sh (.bl true),mu):=by
 have two:=rk.two
 have l8:=Gw S.B rk
 have nd:=Gv rk
 have ln:∀ o3 o4,eB dh (aj (aa 0) ao) (KE r xs qs o3 o4 mu)=some (.sh (.int ((SS r).length:Nat)),KE r xs qs o3 o4 mu):=fun _ _=>rfl
 have t1:tT (aC Cw (eB dh (aj (aa 0) ao)) (eC (.int 2))) aZ (KE r xs qs none none mu)=some (false,KE r xs qs none none mu):=by
  refine (bW (bx (ln _ _) rfl rfl rfl rfl) rfl rfl).trans ?_
  show some (decide (((SS r).length:Int)<2),_)=_
  rw [decide_eq_false (by rw [List.length_map]; omega)]
 have t2:tT (aC uA (vp (aa 0)) (eB dh (aj (aa 0) ao))) aZ (KE r xs qs none none mu)=some (false,KE r xs qs none none mu):=by
  have es:vp (aa 0) (KE r xs qs none none mu)=some (.sh (.int (r.length:Nat)),KE r xs qs none none mu):=by
   show (vg (SS r)).bind _=_
   rw [Gu,Option.bind_some,if_pos ⟨nd,by omega⟩]
   rfl
  refine (bW (bx es rfl (ln _ _) rfl rfl) rfl rfl).trans ?_
  show some (!(((r.length:Nat):Int)==((SS r).length:Int)),_)=_
  rw [List.length_map,beq_self_eq_true]
  rfl
 obtain ⟨ρ',ef,o3,o4,rfl⟩:=jT (b:=au 3) (body:=Vs) (xs:=cg 0 r.length) (ρ:=KE r xs qs none none mu) (fun _ ρ=>∃ o3 o4,ρ=KE r xs qs o3 o4 mu) ⟨_,_,rfl⟩ (by
  rintro k x ρ hx ⟨o3,o4,rfl⟩
  obtain ⟨hk,rfl⟩:=sE hx
  obtain ⟨p4,e⟩:=Ku S rk hk (o4:=o4) (mu:=mu)
  exact ⟨KE r xs qs (zI (k:Nat)) o4 mu,rfl,_,.inl e,_,_,rfl⟩)
 refine bB (ρ:=KE r xs qs o3 o4 mu) (aG (ρ':=KE r xs qs none none mu) ((cL (jY (b:=false) (b2:=false) rfl (jY (b:=false) (b2:=false) t1 t2))).trans rfl) (aG (dU (xs:=cg 0 r.length) (ρ1:=KE r xs qs none none mu) ?_ ef) rfl))
 have:=dB (a:=aj (eB dh (aj (aa 0) ao)) ao) (ρ:=KE r xs qs none none mu) (ρ1:=KE r xs qs none none mu) (l:=.sh (.int ((SS r).length:Nat))) (n:=((SS r).length:Nat)) rfl rfl (by omega) (by rw [List.length_map]; omega)
 rw [Int.toNat_natCast,List.length_map] at this
 exact this
end
theorem yt {R:Nat->Nat->Bool} {n i j:Nat} {fa fb fc:EF} {ρ:Ev} (hi:i<n) (hj:j<n) (ha:fa ρ=some (.sh (cD R n),ρ)) (hb:fb ρ=some (.sh (.int (i:Nat)),ρ)) (hc:fc ρ=some (.sh (.int (j:Nat)),ρ)):aF (aF fa fb) fc ρ=some (.sh (.bl (R i j)),ρ):=by
 have e1:pH (cD R n) (.int (i:Nat))=yL (dX R n i):=by
  show (gn ((List.range n).map fun i=>PV.lst (dX R n i)) (i:Int)).map _=_
  rw [pY (p:=PV.lst (dX R n i)) (by rw [List.getElem?_map,List.getElem?_range hi]; rfl)]
  rfl
 have e2:pH (.lst (dX R n i)) (.int (j:Nat))=yS (.bl (R i j)):=by
  show (gn (dX R n i) (j:Int)).map _=_
  rw [pY (p:=PV.bl (R i j)) (yp hj)]
  rfl
 exact lr (l:=.sh (.lst (dX R n i))) (lr (l:=.sh (cD R n)) ha rfl hb rfl (fun n h=>by cases h) e1) rfl hc rfl (fun n h=>by cases h) e2
theorem lJ {R:Nat->Nat->Bool} {n i j:Nat} {fa fb fc:EF} {ρ:Ev} (hi:i<n) (hj:j<n) (ha:fa ρ=some (.sh (cD R n),ρ)) (hb:fb ρ=some (.sh (.int (i:Nat)),ρ)) (hc:fc ρ=some (.sh (.int (j:Nat)),ρ)):tT (aF (aF fa fb) fc) aN ρ=some (R i j,ρ):=bW (yt hi hj ha hb hc) rfl DX
noncomputable abbrev II (ks:List Nat):List PV:=ks.map fun k=>.int (k:Nat)
theorem Ug {n:Nat}:cg 0 n=II (List.range n):=by
 unfold cg
 refine List.map_congr_left fun i _=>?_
 show PV.int (0+(i:Int))=_
 rw [Int.zero_add]
theorem Gx {ks:List Nat} {vs:List (Option Lc)} {mu:Mu} {tc:TF} {p:Nat->Bool} (hl:ks.length<=8) (ht:∀ k∈ks,tc ⟨zI (k:Nat)::vs,mu⟩=some (p k,⟨zI (k:Nat)::vs,mu⟩)):dH (au 0) tc (aa 0) (II ks) ⟨none::vs,mu⟩ []=some (II (ks.filter p),mu):=by
 have:=j9 (b:=au 0) (tc:=tc) (te:=aa 0) (mu:=mu) (fun ρ=>∃ o,ρ=⟨o::vs,mu⟩) (fun ρ ⟨o,e⟩=>by rw [e]) (fun q=>match q with | .int y=>p y.toNat | _=>false) (fun q=>q) (xs:=II ks) (ρ:=⟨none::vs,mu⟩) (acc:=[]) ⟨none,rfl⟩ (by simp; omega) (by
  rintro z hz ρ ⟨o,rfl⟩
  obtain ⟨y,hy,rfl⟩:=List.mem_map.mp hz
  exact ⟨⟨zI (y:Nat)::vs,mu⟩,rfl,_,ht y hy,⟨_,rfl⟩,fun _=>⟨_,_,rfl,rfl,_,rfl⟩⟩)
 rw [this,List.nil_append,List.filter_map,List.map_map]
 rfl
theorem QM {ks:List Nat} {vs:List (Option Lc)} {mu:Mu} {te:EF} {p:Nat->Bool} (hl:ks.length<=8) (ht:∀ k∈ks,te ⟨zI (k:Nat)::vs,mu⟩=some (.sh (.bl (p k)),⟨zI (k:Nat)::vs,mu⟩)):dH (au 0) bw te (II ks) ⟨none::vs,mu⟩ []=some (ks.map (fun k=>.bl (p k)),mu):=by
 have:=iR (b:=au 0) (te:=te) (mu:=mu) (fun ρ=>∃ o,ρ=⟨o::vs,mu⟩) (fun ρ ⟨o,e⟩=>by rw [e]) (fun q=>match q with | .int y=>.bl (p y.toNat) | _=>.non) (xs:=II ks) (ρ:=⟨none::vs,mu⟩) ⟨none,rfl⟩ (by simp; omega) (by
  rintro z hz ρ ⟨o,rfl⟩
  obtain ⟨y,hy,rfl⟩:=List.mem_map.mp hz
  exact ⟨⟨zI (y:Nat)::vs,mu⟩,rfl,_,_,ht y hy,rfl,_,rfl⟩) (by
  rintro z hz ρ ρ1 ⟨o,rfl⟩ e
  cases e
  exact ⟨_,rfl⟩)
 rw [this,List.map_map]
 rfl
theorem Nf {i:Nat} {ρ ρ1:Ev} {l:Lc} {ys:List PV} (h:aa i ρ=some (l,ρ1)) (hl:l.pv=.lst ys):dG (aa i) bO ρ=some (ys,ρ1):=JS h (by rw [hl]; rfl)
noncomputable abbrev LK (l:PV) (xs:List Str) (R:Nat->Nat->Bool) (o3 o4 o5 o6:Option Lc) (mu:Mu):Ev:=⟨[yS l,zS xs,yS (cD R xs.length),o3,o4,o5,o6],mu⟩
theorem Uh {l:PV} {xs:List Str} {R:Nat->Nat->Bool} {o3 o4 o5 o6:Option Lc} {mu:Mu} (h8:xs.length<=8):aU (aj (eB dh (aj (aa 1) ao)) ao) (LK l xs R o3 o4 o5 o6 mu)=some (II (List.range xs.length),LK l xs R o3 o4 o5 o6 mu):=by
 have:=dB (a:=aj (eB dh (aj (aa 1) ao)) ao) (ρ:=LK l xs R o3 o4 o5 o6 mu) (ρ1:=LK l xs R o3 o4 o5 o6 mu) (l:=.sh (.int ((SS xs).length:Nat))) (n:=((SS xs).length:Nat)) rfl rfl (by omega) (by rw [List.length_map]; omega)
 rw [Int.toNat_natCast,List.length_map,Ug] at this
 exact this
theorem vO {l:PV} {xs:List Str} {R S:Nat->Nat->Bool} {i j:Nat} {mu:Mu} {tc:TF} {te:EF} (h8:xs.length<=8)
 (h1:∀ k,k<xs.length->tc ⟨[zI (k:Nat),yS (cD R xs.length),zI (i:Nat),zI (j:Nat)],mu⟩=some (S i k&&S j k,⟨[zI (k:Nat),yS (cD R xs.length),zI (i:Nat),zI (j:Nat)],mu⟩))
 (h2:∀ m k,m<xs.length->k<xs.length->te ⟨[zI (m:Nat),yS (cD R xs.length),zI (k:Nat)],mu⟩=some (.sh (.bl (S k m)),⟨[zI (m:Nat),yS (cD R xs.length),zI (k:Nat)],mu⟩))
 (h0:∀ k,k<xs.length->S i k=true->S j k=true->∃ m,m<xs.length/\S i m=true/\S j m=true/\S k m=false):∃ o5,aK (aL 5 (bh (aU (aj (eB dh (aj (aa 1) ao)) ao)) 1 [2,3,4] (au 0) tc (aa 0)))
 (aL 6 (bh (dG (aa 5) bO) 1 [5,2] (au 0) (tT (eB all1 (aj (bh (dG (aa 1) bO) 1 [2,0] (au 0) bw te) ao)) aN) (aa 0))) (LK l xs R (zI (i:Nat)) (zI (j:Nat)) none none mu)=some (.nx (LK l xs R (zI (i:Nat)) (zI (j:Nat)) o5 (yO (II [])) mu)):=by
 have e1:=cX (m:=1) (ixs:=[2,3,4]) (b:=au 0) (tc:=tc) (te:=aa 0) (Uh (l:=l) (R:=R) (o3:=zI (i:Nat)) (o4:=zI (j:Nat)) (o5:=none) (o6:=none) (mu:=mu) h8) (Gx (p:=fun k=>S i k&&S j k) (vs:=[yS (cD R xs.length),zI (i:Nat),zI (j:Nat)]) (mu:=mu) (by rw [List.length_range]; exact h8) fun k hk=>h1 k (List.mem_range.mp hk))
 generalize hbo:(List.range xs.length).filter (fun k=>S i k&&S j k)=bo at e1
 have bl:bo.length<=8:=by
  rw [← hbo]
  exact Nat.le_trans (List.length_filter_le _ _) (by rw [List.length_range]; exact h8)
 have bm:∀ k,k∈bo ↔ k<xs.length/\S i k=true/\S j k=true:=fun k=>by
  rw [← hbo,List.mem_filter,List.mem_range,Bool.and_eq_true]
 have none_:bo.filter (fun k=>bo.all fun m=>S k m)=[]:=by
  refine List.filter_eq_nil_iff.mpr fun k hk e=>?_
  obtain ⟨k1,k2,k3⟩:=(bm k).mp hk
  obtain ⟨m,m1,m2,m3,m4⟩:=h0 k k1 k2 k3
  have:=List.all_eq_true.mp e m ((bm m).mpr ⟨m1,m2,m3⟩)
  rw [m4] at this
  cases this
 have e2:=Gx (ks:=bo) (p:=fun k=>bo.all fun m=>S k m) (vs:=[yL (II bo),yS (cD R xs.length)]) (mu:=mu) (tc:=tT (eB all1 (aj (bh (dG (aa 1) bO) 1 [2,0] (au 0) bw te) ao)) aN) bl fun k hk=>by
  have k1:=((bm k).mp hk).1
  have e3:bh (dG (aa 1) bO) 1 [2,0] (au 0) bw te ⟨[zI (k:Nat),yL (II bo),yS (cD R xs.length)],mu⟩=some (.own (.lst (bo.map fun m=>.bl (S k m))),⟨[zI (k:Nat),yL (II bo),yS (cD R xs.length)],mu⟩):=
   (cX (ρ1:=⟨[zI (k:Nat),yL (II bo),yS (cD R xs.length)],mu⟩) (Nf (l:=.sh (.lst (II bo))) rfl rfl) (QM (p:=fun m=>S k m) (vs:=[yS (cD R xs.length),zI (k:Nat)]) bl fun m hm=>h2 m k ((bm m).mp hm).1 k1)).trans rfl
  exact bW (yI (ls:=[.own (.lst (bo.map fun m=>.bl (S k m)))]) (az e3 rfl) rfl (Ak bo)) rfl DX
 rw [none_] at e2
 refine ⟨yL (II bo),aG (ρ':=LK l xs R (zI (i:Nat)) (zI (j:Nat)) (yO (II bo)) none mu) (aQ e1 rfl rfl) (aQ (l:=.own (.lst (II []))) (ρ1:=LK l xs R (zI (i:Nat)) (zI (j:Nat)) (yL (II bo)) none mu) ((cX (ρ1:=LK l xs R (zI (i:Nat)) (zI (j:Nat)) (yL (II bo)) none mu) (Nf (l:=.sh (.lst (II bo))) rfl rfl) e2).trans rfl) rfl rfl)⟩
section
variable {xs ts:List Str} {ps:List (Str×Str)} {qs:List (Nat×Nat)} {R:Nat->Nat->Bool}
theorem Ec {zs:List (Str×Str)} {S:Nat->Nat->Bool} (hc:∀ q∈zs,q.2∈xs) (hs:∀ {i j:Nat} {a b:Str},xs[i]?=some a->xs[j]?=some b->has (dg zs a) b=S i j) {i j:Nat} {a b:Str} (hi:xs[i]?=some a) (hj:xs[j]?=some b) (h:bnd zs a b=.non):∀ k,k<xs.length->S i k=true->S j k=true->∃ m,m<xs.length/\S i m=true/\S j m=true/\S k m=false:=by
 intro k hk e1 e2
 obtain ⟨z,_,hz⟩:=tV hk
 have hf:(shd zs a b).find? (good zs a b)=none:=by
  unfold bnd at h
  split at h
  . cases h
  . assumption
 have hzs:z∈shd zs a b:=by
  refine List.mem_filter.mpr ⟨bu.mp ((hs hi hz).trans e1),(hs hj hz).trans e2⟩
 have ng:=List.find?_eq_none.mp hf z hzs
 unfold good at ng
 rw [List.all_eq_true] at ng
 obtain ⟨y,hy⟩:=Classical.not_forall.mp ng
 obtain ⟨hy1,hy2⟩:=Classical.not_imp.mp hy
 obtain ⟨g1,g2⟩:=List.mem_filter.mp hy1
 obtain ⟨m,hm,em⟩:=yr (jc hc (List.mem_of_getElem? hi) g1)
 refine ⟨m,hm,(hs hi em).symm.trans (bu.mpr g1),(hs hj em).symm.trans g2,?_⟩
 rw [← hs hz em]
 cases e:has (dg zs z) y with
 | false=>rfl
 | true=>exact absurd e hy2
theorem lE.hc (S:lE xs ts ps qs R):∀ q∈ps,q.2∈xs:=fun q hq=>(S.tm q.2).mp (S.B.mem q hq).2
theorem lE.hc' (S:lE xs ts ps qs R):∀ q∈fZ ps,q.2∈xs:=fun q hq=>by
 obtain ⟨q',hq',rfl⟩:=List.mem_map.mp hq
 exact (S.tm _).mp (S.B.mem q' hq').1
theorem lE.dr (S:lE xs ts ps qs R) {i j:Nat} {a b:Str} (hi:xs[i]?=some a) (hj:xs[j]?=some b):has (dg (fZ ps) a) b=R j i:=by
 rw [← S.ur hj hi,Bool.eq_iff_iff,bu,q9 S.B.lp]
theorem Il (S:lE xs ts ps qs R) {l:PV} (lk:yo ts ps l) {mu:Mu}:jx [l,.lst (SS xs),cD R xs.length] mu=some (.sh (.bl true),mu):=by
 have l8:=S.l8
 obtain ⟨w,a,b,ha,hb,rfl,hw⟩:∃ w a b,a∈ts/\b∈ts/\l=.tup [.str w,.str a,.str b]/\((w = "join" /\ bnd ps a b=.non)\/(w = "meet" /\ bnd (fZ ps) a b=.non)):=by
  rcases lk with ⟨a,ha,b,hb,e,h⟩ | ⟨a,ha,b,hb,e,h⟩
  . exact ⟨_,a,b,ha,hb,e,.inl ⟨rfl,h⟩⟩
  . exact ⟨_,a,b,ha,hb,e,.inr ⟨rfl,h⟩⟩
 obtain ⟨i,i1,hi⟩:=yr ((S.tm a).mp ha)
 obtain ⟨j,j1,hj⟩:=yr ((S.tm b).mp hb)
 let E:=fun o3 o4 o5 o6=>LK (.tup [.str w,.str a,.str b]) xs R o3 o4 o5 o6 mu
 have x0:∀ o3 o4 o5 o6,aF (aa 0) (eC (.int 0)) (E o3 o4 o5 o6)=some (.sh (.str w),E o3 o4 o5 o6):=fun _ _ _ _=>rfl
 have x1:∀ o3 o4 o5 o6,aF (aa 0) (eC (.int 1)) (E o3 o4 o5 o6)=some (.sh (.str a),E o3 o4 o5 o6):=fun _ _ _ _=>rfl
 have x2:∀ o3 o4 o5 o6,aF (aa 0) (eC (.int 2)) (E o3 o4 o5 o6)=some (.sh (.str b),E o3 o4 o5 o6):=fun _ _ _ _=>rfl
 have g1:tT (aC dN (aF (aa 0) (eC (.int 1))) (aa 1)) aZ (E none none none none)=some (false,E none none none none):=(bW (bx (x1 _ _ _ _) rfl rfl rfl kO) rfl rfl).trans (by rw [bu.mpr (List.mem_of_getElem? hi)]; rfl)
 have g2:tT (aC dN (aF (aa 0) (eC (.int 2))) (aa 1)) aZ (E none none none none)=some (false,E none none none none):=(bW (bx (x2 _ _ _ _) rfl rfl rfl kO) rfl rfl).trans (by rw [bu.mpr (List.mem_of_getElem? hj)]; rfl)
 have s0:=jY (c:=bN (tT (N6 "tuple" (aa 0)) aN)) (ρ:=E none none none none) (b:=false) (b2:=false) rfl (jY (c:=tT (aC uA (eB dh (aj (aa 0) ao)) (eC (.int 3))) aZ) (b:=false) (b2:=false) rfl (jY (b:=false) (b2:=false) g1 g2))
 have s3:aL 3 (dW (aa 1) (aF (aa 0) (eC (.int 1)))) (E none none none none)=some (.nx (E (zI (i:Nat)) none none none)):=aQ (vA S.nd l8 (l:=wS xs) hi rfl rfl (x1 _ _ _ _) rfl) rfl rfl
 have s4:aL 4 (dW (aa 1) (aF (aa 0) (eC (.int 2)))) (E (zI (i:Nat)) none none none)=some (.nx (E (zI (i:Nat)) (zI (j:Nat)) none none)):=aQ (vA S.nd l8 (l:=wS xs) hj rfl rfl (x2 _ _ _ _) rfl) rfl rfl
 have t5:tT (aC eqP (aF (aa 0) (eC (.int 0))) (eC (.str "join"))) aZ (E (zI (i:Nat)) (zI (j:Nat)) none none)=some (w == "join",E (zI (i:Nat)) (zI (j:Nat)) none none):=bW (l:=.sh (.bl (w == "join"))) (bx (x0 _ _ _ _) rfl rfl rfl rfl) rfl rfl
 have fin:∀ o5,(w = "join" \/ w = "meet")->bK (jD (aC jk (aF (aa 0) (eC (.int 0))) (fO (aj (eC (.str "join")) (aj (eC (.str "meet")) ao)))) (aC eqP (eB dh (aj (aa 6) ao)) (eC (.int 0)))) (E (zI (i:Nat)) (zI (j:Nat)) o5 (yO (II [])))=some (.rt (.sh (.bl true)) (E (zI (i:Nat)) (zI (j:Nat)) o5 (yL (II [])))):=fun o5 hw=>by
  have q1:aC jk (aF (aa 0) (eC (.int 0))) (fO (aj (eC (.str "join")) (aj (eC (.str "meet")) ao))) (E (zI (i:Nat)) (zI (j:Nat)) o5 (yO (II [])))=some (.sh (.bl true),E (zI (i:Nat)) (zI (j:Nat)) o5 (yO (II []))):=by
   refine bx (x0 _ _ _ _) rfl (lU (ls:=[.sh (.str "join"),.sh (.str "meet")]) rfl rfl rfl) rfl ?_
   show some (Lc.sh (.bl (("join" : Str)==w||(("meet" : Str)==w||false))))=_
   rcases hw with rfl | rfl
   . rfl
   . rw [beq_self_eq_true (a:=("meet" : Str)),Bool.true_or,Bool.or_true]
  refine dR ?_
  unfold jD
  rw [q1]
  rfl
 rcases hw with ⟨rfl,hb⟩ | ⟨rfl,hb⟩
 . obtain ⟨o5,e⟩:=vO (l:=.tup [.str "join",.str a,.str b]) (R:=R) (S:=R) (i:=i) (j:=j) (mu:=mu) (tc:=cQ (tT (aF (aF (aa 1) (aa 2)) (aa 0)) aN) (tT (aF (aF (aa 1) (aa 3)) (aa 0)) aN)) (te:=aF (aF (aa 1) (aa 2)) (aa 0)) l8 (fun k hk=>jO (lJ i1 hk rfl rfl rfl) (lJ j1 hk rfl rfl rfl)) (fun m k hm hk=>yt hk hm rfl rfl rfl) (Ec S.hc (fun h g=>S.ur h g) hi hj hb)
   exact bB (ρ:=E (zI (i:Nat)) (zI (j:Nat)) o5 (yL (II []))) (aG (ρ':=E none none none none) ((cL s0).trans rfl) (aG s3 (aG s4 (aG ((jG t5).trans e) (fin o5 (.inl rfl))))))
 . obtain ⟨o5,e⟩:=vO (l:=.tup [.str "meet",.str a,.str b]) (R:=R) (S:=fun a b=>R b a) (i:=i) (j:=j) (mu:=mu) (tc:=cQ (tT (aF (aF (aa 1) (aa 0)) (aa 2)) aN) (tT (aF (aF (aa 1) (aa 0)) (aa 3)) aN)) (te:=aF (aF (aa 1) (aa 0)) (aa 2)) l8 (fun k hk=>jO (lJ hk i1 rfl rfl rfl) (lJ hk j1 rfl rfl rfl)) (fun m k hm hk=>yt hm hk rfl rfl rfl) (Ec S.hc' (fun h g=>S.dr h g) hi hj hb)
   have t5':tT (aC eqP (aF (aa 0) (eC (.int 0))) (eC (.str "join"))) aZ (E (zI (i:Nat)) (zI (j:Nat)) none none)=some (false,E (zI (i:Nat)) (zI (j:Nat)) none none):=t5.trans (by rw [show (("meet" : Str) == "join")=false from by decide +kernel])
   exact bB (ρ:=E (zI (i:Nat)) (zI (j:Nat)) o5 (yL (II []))) (aG (ρ':=E none none none none) ((cL s0).trans rfl) (aG s3 (aG s4 (aG ((cL t5').trans e) (fin o5 (.inr rfl))))))
end
section
variable {n:Nat} {mu:Mu} {xs ts:List Str} {ps:List (Str×Str)} {qs:List (Nat×Nat)} {R:Nat->Nat->Bool} {a b:Str}
theorem Ng (O:pL n mu xs ps) (ha:a∈xs) (hb:b∈xs):cF [.ptr n,.str a,.str b] mu=some (.sh (.bl (U ps a b)),mu):=by
 have O':=O
 obtain ⟨ok,l,⟨lj,lm,lo,hi,rfl,_⟩,hm⟩:=O
 exact bB (ρ:=⟨[yS (.ptr n),zT a,zT b],mu⟩) (ut O' ha hb _ _ (dR (bx rfl rfl (uQ (d:=iZ ps xs) (nQ (x:=.sh (.ptr n)) (ρ1:=⟨[yS (.ptr n),zT a,zT b],mu⟩) rfl rfl hm MP) rfl rfl rfl (pX ha)) rfl yd)))
theorem Nh (O:pL n mu xs ps):jy [.ptr n] mu=some (.own (.lst (SS xs)),mu):=by
 obtain ⟨ok,l,⟨lj,lm,lo,hi,rfl,_⟩,hm⟩:=O
 exact bB (ρ:=⟨[yS (.ptr n)],mu⟩) (dR (yI (ls:=[wS xs]) (ps:=[.lst (SS xs)]) (az (nQ (x:=.sh (.ptr n)) (ρ1:=⟨[yS (.ptr n)],mu⟩) rfl rfl hm DR) rfl) rfl rfl))
theorem Ui (O:pL n mu xs ps) {fo fa fb:EF} {ρ:Ev} (ina:a∈xs) (inb:b∈xs) (hρ:ρ.mu=mu) (ho:fo ρ=some (.sh (.ptr n),ρ)) (ha:fa ρ=some (.sh (.str a),ρ)) (hb:fb ρ=some (.sh (.str b),ρ)):bG "Order" "under" cF fo (aj fa (aj fb ao)) ρ=some (.sh (.bl (U ps a b)),ρ):=me O hρ ho ha hb (by decide +kernel) (Ng O ina inb)
theorem Ou {m:Str} {g:GF} {fo:EF} {af:AF} {ρ:Ev} {r:Lc} {ls:List Lc} {us:List PV} (O:pL n mu xs ps) (hρ:ρ.mu=mu) (ho:fo ρ=some (.sh (.ptr n),ρ)) (ha:af ρ=some (ls,ρ)) (hl:ls.map Lc.pv=us) (hc:(["names", "above", "joins", "meets", "lowest", "highest"]:List Str).contains m=false) (hg:g (.ptr n::us) mu=some (r,mu)):bG "Order" m g fo af ρ=some (r,ρ):=by
 obtain ⟨ok,l,⟨lj,lm,lo,hi,rfl,_⟩,hm⟩:=O
 have:=vy (C := "Order") (m:=m) (g:=g) (fo:=fo) (a:=af) (l:=oF xs ps lj lm lo hi) (n:=n) (ps:=us) ho rfl (by rw [hρ]; exact hm) hc ha hl (by rw [hρ]; exact hg)
 rw [this,← hρ]
theorem QR (O:pL n mu xs ps) {zs:List Str} (hz:∀ x,x∈xs ↔ x∈zs):∃ lo hi,(lo∈xs/\∀ x∈xs,U ps lo x=true)/\(hi∈xs/\∀ x∈xs,U ps x hi=true)/\ie [.ptr n] mu=some (.sh (.str lo),mu)/\jr [.ptr n] mu=some (.sh (.str hi),mu)/\iY [.ptr n,.lst (SS zs)] mu=some (.sh (.str hi),mu):=by
 have O':=O
 obtain ⟨ok,l,⟨lj,lm,lo,hi,rfl,_,_,_,_,⟨h1,h1'⟩,h2,h3⟩,hm⟩:=O
 have low:∀ x∈xs,U ps lo x=true:=fun x hx=>by
  refine bu.mpr (Classical.byContradiction fun hn=>?_)
  have:=mJ (l:=x::dg ps lo) (r:=xs) (List.nodup_cons.mpr ⟨hn,uP⟩) fun y hy=>by
   rcases List.mem_cons.mp hy with rfl | hy
   . exact hx
   . exact jc (fun q hq=>(ok.mem q hq).2) h1 hy
  rw [List.length_cons,h1'] at this
  omega
 let E:=fun (v:Str) (o3:Option Lc)=>(⟨[yS (.ptr n),zS zs,zT v,o3],mu⟩:Ev)
 have lp:∀ (r:List Str) (v:Str) (o3:Option Lc),(∀ x∈r,x∈xs)->v∈xs->∃ w o3',w∈xs/\U ps v w=true/\(∀ x∈r,U ps x w=true)/\eX (au 3) (aL 2 (bG "Order" "join" cP (aa 0) (aj (aa 2) (aj (aa 3) ao)))) (SS r) (E v o3)=some (.nx (E w o3')):=by
  intro r
  induction r with
  | nil=>exact fun v o3 _ hv=>⟨v,o3,hv,T9 ok.lp,fun x hx=>by (cases hx),rfl⟩
  | cons x r ih=>
   intro v o3 hr hv
   have hx:=hr x List.mem_cons_self
   obtain ⟨w,o,hw,h1,h2,e⟩:=ih (jn ps v x) (zT x) (fun y hy=>hr y (List.mem_cons_of_mem _ hy)) (Ii ok hv hx)
   refine ⟨w,o,hw,vz ok.lp (Ua ok hv hx) h1,fun y hy=>?_,ji (ρ1:=E v (zT x)) (ρ2:=E (jn ps v x) (zT x)) rfl (aQ (T8 O' hv hx rfl rfl rfl rfl) rfl rfl) e⟩
   rcases List.mem_cons.mp hy with rfl | hy
   . exact vz ok.lp (Ub ok hv hx) h1
   . exact h2 y hy
 obtain ⟨w,o,hw,_,hall,e⟩:=lp zs lo none (fun x hx=>(hz x).mpr hx) h1
 have hwhi:w=hi:=by
  have h4:w∈dg ps hi:=bu.mp (hall hi ((hz hi).mp h2))
  have h5:hi∈dg ps hi:=(vq ok.lp).mpr (.refl hi)
  obtain ⟨z,hz'⟩:=List.length_eq_one_iff.mp h3
  rw [hz'] at h4 h5
  exact (List.mem_singleton.mp h4).trans (List.mem_singleton.mp h5).symm
 subst hwhi
 refine ⟨lo,w,⟨h1,low⟩,⟨h2,fun x hx=>hall x ((hz x).mp hx)⟩,bB (ρ:=⟨[yS (.ptr n)],mu⟩) (dR (nQ (x:=.sh (.ptr n)) (ρ1:=⟨[yS (.ptr n)],mu⟩) rfl rfl hm Av)),bB (ρ:=⟨[yS (.ptr n)],mu⟩) (dR (nQ (x:=.sh (.ptr n)) (ρ1:=⟨[yS (.ptr n)],mu⟩) rfl rfl hm Ih)),?_⟩
 exact bB (ρ:=⟨[yS (.ptr n),zS zs,none,o],mu⟩) (aG (ρ':=E lo none) (aQ (l:=.sh (.str lo)) (ρ1:=⟨[yS (.ptr n),zS zs,none,none],mu⟩) (nQ (x:=.sh (.ptr n)) rfl rfl hm Av) rfl rfl) (aG (dU (ρ1:=E lo none) (gF (l:=wS zs) rfl rfl rfl) e) rfl))
noncomputable abbrev BQ (n:Nat) (xs:List Str) (R:Nat->Nat->Bool) (i j:Nat) (o5 o6 o7:Option Lc) (mu:Mu):Ev:=⟨[yS (.ptr n),zS xs,yS (cD R xs.length),zI (i:Nat),zI (j:Nat),o5,o6,o7],mu⟩
theorem tW {fa fb:EF} {ρ:Ev} {i:Nat} (hi:xs[i]?=some a) (h1:fa ρ=some (wS xs,ρ)) (h2:fb ρ=some (.sh (.int (i:Nat)),ρ)):aF fa fb ρ=some (.sh (.str a),ρ):=lr (l:=wS xs) (m:=.sh (.int (i:Nat))) h1 rfl h2 rfl (fun n h=>by cases h) (Nb hi)
theorem Uj {x y z:Bool} (h:x=true->y=true->z=true):(x&&(y&&!z))=false:=by
 cases x<;>cases y<;>cases z<;>first | rfl | (have:=h rfl rfl; cases this)
theorem Kv (S:lE xs ts ps qs R) (O:pL n mu ts ps) {i j:Nat} (hi:xs[i]?=some a) (hj:xs[j]?=some b):iJ [.ptr n,.lst (SS xs),cD R xs.length,.int (i:Nat),.int (j:Nat)] mu=some (.sh (.bl true),mu):=by
 have ok:=O.1
 have l8:=S.l8
 have ia:=S.in_ hi
 have jb:=S.in_ hj
 have i1:=Bo hi
 have j1:=Bo hj
 obtain ⟨u,u1,hu⟩:=yr ((S.tm _).mp (Ii ok ia jb))
 obtain ⟨v,v1,hv⟩:=yr ((S.tm _).mp (Oo ok ia jb))
 have na:∀ o5 o6 o7,aF (aa 1) (aa 3) (BQ n xs R i j o5 o6 o7 mu)=some (.sh (.str a),BQ n xs R i j o5 o6 o7 mu):=fun _ _ _=>tW hi rfl rfl
 have nb:∀ o5 o6 o7,aF (aa 1) (aa 4) (BQ n xs R i j o5 o6 o7 mu)=some (.sh (.str b),BQ n xs R i j o5 o6 o7 mu):=fun _ _ _=>tW hj rfl rfl
 have s1:aL 5 (dW (aa 1) (bG "Order" "join" cP (aa 0) (aj (aF (aa 1) (aa 3)) (aj (aF (aa 1) (aa 4)) ao)))) (BQ n xs R i j none none none mu)=some (.nx (BQ n xs R i j (zI (u:Nat)) none none mu)):=aQ (vA S.nd l8 (l:=wS xs) hu rfl rfl (T8 O ia jb rfl rfl (na _ _ _) (nb _ _ _)) rfl) rfl rfl
 have s2:aL 6 (dW (aa 1) (bG "Order" "meet" d7 (aa 0) (aj (aF (aa 1) (aa 3)) (aj (aF (aa 1) (aa 4)) ao)))) (BQ n xs R i j (zI (u:Nat)) none none mu)=some (.nx (BQ n xs R i j (zI (u:Nat)) (zI (v:Nat)) none mu)):=aQ (vA S.nd l8 (l:=wS xs) hv rfl rfl (Vr O ia jb rfl rfl (na _ _ _) (nb _ _ _)) rfl) rfl rfl
 have r1:R i u=true:=(S.ur hi hu).symm.trans (Ua ok ia jb)
 have r2:R j u=true:=(S.ur hj hu).symm.trans (Ub ok ia jb)
 have r3:R v i=true:=(S.ur hv hi).symm.trans (Wb ok ia jb)
 have r4:R v j=true:=(S.ur hv hj).symm.trans (Wc ok ia jb)
 let E:=fun o7=>BQ n xs R i j (zI (u:Nat)) (zI (v:Nat)) o7 mu
 have t3:gf (bN (tT (aF (aF (aa 2) (aa 3)) (aa 5)) aN)) (gf (bN (tT (aF (aF (aa 2) (aa 4)) (aa 5)) aN)) (gf (bN (tT (aF (aF (aa 2) (aa 6)) (aa 3)) aN)) (bN (tT (aF (aF (aa 2) (aa 6)) (aa 4)) aN)))) (E none)=some (false,E none):=by
  have:=jY (c:=bN (tT (aF (aF (aa 2) (aa 3)) (aa 5)) aN)) (ρ:=E none) (jw (lJ i1 u1 rfl rfl rfl)) (jY (c:=bN (tT (aF (aF (aa 2) (aa 4)) (aa 5)) aN)) (jw (lJ j1 u1 rfl rfl rfl)) (jY (c:=bN (tT (aF (aF (aa 2) (aa 6)) (aa 3)) aN)) (d:=bN (tT (aF (aF (aa 2) (aa 6)) (aa 4)) aN)) (jw (lJ v1 i1 rfl rfl rfl)) (jw (lJ v1 j1 rfl rfl rfl))))
  rw [this,r1,r2,r3,r4]
  rfl
 obtain ⟨ρ',ef,o7,rfl⟩:=jT (b:=au 7) (body:=aK (cG (cQ (tT (aF (aF (aa 2) (aa 3)) (aa 7)) aN) (cQ (tT (aF (aF (aa 2) (aa 4)) (aa 7)) aN) (bN (tT (aF (aF (aa 2) (aa 5)) (aa 7)) aN))))
  (bK (eC (.bl false)))
  bJ)
  (cG (cQ (tT (aF (aF (aa 2) (aa 7)) (aa 3)) aN) (cQ (tT (aF (aF (aa 2) (aa 7)) (aa 4)) aN) (bN (tT (aF (aF (aa 2) (aa 7)) (aa 6)) aN))))
  (bK (eC (.bl false)))
  bJ)) (xs:=cg 0 xs.length) (ρ:=E none) (fun _ ρ=>∃ o7,ρ=E o7) ⟨_,rfl⟩ (by
   rintro m x ρ hx ⟨o7,rfl⟩
   obtain ⟨m1,rfl⟩:=sE hx
   obtain ⟨z,_,hm⟩:=tV m1
   have e1:=jO (c:=tT (aF (aF (aa 2) (aa 3)) (aa 7)) aN) (ρ:=E (zI (m:Nat))) (lJ i1 m1 rfl rfl rfl) (jO (c:=tT (aF (aF (aa 2) (aa 4)) (aa 7)) aN) (d:=bN (tT (aF (aF (aa 2) (aa 5)) (aa 7)) aN)) (lJ j1 m1 rfl rfl rfl) (jw (lJ u1 m1 rfl rfl rfl)))
   have e2:=jO (c:=tT (aF (aF (aa 2) (aa 7)) (aa 3)) aN) (ρ:=E (zI (m:Nat))) (lJ m1 i1 rfl rfl rfl) (jO (c:=tT (aF (aF (aa 2) (aa 7)) (aa 4)) aN) (d:=bN (tT (aF (aF (aa 2) (aa 7)) (aa 6)) aN)) (lJ m1 j1 rfl rfl rfl) (jw (lJ m1 v1 rfl rfl rfl)))
   rw [Uj fun h g=>(S.ur hu hm).symm.trans (Wa ok ia jb ((S.ur hi hm).trans h) ((S.ur hj hm).trans g))] at e1
   rw [Uj fun h g=>(S.ur hm hv).symm.trans (Wd ok ia jb ((S.ur hm hi).trans h) ((S.ur hm hj).trans g))] at e2
   exact ⟨E (zI (m:Nat)),rfl,_,.inl (aG ((cL e1).trans rfl) ((cL e2).trans rfl)),_,rfl⟩)
 have rg:aU (aj (eB dh (aj (aa 1) ao)) ao) (E none)=some (cg 0 xs.length,E none):=by
  have:=dB (a:=aj (eB dh (aj (aa 1) ao)) ao) (ρ:=E none) (ρ1:=E none) (l:=.sh (.int ((SS xs).length:Nat))) (n:=((SS xs).length:Nat)) rfl rfl (by omega) (by rw [List.length_map]; omega)
  rw [Int.toNat_natCast,List.length_map] at this
  exact this
 refine bB (ρ:=E o7) (aG s1 (aG s2 (aG (ρ':=E none) ((cL t3).trans rfl) (aG (dU rg ef) (dR (bx (Ui O ia jb rfl rfl (na _ _ _) (nb _ _ _)) rfl (yt i1 j1 rfl rfl rfl) rfl ?_))))))
 show some (Lc.sh (.bl (U ps a b==R i j)))=_
 rw [S.ur hi hj,beq_self_eq_true]
noncomputable abbrev MQ (n:Nat) (xs:List Str) (R:Nat->Nat->Bool) (hi:Str) (o4 o5:Option Lc) (mu:Mu):Ev:=⟨[yS (.ptr n),zS xs,yS (cD R xs.length),zT hi,o4,o5],mu⟩
noncomputable abbrev Uk:SF:=aK (cG (gf (tT (aC dN (bG "Order" "join" cP (aa 0) (aj (aF (aa 1) (aa 4)) (aj (aF (aa 1) (aa 5)) ao))) (aa 1)) aZ) (tT (aC dN (bG "Order" "meet" d7 (aa 0) (aj (aF (aa 1) (aa 4)) (aj (aF (aa 1) (aa 5)) ao))) (aa 1)) aZ))
 (bK (eC (.bl false)))
 bJ)
 (aK (cG (cQ (tT (aC uA (aa 4) (aa 5)) aZ) (cQ (tT (aF (aF (aa 2) (aa 4)) (aa 5)) aN) (tT (aF (aF (aa 2) (aa 5)) (aa 4)) aN)))
 (bK (eC (.bl false)))
 bJ)
 (cG (bN (tT (aM iJ (aj (aa 0) (aj (aa 1) (aj (aa 2) (aj (aa 4) (aj (aa 5) ao)))))) aN))
 (bK (eC (.bl false)))
 bJ))
theorem QS (S:lE xs ts ps qs R) (O:pL n mu ts ps) {hi:Str} {i j:Nat} (i1:i<xs.length) (j1:j<xs.length):Uk (MQ n xs R hi (zI (i:Nat)) (zI (j:Nat)) mu)=some (.nx (MQ n xs R hi (zI (i:Nat)) (zI (j:Nat)) mu)):=by
 have ok:=O.1
 obtain ⟨a,_,ha⟩:=tV i1
 obtain ⟨b,_,hb⟩:=tV j1
 have ia:=S.in_ ha
 have jb:=S.in_ hb
 have na:aF (aa 1) (aa 4) (MQ n xs R hi (zI (i:Nat)) (zI (j:Nat)) mu)=some (.sh (.str a),MQ n xs R hi (zI (i:Nat)) (zI (j:Nat)) mu):=tW ha rfl rfl
 have nb:aF (aa 1) (aa 5) (MQ n xs R hi (zI (i:Nat)) (zI (j:Nat)) mu)=some (.sh (.str b),MQ n xs R hi (zI (i:Nat)) (zI (j:Nat)) mu):=tW hb rfl rfl
 have g1:tT (aC dN (bG "Order" "join" cP (aa 0) (aj (aF (aa 1) (aa 4)) (aj (aF (aa 1) (aa 5)) ao))) (aa 1)) aZ (MQ n xs R hi (zI (i:Nat)) (zI (j:Nat)) mu)=some (false,MQ n xs R hi (zI (i:Nat)) (zI (j:Nat)) mu):=(bW (bx (T8 O ia jb rfl rfl na nb) rfl rfl rfl kO) rfl rfl).trans (by rw [bu.mpr ((S.tm _).mp (Ii ok ia jb))]; rfl)
 have g2:tT (aC dN (bG "Order" "meet" d7 (aa 0) (aj (aF (aa 1) (aa 4)) (aj (aF (aa 1) (aa 5)) ao))) (aa 1)) aZ (MQ n xs R hi (zI (i:Nat)) (zI (j:Nat)) mu)=some (false,MQ n xs R hi (zI (i:Nat)) (zI (j:Nat)) mu):=(bW (bx (Vr O ia jb rfl rfl na nb) rfl rfl rfl kO) rfl rfl).trans (by rw [bu.mpr ((S.tm _).mp (Oo ok ia jb))]; rfl)
 have g3:=jO (c:=tT (aC uA (aa 4) (aa 5)) aZ) (ρ:=MQ n xs R hi (zI (i:Nat)) (zI (j:Nat)) mu) (b:=!(((i:Nat):Int)==((j:Nat):Int))) rfl (jO (c:=tT (aF (aF (aa 2) (aa 4)) (aa 5)) aN) (d:=tT (aF (aF (aa 2) (aa 5)) (aa 4)) aN) (lJ i1 j1 rfl rfl rfl) (lJ j1 i1 rfl rfl rfl))
 have v3:(!(((i:Nat):Int)==((j:Nat):Int))&&(R i j&&R j i))=false:=by
  cases e1:R i j with
  | false=>rw [Bool.false_and,Bool.and_false]
  | true=>
   cases e2:R j i with
   | false=>rw [Bool.and_false,Bool.and_false]
   | true=>
    have:=Ko S.B.lp ok.acyc ((S.ur ha hb).trans e1) ((S.ur hb ha).trans e2)
    subst this
    rw [Eb S.nd ha hb,beq_self_eq_true]
    rfl
 rw [v3] at g3
 have g4:bN (tT (aM iJ (aj (aa 0) (aj (aa 1) (aj (aa 2) (aj (aa 4) (aj (aa 5) ao)))))) aN) (MQ n xs R hi (zI (i:Nat)) (zI (j:Nat)) mu)=some (false,MQ n xs R hi (zI (i:Nat)) (zI (j:Nat)) mu):=jw (b:=true) (bW (aX (az rfl (az rfl (az rfl (az rfl (az rfl rfl))))) rfl rfl rfl (Kv S O ha hb)) rfl rfl)
 exact aG ((cL (jY (b:=false) (b2:=false) g1 g2)).trans rfl) (aG ((cL g3).trans rfl) ((cL g4).trans rfl))
theorem QT (S:lE xs ts ps qs R) (O:pL n mu ts ps):lW [.ptr n,.lst (SS xs),cD R xs.length] mu=some (.sh (.bl true),mu):=by
 have l8:=S.l8
 obtain ⟨lo,hi,⟨l1,l2⟩,⟨h1,h2⟩,el,eg,ej⟩:=QR O S.tm
 have rg:∀ o4 o5,aU (aj (eB dh (aj (aa 1) ao)) ao) (MQ n xs R hi o4 o5 mu)=some (cg 0 xs.length,MQ n xs R hi o4 o5 mu):=fun o4 o5=>by
  have:=dB (a:=aj (eB dh (aj (aa 1) ao)) ao) (ρ:=MQ n xs R hi o4 o5 mu) (ρ1:=MQ n xs R hi o4 o5 mu) (l:=.sh (.int ((SS xs).length:Nat))) (n:=((SS xs).length:Nat)) rfl rfl (by omega) (by rw [List.length_map]; omega)
  rw [Int.toNat_natCast,List.length_map] at this
  exact this
 have s1:aL 3 (bG "Order" "joined" iY (aa 0) (aj (aa 1) ao)) (env0 6 [.ptr n,.lst (SS xs),cD R xs.length] mu)=some (.nx (MQ n xs R hi none none mu)):=aQ (ρ1:=⟨[yS (.ptr n),zS xs,yS (cD R xs.length),none,none,none],mu⟩) (Ou O rfl rfl (ls:=[wS xs]) rfl rfl (by decide +kernel) ej) rfl rfl
 obtain ⟨ρ',ef,o4,o5,rfl⟩:=jT (b:=au 4) (body:=aK (d9 (aU (aj (eB dh (aj (aa 1) ao)) ao)) (au 5) Uk)
  (cG (gf (bN (tT (bG "Order" "under" cF (aa 0) (aj (aF (aa 1) (aa 4)) (aj (aa 3) ao))) aN)) (bN (tT (bG "Order" "under" cF (aa 0) (aj (bG "Order" "least" ie (aa 0) ao) (aj (aF (aa 1) (aa 4)) ao))) aN)))
  (bK (eC (.bl false)))
  bJ)) (xs:=cg 0 xs.length) (ρ:=MQ n xs R hi none none mu) (fun _ ρ=>∃ o4 o5,ρ=MQ n xs R hi o4 o5 mu) ⟨_,_,rfl⟩ (by
   rintro i x ρ hx ⟨o4,o5,rfl⟩
   obtain ⟨i1,rfl⟩:=sE hx
   obtain ⟨a,_,ha⟩:=tV i1
   have ia:=S.in_ ha
   obtain ⟨ρ2,ef2,p5,rfl⟩:=jT (b:=au 5) (body:=Uk) (xs:=cg 0 xs.length) (ρ:=MQ n xs R hi (zI (i:Nat)) o5 mu) (fun _ ρ=>∃ o5,ρ=MQ n xs R hi (zI (i:Nat)) o5 mu) ⟨_,rfl⟩ (by
    rintro j x ρ hx ⟨o5,rfl⟩
    obtain ⟨j1,rfl⟩:=sE hx
    exact ⟨MQ n xs R hi (zI (i:Nat)) (zI (j:Nat)) mu,rfl,_,.inl (QS S O i1 j1),_,rfl⟩)
   have na:aF (aa 1) (aa 4) (MQ n xs R hi (zI (i:Nat)) p5 mu)=some (.sh (.str a),MQ n xs R hi (zI (i:Nat)) p5 mu):=tW ha rfl rfl
   have u1:bN (tT (bG "Order" "under" cF (aa 0) (aj (aF (aa 1) (aa 4)) (aj (aa 3) ao))) aN) (MQ n xs R hi (zI (i:Nat)) p5 mu)=some (false,MQ n xs R hi (zI (i:Nat)) p5 mu):=(jw (bW (Ui O ia h1 rfl rfl na rfl) rfl DX)).trans (by rw [h2 a ia]; rfl)
   have u2:bN (tT (bG "Order" "under" cF (aa 0) (aj (bG "Order" "least" ie (aa 0) ao) (aj (aF (aa 1) (aa 4)) ao))) aN) (MQ n xs R hi (zI (i:Nat)) p5 mu)=some (false,MQ n xs R hi (zI (i:Nat)) p5 mu):=(jw (bW (Ui O l1 ia rfl rfl (Ou O rfl rfl (ls:=[]) rfl rfl (by decide +kernel) el) na) rfl DX)).trans (by rw [l2 a ia]; rfl)
   exact ⟨MQ n xs R hi (zI (i:Nat)) o5 mu,rfl,_,.inl (aG (dU (rg _ _) ef2) ((cL (jY (b:=false) (b2:=false) u1 u2)).trans rfl)),_,_,rfl⟩)
 refine bB (ρ:=MQ n xs R hi o4 o5 mu) (aG s1 (aG (dU (rg _ _) ef) (dR (bx rfl rfl (Ou O rfl rfl (ls:=[]) rfl rfl (by decide +kernel) eg) rfl ?_))))
 show some (Lc.sh (.bl (hi==hi)))=_
 rw [beq_self_eq_true]
end
theorem Vb {xs:List Str}:eqP (.lst (SS xs)) (.lst (SS xs))=yS (.bl true):=by
 have key:∀ l:List Str,qu (bF 149) (SS l) (SS l)=some true:=by
  intro l
  induction l with
  | nil=>rfl
  | cons x l ih=>
   show (some (x==x)).bind (fun b=>(qu (bF 149) (SS l) (SS l)).map fun c=>b&&c)=_
   rw [ih,beq_self_eq_true]
   rfl
 show ((if (SS xs).length=(SS xs).length then qu (bF 149) (SS xs) (SS xs) else some false)).map _=_
 rw [if_pos rfl,key]
 rfl
theorem Bp {fa fb:EF} {ρ ρ1:Ev} {r:Lc×Ev} (h:fa ρ=some (.sh (.bl true),ρ1)) (h2:fb ρ1=some r):jD fa fb ρ=some r:=by
 unfold jD
 rw [h]
 exact h2
theorem Vc {ps:List PV} {a:Int} (h0:0<=a) (h1:a<=ps.length):nq ps none (some a)=ps.take a.toNat:=by
 have e:HT.sIx ps.length ps.length (some a)=a.toNat:=by
  show (if a<0 then _ else min a.toNat ps.length)=_
  rw [if_neg (by omega)]
  omega
 unfold nq
 rw [e]
 rfl
theorem Vd {ps:List PV} {a:Int} (h0:0<=a) (h1:a<=ps.length):nq ps (some a) none=ps.drop a.toNat:=by
 have e:HT.sIx ps.length 0 (some a)=a.toNat:=by
  show (if a<0 then _ else min a.toNat ps.length)=_
  rw [if_neg (by omega)]
  omega
 unfold nq
 rw [e]
 show (ps.drop a.toNat).take (ps.length-a.toNat)=_
 rw [List.take_of_length_le (by rw [List.length_drop]; omega)]
theorem Ul {C:Str} {g:GX} {a:AF} {hh:Str->SF} {i:Nat} {ρ ρ1:Ev} {ls:List Lc} {us:List PV} {mu2:Mu} (h:a ρ=some (ls,ρ1)) (hps:ls.map Lc.pv=us) (h2:g (.ptr ρ1.mu.length::us) (ρ1.mu++[some (cH C [])])=some (.ok (.sh .non,mu2))) (hi:i<ρ1.vs.length):uH (xB (iV C g a) (rF i)) hh ρ=some (.nx (Ev.set ⟨ρ1.vs,mu2⟩ i (yS (.ptr ρ1.mu.length)))):=by
 have e:iV C g a ρ=some (.ok (.sh (.ptr ρ1.mu.length),⟨ρ1.vs,mu2⟩)):=by
  unfold iV
  rw [h,Option.bind_some,hps]
  rw [show g (.ptr ρ1.mu.length::us) (ρ1.mu++[some (.obj C [] [])])=_ from h2]
  rfl
 unfold uH xB
 rw [e]
 show ((rF i (.sh (.ptr ρ1.mu.length),⟨ρ1.vs,mu2⟩)).map XR.ok).bind _=_
 unfold rF
 rw [if_pos hi]
 rfl
theorem Um {C D:Str} {g:GX} {a:AF} {hh:Str->SF} {i:Nat} {ρ ρ1 ρ':Ev} {ls:List Lc} {us:List PV} (h:a ρ=some (ls,ρ1)) (hps:ls.map Lc.pv=us) (h2:g (.ptr ρ1.mu.length::us) (ρ1.mu++[some (cH C [])])=some (.xc D ρ')):uH (xB (iV C g a) (rF i)) hh ρ=hh D ⟨ρ1.vs,ρ'.mu⟩:=by
 have e:iV C g a ρ=some (.xc D ⟨ρ1.vs,ρ'.mu⟩):=by
  unfold iV
  rw [h,Option.bind_some,hps]
  rw [show g (.ptr ρ1.mu.length::us) (ρ1.mu++[some (.obj C [] [])])=_ from h2]
  rfl
 unfold uH xB
 rw [e]
 rfl
noncomputable abbrev VE (S:PV) (n:Nat) (l2 l3 l4 l5 l6 l7 l8 l9 l10:Option Lc) (mu:Mu):Ev:=⟨[yS S,zI (n:Nat),l2,l3,l4,l5,l6,l7,l8,l9,l10],mu⟩
noncomputable def uW (xs:List Str) (i:Nat):Str:=(xs[i]?).getD ""
theorem yu {xs:List Str} {i:Nat} (h:i<xs.length):xs[i]?=some (uW xs i):=by
 unfold uW
 rw [List.getElem?_eq_getElem h]
 rfl
noncomputable abbrev tell (xs:List Str) (qs:List (Nat×Nat)):List (Str×Str):=qs.map fun q=>(uW xs q.1,uW xs q.2)
theorem QV {xs:List Str} {qs:List (Nat×Nat)} {mu:Mu} (ok:okN xs.length qs) (hl:qs.length<=60):dH (gM 2 (bD (au 0) (bD (au 1) gK))) bw (fO (aj (aF (aa 2) (aa 0)) (aj (aF (aa 2) (aa 1)) ao))) (QQ qs) ⟨[none,none,zS xs],mu⟩ []=some (PP (tell xs qs),mu):=by
 have:=iR (b:=gM 2 (bD (au 0) (bD (au 1) gK))) (te:=fO (aj (aF (aa 2) (aa 0)) (aj (aF (aa 2) (aa 1)) ao))) (mu:=mu) (fun ρ=>∃ o0 o1,ρ=⟨[o0,o1,zS xs],mu⟩) (fun ρ ⟨_,_,e⟩=>by rw [e]) (fun p=>match p with | .tup [.int a,.int b]=>.tup [.str (uW xs a.toNat),.str (uW xs b.toNat)] | _=>.non) (xs:=QQ qs) (ρ:=⟨[none,none,zS xs],mu⟩) ⟨_,_,rfl⟩ (by rw [List.length_map]; omega) (by
  rintro x hx ρ ⟨o0,o1,rfl⟩
  obtain ⟨q,hq,rfl⟩:=List.mem_map.mp hx
  obtain ⟨w1,w2⟩:=ok q hq
  exact ⟨⟨[zI (q.1:Nat),zI (q.2:Nat),zS xs],mu⟩,rfl,_,_,lU (ls:=[.sh (.str (uW xs q.1)),.sh (.str (uW xs q.2))]) (az (tW (yu w1) rfl rfl) (az (tW (yu w2) rfl rfl) rfl)) rfl rfl,rfl,_,_,rfl⟩) (by
  rintro x hx ρ ρ1 ⟨o0,o1,rfl⟩ e
  obtain ⟨q,hq,rfl⟩:=List.mem_map.mp hx
  cases e
  exact ⟨_,_,rfl⟩)
 rw [this,List.map_map]
 congr 2
 show _=List.map _ (List.map _ qs)
 rw [List.map_map]
 rfl
theorem Ed {xs:List Str} {qs:List (Nat×Nat)} (ok:okN xs.length qs) (a b:Str):(a,b)∈tell xs qs ↔ ∃ i j:Nat,xs[i]?=some a/\xs[j]?=some b/\(i,j)∈qs:=by
 constructor
 . intro h
   obtain ⟨q,hq,e⟩:=List.mem_map.mp h
   cases e
   obtain ⟨w1,w2⟩:=ok q hq
   exact ⟨q.1,q.2,yu w1,yu w2,hq⟩
 . rintro ⟨i,j,h1,h2,h3⟩
   refine List.mem_map.mpr ⟨(i,j),h3,?_⟩
   show (uW xs i,uW xs j)=_
   unfold uW
   rw [h1,h2]
   rfl
noncomputable abbrev We:SF:=aK (uH (xB (iV "Order" cV (aj (eB list1 (aj (aa 7) ao)) (aj (eB list1 (aj (aa 4) ao)) ao))) (rF 8)) (tM ["NoOrder"] [] (aL 8 (eC .non)) Dn))
 (aK (aL 9 (aM cU (aj (eB list1 (aj (aa 7) ao)) (aj (eB list1 (aj (aa 4) ao)) ao))))
 (aK (cG (tT (aC jX (aa 9) (eC .non)) aZ)
 (bK (jD (aC tD (aa 8) (eC .non)) (aM g8 (aj (aa 9) (aj (aa 2) (aj (aa 3) ao))))))
 bJ)
 (aK (aL 10 (aM fM (aj (eB list1 (aj (aa 7) ao)) (aj (eB list1 (aj (aa 4) ao)) ao))))
 (aK (cG (tT (aC jX (aa 10) (eC .non)) aZ)
 (bK (jD (aC tD (aa 8) (eC .non)) (aM jx (aj (aa 10) (aj (aa 2) (aj (aa 5) ao))))))
 bJ)
 (bK (jD (aC jX (aa 8) (eC .non)) (jD (aC eqP (bG "Order" "ranks" jy (aa 8) ao) (aa 7)) (aM lW (aj (aa 8) (aj (aa 2) (aj (aa 5) ao)))))))))))
theorem QW {S:PV} {xs ts:List Str} {ps:List (Str×Str)} {qs:List (Nat×Nat)} {R:Nat->Nat->Bool} {o6:Option Lc} {mu:Mu} (T:lE xs ts ps qs R):∃ ρ,We (VE S xs.length (zS xs) (yS (QP qs)) (yO (PP ps)) (yS (cD R xs.length)) o6 (yO (SS ts)) (some (.sh .non)) none none mu)=some (.rt (.sh (.bl true)) ρ):=by
 let V:=fun (l8 l9 l10:Option Lc) mu=>VE S xs.length (zS xs) (yS (QP qs)) (zP ps) (yS (cD R xs.length)) o6 (zS ts) l8 l9 l10 mu
 have ea:aj (eB list1 (aj (aa 7) ao)) (aj (eB list1 (aj (aa 4) ao)) ao) (VE S xs.length (zS xs) (yS (QP qs)) (yO (PP ps)) (yS (cD R xs.length)) o6 (yO (SS ts)) (some (.sh .non)) none none mu)=some ([.own (.lst (SS ts)),.own (.lst (PP ps))],V (some (.sh .non)) none none mu):=rfl
 have eb:∀ l8 l9 l10 mu,aj (eB list1 (aj (aa 7) ao)) (aj (eB list1 (aj (aa 4) ao)) ao) (V l8 l9 l10 mu)=some ([.own (.lst (SS ts)),.own (.lst (PP ps))],V l8 l9 l10 mu):=fun _ _ _ _=>rfl
 have hh:∀ ρ,tM ["NoOrder"] [] (aL 8 (eC .non)) Dn "NoOrder" ρ=aL 8 (eC .non) ρ:=fun ρ=>by
  unfold tM
  rw [if_pos (List.mem_singleton.mpr rfl)]
 have txc:∀ {ρ:Ev},cV [.ptr mu.length,.lst (SS ts),.lst (PP ps)] (mu++[some (cH "Order" [])])=some (.xc "NoOrder" ρ)->uH (xB (iV "Order" cV (aj (eB list1 (aj (aa 7) ao)) (aj (eB list1 (aj (aa 4) ao)) ao))) (rF 8)) (tM ["NoOrder"] [] (aL 8 (eC .non)) Dn) (VE S xs.length (zS xs) (yS (QP qs)) (yO (PP ps)) (yS (cD R xs.length)) o6 (yO (SS ts)) (some (.sh .non)) none none mu)=some (.nx (V (some (.sh .non)) none none ρ.mu)):=fun {ρ} h=>(Um (ρ1:=V (some (.sh .non)) none none mu) ea rfl h).trans ((hh _).trans rfl)
 have sg:∀ {l8:Option Lc} {mu:Mu} {r:Lc},cU [.lst (SS ts),.lst (PP ps)] mu=some (r,mu)->aL 9 (aM cU (aj (eB list1 (aj (aa 7) ao)) (aj (eB list1 (aj (aa 4) ao)) ao))) (V l8 none none mu)=some (.nx (V l8 (some r) none mu)):=fun {l8 mu r} h=>aQ (aX (eb _ _ _ _) rfl rfl rfl h) rfl rfl
 have sl:∀ {l8 l9:Option Lc} {mu:Mu} {r:Lc},fM [.lst (SS ts),.lst (PP ps)] mu=some (r,mu)->aL 10 (aM fM (aj (eB list1 (aj (aa 7) ao)) (aj (eB list1 (aj (aa 4) ao)) ao))) (V l8 l9 none mu)=some (.nx (V l8 l9 (some r) mu)):=fun {l8 l9 mu r} h=>aQ (aX (eb _ _ _ _) rfl rfl rfl h) rfl rfl
 have n9:∀ l8 mu,cG (tT (aC jX (aa 9) (eC .non)) aZ) (bK (jD (aC tD (aa 8) (eC .non)) (aM g8 (aj (aa 9) (aj (aa 2) (aj (aa 3) ao)))))) bJ (V l8 (some (.sh .non)) none mu)=some (.nx (V l8 (some (.sh .non)) none mu)):=fun l8 mu=>(cL (ρ1:=V l8 (some (.sh .non)) none mu) rfl).trans rfl
 rcases QB T.B with ⟨nr,er⟩ | hr
 . rcases QC T.B with ⟨⟨up,dn⟩,el⟩ | hl
   . -- made
     have ok:=Uc T.B nr up dn
     obtain ⟨fl,hA,ei⟩:=QF (mu:=mu) ok (Kf T.B (er _) (el _))
     have O:pL mu.length (mu++[some (cH "Order" fl)]) ts ps:=⟨ok,fl,hA,by rw [List.getElem?_append_right (Nat.le_refl _)]; simp⟩
     refine ⟨V (yS (.ptr mu.length)) (some (.sh .non)) (some (.sh .non)) (mu++[some (cH "Order" fl)]),aG (ρ':=V (yS (.ptr mu.length)) none none (mu++[some (cH "Order" fl)])) ((Ul (ρ1:=V (some (.sh .non)) none none mu) ea rfl ei (by show 8<11; decide)).trans rfl) (aG (sg (er _)) (aG (n9 _ _) (aG (sl (el _)) (aG (ρ':=V (yS (.ptr mu.length)) (some (.sh .non)) (some (.sh .non)) (mu++[some (cH "Order" fl)])) ((cL (ρ1:=V (yS (.ptr mu.length)) (some (.sh .non)) (some (.sh .non)) (mu++[some (cH "Order" fl)])) rfl).trans rfl) (dR (Bp (ρ1:=V (yS (.ptr mu.length)) (some (.sh .non)) (some (.sh .non)) (mu++[some (cH "Order" fl)])) rfl (Bp (bx (Ou O rfl rfl (ls:=[]) rfl rfl (by decide +kernel) (Nh O)) rfl rfl rfl Vb) (aX (az rfl (az rfl (az rfl rfl))) rfl rfl rfl (QT T O)))))))))⟩
   . -- a lack
     obtain ⟨l,e1,lk⟩:=hl (mu++[some (cH "Order" [])])
     obtain ⟨ρ,hρ,e2⟩:=En T.B (er _) e1 lk
     obtain ⟨ρ',hρ',e3⟩:=Gn T.B e2
     obtain ⟨l',e1',lk'⟩:=hl ρ'.mu
     have hn:jX l' .non=yS (.bl true):=by
      rcases lk' with ⟨a,_,b,_,rfl,_⟩ | ⟨a,_,b,_,rfl,_⟩<;>rfl
     exact ⟨V (some (.sh .non)) (some (.sh .non)) (yS l') ρ'.mu,aG (txc e3) (aG (sg (er _)) (aG (n9 _ _) (aG (sl e1') (lq ((jG (ρ1:=V (some (.sh .non)) (some (.sh .non)) (yS l') ρ'.mu) (bW (bx (l:=.sh l') (m:=.sh .non) rfl rfl rfl rfl hn) rfl rfl)).trans (dR (Bp (ρ1:=V (some (.sh .non)) (some (.sh .non)) (yS l') ρ'.mu) rfl (aX (az rfl (az rfl (az rfl rfl))) rfl rfl rfl (Il T lk')))))))))⟩
 . -- a ring
   obtain ⟨r,e1,rk⟩:=hr (mu++[some (cH "Order" [])])
   have l8:=Gw T.B rk
   obtain ⟨ρ,hρ,e2⟩:=Em T.B e1 rk (by omega)
   obtain ⟨ρ',hρ',e3⟩:=Gn T.B e2
   obtain ⟨r',e1',rk'⟩:=hr ρ'.mu
   exact ⟨V (some (.sh .non)) (yL (SS r')) none ρ'.mu,aG (txc e3) (aG (sg e1') (lq ((jG (ρ1:=V (some (.sh .non)) (yL (SS r')) none ρ'.mu) rfl).trans (dR (Bp (ρ1:=V (some (.sh .non)) (yL (SS r')) none ρ'.mu) rfl (aX (az rfl (az rfl (az rfl rfl))) rfl rfl rfl (Ik T rk')))))))⟩
theorem law_true (ns:List Int) (hn:ns.length<=63):∃ mu,HJ [.lst (ns.map PV.int)] []=some (.sh (.bl true),mu):=by
 obtain ⟨c0,hc0,e0⟩:=cell_eq (ns:=ns) (k:=0) (mu:=[]) (by decide)
 obtain ⟨n,hn1⟩:=natOf (a:=1+c0%8) (by omega)
 have n1:1<=n:=by omega
 have n8:n<=8:=by omega
 obtain ⟨xs,en,lx,hd,hnm⟩:=Mz (c:=c0/8) (n:=(n:Nat)) (mu:=[]) (by omega) (by omega)
 rw [Int.toNat_natCast] at lx
 obtain ⟨qs,ep,hql,ok⟩:=M7 (ns:=ns) (n:=n) (mu:=[]) hn n1 n8
 obtain ⟨R,mu,er,hR⟩:=M9 (qs:=qs) n8 ok
 obtain ⟨c2,hc2,e2⟩:=cell_eq (ns:=ns) (k:=2) (mu:=mu) (by decide)
 subst lx
 generalize hS:PV.lst (ns.map PV.int)=S at e0 ep e2
 have s1:aL 1 (aC dO (eC (.int 1)) (aC cB (aM bQ (aj (aa 0) (aj (eC (.int 0)) ao))) (eC (.int 8)))) (env0 11 [S] [])=some (.nx (VE S xs.length none none none none none none none none none [])):=by
  refine aQ (l:=.sh (.int (xs.length:Nat))) (ρ1:=env0 11 [S] []) (bx rfl rfl (bx (aX (az rfl (az rfl rfl)) rfl rfl rfl e0) rfl rfl rfl (jg (by decide))) rfl ?_) rfl rfl
  rw [← hn1]
  rfl
 have s2:aL 2 (aM kE (aj (aC dz (aM bQ (aj (aa 0) (aj (eC (.int 0)) ao))) (eC (.int 8))) (aj (aa 1) ao))) (VE S xs.length none none none none none none none none none [])=some (.nx (VE S xs.length (yO (SS xs)) none none none none none none none none [])):=
  aQ (aX (ls:=[.sh (.int (c0/8)),.sh (.int (xs.length:Nat))]) (az (bx (aX (az rfl (az rfl rfl)) rfl rfl rfl e0) rfl rfl rfl (qR (by decide) (by decide))) (az rfl rfl)) rfl rfl rfl en) rfl rfl
 have s3:aL 3 (aM kI (aj (aa 0) (aj (aa 1) ao))) (VE S xs.length (yO (SS xs)) none none none none none none none none [])=some (.nx (VE S xs.length (yO (SS xs)) (some (.own (QP qs))) none none none none none none none [])):=aQ (aX (az rfl (az rfl rfl)) rfl rfl rfl ep) rfl rfl
 have s4:aL 4 (bh (dG (aa 3) bO) 2 [2] (gM 2 (bD (au 0) (bD (au 1) gK))) bw (fO (aj (aF (aa 2) (aa 0)) (aj (aF (aa 2) (aa 1)) ao)))) (VE S xs.length (yO (SS xs)) (some (.own (QP qs))) none none none none none none none [])=some (.nx (VE S xs.length (zS xs) (yS (QP qs)) (yO (PP (tell xs qs))) none none none none none none [])):=
  aQ (l:=.own (.lst (PP (tell xs qs)))) (ρ1:=VE S xs.length (zS xs) (yS (QP qs)) none none none none none none none []) ((cX (ρ1:=VE S xs.length (yO (SS xs)) (yS (QP qs)) none none none none none none none []) (Nf (l:=.sh (QP qs)) rfl rfl) (QV ok hql)).trans rfl) rfl rfl
 have s5:aL 5 (aM kJ (aj (aa 3) (aj (aa 1) ao))) (VE S xs.length (zS xs) (yS (QP qs)) (yO (PP (tell xs qs))) none none none none none none [])=some (.nx (VE S xs.length (zS xs) (yS (QP qs)) (yO (PP (tell xs qs))) (yS (cD R xs.length)) none none none none none mu)):=aQ (aX (az rfl (az rfl rfl)) rfl rfl rfl er) rfl rfl
 have t0:=Int.emod_nonneg c2 (b:=(xs.length:Int)) (by omega)
 have t1:=Int.emod_lt_of_pos c2 (b:=(xs.length:Int)) (by omega)
 have s6:aL 6 (aC cB (aM bQ (aj (aa 0) (aj (eC (.int 2)) ao))) (aa 1)) (VE S xs.length (zS xs) (yS (QP qs)) (yO (PP (tell xs qs))) (yS (cD R xs.length)) none none none none none mu)=some (.nx (VE S xs.length (zS xs) (yS (QP qs)) (yO (PP (tell xs qs))) (yS (cD R xs.length)) (zI (c2%(xs.length:Int))) none none none none mu)):=
  aQ (bx (aX (az rfl (az rfl rfl)) rfl rfl rfl e2) rfl rfl rfl (jg (by omega))) rfl rfl
 generalize c2%(xs.length:Int)=t at t0 t1 s6
 have s7:aL 7 (aC dO (oN (aa 2) (fC (aa 6)) mj) (oN (aa 2) mj (fC (aa 6)))) (VE S xs.length (zS xs) (yS (QP qs)) (yO (PP (tell xs qs))) (yS (cD R xs.length)) (zI t) none none none none mu)=some (.nx (VE S xs.length (zS xs) (yS (QP qs)) (yO (PP (tell xs qs))) (yS (cD R xs.length)) (zI t) (yO (SS (xs.drop t.toNat++xs.take t.toNat))) none none none mu)):=by
  have c1:nq (SS xs) none (some t)=SS (xs.take t.toNat):=by rw [Vc t0 (by rw [List.length_map]; omega)]; exact List.map_take.symm
  have c2:nq (SS xs) (some t) none=SS (xs.drop t.toNat):=by rw [Vd t0 (by rw [List.length_map]; omega)]; exact List.map_drop.symm
  have g1:oN (aa 2) (fC (aa 6)) mj (VE S xs.length (zS xs) (yS (QP qs)) (yO (PP (tell xs qs))) (yS (cD R xs.length)) (zI t) none none none none mu)=some (.own (.lst (SS (xs.drop t.toNat))),VE S xs.length (zS xs) (yS (QP qs)) (yO (PP (tell xs qs))) (yS (cD R xs.length)) (zI t) none none none none mu):=by rw [← c2]; rfl
  have g2:oN (aa 2) mj (fC (aa 6)) (VE S xs.length (zS xs) (yS (QP qs)) (yO (PP (tell xs qs))) (yS (cD R xs.length)) (zI t) none none none none mu)=some (.own (.lst (SS (xs.take t.toNat))),VE S xs.length (zS xs) (yS (QP qs)) (yO (PP (tell xs qs))) (yS (cD R xs.length)) (zI t) none none none none mu):=by rw [← c1]; rfl
  refine aQ (l:=.own (.lst (SS (xs.drop t.toNat++xs.take t.toNat)))) (bx g1 rfl g2 rfl ?_) rfl rfl
  rw [show SS (xs.drop t.toNat++xs.take t.toNat)=SS (xs.drop t.toNat)++SS (xs.take t.toNat) from List.map_append]
  exact M6 (by rw [List.length_map,List.length_map,List.length_take,List.length_drop]; omega)
 have pm:(xs.drop t.toNat++xs.take t.toNat).Perm xs:=List.perm_append_comm.trans (by rw [List.take_append_drop])
 generalize xs.drop t.toNat++xs.take t.toNat=ts at s7 pm
 obtain ⟨ps,hpl,hpm,s8⟩:∃ ps:List (Str×Str),ps.length<=60/\(∀ a b,(a,b)∈ps ↔ (a,b)∈tell xs qs)/\cG (tT (aC eqP (aC cB (aC dz (aM bQ (aj (aa 0) (aj (eC (.int 2)) ao))) (eC (.int 8))) (eC (.int 2))) (eC (.int 1))) aZ)
  (aL 4 (Mm (aa 4) mj mj (fC (LR (eC (.int 1))))))
  bJ (VE S xs.length (zS xs) (yS (QP qs)) (yO (PP (tell xs qs))) (yS (cD R xs.length)) (zI t) (yO (SS ts)) none none none mu)=some (.nx (VE S xs.length (zS xs) (yS (QP qs)) (yO (PP ps)) (yS (cD R xs.length)) (zI t) (yO (SS ts)) none none none mu)):=by
  have t8:tT (aC eqP (aC cB (aC dz (aM bQ (aj (aa 0) (aj (eC (.int 2)) ao))) (eC (.int 8))) (eC (.int 2))) (eC (.int 1))) aZ (VE S xs.length (zS xs) (yS (QP qs)) (yO (PP (tell xs qs))) (yS (cD R xs.length)) (zI t) (yO (SS ts)) none none none mu)=some (c2/8%2==1,VE S xs.length (zS xs) (yS (QP qs)) (yO (PP (tell xs qs))) (yS (cD R xs.length)) (zI t) (yO (SS ts)) none none none mu):=
   bW (l:=.sh (.bl (c2/8%2==1))) (bx (bx (bx (aX (az rfl (az rfl rfl)) rfl rfl rfl e2) rfl rfl rfl (qR (by decide) (by decide))) rfl rfl rfl (jg (by decide))) rfl rfl rfl rfl) rfl rfl
  cases hb:(c2/8%2==1) with
  | false=>exact ⟨tell xs qs,by rw [List.length_map]; exact hql,fun _ _=>Iff.rfl,(cL (t8.trans (by rw [hb]))).trans rfl⟩
  | true=>
   refine ⟨(tell xs qs).reverse,by rw [List.length_reverse,List.length_map]; exact hql,fun _ _=>List.mem_reverse,(jG (t8.trans (by rw [hb]))).trans (aQ (l:=.own (.lst (PP (tell xs qs).reverse))) (ρ1:=VE S xs.length (zS xs) (yS (QP qs)) (zP (tell xs qs)) (yS (cD R xs.length)) (zI t) (yO (SS ts)) none none none mu) ?_ rfl rfl)⟩
   rw [show PP (tell xs qs).reverse=(PP (tell xs qs)).reverse from List.map_reverse,← Th (PP (tell xs qs))]
   rfl
 have T:lE xs ts ps qs R:=⟨hd,n8,⟨pm.nodup_iff.mpr hd,fun e=>by
  have:=pm.length_eq
  rw [e,List.length_nil] at this
  omega,by rw [pm.length_eq]; exact n8,by omega,fun x hx=>hnm x (pm.mem_iff.mp hx),fun q hq=>by
  obtain ⟨i,j,h1,h2,_⟩:=(Ed ok q.1 q.2).mp ((hpm q.1 q.2).mp hq)
  exact ⟨pm.mem_iff.mpr (List.mem_of_getElem? h1),pm.mem_iff.mpr (List.mem_of_getElem? h2)⟩⟩,fun x=>pm.mem_iff,ok,fun a b=>(hpm a b).trans (Ed ok a b),hR⟩
 obtain ⟨ρ,e9⟩:=QW (S:=S) (o6:=zI t) (mu:=mu) T
 exact ⟨ρ.mu,bB (aG s1 (aG s2 (aG s3 (aG s4 (aG s5 (aG s6 (aG s7 (aG s8 (aG rfl e9)))))))))⟩
theorem lF {K:FG} {h:Heap} {mg:Str->Option Value} {x:Str} {st:Stmt} {ps:List Str} {f:Addr} {oc kV doc pm cdv ct:Value} {od an:Option Addr} {osl:Array (Option Value)} (X:K.In h) (G:h.Ns mainGlobals mg) (a:W.nsIn K mainGlobals x=some (some (.ref f))) (l:K.lookup f=some ⟨oc,od,.func (W.fnOf x x (bj st) (aP st) (aq st) .none kV doc pm an cdv ct),osl⟩) (c:W.codeIn K cdv x=true) (k:W.keepIn K (.ref f)=true)
 (hb:∀ (kV doc pm:Value) (an:Option Addr) (cdv ct:Value) (us:List Value),us.length=ps.length->bindArgs (W.fnOf x x (bj st) (aP st) (aq st) .none kV doc pm an cdv ct) ⟨us,[]⟩=pure (ps.zip us)):bA K mg x st ps:=⟨_,_,dM l c k,W.mg_of X G a,(dM l c k).binds hb⟩
theorem all_mk {l:W.OpenLaw} {w:World} {K:FG} {h:Heap} {mg:Str->Option Value} {fa f1 f2 f3 f4 f5 f6 f7 f8 f9 f10 f11 f12 f13 f14 f15 f16 f17 f18 f19 f20 f21 f22 f23 f24 f25 f26 f27 f28 f29 f30 f31:Addr} {tk_LETTERS:Tok} (X:K.In h) (G:h.Ns mainGlobals mg) (hfa:mg "law" = some (.ref fa))
 {od1 an1 od2 an2 od3 an3 od4 an4 od5 an5 od6 an6 od7 an7 od8 an8 od9 an9 od10 an10 od11 an11 od12 an12 od13 an13 od14 an14 od15 an15 od16 an16 od17 an17 od18 an18 od19 an19 od20 an20 od21 an21 od22 an22 od23 an23 od24 an24 od25 an25 od26 an26 od27 an27 od28 an28 od29 an29 od30 an30 od31 an31:Option Addr} {sl1 sl2 sl3 sl4 sl5 sl6 sl7 sl8 sl9 sl10 sl11 sl12 sl13 sl14 sl15 sl16 sl17 sl18 sl19 sl20 sl21 sl22 sl23 sl24 sl25 sl26 sl27 sl28 sl29 sl30 sl31:Array (Option Value)} {oc1 kV1 dc1 pm1 cd1 ct1 oc2 kV2 dc2 pm2 cd2 ct2 oc3 kV3 dc3 pm3 cd3 ct3 oc4 kV4 dc4 pm4 cd4 ct4 oc5 kV5 dc5 pm5 cd5 ct5 oc6 kV6 dc6 pm6 cd6 ct6 oc7 kV7 dc7 pm7 cd7 ct7 oc8 kV8 dc8 pm8 cd8 ct8 oc9 kV9 dc9 pm9 cd9 ct9 oc10 kV10 dc10 pm10 cd10 ct10 oc11 kV11 dc11 pm11 cd11 ct11 oc12 kV12 dc12 pm12 cd12 ct12 oc13 kV13 dc13 pm13 cd13 ct13 oc14 kV14 dc14 pm14 cd14 ct14 oc15 kV15 dc15 pm15 cd15 ct15 oc16 kV16 dc16 pm16 cd16 ct16 oc17 kV17 dc17 pm17 cd17 ct17 oc18 kV18 dc18 pm18 cd18 ct18 oc19 kV19 dc19 pm19 cd19 ct19 oc20 kV20 dc20 pm20 cd20 ct20 oc21 kV21 dc21 pm21 cd21 ct21 oc22 kV22 dc22 pm22 cd22 ct22 oc23 kV23 dc23 pm23 cd23 ct23 oc24 kV24 dc24 pm24 cd24 ct24 oc25 kV25 dc25 pm25 cd25 ct25 oc26 kV26 dc26 pm26 cd26 ct26 oc27 kV27 dc27 pm27 cd27 ct27 oc28 kV28 dc28 pm28 cd28 ct28 oc29 kV29 dc29 pm29 cd29 ct29 oc30 kV30 dc30 pm30 cd30 ct30 oc31 kV31 dc31 pm31 cd31 ct31:Value}
 {c_Order:Addr} (aC_Order:W.nsIn K mainGlobals "Order" = some (some (.ref c_Order))) (pg_Order:W.plainGet K c_Order Str.empty=true) (hd_Order:W.hasDictIn K c_Order=true) (po_Order:W.plainOver K c_Order=true) (sa_Order:W.findIn K (.ref c_Order) "__setattr__" = some (some (.builtin "object.__setattr__"))) (mk_Order:W.makesIn K c_Order=true) (kc_Order:W.keepIn K (.ref c_Order)=true)
 (n_Order_names:W.findIn K (.ref c_Order) "names" = some none)
 (n_Order_above:W.findIn K (.ref c_Order) "above" = some none)
 (n_Order_joins:W.findIn K (.ref c_Order) "joins" = some none)
 (n_Order_meets:W.findIn K (.ref c_Order) "meets" = some none)
 (n_Order_lowest:W.findIn K (.ref c_Order) "lowest" = some none)
 (n_Order_highest:W.findIn K (.ref c_Order) "highest" = some none)
 {c_NoOrder:Addr} (aC_NoOrder:W.nsIn K mainGlobals "NoOrder" = some (some (.ref c_NoOrder))) (ex_NoOrder:W.excIn K c_NoOrder n6 oh=true)
 (mr_NoOrder_NoOrder:W.mroIn K c_NoOrder (.ref c_NoOrder)=some true)
 (a1:W.nsIn K mainGlobals "is_name" = some (some (.ref f1))) (l1:K.lookup f1=some ⟨oc1,od1,.func (W.fnOf "is_name" "is_name" (bj km) (aP km) (aq km) .none kV1 dc1 pm1 an1 cd1 ct1),sl1⟩) (c1:W.codeIn K cd1 "is_name" = true) (k1:W.keepIn K (.ref f1)=true)
 (a2:W.nsIn K mainGlobals "straight_above" = some (some (.ref f2))) (l2:K.lookup f2=some ⟨oc2,od2,.func (W.fnOf "straight_above" "straight_above" (bj eE) (aP eE) (aq eE) .none kV2 dc2 pm2 an2 cd2 ct2),sl2⟩) (c2:W.codeIn K cd2 "straight_above" = true) (k2:W.keepIn K (.ref f2)=true)
 (a3:W.nsIn K mainGlobals "ring_of" = some (some (.ref f3))) (l3:K.lookup f3=some ⟨oc3,od3,.func (W.fnOf "ring_of" "ring_of" (bj jA) (aP jA) (aq jA) .none kV3 dc3 pm3 an3 cd3 ct3),sl3⟩) (c3:W.codeIn K cd3 "ring_of" = true) (k3:W.keepIn K (.ref f3)=true)
 (a4:W.nsIn K mainGlobals "ring_within" = some (some (.ref f4))) (l4:K.lookup f4=some ⟨oc4,od4,.func (W.fnOf "ring_within" "ring_within" (bj iG) (aP iG) (aq iG) .none kV4 dc4 pm4 an4 cd4 ct4),sl4⟩) (c4:W.codeIn K cd4 "ring_within" = true) (k4:W.keepIn K (.ref f4)=true)
 (a5:W.nsIn K mainGlobals "climbed" = some (some (.ref f5))) (l5:K.lookup f5=some ⟨oc5,od5,.func (W.fnOf "climbed" "climbed" (bj mU) (aP mU) (aq mU) .none kV5 dc5 pm5 an5 cd5 ct5),sl5⟩) (c5:W.codeIn K cd5 "climbed" = true) (k5:W.keepIn K (.ref f5)=true)
 (a6:W.nsIn K mainGlobals "all_above" = some (some (.ref f6))) (l6:K.lookup f6=some ⟨oc6,od6,.func (W.fnOf "all_above" "all_above" (bj jU) (aP jU) (aq jU) .none kV6 dc6 pm6 an6 cd6 ct6),sl6⟩) (c6:W.codeIn K cd6 "all_above" = true) (k6:W.keepIn K (.ref f6)=true)
 (a7:W.nsIn K mainGlobals "all_beneath" = some (some (.ref f7))) (l7:K.lookup f7=some ⟨oc7,od7,.func (W.fnOf "all_beneath" "all_beneath" (bj gw) (aP gw) (aq gw) .none kV7 dc7 pm7 an7 cd7 ct7),sl7⟩) (c7:W.codeIn K cd7 "all_beneath" = true) (k7:W.keepIn K (.ref f7)=true)
 (a8:W.nsIn K mainGlobals "bound" = some (some (.ref f8))) (l8:K.lookup f8=some ⟨oc8,od8,.func (W.fnOf "bound" "bound" (bj mV) (aP mV) (aq mV) .none kV8 dc8 pm8 an8 cd8 ct8),sl8⟩) (c8:W.codeIn K cd8 "bound" = true) (k8:W.keepIn K (.ref f8)=true)
 (a9:W.nsIn K mainGlobals "bounds" = some (some (.ref f9))) (l9:K.lookup f9=some ⟨oc9,od9,.func (W.fnOf "bounds" "bounds" (bj oO) (aP oO) (aq oO) .none kV9 dc9 pm9 an9 cd9 ct9),sl9⟩) (c9:W.codeIn K cd9 "bounds" = true) (k9:W.keepIn K (.ref f9)=true)
 (a10:W.nsIn K mainGlobals "unbound" = some (some (.ref f10))) (l10:K.lookup f10=some ⟨oc10,od10,.func (W.fnOf "unbound" "unbound" (bj mW) (aP mW) (aq mW) .none kV10 dc10 pm10 an10 cd10 ct10),sl10⟩) (c10:W.codeIn K cd10 "unbound" = true) (k10:W.keepIn K (.ref f10)=true)
 (a11:W.nsIn K mainGlobals "lack_of" = some (some (.ref f11))) (l11:K.lookup f11=some ⟨oc11,od11,.func (W.fnOf "lack_of" "lack_of" (bj mX) (aP mX) (aq mX) .none kV11 dc11 pm11 an11 cd11 ct11),sl11⟩) (c11:W.codeIn K cd11 "lack_of" = true) (k11:W.keepIn K (.ref f11)=true)
 (a12:W.nsIn K mainGlobals "refuse_names" = some (some (.ref f12))) (l12:K.lookup f12=some ⟨oc12,od12,.func (W.fnOf "refuse_names" "refuse_names" (bj gU) (aP gU) (aq gU) .none kV12 dc12 pm12 an12 cd12 ct12),sl12⟩) (c12:W.codeIn K cd12 "refuse_names" = true) (k12:W.keepIn K (.ref f12)=true)
 (a13:W.nsIn K mainGlobals "refuse_order" = some (some (.ref f13))) (l13:K.lookup f13=some ⟨oc13,od13,.func (W.fnOf "refuse_order" "refuse_order" (bj gW) (aP gW) (aq gW) .none kV13 dc13 pm13 an13 cd13 ct13),sl13⟩) (c13:W.codeIn K cd13 "refuse_order" = true) (k13:W.keepIn K (.ref f13)=true)
 (a14:W.nsIn K mainGlobals "_law_cell_at" = some (some (.ref f14))) (l14:K.lookup f14=some ⟨oc14,od14,.func (W.fnOf "_law_cell_at" "_law_cell_at" (bj gY) (aP gY) (aq gY) .none kV14 dc14 pm14 an14 cd14 ct14),sl14⟩) (c14:W.codeIn K cd14 "_law_cell_at" = true) (k14:W.keepIn K (.ref f14)=true)
 (a15:W.nsIn K mainGlobals "_law_names" = some (some (.ref f15))) (l15:K.lookup f15=some ⟨oc15,od15,.func (W.fnOf "_law_names" "_law_names" (bj gh) (aP gh) (aq gh) .none kV15 dc15 pm15 an15 cd15 ct15),sl15⟩) (c15:W.codeIn K cd15 "_law_names" = true) (k15:W.keepIn K (.ref f15)=true)
 (a16:W.nsIn K mainGlobals "_law_pairs" = some (some (.ref f16))) (l16:K.lookup f16=some ⟨oc16,od16,.func (W.fnOf "_law_pairs" "_law_pairs" (bj gj) (aP gj) (aq gj) .none kV16 dc16 pm16 an16 cd16 ct16),sl16⟩) (c16:W.codeIn K cd16 "_law_pairs" = true) (k16:W.keepIn K (.ref f16)=true)
 (a17:W.nsIn K mainGlobals "_law_reach" = some (some (.ref f17))) (l17:K.lookup f17=some ⟨oc17,od17,.func (W.fnOf "_law_reach" "_law_reach" (bj gk) (aP gk) (aq gk) .none kV17 dc17 pm17 an17 cd17 ct17),sl17⟩) (c17:W.codeIn K cd17 "_law_reach" = true) (k17:W.keepIn K (.ref f17)=true)
 (a18:W.nsIn K mainGlobals "_law_is_ring" = some (some (.ref f18))) (l18:K.lookup f18=some ⟨oc18,od18,.func (W.fnOf "_law_is_ring" "_law_is_ring" (bj gZ) (aP gZ) (aq gZ) .none kV18 dc18 pm18 an18 cd18 ct18),sl18⟩) (c18:W.codeIn K cd18 "_law_is_ring" = true) (k18:W.keepIn K (.ref f18)=true)
 (a19:W.nsIn K mainGlobals "_law_is_lack" = some (some (.ref f19))) (l19:K.lookup f19=some ⟨oc19,od19,.func (W.fnOf "_law_is_lack" "_law_is_lack" (bj cR) (aP cR) (aq cR) .none kV19 dc19 pm19 an19 cd19 ct19),sl19⟩) (c19:W.codeIn K cd19 "_law_is_lack" = true) (k19:W.keepIn K (.ref f19)=true)
 (a20:W.nsIn K mainGlobals "_law_bounds" = some (some (.ref f20))) (l20:K.lookup f20=some ⟨oc20,od20,.func (W.fnOf "_law_bounds" "_law_bounds" (bj iH) (aP iH) (aq iH) .none kV20 dc20 pm20 an20 cd20 ct20),sl20⟩) (c20:W.codeIn K cd20 "_law_bounds" = true) (k20:W.keepIn K (.ref f20)=true)
 (a21:W.nsIn K mainGlobals "_law_made" = some (some (.ref f21))) (l21:K.lookup f21=some ⟨oc21,od21,.func (W.fnOf "_law_made" "_law_made" (bj jV) (aP jV) (aq jV) .none kV21 dc21 pm21 an21 cd21 ct21),sl21⟩) (c21:W.codeIn K cd21 "_law_made" = true) (k21:W.keepIn K (.ref f21)=true)
 (a22:W.nsIn K mainGlobals "law" = some (some (.ref f22))) (l22:K.lookup f22=some ⟨oc22,od22,.func (W.fnOf "law" "law" (bj nF) (aP nF) (aq nF) .none kV22 dc22 pm22 an22 cd22 ct22),sl22⟩) (c22:W.codeIn K cd22 "law" = true) (k22:W.keepIn K (.ref f22)=true)
 (a23:W.findIn K (.ref c_Order) "__init__" = some (some (.ref f23))) (i23:W.isFn K (.ref f23)=true) (l23:K.lookup f23=some ⟨oc23,od23,.func (W.fnOf "__init__" "Order.__init__" (bj cu) (aP cu) (aq cu) .none kV23 dc23 pm23 an23 cd23 ct23),sl23⟩) (c23:W.codeIn K cd23 "Order.__init__" = true) (k23:W.keepIn K (.ref f23)=true)
 (a24:W.findIn K (.ref c_Order) "refuse_stranger" = some (some (.ref f24))) (i24:W.isFn K (.ref f24)=true) (l24:K.lookup f24=some ⟨oc24,od24,.func (W.fnOf "refuse_stranger" "Order.refuse_stranger" (bj bL) (aP bL) (aq bL) .none kV24 dc24 pm24 an24 cd24 ct24),sl24⟩) (c24:W.codeIn K cd24 "Order.refuse_stranger" = true) (k24:W.keepIn K (.ref f24)=true)
 (a25:W.findIn K (.ref c_Order) "ranks" = some (some (.ref f25))) (i25:W.isFn K (.ref f25)=true) (l25:K.lookup f25=some ⟨oc25,od25,.func (W.fnOf "ranks" "Order.ranks" (bj eN) (aP eN) (aq eN) .none kV25 dc25 pm25 an25 cd25 ct25),sl25⟩) (c25:W.codeIn K cd25 "Order.ranks" = true) (k25:W.keepIn K (.ref f25)=true)
 (a26:W.findIn K (.ref c_Order) "under" = some (some (.ref f26))) (i26:W.isFn K (.ref f26)=true) (l26:K.lookup f26=some ⟨oc26,od26,.func (W.fnOf "under" "Order.under" (bj eO) (aP eO) (aq eO) .none kV26 dc26 pm26 an26 cd26 ct26),sl26⟩) (c26:W.codeIn K cd26 "Order.under" = true) (k26:W.keepIn K (.ref f26)=true)
 (a27:W.findIn K (.ref c_Order) "join" = some (some (.ref f27))) (i27:W.isFn K (.ref f27)=true) (l27:K.lookup f27=some ⟨oc27,od27,.func (W.fnOf "join" "Order.join" (bj fK) (aP fK) (aq fK) .none kV27 dc27 pm27 an27 cd27 ct27),sl27⟩) (c27:W.codeIn K cd27 "Order.join" = true) (k27:W.keepIn K (.ref f27)=true)
 (a28:W.findIn K (.ref c_Order) "meet" = some (some (.ref f28))) (i28:W.isFn K (.ref f28)=true) (l28:K.lookup f28=some ⟨oc28,od28,.func (W.fnOf "meet" "Order.meet" (bj fL) (aP fL) (aq fL) .none kV28 dc28 pm28 an28 cd28 ct28),sl28⟩) (c28:W.codeIn K cd28 "Order.meet" = true) (k28:W.keepIn K (.ref f28)=true)
 (a29:W.findIn K (.ref c_Order) "joined" = some (some (.ref f29))) (i29:W.isFn K (.ref f29)=true) (l29:K.lookup f29=some ⟨oc29,od29,.func (W.fnOf "joined" "Order.joined" (bj dI) (aP dI) (aq dI) .none kV29 dc29 pm29 an29 cd29 ct29),sl29⟩) (c29:W.codeIn K cd29 "Order.joined" = true) (k29:W.keepIn K (.ref f29)=true)
 (a30:W.findIn K (.ref c_Order) "least" = some (some (.ref f30))) (i30:W.isFn K (.ref f30)=true) (l30:K.lookup f30=some ⟨oc30,od30,.func (W.fnOf "least" "Order.least" (bj eQ) (aP eQ) (aq eQ) .none kV30 dc30 pm30 an30 cd30 ct30),sl30⟩) (c30:W.codeIn K cd30 "Order.least" = true) (k30:W.keepIn K (.ref f30)=true)
 (a31:W.findIn K (.ref c_Order) "greatest" = some (some (.ref f31))) (i31:W.isFn K (.ref f31)=true) (l31:K.lookup f31=some ⟨oc31,od31,.func (W.fnOf "greatest" "Order.greatest" (bj cT) (aP cT) (aq cT) .none kV31 dc31 pm31 an31 cd31 ct31),sl31⟩) (c31:W.codeIn K cd31 "Order.greatest" = true) (k31:W.keepIn K (.ref f31)=true)
 (z0:W.nsIn K mainGlobals "ValueError" = some none)
 (z1:W.nsIn K mainGlobals "all" = some none)
 (z2:W.nsIn K mainGlobals "isinstance" = some none)
 (z3:W.nsIn K mainGlobals "len" = some none)
 (z4:W.nsIn K mainGlobals "list" = some none)
 (z5:W.nsIn K mainGlobals "max" = some none)
 (z6:W.nsIn K mainGlobals "min" = some none)
 (z7:W.nsIn K mainGlobals "range" = some none)
 (z8:W.nsIn K mainGlobals "set" = some none)
 (z9:W.nsIn K mainGlobals "tuple" = some none)
 (y_LETTERS:W.nsIn K mainGlobals "LETTERS" = some (some (.str "abcdefghijklmnopqrstuvwxyz" tk_LETTERS)))
 (HL:∀ ns:List Int,ns.length<=63->∃ mu,HJ [.lst (ns.map PV.int)] []=some (.sh (.bl true),mu))
 : ∃ fd:FuncData,(∀ (s:Shared) (v:Value),BindsTo s fd ⟨[v],[]⟩ [("_law_script",v)])/\∀ base:Heap,K.In base->base.Ns mainGlobals mg->gb l.prog w K mg base oY 8 fa fd ["_law_script"] (Bj K):=by
 have T_Order:tL K mg "Order" c_Order:=⟨aC_Order,⟨pg_Order,hd_Order,po_Order,sa_Order⟩,W.mg_of X G aC_Order⟩
 have N_Order:∀ f∈(["names", "above", "joins", "meets", "lowest", "highest"]:List Str),lK K c_Order f:=by
  intro x hx
  rcases List.mem_cons.mp hx with e | hx
  . rw [e]; exact n_Order_names
  rcases List.mem_cons.mp hx with e | hx
  . rw [e]; exact n_Order_above
  rcases List.mem_cons.mp hx with e | hx
  . rw [e]; exact n_Order_joins
  rcases List.mem_cons.mp hx with e | hx
  . rw [e]; exact n_Order_meets
  rcases List.mem_cons.mp hx with e | hx
  . rw [e]; exact n_Order_lowest
  rcases List.mem_cons.mp hx with e | hx
  . rw [e]; exact n_Order_highest
  cases hx
 have XT_NoOrder:Dl K mg "NoOrder" c_NoOrder:=⟨aC_NoOrder,W.mg_of X G aC_NoOrder,ex_NoOrder⟩
 have Y_NoOrder:∀ C∈(["NoOrder"]:List Str),∃ c,CN K C c/\W.excIn K c n6 oh=true/\mroIn K c c_NoOrder=true:=by
  intro C hC
  rcases List.mem_cons.mp hC with e | hC
  . rw [e]; exact ⟨c_NoOrder,aC_NoOrder,ex_NoOrder,NP mr_NoOrder_NoOrder⟩
  cases hC
 have Z_NoOrder:∀ C∈([]:List Str),∃ c,CN K C c/\W.excIn K c n6 oh=true/\mroIn K c c_NoOrder=false:=by
  intro C hC
  cases hC
 have F_is_name:bA K mg "is_name" km ["text"]:=lF X G a1 l1 c1 k1 fun _ _ _ _ _ _ us hl=>by obtain ⟨_,rfl⟩:=rN hl; rfl
 have F_straight_above:bA K mg "straight_above" eE ["some", "pairs", "name"]:=lF X G a2 l2 c2 k2 fun _ _ _ _ _ _ us hl=>by obtain ⟨_,_,_,rfl⟩:=vK hl; rfl
 have F_ring_of:bA K mg "ring_of" jA ["names", "pairs"]:=lF X G a3 l3 c3 k3 fun _ _ _ _ _ _ us hl=>by obtain ⟨_,_,rfl⟩:=ln2 hl; rfl
 have F_ring_within:bA K mg "ring_within" iG ["some", "pairs"]:=lF X G a4 l4 c4 k4 fun _ _ _ _ _ _ us hl=>by obtain ⟨_,_,rfl⟩:=ln2 hl; rfl
 have F_climbed:bA K mg "climbed" mU ["name", "pairs"]:=lF X G a5 l5 c5 k5 fun _ _ _ _ _ _ us hl=>by obtain ⟨_,_,rfl⟩:=ln2 hl; rfl
 have F_all_above:bA K mg "all_above" jU ["names", "pairs"]:=lF X G a6 l6 c6 k6 fun _ _ _ _ _ _ us hl=>by obtain ⟨_,_,rfl⟩:=ln2 hl; rfl
 have F_all_beneath:bA K mg "all_beneath" gw ["names", "pairs"]:=lF X G a7 l7 c7 k7 fun _ _ _ _ _ _ us hl=>by obtain ⟨_,_,rfl⟩:=ln2 hl; rfl
 have F_bound:bA K mg "bound" mV ["reach", "one", "other"]:=lF X G a8 l8 c8 k8 fun _ _ _ _ _ _ us hl=>by obtain ⟨_,_,_,rfl⟩:=vK hl; rfl
 have F_bounds:bA K mg "bounds" oO ["reach"]:=lF X G a9 l9 c9 k9 fun _ _ _ _ _ _ us hl=>by obtain ⟨_,rfl⟩:=rN hl; rfl
 have F_unbound:bA K mg "unbound" mW ["reach"]:=lF X G a10 l10 c10 k10 fun _ _ _ _ _ _ us hl=>by obtain ⟨_,rfl⟩:=rN hl; rfl
 have F_lack_of:bA K mg "lack_of" mX ["names", "pairs"]:=lF X G a11 l11 c11 k11 fun _ _ _ _ _ _ us hl=>by obtain ⟨_,_,rfl⟩:=ln2 hl; rfl
 have F_refuse_names:bA K mg "refuse_names" gU ["names", "pairs"]:=lF X G a12 l12 c12 k12 fun _ _ _ _ _ _ us hl=>by obtain ⟨_,_,rfl⟩:=ln2 hl; rfl
 have F_refuse_order:bA K mg "refuse_order" gW ["names", "pairs"]:=lF X G a13 l13 c13 k13 fun _ _ _ _ _ _ us hl=>by obtain ⟨_,_,rfl⟩:=ln2 hl; rfl
 have F__law_cell_at:bA K mg "_law_cell_at" gY ["_law_script", "_law_k"]:=lF X G a14 l14 c14 k14 fun _ _ _ _ _ _ us hl=>by obtain ⟨_,_,rfl⟩:=ln2 hl; rfl
 have F__law_names:bA K mg "_law_names" gh ["_law_cell", "_law_count"]:=lF X G a15 l15 c15 k15 fun _ _ _ _ _ _ us hl=>by obtain ⟨_,_,rfl⟩:=ln2 hl; rfl
 have F__law_pairs:bA K mg "_law_pairs" gj ["_law_script", "_law_count"]:=lF X G a16 l16 c16 k16 fun _ _ _ _ _ _ us hl=>by obtain ⟨_,_,rfl⟩:=ln2 hl; rfl
 have F__law_reach:bA K mg "_law_reach" gk ["_law_pairs_here", "_law_count"]:=lF X G a17 l17 c17 k17 fun _ _ _ _ _ _ us hl=>by obtain ⟨_,_,rfl⟩:=ln2 hl; rfl
 have F__law_is_ring:bA K mg "_law_is_ring" gZ ["_law_ring", "_law_names_here", "_law_pairs_here"]:=lF X G a18 l18 c18 k18 fun _ _ _ _ _ _ us hl=>by obtain ⟨_,_,_,rfl⟩:=vK hl; rfl
 have F__law_is_lack:bA K mg "_law_is_lack" cR ["_law_lack", "_law_names_here", "_law_reach_here"]:=lF X G a19 l19 c19 k19 fun _ _ _ _ _ _ us hl=>by obtain ⟨_,_,_,rfl⟩:=vK hl; rfl
 have F__law_bounds:bA K mg "_law_bounds" iH ["_law_order", "_law_names_here", "_law_reach_here", "_law_one", "_law_other"]:=lF X G a20 l20 c20 k20 fun _ _ _ _ _ _ us hl=>by obtain ⟨_,_,_,_,_,rfl⟩:=Wk hl; rfl
 have F__law_made:bA K mg "_law_made" jV ["_law_order", "_law_names_here", "_law_reach_here"]:=lF X G a21 l21 c21 k21 fun _ _ _ _ _ _ us hl=>by obtain ⟨_,_,_,rfl⟩:=vK hl; rfl
 have F_law:bA K mg "law" nF ["_law_script"]:=lF X G a22 l22 c22 k22 fun _ _ _ _ _ _ us hl=>by obtain ⟨_,rfl⟩:=rN hl; rfl
 have F_Order____init__:lC K c_Order "__init__" "Order.__init__" cu ["self", "names", "pairs"]:=⟨_,_,dM (st:=cu) l23 c23 k23,a23,i23,(dM (st:=cu) l23 c23 k23).binds (ps:=["self", "names", "pairs"]) fun _ _ _ _ _ _ us hl=>by obtain ⟨_,_,_,rfl⟩:=vK hl; rfl⟩
 have F_Order__refuse_stranger:lC K c_Order "refuse_stranger" "Order.refuse_stranger" bL ["self", "rank"]:=⟨_,_,dM (st:=bL) l24 c24 k24,a24,i24,(dM (st:=bL) l24 c24 k24).binds (ps:=["self", "rank"]) fun _ _ _ _ _ _ us hl=>by obtain ⟨_,_,rfl⟩:=ln2 hl; rfl⟩
 have F_Order__ranks:lC K c_Order "ranks" "Order.ranks" eN ["self"]:=⟨_,_,dM (st:=eN) l25 c25 k25,a25,i25,(dM (st:=eN) l25 c25 k25).binds (ps:=["self"]) fun _ _ _ _ _ _ us hl=>by obtain ⟨_,rfl⟩:=rN hl; rfl⟩
 have F_Order__under:lC K c_Order "under" "Order.under" eO ["self", "one", "other"]:=⟨_,_,dM (st:=eO) l26 c26 k26,a26,i26,(dM (st:=eO) l26 c26 k26).binds (ps:=["self", "one", "other"]) fun _ _ _ _ _ _ us hl=>by obtain ⟨_,_,_,rfl⟩:=vK hl; rfl⟩
 have F_Order__join:lC K c_Order "join" "Order.join" fK ["self", "one", "other"]:=⟨_,_,dM (st:=fK) l27 c27 k27,a27,i27,(dM (st:=fK) l27 c27 k27).binds (ps:=["self", "one", "other"]) fun _ _ _ _ _ _ us hl=>by obtain ⟨_,_,_,rfl⟩:=vK hl; rfl⟩
 have F_Order__meet:lC K c_Order "meet" "Order.meet" fL ["self", "one", "other"]:=⟨_,_,dM (st:=fL) l28 c28 k28,a28,i28,(dM (st:=fL) l28 c28 k28).binds (ps:=["self", "one", "other"]) fun _ _ _ _ _ _ us hl=>by obtain ⟨_,_,_,rfl⟩:=vK hl; rfl⟩
 have F_Order__joined:lC K c_Order "joined" "Order.joined" dI ["self", "some"]:=⟨_,_,dM (st:=dI) l29 c29 k29,a29,i29,(dM (st:=dI) l29 c29 k29).binds (ps:=["self", "some"]) fun _ _ _ _ _ _ us hl=>by obtain ⟨_,_,rfl⟩:=ln2 hl; rfl⟩
 have F_Order__least:lC K c_Order "least" "Order.least" eQ ["self"]:=⟨_,_,dM (st:=eQ) l30 c30 k30,a30,i30,(dM (st:=eQ) l30 c30 k30).binds (ps:=["self"]) fun _ _ _ _ _ _ us hl=>by obtain ⟨_,rfl⟩:=rN hl; rfl⟩
 have F_Order__greatest:lC K c_Order "greatest" "Order.greatest" cT ["self"]:=⟨_,_,dM (st:=cT) l31 c31 k31,a31,i31,(dM (st:=cT) l31 c31 k31).binds (ps:=["self"]) fun _ _ _ _ _ _ us hl=>by obtain ⟨_,rfl⟩:=rN hl; rfl⟩
 have B:Sy mg BL:=by
  intro x hx
  rcases List.mem_cons.mp hx with e | hx
  . rw [e]; exact W.mg_none_of X G z0
  rcases List.mem_cons.mp hx with e | hx
  . rw [e]; exact W.mg_none_of X G z1
  rcases List.mem_cons.mp hx with e | hx
  . rw [e]; exact W.mg_none_of X G z2
  rcases List.mem_cons.mp hx with e | hx
  . rw [e]; exact W.mg_none_of X G z3
  rcases List.mem_cons.mp hx with e | hx
  . rw [e]; exact W.mg_none_of X G z4
  rcases List.mem_cons.mp hx with e | hx
  . rw [e]; exact W.mg_none_of X G z5
  rcases List.mem_cons.mp hx with e | hx
  . rw [e]; exact W.mg_none_of X G z6
  rcases List.mem_cons.mp hx with e | hx
  . rw [e]; exact W.mg_none_of X G z7
  rcases List.mem_cons.mp hx with e | hx
  . rw [e]; exact W.mg_none_of X G z8
  rcases List.mem_cons.mp hx with e | hx
  . rw [e]; exact W.mg_none_of X G z9
  cases hx
 have C_LETTERS:∃ t,mg "LETTERS" = some (.str "abcdefghijklmnopqrstuvwxyz" t):=⟨_,W.mg_of X G y_LETTERS⟩
 have e:=hfa.symm.trans (W.mg_of X G a22)
 cases e
 refine ⟨W.fnOf "law" "law" (bj nF) (aP nF) (aq nF) .none kV22 dc22 pm22 an22 cd22 ct22,fun s v=>.of_eq rfl,fun base _ _=>?_⟩
 have D_is_name:=HS (P:=l.prog) (w:=w) (base:=base) B C_LETTERS T_Order N_Order XT_NoOrder Y_NoOrder Z_NoOrder F_is_name
 have D_straight_above:=vC (P:=l.prog) (w:=w) (base:=base) B C_LETTERS T_Order N_Order XT_NoOrder Y_NoOrder Z_NoOrder F_straight_above
 have D_ring_within:=yV (P:=l.prog) (w:=w) (base:=base) B C_LETTERS T_Order N_Order XT_NoOrder Y_NoOrder Z_NoOrder F_ring_within D_straight_above
 have D_ring_of:=HW (P:=l.prog) (w:=w) (base:=base) B C_LETTERS T_Order N_Order XT_NoOrder Y_NoOrder Z_NoOrder F_ring_of D_ring_within D_straight_above
 have D_climbed:=HX (P:=l.prog) (w:=w) (base:=base) B C_LETTERS T_Order N_Order XT_NoOrder Y_NoOrder Z_NoOrder F_climbed
 have D_all_above:=Dp (P:=l.prog) (w:=w) (base:=base) B C_LETTERS T_Order N_Order XT_NoOrder Y_NoOrder Z_NoOrder F_all_above D_climbed
 have D_all_beneath:=yW (P:=l.prog) (w:=w) (base:=base) B C_LETTERS T_Order N_Order XT_NoOrder Y_NoOrder Z_NoOrder F_all_beneath D_all_above
 have D_bound:=Mt (P:=l.prog) (w:=w) (base:=base) B C_LETTERS T_Order N_Order XT_NoOrder Y_NoOrder Z_NoOrder F_bound
 have D_bounds:=J8 (P:=l.prog) (w:=w) (base:=base) B C_LETTERS T_Order N_Order XT_NoOrder Y_NoOrder Z_NoOrder F_bounds D_bound
 have D_unbound:=HY (P:=l.prog) (w:=w) (base:=base) B C_LETTERS T_Order N_Order XT_NoOrder Y_NoOrder Z_NoOrder F_unbound D_bounds
 have D_lack_of:=Ia (P:=l.prog) (w:=w) (base:=base) B C_LETTERS T_Order N_Order XT_NoOrder Y_NoOrder Z_NoOrder F_lack_of D_all_above D_all_beneath D_unbound
 have D_refuse_names:=xT (P:=l.prog) (w:=w) (base:=base) B C_LETTERS T_Order N_Order XT_NoOrder Y_NoOrder Z_NoOrder F_refuse_names D_is_name
 have D_refuse_order:=xU (P:=l.prog) (w:=w) (base:=base) B C_LETTERS T_Order N_Order XT_NoOrder Y_NoOrder Z_NoOrder F_refuse_order D_lack_of D_ring_of
 have D__law_cell_at:=xV (P:=l.prog) (w:=w) (base:=base) B C_LETTERS T_Order N_Order XT_NoOrder Y_NoOrder Z_NoOrder F__law_cell_at
 have D__law_names:=Ba (P:=l.prog) (w:=w) (base:=base) B C_LETTERS T_Order N_Order XT_NoOrder Y_NoOrder Z_NoOrder F__law_names
 have D__law_pairs:=Bb (P:=l.prog) (w:=w) (base:=base) B C_LETTERS T_Order N_Order XT_NoOrder Y_NoOrder Z_NoOrder F__law_pairs D__law_cell_at
 have D__law_reach:=Bc (P:=l.prog) (w:=w) (base:=base) B C_LETTERS T_Order N_Order XT_NoOrder Y_NoOrder Z_NoOrder F__law_reach
 have D__law_is_ring:=xW (P:=l.prog) (w:=w) (base:=base) B C_LETTERS T_Order N_Order XT_NoOrder Y_NoOrder Z_NoOrder F__law_is_ring
 have D__law_is_lack:=xX (P:=l.prog) (w:=w) (base:=base) B C_LETTERS T_Order N_Order XT_NoOrder Y_NoOrder Z_NoOrder F__law_is_lack
 have D_Order__refuse_stranger:=pQ (P:=l.prog) (w:=w) (base:=base) B C_LETTERS T_Order N_Order XT_NoOrder Y_NoOrder Z_NoOrder F_Order__refuse_stranger
 have D_Order__join:=yX (P:=l.prog) (w:=w) (base:=base) B C_LETTERS T_Order N_Order XT_NoOrder Y_NoOrder Z_NoOrder F_Order__join D_Order__refuse_stranger
 have D_Order__meet:=yZ (P:=l.prog) (w:=w) (base:=base) B C_LETTERS T_Order N_Order XT_NoOrder Y_NoOrder Z_NoOrder F_Order__meet D_Order__refuse_stranger
 have D_Order__under:=xY (P:=l.prog) (w:=w) (base:=base) B C_LETTERS T_Order N_Order XT_NoOrder Y_NoOrder Z_NoOrder F_Order__under D_Order__refuse_stranger
 have D__law_bounds:=zc (P:=l.prog) (w:=w) (base:=base) B C_LETTERS T_Order N_Order XT_NoOrder Y_NoOrder Z_NoOrder F__law_bounds D_Order__join D_Order__meet D_Order__under
 have D_Order__greatest:=uM (P:=l.prog) (w:=w) (base:=base) B C_LETTERS T_Order N_Order XT_NoOrder Y_NoOrder Z_NoOrder F_Order__greatest
 have D_Order__joined:=ww (P:=l.prog) (w:=w) (base:=base) B C_LETTERS T_Order N_Order XT_NoOrder Y_NoOrder Z_NoOrder F_Order__joined D_Order__join
 have D_Order__least:=xZ (P:=l.prog) (w:=w) (base:=base) B C_LETTERS T_Order N_Order XT_NoOrder Y_NoOrder Z_NoOrder F_Order__least
 have D__law_made:=Dq (P:=l.prog) (w:=w) (base:=base) B C_LETTERS T_Order N_Order XT_NoOrder Y_NoOrder Z_NoOrder F__law_made D_Order__greatest D_Order__join D_Order__joined D_Order__least D_Order__meet D_Order__under D__law_bounds
 have D_Order____init__:=Tv (uN (P:=l.prog) (w:=w) (base:=base) B C_LETTERS T_Order N_Order XT_NoOrder Y_NoOrder Z_NoOrder F_Order____init__ D_all_above D_all_beneath D_bounds D_refuse_names D_refuse_order) mk_Order kc_Order
 have D_Order__ranks:=yc (P:=l.prog) (w:=w) (base:=base) B C_LETTERS T_Order N_Order XT_NoOrder Y_NoOrder Z_NoOrder F_Order__ranks
 exact SJ (TQ (P:=l.prog) (w:=w) (base:=base) B C_LETTERS T_Order N_Order XT_NoOrder Y_NoOrder Z_NoOrder (dM (st:=nF) l22 c22 k22) D_Order____init__ D_Order__ranks D__law_cell_at D__law_is_lack D__law_is_ring D__law_made D__law_names D__law_pairs D__law_reach D_lack_of D_ring_of) HL
theorem walk {l:W.OpenLaw} {q:Program} {loose:List Str} {XP:(Str->Option Value)->Heap->Prop} {YP:World->Heap->Prop} {d:DefRec} {K:Params->FG} (hn:l.most=some 63) (hdf:d.params.defaults=[])
 (hY:∀ (w:World) (h:Heap),YP w h->(K w.params).In h)
 (F:∀ (w:World) (mg:Str->Option Value) (fa:Addr) (h:Heap),(K w.params).In h->h.Ns mainGlobals mg->mg d.name=some (.ref fa)->
   ∃ fd:FuncData,(∀ (s:Shared) (u:Value),BindsTo s fd ⟨[u],[]⟩ [("_law_script",u)])/\∀ base:Heap,(K w.params).In base->base.Ns mainGlobals mg->gb l.prog w (K w.params) mg base oY 8 fa fd ["_law_script"] (Bj (K w.params))):
 W.WalkO q loose XP YP l.row.toRowW d [] (fun f vs=>PySem.call f vs):=
 L2.walk_of (n:=63) (k:=8) (x := "_law_script") (CX:=fun _=>oY) (sp:=fun w=>Bj (K w.params)) hn (by decide) hdf ⟨rfl,by decide,by decide,rfl⟩ hY F (fun _ _ a ns hl _ hS=>⟨a,ns,rfl,hS,hl,fun _=>rfl⟩) fun _ _ _ _ _ z=>z
end Law
namespace PySem.W.Fast
def tw17621541419999569012:=0
def tw5287559289483067174:=0
def tw9206408231507170731:=0
def tw11629759519001352072:=0
def tw3869021531437497728:=0
def tw6511243445759181092:=0
def tw2810634767808318720:=0
def tw13492864844334152281:=0
def tw12978519725984043553:=0
def tw11223665365945986865:=0
def tw12685109137807658579:=0
def tw10693244317927340915:=0
def tw1917664572661474894:=0
def tw16092233932541362773:=0
def tw16045403616863461150:=0
def tw5479974901594416518:=0
def tw14300677973217753447:=0
def tw6714724018815395734:=0
def tw9120482820373596071:=0
def tw6708493384459967001:=0
def tw2389447983233699217:=0
end PySem.W.Fast
open PySem PySem.W PyProof.Rows
set_option maxRecDepth 100000 in
set_option maxHeartbeats 0 in
theorem PySem.Challenge.cw_hushwise_k09_whole_orders_holds : PySem.Challenge.rw_hushwise_k09_whole_orders.Holds := by
 w_on; o_law; k_head; (case hw=>w_witness2)
 k_fill
 refine Law.walk (l:=PySem.Challenge.rw_hushwise_k09_whole_orders) rfl rfl (fun w h Y=>W.kIn_of Y) ?F
 case F=>
  intro w mg fa h KX G hmg
  refine' Law.all_mk KX G hmg ?aC_Order ?pg_Order ?hd_Order ?po_Order ?sa_Order ?mk_Order ?kc_Order ?n_Order_names ?n_Order_above ?n_Order_joins ?n_Order_meets ?n_Order_lowest ?n_Order_highest ?aC_NoOrder ?ex_NoOrder ?mr_NoOrder_NoOrder ?a1 ?l1 ?c1 ?k1 ?a2 ?l2 ?c2 ?k2 ?a3 ?l3 ?c3 ?k3 ?a4 ?l4 ?c4 ?k4 ?a5 ?l5 ?c5 ?k5 ?a6 ?l6 ?c6 ?k6 ?a7 ?l7 ?c7 ?k7 ?a8 ?l8 ?c8 ?k8 ?a9 ?l9 ?c9 ?k9 ?a10 ?l10 ?c10 ?k10 ?a11 ?l11 ?c11 ?k11 ?a12 ?l12 ?c12 ?k12 ?a13 ?l13 ?c13 ?k13 ?a14 ?l14 ?c14 ?k14 ?a15 ?l15 ?c15 ?k15 ?a16 ?l16 ?c16 ?k16 ?a17 ?l17 ?c17 ?k17 ?a18 ?l18 ?c18 ?k18 ?a19 ?l19 ?c19 ?k19 ?a20 ?l20 ?c20 ?k20 ?a21 ?l21 ?c21 ?k21 ?a22 ?l22 ?c22 ?k22 ?a23 ?i23 ?l23 ?c23 ?k23 ?a24 ?i24 ?l24 ?c24 ?k24 ?a25 ?i25 ?l25 ?c25 ?k25 ?a26 ?i26 ?l26 ?c26 ?k26 ?a27 ?i27 ?l27 ?c27 ?k27 ?a28 ?i28 ?l28 ?c28 ?k28 ?a29 ?i29 ?l29 ?c29 ?k29 ?a30 ?i30 ?l30 ?c30 ?k30 ?a31 ?i31 ?l31 ?c31 ?k31 ?z0 ?z1 ?z2 ?z3 ?z4 ?z5 ?z6 ?z7 ?z8 ?z9 ?y_LETTERS Law.law_true
  case aC_Order=>k_is
  case pg_Order=>k_is
  case hd_Order=>k_is
  case po_Order=>k_is
  case sa_Order=>k_is
  case mk_Order=>k_is
  case kc_Order=>k_is
  case n_Order_names=>k_is
  case n_Order_above=>k_is
  case n_Order_joins=>k_is
  case n_Order_meets=>k_is
  case n_Order_lowest=>k_is
  case n_Order_highest=>k_is
  case aC_NoOrder=>k_is
  (case ex_NoOrder=>k_exc)
  case mr_NoOrder_NoOrder=>k_is
  case a1=>k_is
  case l1=>k_is
  case c1=>k_is
  case k1=>k_is
  case a2=>k_is
  case l2=>k_is
  case c2=>k_is
  case k2=>k_is
  case a3=>k_is
  case l3=>k_is
  case c3=>k_is
  case k3=>k_is
  case a4=>k_is
  case l4=>k_is
  case c4=>k_is
  case k4=>k_is
  case a5=>k_is
  case l5=>k_is
  case c5=>k_is
  case k5=>k_is
  case a6=>k_is
  case l6=>k_is
  case c6=>k_is
  case k6=>k_is
  case a7=>k_is
  case l7=>k_is
  case c7=>k_is
  case k7=>k_is
  case a8=>k_is
  case l8=>k_is
  case c8=>k_is
  case k8=>k_is
  case a9=>k_is
  case l9=>k_is
  case c9=>k_is
  case k9=>k_is
  case a10=>k_is
  case l10=>k_is
  case c10=>k_is
  case k10=>k_is
  case a11=>k_is
  case l11=>k_is
  case c11=>k_is
  case k11=>k_is
  case a12=>k_is
  case l12=>k_is
  case c12=>k_is
  case k12=>k_is
  case a13=>k_is
  case l13=>k_is
  case c13=>k_is
  case k13=>k_is
  case a14=>k_is
  case l14=>k_is
  case c14=>k_is
  case k14=>k_is
  case a15=>k_is
  case l15=>k_is
  case c15=>k_is
  case k15=>k_is
  case a16=>k_is
  case l16=>k_is
  case c16=>k_is
  case k16=>k_is
  case a17=>k_is
  case l17=>k_is
  case c17=>k_is
  case k17=>k_is
  case a18=>k_is
  case l18=>k_is
  case c18=>k_is
  case k18=>k_is
  case a19=>k_is
  case l19=>k_is
  case c19=>k_is
  case k19=>k_is
  case a20=>k_is
  case l20=>k_is
  case c20=>k_is
  case k20=>k_is
  case a21=>k_is
  case l21=>k_is
  case c21=>k_is
  case k21=>k_is
  case a22=>k_is
  case l22=>k_is
  case c22=>k_is
  case k22=>k_is
  case a23=>k_is
  case i23=>k_is
  case l23=>k_is
  case c23=>k_is
  case k23=>k_is
  case a24=>k_is
  case i24=>k_is
  case l24=>k_is
  case c24=>k_is
  case k24=>k_is
  case a25=>k_is
  case i25=>k_is
  case l25=>k_is
  case c25=>k_is
  case k25=>k_is
  case a26=>k_is
  case i26=>k_is
  case l26=>k_is
  case c26=>k_is
  case k26=>k_is
  case a27=>k_is
  case i27=>k_is
  case l27=>k_is
  case c27=>k_is
  case k27=>k_is
  case a28=>k_is
  case i28=>k_is
  case l28=>k_is
  case c28=>k_is
  case k28=>k_is
  case a29=>k_is
  case i29=>k_is
  case l29=>k_is
  case c29=>k_is
  case k29=>k_is
  case a30=>k_is
  case i30=>k_is
  case l30=>k_is
  case c30=>k_is
  case k30=>k_is
  case a31=>k_is
  case i31=>k_is
  case l31=>k_is
  case c31=>k_is
  case k31=>k_is
  case z0=>k_is
  case z1=>k_is
  case z2=>k_is
  case z3=>k_is
  case z4=>k_is
  case z5=>k_is
  case z6=>k_is
  case z7=>k_is
  case z8=>k_is
  case z9=>k_is
  case y_LETTERS=>k_is
