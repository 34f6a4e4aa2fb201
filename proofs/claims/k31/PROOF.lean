import PyProof.Rows.All
import Wide.All
import OpenK.AllK
import Wide.FinOn
import Lean
import PyProof.EqAt
import PyProof.EqKinds
import PyProof.TupleCall
import PyProof.NeKinds
import PyProof.StrBlockI
import PyProof.WalksEnum
import PyProof.EnumMake
import PyProof.ZipIter
import PyProof.Rows.SortStr
import PyProof.Rows.SetFrom
import PyProof.CollectWalk
import PyProof.SetRoads
import PyProof.DictWalks
import PyProof.SumWalk
import PyProof.Rows.SumGenD
import PyProof.DictItems
import KE.KRevIter
import PyProof.Rows.FStrParts
import KE.KEqDict
import PyProof.AutoSeq1
import PySem.Challenge.RW_hushwise_k31_behind_a_row
set_option Elab.async false
set_option linter.all false
set_option bootstrap.genMatcherCode false
set_option genSizeOf false
set_option compiler.extract_closed false
set_option maxRecDepth 100000
set_option maxHeartbeats 8000000
noncomputable abbrev FG:=PySem.W.Frag
namespace L2
open PySem PySem.Spec PyProof.Rows
variable {pins:List (Addr×Obj)} {E:Value->Shared->Prop} {s:Shared} {A:Around} {w:World} {P:Program}
noncomputable abbrev Key:=Sum Int Str
noncomputable def pJ:Key->Value->Bool
 | .inl k,v=>Value.isInt k v
 | .inr x,v=>Value.isStrOf x v
noncomputable def QM (w:World):Key->Int
 | .inl k=>hashInt k
 | .inr x=>hashStr w x
theorem dz:∀ {k:Key} {v:Value},pJ k v=true->(∃ i t,k=Sum.inl i/\v=Value.int i t)\/(∃ x t,k=Sum.inr x/\v=Value.str x t)
 | .inl i,v,h=>by
  obtain ⟨t,e⟩:=Value.isInt_shape (k:=i) (v:=v) h
  exact .inl ⟨i,t,rfl,e⟩
 | .inr x,v,h=>by
  obtain ⟨t,e⟩:=Value.isStrOf_shape (x:=x) (v:=v) h
  exact .inr ⟨x,t,rfl,e⟩
theorem Hr (i:Int) (t:Tok):pJ (.inl i) (.int i t)=true:=by simp [pJ,Value.isInt]
theorem Hs (x:Str) (t:Tok):pJ (.inr x) (.str x t)=true:=by simp [pJ,Value.isStrOf]
theorem QQ (a b:Int):decide ((Sum.inl a:Key)=Sum.inl b)=(a==b):=by
 by_cases e:a=b
 . subst e; simp
 . have h:¬ (Sum.inl a:Key)=Sum.inl b:=fun q=>e (Sum.inl.inj q)
   rw [decide_eq_false h]
   exact (beq_eq_false_iff_ne.mpr e).symm
theorem QR (a b:Str):decide ((Sum.inr a:Key)=Sum.inr b)=decide (a=b):=by
 by_cases e:a=b
 . subst e; simp
 . have h:¬ (Sum.inr a:Key)=Sum.inr b:=fun q=>e (Sum.inr.inj q)
   rw [decide_eq_false h,decide_eq_false e]
theorem QS (a:Int) (b:Str):decide ((Sum.inl a:Key)=Sum.inr b)=false:=decide_eq_false (fun q=>nomatch q)
theorem QT (a:Str) (b:Int):decide ((Sum.inr a:Key)=Sum.inl b)=false:=decide_eq_false (fun q=>nomatch q)
noncomputable def dU (prog:Program) (w:World):PySem.KeyKind prog w Key where
 is:=pJ
 hash:=QM w
 inj:=fun v a b ha hb=>by
  rcases dz ha with ⟨i,t,rfl,rfl⟩ | ⟨x,t,rfl,rfl⟩
  . rcases dz hb with ⟨j,u,rfl,e⟩ | ⟨y,u,rfl,e⟩
    . injection e with e1 _; rw [e1]
    . exact nomatch e
  . rcases dz hb with ⟨j,u,rfl,e⟩ | ⟨y,u,rfl,e⟩
    . exact nomatch e
    . injection e with e1 _; rw [e1]
 byValue:=fun k v h=>by
  rcases dz h with ⟨i,t,rfl,rfl⟩ | ⟨x,t,rfl,rfl⟩<;>rfl
 pyHash:=fun hv h=>by
  rcases dz hv with ⟨i,t,rfl,rfl⟩ | ⟨x,t,rfl,rfl⟩
  . exact wpAny_pyHash_int h
  . exact wpAny_pyHash_str h
 eqBool:=fun hu hv h=>by
  rcases dz hu with ⟨i,t,rfl,rfl⟩ | ⟨x,t,rfl,rfl⟩
  . rcases dz hv with ⟨j,u,rfl,rfl⟩ | ⟨y,u,rfl,rfl⟩
    . rw [QQ] at h; exact wpAny_eqBool_int h
    . rw [QS] at h; exact SeqAt.EqAt.int_str i t y u _ _ _ _ h
  . rcases dz hv with ⟨j,u,rfl,rfl⟩ | ⟨y,u,rfl,rfl⟩
    . rw [QT] at h; exact SeqAt.EqAt.str_int x t j u _ _ _ _ h
    . rw [QR] at h; exact wpAny_eqBool_str h
 «strs»:=fun k x t v h=>by
  rcases dz h with ⟨i,u,rfl,e⟩ | ⟨y,u,rfl,e⟩
  . exact nomatch e
  . injection e with e1 _
    subst e1
    cases v<;>rfl
theorem Dp (prog:Program) (w:World) (i:Int) (t:Tok):(dU prog w).is (.inl i) (.int i t)=true:=Hr i t
theorem Dq (prog:Program) (w:World) (x:Str) (t:Tok):(dU prog w).is (.inr x) (.str x t)=true:=Hs x t
inductive V where
 | non | bl (b:Bool) | int (i:Int) | str (x:Str) | byt (b:Array UInt8) | flt (b:UInt64) | ref (a:Addr) | ty (n:String)
 deriving DecidableEq
noncomputable def RelV:V->Value->Prop
 | .non,u=>u=Value.none
 | .bl b,u=>u=Value.bool b
 | .int i,u=>∃ t,u=Value.int i t
 | .str x,u=>∃ t,u=Value.str x t
 | .byt b,u=>∃ t,u=Value.bytes b t
 | .flt b,u=>∃ t,u=Value.float b t
 | .ref a,u=>u=Value.ref a
 | .ty n,u=>u=Value.type n
noncomputable abbrev Vals:List V->List Value->Prop:=Paired RelV
theorem Vals.length {xs:List V} {us:List Value} (r:Vals xs us):xs.length=us.length:=Paired.length r
theorem Vals.get:∀ {xs:List V} {us:List Value} {i:Nat} {x:V},Vals xs us->xs[i]?=some x->∃ u,us[i]?=some u/\RelV x u
 | _,_,_,_,.nil,e=>by simp at e
 | _,_,0,_,.cons r _,e=>by simp at e; subst e; exact ⟨_,rfl,r⟩
 | _,_,i+1,x,.cons _ t,e=>by
  obtain ⟨u,h1,h2⟩:=Vals.get (i:=i) (x:=x) t (by simpa using e)
  exact ⟨u,by simpa using h1,h2⟩
theorem Vals.set {x:V} {u:Value} (r:RelV x u):∀ {xs:List V} {us:List Value} (i:Nat),Vals xs us->Vals (xs.set i x) (us.set i u)
 | _,_,_,.nil=>.nil
 | _,_,0,.cons _ t=>.cons r t
 | _,_,i+1,.cons q t=>.cons q (Vals.set r i t)
theorem Vals.append:∀ {xs ys:List V} {us ws:List Value},Vals xs us->Vals ys ws->Vals (xs++ys) (us++ws)
 | _,_,_,_,.nil,s=>s
 | _,_,_,_,.cons r t,s=>.cons r (Vals.append t s)
theorem Vals.take:∀ {xs:List V} {us:List Value} (n:Nat),Vals xs us->Vals (xs.take n) (us.take n)
 | _,_,0,_=>.nil
 | _,_,_+1,.nil=>.nil
 | _,_,n+1,.cons r t=>.cons r (Vals.take n t)
theorem Vals.drop:∀ {xs:List V} {us:List Value} (n:Nat),Vals xs us->Vals (xs.drop n) (us.drop n)
 | _,_,0,r=>r
 | _,_,_+1,.nil=>.nil
 | _,_,n+1,.cons _ t=>Vals.drop n t
noncomputable def mJ:Option V->Option Value->Prop
 | some v,some u=>RelV v u
 | none,none=>True
 | _,_=>False
noncomputable def KV {κ:Type}:List (κ×V)->List (κ×Value)->Prop:=Paired fun (p:κ×V) (q:κ×Value)=>p.1=q.1/\RelV p.2 q.2
noncomputable def kV:Key->V
 | .inl i=>.int i
 | .inr x=>.str x
inductive HO where
 | lst (xs:List V)
 | tup (xs:List V)
 | dK (kvs:List (Key×V)) | dT (kvs:List (List Key×V))
 | set (S:Int->Bool) (n:Nat)
 | ins (C dx:Addr) (fs:List (Str×V))
 | own (x:Addr)
 | xd (fs:List (Str×V))
 | met (f x:Addr)
 | rng (lo hi:Int)
 | frz (o:Obj) (u:HO)
 | tbl (ps:Array Value)
 | ext (φ:Heap->Prop)
noncomputable abbrev Hp:=Addr->Option HO
noncomputable def upd (H:Hp) (a:Addr) (o:HO):Hp:=fun b=>if b=a then some o else H b
theorem bJ {H:Hp} {a:Addr} {o:HO}:upd H a o a=some o:=by unfold upd; rw [if_pos rfl]
theorem bV {H:Hp} {a b:Addr} {o:HO} (h:b≠a):upd H a o b=H b:=by unfold upd; rw [if_neg h]
theorem Ub {H:Hp} {a b:Addr} {o u:HO} (h:H a=some o) (h':H b=some u) (d:o≠u):a≠b:=by
 intro e; subst e; rw [h] at h'; exact d (Option.some.inj h')
theorem dD {H:Hp} {a b:Addr} {o:HO} (h:H a=some o) (h':H b=none):a≠b:=by
 intro e; subst e; rw [h] at h'; cases h'
section
variable (P:Program) (w:World)
noncomputable def fD (H:Hp) (h:Heap) (a:Addr):HO->Prop
 | .lst xs=>xs.length<=sizeLine/\∃ (its:List Value) (n:Nat),Vals xs its/\h.get? a=some { cls:=.type "list",data:=.seq its.toArray n }
 | .tup xs=>xs.length<=sizeLine/\∃ its:List Value,Vals xs its/\IsTup h a its.toArray
 | .dK kvs=>kvs.length<=sizeLine/\(a==sysModules)=false/\∃ vs,KV kvs vs/\h.DictOf (dU P w) a vs
 | .dT kvs=>kvs.length<=sizeLine/\(a==sysModules)=false/\∃ xs:List (List Key×Addr×Value),
  Paired (fun (p:List Key×V) (q:List Key×Addr×Value)=>p.1=q.1/\H q.2.1=some (.tup (p.1.map kV))/\RelV p.2 q.2.2) kvs xs/\
  ∃ o es ep,h.get? a=some o/\o.ExactDict/\o.data=.dict es ep/\es.toList=xs.map (entryOfKey (tupleKind (dU P w)))/\(xs.map (·.1)).Nodup
 | .set S n=>h.SetOf (intKind P w) a S n
 | .ins C dx fs=>H dx=some (.own a)/\fs.length<=1000/\dx≠a/\h.get? a=some (W.instObj C dx)/\
  ∃ mA,h.Ns1 dx mA/\(∀ f,mJ (fs.lookup f) (mA f))/\PySem.Within mA (fs.map (·.1))
 | .own _=>∃ o,h.get? a=some o
 | .xd fs=>∃ mA,h.Ns1 a mA/\∀ f,mJ (fs.lookup f) (mA f)
 | .rng lo hi=>∃ t u v,h.get? a=some { cls:=.type "range",data:=.fields #[.int lo t,.int hi u,.int 1 v] }
 | .frz o u=>h.get? a=some o/\fD H h a u
 | .tbl ps=>h.get? a=some { cls:=.none,data:=.fields ps }
 | .met f x=>h.get? a=some (W.methodObj (.ref f) (.ref x))
 | .ext φ=>φ h/\(∃ o,h.get? a=some o)/\∀ h1 h2:Heap,φ h1->(∀ o,h1.get? a=some o->h2.get? a=some o)->φ h2
noncomputable def ik (H:Hp) (h:Heap):Prop:=∀ a o,H a=some o->fD P w H h a o
end
section
variable {P:Program} {w:World} {H H':Hp} {h h':Heap} {a:Addr} {o:HO}
theorem fD.lt (x:fD P w H h a o):a<h.objs.size:=by
 cases o with
 | lst xs=>obtain ⟨_,_,_,_,e⟩:=x; exact Heap.lt_size e
 | tup xs=>obtain ⟨_,_,_,p⟩:=x; exact p.lt
 | dK kvs=>obtain ⟨_,_,_,_,o,_,_,e,_⟩:=x; exact Heap.lt_size e
 | dT kvs=>obtain ⟨_,_,_,_,o,_,_,e,_⟩:=x; exact Heap.lt_size e
 | set S n=>obtain ⟨o,_,_,_,e,_⟩:=x; exact Heap.lt_size e
 | ins C dx fs=>obtain ⟨_,_,_,e,_⟩:=x; exact Heap.lt_size e
 | own y=>obtain ⟨_,e⟩:=x; exact Heap.lt_size e
 | xd fs=>obtain ⟨_,⟨_,_,_,e,_⟩,_⟩:=x; exact Heap.lt_size e
 | rng lo hi=>obtain ⟨_,_,_,e⟩:=x; exact Heap.lt_size e
 | frz ob u=>obtain ⟨e,_⟩:=x; exact Heap.lt_size e
 | tbl ps=>exact Heap.lt_size (show h.get? a=some _ from x)
 | met f y=>exact Heap.lt_size (show h.get? a=some _ from x)
 | ext φ=>obtain ⟨_,⟨_,e⟩,_⟩:=x; exact Heap.lt_size e
theorem Paired.mapP {α β:Type} {F G:α->β->Prop}:∀ {l₁:List α} {l₂:List β},Paired F l₁ l₂->(∀ a b,F a b->G a b)->Paired G l₁ l₂
 | _,_,.nil,_=>.nil
 | _,_,.cons r t,f=>.cons (f _ _ r) (Paired.mapP t f)
theorem fD.stay (x:fD P w H h a o) (k:∀ b u,(b=a\/H b=some (.own a))->h.get? b=some u->h'.get? b=some u)
 (ho:∀ b,H b=some (.own a)->H' b=some (.own a)) (ht:∀ b xs,H b=some (.tup xs)->H' b=some (.tup xs)):fD P w H' h' a o:=by
 induction o with
 | lst xs=>obtain ⟨z,its,n,r,e⟩:=x; exact ⟨z,its,n,r,k _ _ (.inl rfl) e⟩
 | tup xs=>obtain ⟨z,its,r,ob,e,c⟩:=x; exact ⟨z,its,r,ob,k _ _ (.inl rfl) e,c⟩
 | dK kvs=>obtain ⟨z,y,vs,r,ob,es,ep,e,c⟩:=x; exact ⟨z,y,vs,r,ob,es,ep,k _ _ (.inl rfl) e,c⟩
 | dT kvs=>
  obtain ⟨z,y,xs,r,ob,es,ep,e,c⟩:=x
  exact ⟨z,y,xs,Paired.mapP r fun p q z=>⟨z.1,ht _ _ z.2.1,z.2.2⟩,ob,es,ep,k _ _ (.inl rfl) e,c⟩
 | set S n=>obtain ⟨ob,es,ep,t,e,c⟩:=x; exact ⟨ob,es,ep,t,k _ _ (.inl rfl) e,c⟩
 | ins C dx fs=>
  obtain ⟨d,z,ne,e,mA,⟨od,es,ep,e2,c⟩,r⟩:=x
  exact ⟨ho _ d,z,ne,k _ _ (.inl rfl) e,mA,⟨od,es,ep,k _ _ (.inr d) e2,c⟩,r⟩
 | own y=>obtain ⟨ob,e⟩:=x; exact ⟨ob,k _ _ (.inl rfl) e⟩
 | xd fs=>obtain ⟨mA,⟨od,es,ep,e,c⟩,r⟩:=x; exact ⟨mA,⟨od,es,ep,k _ _ (.inl rfl) e,c⟩,r⟩
 | rng lo hi=>obtain ⟨t,u,v,e⟩:=x; exact ⟨t,u,v,k _ _ (.inl rfl) e⟩
 | frz ob u ih=>obtain ⟨e,q⟩:=x; exact ⟨k _ _ (.inl rfl) e,ih q⟩
 | tbl ps=>
  have e:h.get? a=some { cls:=.none,data:=.fields ps }:=x
  show h'.get? a=some { cls:=.none,data:=.fields ps }
  exact k a _ (.inl rfl) e
 | met f y=>
  have e:h.get? a=some (W.methodObj (.ref f) (.ref y)):=x
  show h'.get? a=some (W.methodObj (.ref f) (.ref y))
  exact k a _ (.inl rfl) e
 | ext φ=>obtain ⟨p,⟨o,e⟩,st⟩:=x; exact ⟨st _ _ p fun o q=>k _ _ (.inl rfl) q,⟨o,k _ _ (.inl rfl) e⟩,st⟩
theorem ik.lt (x:ik P w H h) (e:H a=some o):a<h.objs.size:=(x a o e).lt
theorem ik.fresh (x:ik P w H h) (e:h.objs.size<=a):H a=none:=by
 cases q:H a with
 | none=>rfl
 | some u=>exact absurd (Nat.lt_of_lt_of_le (x.lt q) e) (Nat.lt_irrefl _)
theorem ik.kept (x:ik P w H h) (k:∀ b u,h.get? b=some u->h'.get? b=some u):ik P w H h':=fun a o e=>
 (x a o e).stay (fun b u _ q=>k b u q) (fun _ q=>q) fun _ _ q=>q
theorem ik.laid (x:ik P w H h) (k:∀ b u,h.get? b=some u->h'.get? b=some u) (hp:h.objs.size<=a) (new:fD P w (upd H a o) h' a o):ik P w (upd H a o) h':=fun b u e=>by
 have hn:=x.fresh hp
 by_cases hb:b=a
 . subst hb; rw [bJ] at e; cases e; exact new
 . rw [bV hb] at e
   exact (x b u e).stay (fun c v _ q=>k c v q) (fun c q=>by rw [bV (dD q hn)]; exact q) fun c xs q=>by rw [bV (dD q hn)]; exact q
end
noncomputable def Rd (H:Hp) (a:Addr) (u:HO):Prop:=H a=some u\/∃ o,H a=some (.frz o u)
theorem Rd.ok {H:Hp} {h:Heap} {a:Addr} {u:HO} (r:Rd H a u) (x:ik P w H h):fD P w H h a u:=by
 rcases r with r | ⟨o,r⟩
 . exact x a u r
 . obtain ⟨_,q⟩:=x a _ r
   exact q
noncomputable def Ht:Option HO->Prop
 | some (.lst _)=>True
 | some (.dK _)=>True
 | some (.dT _)=>True
 | some (.set _ _)=>True
 | some (.ins _ _ _)=>True
 | some (.ext _)=>True
 | _=>False
section
variable {P:Program} {w:World} {H:Hp} {h h':Heap} {x e:Addr} {o':HO}
theorem ik.write (ok:ik P w H h) (mu:Ht (H x)) (he:e=x\/H e=some (.own x)) (k:∀ b u,b≠e->h.get? b=some u->h'.get? b=some u) (heo:∃ u,h'.get? e=some u)
 (new:fD P w (upd H x o') h' x o'):ik P w (upd H x o') h':=fun b u q=>by
 have nown:∀ c y,H c=some (.own y)->c≠x:=fun c y r z=>by subst z; rw [r] at mu; exact mu
 have ntup:∀ c xs,H c=some (.tup xs)->c≠x:=fun c xs r z=>by subst z; rw [r] at mu; exact mu
 by_cases hb:b=x
 . subst hb; rw [bJ] at q; cases q; exact new
 . rw [bV hb] at q
   by_cases hbe:b=e
   . have q':H b=some (.own x):=by
      rcases he with z | z
      . exact absurd (hbe.trans z) hb
      . rw [hbe]; exact z
     rw [q] at q'; cases q'
     obtain ⟨v,hv⟩:=heo
     exact ⟨v,by rw [hbe]; exact hv⟩
   . refine (ok b u q).stay (fun c v hc r=>k c v ?_ r) (fun c r=>by rw [bV (nown c b r)]; exact r) fun c xs r=>by rw [bV (ntup c xs r)]; exact r
     rcases hc with rfl | hc
     . exact hbe
     . rintro rfl
       rcases he with z | z
       . exact nown c b hc z
       . rw [hc] at z; cases z; exact hb rfl
end
structure Un (fs ex:List Addr) (H H':Hp) (h h':Heap):Prop where
 keep:∀ b o,h.get? b=some o->H b=none->b∉fs->b∉ex->h'.get? b=some o
 slot:∀ b o,h.get? b=some o->H b=none->b∈fs->b∉ex->∃ sl,h'.get? b=some { o with slots:=sl }
 free:∀ b o,h.get? b=some o->H b=none->b∉ex->H' b=none
 there:∀ b o,h.get? b=some o->b∉ex->∃ o',h'.get? b=some o'
 tups:∀ b xs,H b=some (.tup xs)->H' b=some (.tup xs)
 frzs:∀ b o u,H b=some (.frz o u)->H' b=some (.frz o u)
 tbls:∀ b ps,H b=some (.tbl ps)->∃ more,H' b=some (.tbl (ps++more))
section
variable {fs fs' ex ex':List Addr} {H H1 H2:Hp} {h h1 h2 h':Heap} {a x e:Addr} {o:HO}
theorem Un.any (u:Un fs ex H H1 h h1) {b:Addr} {ob:Obj} (q:h.get? b=some ob) (n:H b=none) (hx:b∉ex):∃ sl,h1.get? b=some { ob with slots:=sl }:=by
 by_cases hb:b∈fs
 . exact u.slot b ob q n hb hx
 . exact ⟨ob.slots,u.keep b ob q n hb hx⟩
theorem Un.kept (k:∀ b u,h.get? b=some u->h'.get? b=some u):Un fs ex H H h h':=
 ⟨fun b ob q _ _ _=>k b ob q,fun b ob q _ _ _=>⟨ob.slots,k b ob q⟩,fun _ _ _ n _=>n,fun b ob q _=>⟨ob,k b ob q⟩,fun _ _ q=>q,fun _ _ _ q=>q,fun _ ps q=>⟨#[],by rw [q]; simp⟩⟩
theorem Un.refl:Un fs ex H H h h:=Un.kept fun _ _ q=>q
theorem Un.laid (k:∀ b u,h.get? b=some u->h'.get? b=some u) (hp:h.objs.size<=a) (hn:H a=none):Un fs ex H (upd H a o) h h' where
 keep:=fun b u q _ _ _=>k b u q
 slot:=fun b u q _ _ _=>⟨u.slots,k b u q⟩
 free:=fun b u q n _=>by rw [bV (Nat.ne_of_lt (Nat.lt_of_lt_of_le (Heap.lt_size q) hp))]; exact n
 there:=fun b u q _=>⟨u,k b u q⟩
 tups:=fun b xs q=>by rw [bV (dD q hn)]; exact q
 frzs:=fun b u xs q=>by rw [bV (dD q hn)]; exact q
 tbls:=fun b ps q=>⟨#[],by rw [bV (dD q hn),q]; simp⟩
theorem Un.write (mu:Ht (H x)) (he:e=x\/H e=some (.own x)) (k:∀ b u,b≠e->h.get? b=some u->h'.get? b=some u) (heo:∃ u,h'.get? e=some u):Un fs ex H (upd H x o) h h':=by
 have hx:∀ b,H b=none->b≠x:=fun b n z=>by subst z; rw [n] at mu; exact mu
 have hb:∀ b,H b=none->b≠e:=fun b n z=>by
  subst z
  rcases he with r | r
  . exact hx b n r
  . rw [n] at r; cases r
 have hm:∀ b u,H b=some u->¬ Ht (some u)->b≠x:=fun b u q nm z=>by subst z; rw [q] at mu; exact nm mu
 refine ⟨fun b u q n _ _=>k b u (hb b n) q,fun b u q n _ _=>⟨u.slots,k b u (hb b n) q⟩,fun b u q n _=>by rw [bV (hx b n)]; exact n,fun b u q _=>?_,
  fun b xs q=>by rw [bV (hm b _ q fun z=>z)]; exact q,fun b u xs q=>by rw [bV (hm b _ q fun z=>z)]; exact q,fun b ps q=>⟨#[],by rw [bV (hm b _ q fun z=>z),q]; simp⟩⟩
 by_cases hbe:b=e
 . subst hbe; exact heo
 . exact ⟨u,k b u hbe q⟩
end
noncomputable def MT (h:Heap) (H:Hp):List Addr:=(List.range h.objs.size).filter fun a=>(H a).isSome
noncomputable def rE (h:Heap) (H:Hp):Heap:=W.hideAll h (MT h H)
theorem Hu (h:Heap) (H:Hp):(rE h H).objs.size=h.objs.size:=W.hideAll_size _ _
theorem Kl {h:Heap} {H:Hp} {b:Addr} {o:Obj} (e:h.get? b=some o) (n:H b=none):(rE h H).get? b=some o:=
 W.hideAll_get _ e fun hm=>by
  have q:(H b).isSome=true:=(List.mem_filter.mp hm).2
  rw [n] at q; simp at q
theorem Oh {h:Heap} {H:Hp} {b:Addr} {o:Obj} (e:(rE h H).get? b=some o):h.get? b=some o/\H b=none:=by
 have e':h.get? b=some o:=W.of_hideAll (MT h H) e
 refine ⟨e',?_⟩
 cases q:H b with
 | none=>rfl
 | some x=>
  have hm:b∈MT h H:=List.mem_filter.mpr ⟨List.mem_range.mpr (Heap.lt_size e'),by simp [q]⟩
  have z:(rE h H).get? b=none:=W.hideAll_none (MT h H) hm
  rw [z] at e; cases e
noncomputable def Oi (g h:Heap) (L:Addr):List (Addr×Obj):=(List.range h.objs.size).filterMap fun a=>if a=L\/(g.get? a).isSome=true then none else (h.get? a).map fun o=>(a,o)
noncomputable def rest (g h:Heap) (L d:Addr):List (Addr×Obj):=(Oi g h L).filter fun p=>decide (p.1≠d)
structure Mod (K:FG) (mg:Str->Option Value) (base:Heap):Prop where
 kin:K.In base
 glob:base.Ns mainGlobals mg
 blt:∃ mb,base.Ns builtinsNs mb/\∀ x:Str,x ≠ "__name__" -> mb x=bootBuiltins x
 nolimit:base.NoLimit
structure Cx where
 prog:Program
 w:World
 K:FG
 mg:Str->Option Value
 base:Heap
 A:Around
 N:List Str
 s₀:Shared
 H0:Hp
 env:Env
 outer:List Env
 stack:List Env
 ex:List Addr
 fn:Str->Bool
 calm:Bool
 pn:List (Addr×Obj)
 xe:Value->Shared->Prop
noncomputable def frs (l:List Env):List Addr:=l.filterMap (·.frame)
noncomputable abbrev Cx.fs (X:Cx):List Addr:=frs X.outer
noncomputable def Hv (sc:Scope) (x:Str):Prop:=sc.names.lookup x=some .local\/sc.names.lookup x=some .cell\/sc.names.lookup x=some .free
noncomputable def Loc (sc:Scope) (x:Str):Prop:=sc.names.lookup x=some .local\/sc.names.lookup x=some .cell
noncomputable def Look (env:Env) (h:Heap) (m:Str->Option Value) (x:Str) (u:Value):Prop:=
 (env.kindOf x=some .local/\m x=some u)\/((env.kindOf x=some .cell\/env.kindOf x=some .free)/\∃ c,env.cells.lookup x=some c/\h.IsCell c (some u))
structure Cx.Ok (X:Cx):Prop where
 mod:Mod X.K X.mg X.base
 kind:X.env.scope.kind=.function
 glob:X.env.globals=mainGlobals
 blt:X.env.builtins=builtinsNs
 above:X.s₀.heap.objs.size<=X.env.locals
 inj:∀ x y c,X.env.cells.lookup x=some c->X.env.cells.lookup y=some c->x=y
 has:∀ x,(X.env.kindOf x=some .cell\/X.env.kindOf x=some .free)->∃ c,X.env.cells.lookup x=some c
 cab:∀ x c,X.fn x=true->X.env.cells.lookup x=some c->X.s₀.heap.objs.size<=c
 hd:X.calm=true->X.A.handled=none
 frames:X.A.frames=some X.stack
 stk:X.stack=X.outer\/(X.stack=X.env::X.outer/\X.env.frame=some X.env.locals)
 exf:∀ b∈X.ex,b≠X.env.locals/\∀ x c,X.env.cells.lookup x=some c->c≠b
 bs:∀ b o,X.base.get? b=some o->X.s₀.heap.get? b=some o/\X.H0 b=none
 bsz:X.base.objs.size<=X.s₀.heap.objs.size
 noex:∀ b o,X.base.get? b=some o->b∉X.ex
 exfs:∀ b∈X.ex,b∉X.fs
 funs:X.s₀.heap.FunFrames X.base X.outer
 frf:∀ b∈X.fs,X.H0 b=none
structure Inv (X:Cx) (pins:List (Addr×Obj)) (σ:List (Option V)) (H:Hp) (s:Shared):Prop where
 ok:X.Ok
 os:s.os=X.s₀.os
 bare:AllBare s.gens
 base:Un X.fs X.ex X.H0 H X.s₀.heap s.heap
 loc:∃ m,s.heap.Ns X.env.locals m/\∀ (i:Nat) (x:Str) (v:V),X.N[i]?=some x->σ[i]?=some (some v)->Hv X.env.scope x->∃ u,RelV v u/\Look X.env s.heap m x u
 cell:∀ x c,X.env.cells.lookup x=some c->∃ v,s.heap.IsCell c v
 free:H X.env.locals=none
 freeC:∀ x c,X.env.cells.lookup x=some c->H c=none
 pin:∀ p∈X.pn++pins,s.heap.get? p.1=some p.2/\H p.1=none/\p.1≠X.env.locals/\p.1∉X.fs/\∀ v,p.2.data≠.cell v
 hok:ik X.prog X.w H s.heap
 len:σ.length=X.N.length
section
variable {X:Cx} {pins:List (Addr×Obj)} {σ:List (Option V)} {H H':Hp} {s:Shared} {h':Heap}
theorem Cx.Ok.nofr (ok:X.Ok) {b:Addr} {o:Obj} (e:X.base.get? b=some o):b∉X.fs:=fun hb=>by
 have:=(ok.funs.mem hb).1
 rw [e] at this; cases this
theorem Inv.bs (I:Inv X pins σ H s):∀ b o,X.base.get? b=some o->s.heap.get? b=some o/\H b=none:=fun b o e=>
 ⟨I.base.keep b o (I.ok.bs b o e).1 (I.ok.bs b o e).2 (I.ok.nofr e) (I.ok.noex b o e),I.base.free b o (I.ok.bs b o e).1 (I.ok.bs b o e).2 (I.ok.noex b o e)⟩
theorem Inv.bk (I:Inv X pins σ H s):∀ b o,X.base.get? b=some o->s.heap.get? b=some o:=fun b o e=>(I.bs b o e).1
theorem Inv.mod (I:Inv X pins σ H s):Mod X.K X.mg X.base:=I.ok.mod
theorem Inv.kIn (I:Inv X pins σ H s):X.K.In s.heap:=I.ok.mod.kin.keeps I.bk
theorem Inv.lt (I:Inv X pins σ H s):X.env.locals<s.heap.objs.size:=let ⟨_,hn,_⟩:=I.loc; hn.lt
theorem Inv.sz (I:Inv X pins σ H s):X.s₀.heap.objs.size<=s.heap.objs.size:=Nat.le_trans I.ok.above (Nat.le_of_lt I.lt)
theorem Inv.nofs (I:Inv X pins σ H s) {a:Addr} (h:s.heap.objs.size<=a):a∉X.fs:=fun hb=>by
 obtain ⟨_,o,ho,_⟩:=I.ok.funs.mem hb
 exact absurd (Nat.lt_of_lt_of_le (Heap.lt_size ho) (Nat.le_trans I.sz h)) (Nat.lt_irrefl _)
theorem Inv.cne (I:Inv X pins σ H s):∀ x c,X.env.cells.lookup x=some c->c≠X.env.locals:=fun x c e z=>by
 obtain ⟨v,o,ho,hd⟩:=I.cell x c e
 obtain ⟨m,⟨o',es,ep,ho',hd',_⟩,_⟩:=I.loc
 rw [z,ho'] at ho; cases ho; rw [hd'] at hd; cases hd
theorem Inv.funs (I:Inv X pins σ H s):s.heap.FunFrames X.base X.outer:=by
 have all:∀ (l:List Env),(∀ b∈frs l,b∈X.fs)->X.s₀.heap.FunFrames X.base l->s.heap.FunFrames X.base l:=by
  intro l
  induction l with
  | nil=>intro _ _; trivial
  | cons env r ih=>
   intro hs hl
   obtain ⟨hk,⟨L,o,hf,hn,ho,hd⟩,hr⟩:=hl
   have hL:L∈X.fs:=hs L (by unfold frs; rw [List.filterMap_cons,hf]; exact List.mem_cons_self)
   obtain ⟨sl,e⟩:=I.base.slot L o ho (I.ok.frf L hL) hL fun z=>I.ok.exfs L z hL
   exact ⟨hk,⟨L,_,hf,hn,e,hd⟩,ih (fun b hb=>hs b (by unfold frs; rw [List.filterMap_cons,hf]; exact List.mem_cons_of_mem _ hb)) hr⟩
 exact all X.outer (fun _ hb=>hb) I.ok.funs
theorem Inv.stack (I:Inv X pins σ H s):s.heap.FunFrames X.base X.stack:=by
 rcases I.ok.stk with e | ⟨e,hf⟩
 . rw [e]; exact I.funs
 . rw [e]
   obtain ⟨m,hn,_⟩:=I.loc
   refine .cons (by rw [I.ok.kind]; decide) hf hn ?_ I.funs
   exact Heap.get?_none_of_le (Nat.le_trans I.ok.bsz I.ok.above)
theorem Inv.stkSub (I:Inv X pins σ H s):∀ b∈frs X.stack,b∈X.env.locals::X.fs:=fun b hb=>by
 rcases I.ok.stk with e | ⟨e,hf⟩
 . rw [e] at hb; exact List.mem_cons_of_mem _ hb
 . rw [e] at hb
   unfold frs at hb
   rw [List.filterMap_cons,hf] at hb
   exact hb
theorem Inv.stkFree (I:Inv X pins σ H s):∀ b∈frs X.stack,H b=none:=fun b hb=>by
 rcases List.mem_cons.mp (I.stkSub b hb) with e | hb
 . rw [e]; exact I.free
 . obtain ⟨_,o,ho,_⟩:=I.ok.funs.mem hb
   exact I.base.free b o ho (I.ok.frf b hb) fun z=>I.ok.exfs b z hb
theorem Inv.step {g':Array GenState} {t':Nat} {d':Drawn} {ch:List Addr} (I:Inv X pins σ H s)
 (hch:∀ b∈ch,(b∈X.ex\/X.s₀.heap.objs.size<=b)/\b≠X.env.locals/\(∀ x c,X.env.cells.lookup x=some c->c≠b)/\∀ p∈X.pn++pins,p.1≠b)
 (keep:∀ b o,b≠X.env.locals->b∉X.fs->b∉ch->s.heap.get? b=some o->H b=none->h'.get? b=some o)
 (slot:∀ b o,b≠X.env.locals->b∈X.fs->b∉ch->s.heap.get? b=some o->H b=none->∃ sl,h'.get? b=some { o with slots:=sl }) (free:∀ b o,b∉ch->s.heap.get? b=some o->H b=none->H' b=none)
 (there:∀ b o,b∉ch->s.heap.get? b=some o->∃ o',h'.get? b=some o')
 (tups:∀ b xs,H b=some (.tup xs)->H' b=some (.tup xs)) (frzs:∀ b o u,H b=some (.frz o u)->H' b=some (.frz o u)) (tbls:∀ b ps,H b=some (.tbl ps)->∃ more,H' b=some (.tbl (ps++more)))
 (ns:∀ m,s.heap.Ns X.env.locals m->h'.Ns X.env.locals m) (hok:ik X.prog X.w H' h') (hg:AllBare g'):
 Inv X pins σ H' { s with heap:=h',gens:=g',drawn:=d',toks:=t' }:=by
 have neL:∀ b o,X.s₀.heap.get? b=some o->b≠X.env.locals:=fun b o e=>Nat.ne_of_lt (Nat.lt_of_lt_of_le (Heap.lt_size e) I.ok.above)
 have neC:∀ b o,X.s₀.heap.get? b=some o->b∉X.ex->b∉ch:=fun b o e hx hb=>by
  rcases (hch b hb).1 with z | z
  . exact hx z
  . exact absurd (Nat.lt_of_lt_of_le (Heap.lt_size e) z) (Nat.lt_irrefl _)
 have cellK:∀ x c,X.env.cells.lookup x=some c->∀ v,s.heap.IsCell c v->h'.IsCell c v:=fun x c e v ⟨o,ho,hd⟩=>by
  have nch:c∉ch:=fun z=>(hch c z).2.2.1 x c e rfl
  by_cases hc:c∈X.fs
  . obtain ⟨sl,q⟩:=slot c o (I.cne x c e) hc nch ho (I.freeC x c e)
    exact ⟨_,q,hd⟩
  . exact ⟨o,keep c o (I.cne x c e) hc nch ho (I.freeC x c e),hd⟩
 refine ⟨I.ok,I.os,hg,⟨fun b o e n hb hx=>?_,fun b o e n hb hx=>?_,fun b o e n hx=>?_,fun b o e hx=>?_,fun b xs e=>tups b xs (I.base.tups b xs e),fun b o xs e=>frzs b o xs (I.base.frzs b o xs e),fun b ps e=>?_⟩,?_,fun x c e=>?_,?_,fun x c e=>?_,fun p hp=>?_,hok,I.len⟩
 . exact keep b o (neL b o e) hb (neC b o e hx) (I.base.keep b o e n hb hx) (I.base.free b o e n hx)
 . obtain ⟨sl,e1⟩:=I.base.slot b o e n hb hx
   obtain ⟨sl',e2⟩:=slot b _ (neL b o e) hb (neC b o e hx) e1 (I.base.free b o e n hx)
   exact ⟨sl',e2⟩
 . obtain ⟨o',e1⟩:=I.base.there b o e hx
   exact free b o' (neC b o e hx) e1 (I.base.free b o e n hx)
 . obtain ⟨o',e1⟩:=I.base.there b o e hx
   exact there b o' (neC b o e hx) e1
 . obtain ⟨m1,e1⟩:=I.base.tbls b ps e
   obtain ⟨m2,e2⟩:=tbls b _ e1
   exact ⟨m1++m2,by rw [e2,Array.append_assoc]⟩
 . obtain ⟨m,hn,hl⟩:=I.loc
   refine ⟨m,ns m hn,fun i x v e1 e2 e3=>?_⟩
   obtain ⟨u,r,l⟩:=hl i x v e1 e2 e3
   refine ⟨u,r,?_⟩
   rcases l with l | ⟨k,c,e,z⟩
   . exact .inl l
   . exact .inr ⟨k,c,e,cellK x c e _ z⟩
 . obtain ⟨v,z⟩:=I.cell x c e
   exact ⟨v,cellK x c e v z⟩
 . obtain ⟨m,⟨o,_,_,ho,_⟩,_⟩:=I.loc
   exact free _ o (fun z=>(hch _ z).2.1 rfl) ho I.free
 . obtain ⟨v,o,ho,hd⟩:=I.cell x c e
   exact free c o (fun z=>(hch c z).2.2.1 x c e rfl) ho (I.freeC x c e)
 . obtain ⟨e,n,ne,nf,d⟩:=I.pin p hp
   have nch:p.1∉ch:=fun z=>(hch p.1 z).2.2.2 p hp rfl
   exact ⟨keep p.1 p.2 ne nf nch e n,free p.1 p.2 nch e n,ne,nf,d⟩
theorem Inv.un {t':Nat} (I:Inv X pins σ H s) (u:Un X.fs [] H H' s.heap h') (hok:ik X.prog X.w H' h'):Inv X pins σ H' { s with heap:=h',toks:=t' }:=by
 obtain ⟨m,⟨o,es,ep,ho,r⟩,_⟩:=id I.loc
 obtain ⟨sl,hL⟩:=u.any ho I.free (by simp)
 exact I.step (g':=s.gens) (d':=s.drawn) (ch:=[]) (fun _ z=>nomatch z) (fun b o _ hb _ e n=>u.keep b o e n hb (by simp)) (fun b o _ hb _ e n=>u.slot b o e n hb (by simp)) (fun b o _ e n=>u.free b o e n (by simp)) (fun b o _ e=>u.there b o e (by simp)) u.tups u.frzs u.tbls (fun m' hm=>by
  obtain ⟨o',es',ep',ho',r'⟩:=hm
  rw [ho] at ho'; cases ho'
  exact ⟨_,es',ep',hL,r'⟩) hok I.bare
theorem Inv.call {g':Array GenState} {t':Nat} {d':Drawn} {ch:List Addr} (I:Inv X pins σ H s) (u:Un (frs X.stack) ch H H' s.heap h') (hok:ik X.prog X.w H' h') (hg:AllBare g')
 (hch:∀ b∈ch,(b∈X.ex\/X.s₀.heap.objs.size<=b)/\b≠X.env.locals/\(∀ x c,X.env.cells.lookup x=some c->c≠b)/\∀ p∈X.pn++pins,p.1≠b):
 Inv X pins σ H' { s with heap:=h',gens:=g',drawn:=d',toks:=t' }:=by
 obtain ⟨m,⟨o,es,ep,ho,r⟩,_⟩:=id I.loc
 obtain ⟨sl,hL⟩:=u.any ho I.free fun z=>(hch _ z).2.1 rfl
 exact I.step (ch:=ch) hch (fun b o hL hb hc e n=>u.keep b o e n (fun z=>(List.mem_cons.mp (I.stkSub b z)).elim hL hb) hc) (fun b o _ _ hc e n=>u.any e n hc) (fun b o hc e n=>u.free b o e n hc) (fun b o hc e=>u.there b o e hc) u.tups u.frzs u.tbls (fun m' hm=>by
  obtain ⟨o',es',ep',ho',r'⟩:=hm
  rw [ho] at ho'; cases ho'
  exact ⟨_,es',ep',hL,r'⟩) hok hg
theorem Inv.turned {t':Nat} {it:Addr} (I:Inv X pins σ H s) (k:∀ b o,b≠it->s.heap.get? b=some o->h'.get? b=some o) (hn:H it=none) (hL:it≠X.env.locals)
 (h1:it∈X.ex\/X.s₀.heap.objs.size<=it) (h2:∀ x c,X.env.cells.lookup x=some c->c≠it) (h3:∀ p∈X.pn++pins,p.1≠it):Inv X pins σ H { s with heap:=h',toks:=t' }:=by
 have nit:∀ b u,H b=some u->b≠it:=fun b u e z=>by rw [z,hn] at e; cases e
 refine I.step (g':=s.gens) (d':=s.drawn) (ch:=[it]) (fun b hb=>?_) (fun b o _ _ hc e _=>k b o (fun z=>hc (by simp [z])) e) (fun b o _ _ hc e _=>⟨o.slots,k b o (fun z=>hc (by simp [z])) e⟩) (fun _ _ _ _ n=>n)
  (fun b o hc e=>⟨o,k b o (fun z=>hc (by simp [z])) e⟩) (fun _ _ e=>e) (fun _ _ _ e=>e) (fun b ps e=>⟨#[],by rw [e]; simp⟩) (fun m hm=>?_) (fun b u e=>?_) I.bare
 . have e:b=it:=by simpa using hb
   subst e
   exact ⟨h1,hL,h2,h3⟩
 . obtain ⟨o,es,ep,ho,r⟩:=hm
   exact ⟨o,es,ep,k _ o (Ne.symm hL) ho,r⟩
 . refine (I.hok b u e).stay (fun c v hc q=>k c v ?_ q) (fun _ q=>q) fun _ _ q=>q
   rcases hc with z | z
   . rw [z]; exact nit b u e
   . exact nit c _ z
theorem Inv.tok (I:Inv X pins σ H s) (t:Nat):Inv X pins σ H { s with toks:=t }:=I.un (h':=s.heap) (t':=t) Un.refl I.hok
theorem Inv.kept {t':Nat} (I:Inv X pins σ H s) (k:∀ b u,s.heap.get? b=some u->h'.get? b=some u):Inv X pins σ H { s with heap:=h',toks:=t' }:=I.un (Un.kept k) (I.hok.kept k)
theorem Inv.laid {a:Addr} {o:HO} {t':Nat} (I:Inv X pins σ H s) (k:∀ b u,s.heap.get? b=some u->h'.get? b=some u) (hp:s.heap.objs.size<=a) (new:fD X.prog X.w (upd H a o) h' a o):
 Inv X pins σ (upd H a o) { s with heap:=h',toks:=t' }:=I.un (Un.laid k hp (I.hok.fresh hp)) (I.hok.laid k hp new)
theorem Inv.write {x e:Addr} {o:HO} {t':Nat} (I:Inv X pins σ H s) (mu:Ht (H x)) (he:e=x\/H e=some (.own x)) (k:∀ b u,b≠e->s.heap.get? b=some u->h'.get? b=some u) (heo:∃ u,h'.get? e=some u)
 (new:fD X.prog X.w (upd H x o) h' x o):Inv X pins σ (upd H x o) { s with heap:=h',toks:=t' }:=I.un (Un.write mu he k heo) (I.hok.write mu he k heo new)
theorem Inv.pins_of {pins':List (Addr×Obj)} (I:Inv X pins σ H s) (h:∀ p∈pins',s.heap.get? p.1=some p.2/\H p.1=none/\p.1≠X.env.locals/\p.1∉X.fs/\∀ v,p.2.data≠.cell v):Inv X pins' σ H s:=
 ⟨I.ok,I.os,I.bare,I.base,I.loc,I.cell,I.free,I.freeC,fun p hp=>(List.mem_append.mp hp).elim (fun z=>I.pin p (List.mem_append_left _ z)) (h p),I.hok,I.len⟩
theorem Aj {N:List Str} (hN:N.Nodup) {i j:Nat} {x:Str} (a:N[i]?=some x) (b:N[j]?=some x):i=j:=by
 obtain ⟨h1,e1⟩:=List.getElem?_eq_some_iff.mp a
 obtain ⟨h2,e2⟩:=List.getElem?_eq_some_iff.mp b
 exact (List.getElem_inj hN).mp (e1.trans e2.symm)
theorem yu {M:Model} {i:Nat} {x:Str} {v:V} {u:Value} {Q:Unit->Shared->Prop} (I:Inv X pins σ H s) (hN:X.N.Nodup) (hi:X.N[i]?=some x) (hx:Loc X.env.scope x) (r:RelV v u)
 (h:∀ s',Inv X pins (σ.set i (some v)) H s'->(∃ a,Heap.SameBut a s.heap s'.heap/\(a=X.env.locals\/X.env.cells.lookup x=some a))->Q () s') (hf:X.fn x=true\/X.env.scope.names.lookup x=some .local:=by first | exact .inl rfl | exact .inr rfl | assumption):wpAny M A (storeName X.env x u) Q E s:=by
 obtain ⟨m,hn,hl⟩:=id I.loc
 have hcls:(X.env.scope.kind==.class||(X.env.scope.kind==.module&&X.env.locals != X.env.globals))=false:=by rw [I.ok.kind]; rfl
 have hiσ:i<σ.length:=by rw [I.len]; exact (List.getElem?_eq_some_iff.mp hi).1
 have cne:=I.cne
 have tracked:∀ {a:Addr} {h':Heap},(∃ o,s.heap.get? a=some o/\H a=none)->Heap.SameBut a s.heap h'->ik X.prog X.w H h':=fun {a h'} ha hs b ob e=>by
  obtain ⟨_,_,hfree⟩:=ha
  refine (I.hok b ob e).stay (fun c w' hc q=>(hs.2 c ?_).trans q) (fun _ q=>q) fun _ _ q=>q
  rintro rfl
  rcases hc with rfl | hc
  . rw [hfree] at e; cases e
  . rw [hfree] at hc; cases hc
 rcases hx with hk | hk
 . refine wpAny_storeName_local hk hn (fun h' hn' hs=>?_) hcls
   obtain ⟨oL,_,_,hoL,_⟩:=id hn
   refine h _ ⟨I.ok,I.os,I.bare,⟨fun b o e n hb hx=>?_,fun b o e n hb hx=>?_,I.base.free,fun b o e hx=>?_,I.base.tups,I.base.frzs,I.base.tbls⟩,⟨_,hn',fun j y v' e1 e2 e3=>?_⟩,fun y c e=>?_,I.free,I.freeC,fun p hp=>?_,tracked ⟨oL,hoL,I.free⟩ hs,by simpa using I.len⟩ ⟨_,hs,.inl rfl⟩
   . exact (hs.2 b (Nat.ne_of_lt (Nat.lt_of_lt_of_le (Heap.lt_size e) I.ok.above))).trans (I.base.keep b o e n hb hx)
   . obtain ⟨sl,e1⟩:=I.base.slot b o e n hb hx
     exact ⟨sl,(hs.2 b (Nat.ne_of_lt (Nat.lt_of_lt_of_le (Heap.lt_size e) I.ok.above))).trans e1⟩
   . obtain ⟨o',e1⟩:=I.base.there b o e hx
     exact ⟨o',(hs.2 b (Nat.ne_of_lt (Nat.lt_of_lt_of_le (Heap.lt_size e) I.ok.above))).trans e1⟩
   . by_cases hj:j=i
     . subst hj
       rw [hi] at e1; cases e1
       rw [List.getElem?_set_self hiσ] at e2
       cases e2
       exact ⟨u,r,.inl ⟨hk,by simp⟩⟩
     . rw [List.getElem?_set_ne (Ne.symm hj)] at e2
       obtain ⟨u',r',q⟩:=hl j y v' e1 e2 e3
       refine ⟨u',r',?_⟩
       rcases q with ⟨k,e⟩ | ⟨k,c,e,z⟩
       . refine .inl ⟨k,?_⟩
         have:y≠x:=fun e=>hj (Aj hN e1 (e▸hi))
         simp [this,e]
       . exact .inr ⟨k,c,e,z.sameBut hs (cne y c e)⟩
   . obtain ⟨w',z⟩:=I.cell y c e
     exact ⟨w',z.sameBut hs (cne y c e)⟩
   . obtain ⟨e,n,ne,nf,d⟩:=I.pin p hp
     exact ⟨(hs.2 p.1 ne).trans e,n,ne,nf,d⟩
 . have hfn:X.fn x=true:=by
    rcases hf with z | z
    . exact z
    . rw [z] at hk; cases hk
   obtain ⟨c,hc⟩:=I.ok.has x (.inl hk)
   obtain ⟨w',z⟩:=I.cell x c hc
   refine wpAny_storeName_cell I.ok.kind hk hc z (fun h' hc' hs=>?_)
   obtain ⟨oc,hoc,hocd⟩:=id z
   refine h { s with heap:=h' } ⟨I.ok,I.os,I.bare,⟨fun b o e n hb hx=>?_,fun b o e n hb hx=>?_,I.base.free,fun b o e hx=>?_,I.base.tups,I.base.frzs,I.base.tbls⟩,⟨m,hn.sameBut hs (Ne.symm (cne x c hc)),fun j y v' e1 e2 e3=>?_⟩,fun y c' e=>?_,I.free,I.freeC,fun p hp=>?_,tracked ⟨oc,hoc,I.freeC x c hc⟩ hs,by simpa using I.len⟩ ⟨c,hs,.inr hc⟩
   . exact (hs.2 b (Nat.ne_of_lt (Nat.lt_of_lt_of_le (Heap.lt_size e) (I.ok.cab x c hfn hc)))).trans (I.base.keep b o e n hb hx)
   . obtain ⟨sl,e1⟩:=I.base.slot b o e n hb hx
     exact ⟨sl,(hs.2 b (Nat.ne_of_lt (Nat.lt_of_lt_of_le (Heap.lt_size e) (I.ok.cab x c hfn hc)))).trans e1⟩
   . obtain ⟨o',e1⟩:=I.base.there b o e hx
     exact ⟨o',(hs.2 b (Nat.ne_of_lt (Nat.lt_of_lt_of_le (Heap.lt_size e) (I.ok.cab x c hfn hc)))).trans e1⟩
   . by_cases hj:j=i
     . subst hj
       rw [hi] at e1; cases e1
       rw [List.getElem?_set_self hiσ] at e2
       cases e2
       exact ⟨u,r,.inr ⟨.inl hk,c,hc,hc'⟩⟩
     . rw [List.getElem?_set_ne (Ne.symm hj)] at e2
       obtain ⟨u',r',q⟩:=hl j y v' e1 e2 e3
       refine ⟨u',r',?_⟩
       rcases q with q | ⟨k,c',e,z'⟩
       . exact .inl q
       . refine .inr ⟨k,c',e,z'.sameBut hs ?_⟩
         rintro rfl
         exact hj (Aj hN e1 (I.ok.inj _ _ _ e hc▸hi))
   . by_cases hcc:c'=c
     . subst hcc; exact ⟨_,hc'⟩
     . obtain ⟨w2,z2⟩:=I.cell y c' e
       exact ⟨w2,z2.sameBut hs hcc⟩
   . obtain ⟨e,n,ne,nf,d⟩:=I.pin p hp
     refine ⟨(hs.2 p.1 ?_).trans e,n,ne,nf,d⟩
     intro q
     rw [q,hoc] at e
     have q':oc=p.2:=Option.some.inj e
     exact d w' (by rw [← q']; exact hocd)
theorem Ak {M:Model} {i:Nat} {x:Str} {v:V} {u:Value} {Q:Unit->Shared->Prop} (I:Inv X pins σ H s) (hN:X.N.Nodup) (hi:X.N[i]?=some x) (hx:Loc X.env.scope x) (r:RelV v u)
 (h:∀ s',Inv X pins (σ.set i (some v)) H s'->Q () s') (hf:X.fn x=true\/X.env.scope.names.lookup x=some .local:=by first | exact .inl rfl | exact .inr rfl | assumption):wpAny M A (storeName X.env x u) Q E s:=
 yu I hN hi hx r (fun s' I' _=>h s' I') hf
theorem Inv.call' {s':Shared} {ch:List Addr} (I:Inv X pins σ H s) (ho:s'.os=s.os) (u:Un (frs X.stack) ch H H' s.heap s'.heap) (hok:ik X.prog X.w H' s'.heap) (hg:AllBare s'.gens)
 (hch:∀ b∈ch,(b∈X.ex\/X.s₀.heap.objs.size<=b)/\b≠X.env.locals/\(∀ x c,X.env.cells.lookup x=some c->c≠b)/\∀ p∈X.pn++pins,p.1≠b):Inv X pins σ H' s':=by
 obtain ⟨h',g',d',t',o'⟩:=s'
 have e:o'=s.os:=ho
 subst e
 exact I.call (g':=g') (t':=t') (d':=d') u hok hg hch
end
noncomputable abbrev XK:=Value->Option Addr->Hp->Prop
noncomputable abbrev St:=List (Option V)
noncomputable abbrev VK:=V->Hp->Prop
noncomputable abbrev TE:=St->Hp->VK->Prop
noncomputable abbrev TT:=St->Hp->(Bool->Hp->Prop)->Prop
noncomputable abbrev TA:=St->Hp->(List V->Hp->Prop)->Prop
structure Ends where
 nx:St->Hp->Prop
 rt:VK
 bk:St->Hp->Prop:=fun _ _=>False
 ct:St->Hp->Prop:=fun _ _=>False
noncomputable abbrev TS:=Ends->St->Hp->Prop
noncomputable def EP (X:Cx) (pins:List (Addr×Obj)) (σ:St) (Q:VK) (u:Value) (s':Shared):Prop:=∃ v H',Inv X pins σ H' s'/\RelV v u/\Q v H'
noncomputable def TP (X:Cx) (pins:List (Addr×Obj)) (σ:St) (Q:Bool->Hp->Prop) (b:Bool) (s':Shared):Prop:=∃ H',Inv X pins σ H' s'/\Q b H'
noncomputable def AP (X:Cx) (pins:List (Addr×Obj)) (σ:St) (Q:List V->Hp->Prop) (us:List Value) (s':Shared):Prop:=∃ vs H',Inv X pins σ H' s'/\Vals vs us/\Q vs H'
noncomputable def SP (X:Cx) (pins:List (Addr×Obj)) (D:Ends) (f:Flow) (s':Shared):Prop:=
 match f with
 | .next=>∃ σ' H',Inv X pins σ' H' s'/\D.nx σ' H'
 | .brk=>∃ σ' H',Inv X pins σ' H' s'/\D.bk σ' H'
 | .cont=>∃ σ' H',Inv X pins σ' H' s'/\D.ct σ' H'
 | .ret u=>∃ v σ' H',Inv X pins σ' H' s'/\RelV v u/\D.rt v H'
noncomputable def PE (X:Cx) (e:Expr) (t:TE):Prop:=
 ∀ (pins:List (Addr×Obj)) (s:Shared) (σ:St) (H:Hp) (Q:VK),Inv X pins σ H s->t σ H Q->wpAny (model X.prog X.w) X.A (eval e X.env) (EP X pins σ Q) X.xe s
noncomputable def PT (X:Cx) (e:Expr) (t:TT):Prop:=
 ∀ (pins:List (Addr×Obj)) (s:Shared) (σ:St) (H:Hp) (Q:Bool->Hp->Prop),Inv X pins σ H s->t σ H Q->wpAny (model X.prog X.w) X.A (isTrue e X.env (eval e X.env)) (TP X pins σ Q) X.xe s
noncomputable def PW (X:Cx) (e:Expr) (t:TT):Prop:=
 ∀ (whole:Sem Value) (pins:List (Addr×Obj)) (s:Shared) (σ:St) (H:Hp) (Q:Bool->Hp->Prop),Inv X pins σ H s->t σ H Q->wpAny (model X.prog X.w) X.A (isTrue e X.env whole) (TP X pins σ Q) X.xe s
theorem PW.pt {X:Cx} {e:Expr} {t:TT} (h:PW X e t):PT X e t:=h _
noncomputable def PA (X:Cx) (es:List Expr) (t:TA):Prop:=
 ∀ (pos:Pos) (pins:List (Addr×Obj)) (s:Shared) (σ:St) (H:Hp) (Q:List V->Hp->Prop),Inv X pins σ H s->t σ H Q->wpAny (model X.prog X.w) X.A (spliced (backTo pos (starEach es X.env))) (AP X pins σ Q) X.xe s
noncomputable def PS (X:Cx) (st:Stmt) (t:TS):Prop:=
 ∀ (pins:List (Addr×Obj)) (s:Shared) (σ:St) (H:Hp) (D:Ends),Inv X pins σ H s->t D σ H->wpAny (model X.prog X.w) X.A (exec st X.env) (SP X pins D) X.xe s
noncomputable def iV (X:Cx) (st:List Stmt) (t:TS):Prop:=
 ∀ (pins:List (Addr×Obj)) (s:Shared) (σ:St) (H:Hp) (D:Ends),Inv X pins σ H s->t D σ H->wpAny (model X.prog X.w) X.A (execs st X.env) (SP X pins D) X.xe s
theorem cu {α:Type} {t:Sem α} {Q Q':α->Shared->Prop} {M:Model} (h:wpAny M A t Q E s) (hQ:∀ a s,Q a s->Q' a s):wpAny M A t Q' E s:=wpAny_mono h hQ fun _ _ x=>x
section
variable {X:Cx}
theorem bin {a b:Expr} {ta tb:TE} (ha:PE X a ta) (hb:PE X b tb) {σ:St} {H:Hp} {R:V->V->Hp->Prop} (I:Inv X pins σ H s) (h:ta σ H fun x H1=>tb σ H1 fun y H2=>R x y H2)
 {α:Type} {Q:α->Shared->Prop} {f:Value->Value->Sem α}
 (hf:∀ v u s2 x y H2,Inv X pins σ H2 s2->RelV x v->RelV y u->R x y H2->wpAny (model X.prog X.w) X.A (f v u) Q X.xe s2):
 wpAny (model X.prog X.w) X.A (eval a X.env) (fun v s₁=>wpAny (model X.prog X.w) X.A (eval b X.env) (fun u s₂=>wpAny (model X.prog X.w) X.A (f v u) Q X.xe s₂) X.xe s₁) X.xe s:=by
 refine cu (ha pins s σ H _ I h) fun v s1 ⟨x,H1,I1,r1,q1⟩=>?_
 refine cu (hb pins s1 σ H1 _ I1 q1) fun u s2 ⟨y,H2,I2,r2,q2⟩=>?_
 exact hf v u s2 x y H2 I2 r1 r2 q2
noncomputable def oO (i:Nat):TE:=fun σ H Q=>∃ v,σ[i]?=some (some v)/\Q v H
noncomputable def tC (v:V):TE:=fun _ H Q=>Q v H
theorem QV {i:Nat} {x:Str} {pos:Pos} (hN:X.N[i]?=some x) (hv:Hv X.env.scope x) (hd:(x==("__debug__" : Str))=false:=by decide) (hcd:(x==("__classdict__" : Str))=false:=by decide):PE X (.Name x pos) (oO i):=by
 intro pins s σ H Q I h
 obtain ⟨v,e,h⟩:=h
 obtain ⟨m,hn,hl⟩:=I.loc
 obtain ⟨u,r,l⟩:=hl i x v hN e hv
 have fin:EP X pins σ Q u s:=⟨v,H,I,r,h⟩
 rcases l with ⟨hk,hm⟩ | ⟨hk,c,hc,hcell⟩
 . exact wpAny_Name (wpAny_loadName_local I.ok.kind hk hn hm fin) hd
 . rcases hk with hk | hk
   . exact wpAny_Name (wpAny_loadName_cell I.ok.kind hk hc hcell fin) hd
   . exact wpAny_Name (wpAny_loadName_free I.ok.kind hk hc hcell fin hcd) hd
theorem QW {i j pos}:PE X (.Constant (.int i) j pos) (tC (.int i)):=fun _ _ _ H _ I h=>wpAny_Constant_int ⟨.int i,H,I.tok _,⟨_,rfl⟩,h⟩
theorem zP {b j pos}:PE X (.Constant (.bool b) j pos) (tC (.bl b)):=fun _ _ _ H _ I h=>Constant_bool ⟨.bl b,H,I,rfl,h⟩
theorem QX {j pos}:PE X (.Constant .none j pos) (tC .non):=fun _ _ _ H _ I h=>Constant_none ⟨.non,H,I,rfl,h⟩
theorem QZ {x j pos}:PE X (.Constant (.str x) j pos) (tC (.str x)):=fun _ _ _ H _ I h=>Calls.Constant_str ⟨.str x,H,I.tok _,⟨_,rfl⟩,h⟩
noncomputable def Gl (X:Cx) (x:Str):Prop:=X.env.kindOf x=some .globalImplicit
theorem Ef {σ:St} {H:Hp} {x:Str} {u:Value} {pos:Pos} {Q:Value->Shared->Prop} (I:Inv X pins σ H s) (hg:Gl X x) (hm:X.mg x=some u) (h:Q u s)
 (hd:(x==("__debug__" : Str))=false:=by decide):wpAny (model X.prog X.w) X.A (eval (.Name x pos) X.env) Q E s:=
 Calls.Name_function_global I.ok.kind hg (Calls.loadGlobal_global (by rw [I.ok.glob]; exact I.mod.glob.keeps I.bk) hm h) hd
theorem sO {σ:St} {H:Hp} {x:Str} {u:Value} {pos:Pos} {Q:Value->Shared->Prop} (I:Inv X pins σ H s) (hg:Gl X x) (hm:X.mg x=none) (hv:bootBuiltins x=some u) (h:Q u s)
 (hn:x ≠ "__name__" := by decide) (hd:(x==("__debug__" : Str))=false:=by decide):wpAny (model X.prog X.w) X.A (eval (.Name x pos) X.env) Q E s:=by
 obtain ⟨mb,h1,h2⟩:=I.mod.blt
 exact Calls.Name_function_global I.ok.kind hg (Calls.loadGlobal_builtin (by rw [I.ok.glob]; exact I.mod.glob.keeps I.bk) hm (by rw [I.ok.blt]; exact h1.keeps I.bk) ((h2 x hn).trans hv) h) hd
theorem Oj {x:Str} {v:V} {u:Value} {pos:Pos} (hg:Gl X x) (hm:X.mg x=none) (hv:bootBuiltins x=some u) (r:RelV v u) (hn:x ≠ "__name__" := by decide) (hd:(x==("__debug__" : Str))=false:=by decide):PE X (.Name x pos) (tC v):=
 fun _ _ _ H _ I h=>sO I hg hm hv ⟨v,H,I,r,h⟩ hn hd
variable {a b:Expr} {ta tb:TE} {pos:Pos}
variable {tA tB':TT} {rest:List Expr}
noncomputable def Q0 (t u:TT):TT:=fun σ H Q=>t σ H fun c H1=>if c=true then u σ H1 Q else Q false H1
noncomputable def Vb (t u:TT):TT:=fun σ H Q=>t σ H fun c H1=>if c=true then Q true H1 else u σ H1 Q
noncomputable def Vn (t:TT):TT:=fun σ H Q=>t σ H fun c H1=>Q (!c) H1
theorem Ol (ha:PT X a tA):PW X (.BoolOp .And [a] pos) tA:=by
 intro wh pins s σ H Q I h
 refine isTrue_and (cu (ha pins s σ H Q I h) fun c s1 e=>?_)
 cases c with
 | true=>exact isTrue_and_nil e
 | false=>exact e
theorem Q4 (ha:PT X a tA):PW X (.BoolOp .Or [a] pos) tA:=by
 intro wh pins s σ H Q I h
 refine isTrue_or (cu (ha pins s σ H Q I h) fun c s1 e=>?_)
 cases c with
 | false=>exact isTrue_or_nil e
 | true=>exact e
theorem Q5 (ha:PT X a tA) (hb:PW X (.BoolOp .And (b::rest) pos) tB'):PW X (.BoolOp .And (a::b::rest) pos) (Q0 tA tB'):=by
 intro wh pins s σ H Q I h
 refine isTrue_and (cu (ha pins s σ H _ I h) fun c s1 ⟨H1,I1,q1⟩=>?_)
 cases c with
 | true=>exact hb wh pins s1 σ H1 Q I1 q1
 | false=>exact ⟨H1,I1,q1⟩
theorem Uc (ha:PT X a tA) (hb:PW X (.BoolOp .Or (b::rest) pos) tB'):PW X (.BoolOp .Or (a::b::rest) pos) (Vb tA tB'):=by
 intro wh pins s σ H Q I h
 refine isTrue_or (cu (ha pins s σ H _ I h) fun c s1 ⟨H1,I1,q1⟩=>?_)
 cases c with
 | true=>exact ⟨H1,I1,q1⟩
 | false=>exact hb wh pins s1 σ H1 Q I1 q1
theorem Q6 (ha:PT X a tA):PT X (.UnaryOp .Not a pos) (Vn tA):=by
 intro pins s σ H Q I h
 exact isTrue_not (ha pins s σ H (fun c H1=>Q (!c) H1) I h)
end
noncomputable def bK (K:FG) (H:Hp) (a:Addr) (xs:List V):Prop:=
 Rd H a (.lst xs)\/
  ∃ (o:Obj) (its:Array Value) (n:Nat),K.lookup a=some o/\o.cls=.type "list" /\ o.dict=none/\o.data=.seq its n/\its.size<=sizeLine/\Vals xs its.toList
noncomputable def cB (K:FG) (H:Hp) (a:Addr) (xs:List V):Prop:=
 Rd H a (.tup xs)\/
  ∃ (o:Obj) (its:Array Value) (n:Nat),K.lookup a=some o/\o.cls=.type "tuple" /\ o.data=.seq its n/\its.size<=sizeLine/\Vals xs its.toList
noncomputable def Vo:Value->Option V
 | .none=>some .non
 | .bool b=>some (.bl b)
 | .int i _=>some (.int i)
 | .str x _=>some (.str x)
 | .bytes b _=>some (.byt b)
 | .float b _=>some (.flt b)
 | .ref a=>some (.ref a)
 | .type n=>some (.ty n)
 | _=>none
theorem RelV.abs {x:V} {u:Value} (r:RelV x u):Vo u=some x:=by
 cases x with
 | non=>cases r; rfl
 | bl _=>cases r; rfl
 | int _=>obtain ⟨t,rfl⟩:=r; rfl
 | str _=>obtain ⟨t,rfl⟩:=r; rfl
 | byt _=>obtain ⟨t,rfl⟩:=r; rfl
 | flt _=>obtain ⟨t,rfl⟩:=r; rfl
 | ref _=>cases r; rfl
 | ty _=>cases r; rfl
theorem RelV.inj {x y:V} {u:Value} (r:RelV x u) (q:RelV y u):x=y:=Option.some.inj (r.abs.symm.trans q.abs)
theorem Vals.inj:∀ {xs ys:List V} {us:List Value},Vals xs us->Vals ys us->xs=ys
 | _,_,_,.nil,.nil=>rfl
 | _,_,_,.cons r t,.cons r' t'=>by rw [r.inj r',Vals.inj t t']
section
variable {X:Cx} {pins:List (Addr×Obj)} {σ:St} {H:Hp} {s:Shared} {a:Addr} {xs ys:List V}
theorem bK.of {K:FG} (h:H a=some (.lst xs)):bK K H a xs:=.inl (.inl h)
theorem cB.of {K:FG} (h:H a=some (.tup xs)):cB K H a xs:=.inl (.inl h)
theorem Inv.list (I:Inv X pins σ H s) (h:bK X.K H a xs):∃ its:List Value,Vals xs its/\PlainL s.heap a its.toArray/\xs.length<=sizeLine:=by
 rcases h with h | ⟨o,its,n,hk,hc,hd,hs,hz,r⟩
 . obtain ⟨z,its,n,r,e⟩:=h.ok I.hok
   exact ⟨its,r,⟨_,n,e,rfl,rfl,rfl⟩,z⟩
 . refine ⟨its.toList,r,⟨o,n,I.kIn a o hk,hc,hd,by simpa using hs⟩,?_⟩
   have e:=r.length
   simp only [Array.length_toList] at e
   omega
theorem Inv.tuple (I:Inv X pins σ H s) (h:cB X.K H a xs):∃ its:List Value,Vals xs its/\IsTup s.heap a its.toArray/\xs.length<=sizeLine:=by
 rcases h with h | ⟨o,its,n,hk,hc,hs,hz,r⟩
 . obtain ⟨z,its,r,p⟩:=h.ok I.hok
   exact ⟨its,r,p,z⟩
 . refine ⟨its.toList,r,⟨o,I.kIn a o hk,hc,n,by simpa using hs⟩,?_⟩
   have e:=r.length
   simp only [Array.length_toList] at e
   omega
theorem Inv.list_inj (I:Inv X pins σ H s) (h:bK X.K H a xs) (h':bK X.K H a ys):xs=ys:=by
 obtain ⟨its,r,⟨o,n,e,_,_,d⟩,_⟩:=I.list h
 obtain ⟨its',r',⟨o',n',e',_,_,d'⟩,_⟩:=I.list h'
 rw [e] at e'; cases e'
 rw [d] at d'
 injection d' with d1 _
 have:its=its':=by simpa using congrArg Array.toList d1
 subst this
 exact r.inj r'
theorem Inv.tuple_inj (I:Inv X pins σ H s) (h:cB X.K H a xs) (h':cB X.K H a ys):xs=ys:=by
 obtain ⟨its,r,⟨o,e,_,n,d⟩,_⟩:=I.tuple h
 obtain ⟨its',r',⟨o',e',_,n',d'⟩,_⟩:=I.tuple h'
 rw [e] at e'; cases e'
 rw [d] at d'
 injection d' with d1 _
 have:its=its':=by simpa using congrArg Array.toList d1
 subst this
 exact r.inj r'
end
noncomputable abbrev Cx.wish (X:Cx) (E:Value->Shared->Prop):Cx:={ X with xe:=E }
noncomputable abbrev Cx.nox (X:Cx):Cx:=X.wish fun _ _=>False
theorem Cx.Ok.wish {X:Cx} (ok:X.Ok) (E:Value->Shared->Prop):(X.wish E).Ok:=
 ⟨ok.mod,ok.kind,ok.glob,ok.blt,ok.above,ok.inj,ok.has,ok.cab,ok.hd,ok.frames,ok.stk,ok.exf,ok.bs,ok.bsz,ok.noex,ok.exfs,ok.funs,ok.frf⟩
theorem Cx.Ok.unwish {X:Cx} (ok:(X.wish E).Ok):X.Ok:=
 ⟨ok.mod,ok.kind,ok.glob,ok.blt,ok.above,ok.inj,ok.has,ok.cab,ok.hd,ok.frames,ok.stk,ok.exf,ok.bs,ok.bsz,ok.noex,ok.exfs,ok.funs,ok.frf⟩
section
variable {X:Cx} {pins:List (Addr×Obj)} {σ:St} {H:Hp} {s:Shared} {E:Value->Shared->Prop}
theorem Inv.wish (I:Inv X pins σ H s) (E:Value->Shared->Prop):Inv (X.wish E) pins σ H s:=⟨I.ok.wish E,I.os,I.bare,I.base,I.loc,I.cell,I.free,I.freeC,I.pin,I.hok,I.len⟩
theorem Inv.unwish (I:Inv (X.wish E) pins σ H s):Inv X pins σ H s:=⟨I.ok.unwish,I.os,I.bare,I.base,I.loc,I.cell,I.free,I.freeC,I.pin,I.hok,I.len⟩
theorem SP.unwish {D:Ends} {f:Flow} {s':Shared} (h:SP (X.wish E) pins D f s'):SP X pins D f s':=by
 cases f with
 | next=>obtain ⟨σ',H',I,q⟩:=h; exact ⟨σ',H',I.unwish,q⟩
 | brk=>obtain ⟨σ',H',I,q⟩:=h; exact ⟨σ',H',I.unwish,q⟩
 | cont=>obtain ⟨σ',H',I,q⟩:=h; exact ⟨σ',H',I.unwish,q⟩
 | ret u=>obtain ⟨v,σ',H',I,r,q⟩:=h; exact ⟨v,σ',H',I.unwish,r,q⟩
theorem iV.nox {st:List Stmt} {t:TS} (h:iV X.nox st t):iV X st t:=fun pins s σ H D I hw=>
 wpAny_mono (h pins s σ H D (I.wish _) hw) (fun _ _ q=>q.unwish) fun _ _ z=>False.elim z
end
section
variable {X:Cx} {st:Stmt} {rest:List Stmt} {t u:TS} {e:Expr} {te:TE} {pos:Pos}
noncomputable def Ud:TS:=fun D σ H=>D.nx σ H
noncomputable def Vp (t u:TS):TS:=fun D σ H=>t { D with nx:=u D } σ H
theorem Om:iV X [] Ud:=fun _ _ σ H _ I h=>wpAny_execs_nil ⟨σ,H,I,h⟩
theorem Km (h1:PS X st t) (h2:iV X rest u):iV X (st::rest) (Vp t u):=by
 intro pins s σ H D I h
 refine wpAny_execs_cons (cu (h1 pins s σ H { D with nx:=u D } I h) fun f s1 q=>?_)
 cases f with
 | next=>
  obtain ⟨σ',H',I',q⟩:=q
  exact h2 pins s1 σ' H' D I' q
 | ret v=>exact q
 | brk=>exact q
 | cont=>exact q
theorem Oo (h1:PS X st t):iV X [st] t:=by
 intro pins s σ H D I h
 refine wpAny_execs_cons (cu (h1 pins s σ H D I h) fun f s1 q=>?_)
 cases f with
 | next=>exact wpAny_execs_nil q
 | ret v=>exact q
 | brk=>exact q
 | cont=>exact q
theorem Inv.quiet {σ:St} {H:Hp} (I:Inv X pins σ H s):interactive X.env=false:=by simp [interactive,I.ok.kind]
noncomputable def zQ (te:TE):TS:=fun D σ H=>te σ H fun _ H1=>D.nx σ H1
theorem mK (he:PE X e te) (hs:swapsWith e none pos.line X.env=pure false:=by rfl):PS X (.Expr e pos) (zQ te):=by
 intro pins s σ H D I h
 exact wpAny_Expr_any (cu (he pins s σ H _ I h) fun v s1 ⟨x,H1,I1,r1,q1⟩=>⟨σ,H1,I1,q1⟩) I.quiet hs
noncomputable def Vq (te:TE):TS:=fun D σ H=>te σ H D.rt
theorem Hw (he:PE X e te):PS X (.Return (some e) pos) (Vq te):=by
 intro pins s σ H D I h
 exact wpAny_Return_some (cu (he pins s σ H _ I h) fun v s1 ⟨x,H1,I1,r1,q1⟩=>⟨x,σ,H1,I1,r1,q1⟩)
noncomputable def Vr (c:TT) (t u:TS):TS:=fun D σ H=>c σ H fun b H1=>if b=true then t D σ H1 else u D σ H1
theorem Ue {c:Expr} {a b:List Stmt} {tc:TT} (hc:PT X c tc) (ha:iV X a t) (hb:iV X b u):PS X (.If c a b pos) (Vr tc t u):=by
 intro pins s σ H D I h
 refine wpAny_If (cu (hc pins s σ H _ I h) fun d s1 ⟨H1,I1,q1⟩=>?_)
 cases d with
 | true=>exact ha pins s1 σ H1 D I1 q1
 | false=>exact hb pins s1 σ H1 D I1 q1
end
noncomputable abbrev TG:=V->St->Hp->(St->Hp->Prop)->Prop
noncomputable abbrev sE:=List V->St->Hp->(St->Hp->Prop)->Prop
noncomputable def PG (X:Cx) (target:Expr) (t:TG):Prop:=
 ∀ (pins:List (Addr×Obj)) (s:Shared) (σ:St) (H:Hp) (v:V) (u:Value) (Q:St->Hp->Prop),Inv X pins σ H s->RelV v u->t v σ H Q->
  wpAny (model X.prog X.w) X.A (assign target X.env u) (fun _ s'=>∃ σ' H',Inv X pins σ' H' s'/\Q σ' H') X.xe s
noncomputable def Hx (X:Cx) (ts:List Expr) (t:sE):Prop:=
 ∀ (pins:List (Addr×Obj)) (s:Shared) (σ:St) (H:Hp) (vs:List V) (us:List Value) (Q:St->Hp->Prop),Inv X pins σ H s->Vals vs us->t vs σ H Q->
  wpAny (model X.prog X.w) X.A (assignInOrder ((assignEach ts X.env).map (·.2)) us) (fun _ s'=>∃ σ' H',Inv X pins σ' H' s'/\Q σ' H') X.xe s
noncomputable abbrev Ko:=V->V->V->Hp->(Hp->Prop)->Prop
noncomputable def Kp (X:Cx) (t:Ko):Prop:=
 ∀ (pins:List (Addr×Obj)) (s:Shared) (σ:St) (H:Hp) (o i v:V) (ov iv u:Value) (Q:Hp->Prop),Inv X pins σ H s->RelV o ov->RelV i iv->RelV v u->t o i v H Q->
  wpAny (model X.prog X.w) X.A (setItem ov iv u) (fun _ s'=>∃ H',Inv X pins σ H' s'/\Q H') X.xe s
section
variable {X:Cx} {pos:Pos}
noncomputable def zR (i:Nat):TG:=fun v σ H Q=>Q (σ.set i (some v)) H
theorem Oq {i:Nat} {x:Str} (hN:X.N.Nodup) (hi:X.N[i]?=some x) (hx:Loc X.env.scope x) (hf:X.fn x=true\/X.env.scope.names.lookup x=some .local:=by first | exact .inl rfl | exact .inr rfl | assumption):PG X (.Name x pos) (zR i):=by
 intro pins s σ H v u Q I r h
 exact wpAny_assign_Name (Ak I hN hi hx r (fun s' I'=>⟨_,H,I',h⟩) hf)
noncomputable def Q7:sE:=fun vs σ H Q=>vs=[]/\Q σ H
noncomputable def M3 (t:TG) (u:sE):sE:=fun vs σ H Q=>∃ v r,vs=v::r/\t v σ H fun σ' H'=>u r σ' H' Q
theorem jx:Hx X [] Q7:=by
 intro pins s σ H vs us Q I r h
 obtain ⟨e,h⟩:=h
 subst e
 cases r
 exact assignInOrder_nil ⟨σ,H,I,h⟩
theorem bT {e:Expr} {es:List Expr} {t:TG} {u:sE} (h1:PG X e t) (h2:Hx X es u)
 (hs:(assignEach (e::es) X.env).map (·.2)=assign e X.env::(assignEach es X.env).map (·.2):=by rfl):Hx X (e::es) (M3 t u):=by
 intro pins s σ H vs us Q I r h
 obtain ⟨v,vr,e1,h⟩:=h
 subst e1
 cases r with
 | cons r rr=>
  rw [hs]
  refine assignInOrder_cons (cu (h1 pins s σ H _ _ _ I r h) fun _ s1 ⟨σ1,H1,I1,q1⟩=>?_)
  exact h2 pins s1 σ1 H1 _ _ Q I1 rr q1
noncomputable def Vs (K:FG) (n:Nat) (t:sE):TG:=fun v σ H Q=>∃ a xs,v=.ref a/\cB K H a xs/\xs.length=n/\t xs σ H Q
theorem Q8 {es:List Expr} {k:Nat} {t:sE} {n:Nat} (hc:X.calm=true) (h:Hx X es t)
 (hn:(assignEach es X.env).length=n:=by rfl) (hst:(assignEach es X.env).findIdx? (·.1)=none:=by rfl):PG X (.Tuple es k pos) (Vs X.K n t):=by
 intro pins s σ H v u Q I r hw
 obtain ⟨a,xs,e1,hq,hl,hw⟩:=hw
 subst e1
 cases r
 obtain ⟨its,rv,ht,hz⟩:=I.tuple hq
 refine assign_Tuple_tuple (I.ok.hd hc) ht (by simp [hn,← hl,rv.length]) hst fun h' hx=>?_
 have I1:Inv X pins σ H { s with heap:=h' }:=I.kept (t':=s.toks) fun b o e=>hx b o (Nat.ne_of_lt (Heap.lt_size e)) e
 exact h pins _ σ H xs _ Q I1 (by simpa using rv) hw
noncomputable def Kq (to ti:TE) (t:Ko):TG:=fun v σ H Q=>to σ H fun o H1=>ti σ H1 fun i H2=>t o i v H2 fun H3=>Q σ H3
theorem sS {o i:Expr} {to ti:TE} {t:Ko} (ho:PE X o to) (hi:PE X i ti) (hs:Kp X t)
 (ha:∀ v,assign (.Subscript o i pos) X.env v=(do
   let ov ← holding [v] (eval o X.env)
   let iv ← holding [v,ov] (eval i X.env)
   standAt pos
   holding [v,ov,iv] (setItem ov iv v)
   release [v,ov,iv] []):=by intro _; rfl):PG X (.Subscript o i pos) (Kq to ti t):=by
 intro pins s σ H v u Q I r h
 rw [ha]
 refine wpAny_bind (wpAny_holding (cu (ho pins s σ H _ I h) fun ov s1 ⟨x,H1,I1,r1,q1⟩=>?_))
 refine wpAny_bind (wpAny_holding (cu (hi pins s1 σ H1 _ I1 q1) fun iv s2 ⟨y,H2,I2,r2,q2⟩=>?_))
 refine wpAny_bind (wpAny_standAt (wpAny_bind (wpAny_holding (cu (hs pins s2 σ H2 x y v ov iv u _ I2 r1 r2 r q2) fun _ s3 ⟨H3,I3,q3⟩=>?_))))
 exact wpAny_release ⟨σ,H3,I3,q3⟩
noncomputable def Gr (te:TE) (g:TG):TS:=fun D σ H=>te σ H fun x H1=>g x σ H1 D.nx
theorem vP {tg e:Expr} {te:TE} {g:TG} (he:PE X e te) (hg:PG X tg g) (hs:swapsWithSole [tg] e pos.line X.env=pure false:=by rfl) (hw:swappedStores [tg] e X.env=pure none:=by rfl)
 (h1:(assignEach [tg] X.env).map (·.2)=[assign tg X.env]:=by rfl):PS X (.Assign [tg] e pos) (Gr te g):=by
 intro pins s σ H D I h
 refine wpAny_Assign_stores (cu (he pins s σ H _ I h) fun v s1 ⟨x,H1,I1,r1,q1⟩=>?_) hs hw
 rw [h1]
 exact cu (hg pins s1 σ H1 x v _ I1 r1 q1) fun _ s2 q=>q
theorem Q9 {i:Nat} {x:Str} {e:Expr} {te:TE} {pos':Pos} (hN:X.N.Nodup) (hi:X.N[i]?=some x) (hx:Loc X.env.scope x) (he:PE X e te) (hs:swapsWith e (some (.Name x pos')) pos.line X.env=pure false:=by rfl) (hf:X.fn x=true\/X.env.scope.names.lookup x=some .local:=by first | exact .inl rfl | exact .inr rfl | assumption):
 PS X (.Assign [.Name x pos'] e pos) (Gr te (zR i)):=by
 intro pins s σ H D I h
 refine wpAny_Assign_Name (cu (he pins s σ H _ I h) fun v s1 ⟨y,H1,I1,r1,q1⟩=>?_) hs
 exact Ak I1 hN hi hx r1 (fun s2 I2=>⟨_,H1,I2,q1⟩) hf
end
structure It where
 go:Nat->Hp->Prop
 yld:Nat->Hp->V->Hp->Prop
 stop:Nat->Hp->Prop
noncomputable def lN (X:Cx) (pins:List (Addr×Obj)) (H:Hp) (b:Addr):Prop:=
 H b=none/\b≠X.env.locals/\b∉X.fs/\(b∈X.ex\/X.s₀.heap.objs.size<=b)/\(∀ x c,X.env.cells.lookup x=some c->c≠b)/\∀ p∈X.pn++pins,p.1≠b
theorem Inv.fpOk {X:Cx} {σ:St} {H H':Hp} {b:Addr} (I:Inv X pins σ H s) (hb:s.heap.objs.size<=b) (hn:H' b=none):lN X pins H' b:=by
 refine ⟨hn,Nat.ne_of_gt (Nat.lt_of_lt_of_le I.lt hb),I.nofs hb,.inr (Nat.le_trans I.sz hb),fun x c e z=>?_,fun p hp z=>?_⟩
 . obtain ⟨v,q⟩:=I.cell x c e
   exact absurd (Nat.lt_of_lt_of_le q.lt (by rw [z]; exact hb)) (Nat.lt_irrefl _)
 . exact absurd (Nat.lt_of_lt_of_le (Heap.lt_size (I.pin p hp).1) (by rw [z]; exact hb)) (Nat.lt_irrefl _)
structure Turn (P:Program) (w:World) (K:FG) (tg:Expr) (J:It) (fp:List Addr) (it:Addr) (tn:Nat->Heap->Prop):Prop where
 mem:it∈fp
 obj:∀ i h,tn i h->∀ b∈fp,∃ o,h.get? b=some o/\∀ v,o.data≠.cell v
 keep:∀ i h h',tn i h->(∀ b∈fp,∀ o,h.get? b=some o->h'.get? b=some o)->tn i h'
 item:∀ (X:Cx),X.prog=P->X.w=w->X.K=K->X.calm=true->∀ (i:Nat) (pins:List (Addr×Obj)) (s:Shared) (σ:St) (H:Hp) (E:Value->Shared->Prop),Inv X pins σ H s->(∀ b∈fp,lN X pins H b)->tn i s.heap->J.go i H->
  wpAny (model P w) X.A (pyNext (.ref it)) (fun r s1=>∃ u,r=some u/\
   wpAny (model P w) X.A (letOwnedTupleGo tg (.ref it) u) (fun _ s2=>∃ x H',Inv X pins σ H' s2/\RelV x u/\J.yld i H x H'/\tn (i+1) s2.heap/\∀ b∈fp,H' b=none) E s1) E s
 done:∀ (X:Cx),X.prog=P->X.w=w->X.K=K->X.calm=true->∀ (i:Nat) (pins:List (Addr×Obj)) (s:Shared) (σ:St) (H:Hp) (E:Value->Shared->Prop),Inv X pins σ H s->(∀ b∈fp,lN X pins H b)->tn i s.heap->J.stop i H->
  wpAny (model P w) X.A (pyNext (.ref it)) (fun r s1=>r=none/\Inv X pins σ H s1) E s
 self:∀ (A:Around) (i:Nat) (s:Shared) (Q:Value->Shared->Prop) (E:Value->Shared->Prop),tn i s.heap->Q (.ref it) s->wpAny (model P w) A (pyIter (.ref it)) Q E s
noncomputable abbrev TI:=St->Hp->(It->Hp->Prop)->Prop
noncomputable def PIE (X:Cx) (pins:List (Addr×Obj)) (σ:St) (tg:Expr) (R:It->Hp->Prop) (itv:Value) (s2:Shared):Prop:=
 ∃ (it:Addr) (fp:List Addr) (tn:Nat->Heap->Prop) (J:It) (H':Hp),itv=.ref it/\Inv X pins σ H' s2/\Turn X.prog X.w X.K tg J fp it tn/\tn 0 s2.heap/\(∀ b∈fp,lN X pins H' b)/\R J H'
noncomputable def PI (X:Cx) (tg iter:Expr) (wi:TI):Prop:=
 ∀ (pins:List (Addr×Obj)) (s:Shared) (σ:St) (H:Hp) (R:It->Hp->Prop),Inv X pins σ H s->wi σ H R->
  wpAny (model X.prog X.w) X.A (eval iter X.env) (fun v s1=>wpAny (model X.prog X.w) X.A (pyIter v) (PIE X pins σ tg R) X.xe s1) X.xe s
theorem Gs {M:Model} {tg:Expr} {it:Addr} {u:Value} {o:Obj} {n:String} {vs:Array Value} {Q:Unit->Shared->Prop} (ho:s.heap.get? it=some o) (hc:o.cls=.type n) (hd:o.data=.fields vs)
 (hn:["enumerate", "zip", "dict_itemiterator", "dict_reverseitemiterator", "odict_iterator", "itertools.zip_longest", "itertools.pairwise"].contains n=false) (hQ:Q () s):wpAny M A (letOwnedTupleGo tg (.ref it) u) Q E s:=by
 unfold letOwnedTupleGo
 cases tg<;>first
  | exact wpAny_pure hQ
  | (cases u<;>first
      | exact wpAny_pure hQ
      | (refine wpAny_bind (wpAny_load ho ?_)
         rw [hc,hd]
         show wpAny M A (if (["enumerate", "zip", "dict_itemiterator", "dict_reverseitemiterator", "odict_iterator", "itertools.zip_longest", "itertools.pairwise"].contains n&&vs[0]?==some (rawInt _))=true then _ else _) Q E s
         rw [if_neg (by intro h; rw [hn,Bool.false_and] at h; cases h)]
         exact wpAny_pure hQ))
noncomputable def M4 (K:FG) (a:Addr):It:=
 ⟨fun i H=>∃ xs x,bK K H a xs/\xs[i]?=some x,fun i H x H'=>H'=H/\∀ xs,bK K H a xs->xs[i]?=some x,fun i H=>∃ xs,bK K H a xs/\xs.length<=i⟩
noncomputable def M5 (K:FG) (a:Addr):It:=
 ⟨fun i H=>∃ xs x,cB K H a xs/\xs[i]?=some x,fun i H x H'=>H'=H/\∀ xs,cB K H a xs->xs[i]?=some x,fun i H=>∃ xs,cB K H a xs/\xs.length<=i⟩
noncomputable def M6 (lo:Int) (n:Nat):It:=⟨fun i _=>i<n,fun i H x H'=>H'=H/\x=.int (lo+i),fun i _=>n<=i⟩
theorem Hy {K:FG} {tg:Expr} (a it:Addr):Turn P w K tg (M4 K a) [it] it (fun i h=>h.IsListIter it a i) where
 mem:=by simp
 obj:=fun i h st b hb=>by
  have e:b=it:=by simpa using hb
  subst e
  obtain ⟨o,e,c,d⟩:=st
  exact ⟨o,e,fun v z=>by rw [d] at z; cases z⟩
 keep:=fun i h h' st k=>st.at fun o e=>k it (by simp) o e
 item:=by
  intro X hP hw hK hc i pins s σ H E I hf st hg
  subst hP hw hK
  obtain ⟨xs,x,hq,hx⟩:=hg
  obtain ⟨its,rv,p,hz⟩:=I.list hq
  obtain ⟨u,hu,ru⟩:=rv.get hx
  obtain ⟨f0,f1,f2,f3,f4,f5⟩:=hf it (by simp)
  refine wpAny_pyNext_list_item st p.isList (x:=u) (by simpa using hu) fun h' st' sb=>?_
  have I1:Inv X pins σ H { s with heap:=h' }:=I.turned (t':=s.toks) (fun b o hb e=>(sb.2 b hb).trans e) f0 f1 f3 f4 f5
  obtain ⟨o,e,c,d⟩:=id st'
  exact ⟨u,rfl,Gs (s:={ s with heap:=h' }) e c d (by decide) ⟨x,H,I1,ru,⟨rfl,fun ys hy=>by rw [I.list_inj hy hq]; exact hx⟩,st',fun b hb=>(hf b hb).1⟩⟩
 done:=by
  intro X hP hw hK hc i pins s σ H E I hf st hg
  subst hP hw hK
  obtain ⟨xs,hq,hx⟩:=hg
  obtain ⟨its,rv,p,hz⟩:=I.list hq
  obtain ⟨f0,f1,f2,f3,f4,f5⟩:=hf it (by simp)
  have hl:=rv.length
  exact wpAny_pyNext_list_end (I.ok.hd hc) st p.isList (by simp; omega) fun h' eb=>⟨rfl,I.turned (t':=s.toks) (fun b o hb e=>eb b o hb e) f0 f1 f3 f4 f5⟩
 self:=fun _ _ _ _ _ st h=>wpAny_pyIter_listiter st h
theorem Gu {K:FG} {tg:Expr} (a it:Addr):Turn P w K tg (M5 K a) [it] it (fun i h=>h.IsTupleIter it a i) where
 mem:=by simp
 obj:=fun i h st b hb=>by
  have e:b=it:=by simpa using hb
  subst e
  obtain ⟨o,e,c,d⟩:=st
  exact ⟨o,e,fun v z=>by rw [d] at z; cases z⟩
 keep:=fun i h h' st k=>st.at fun o e=>k it (by simp) o e
 item:=by
  intro X hP hw hK hc i pins s σ H E I hf st hg
  subst hP hw hK
  obtain ⟨xs,x,hq,hx⟩:=hg
  obtain ⟨its,rv,p,hz⟩:=I.tuple hq
  obtain ⟨u,hu,ru⟩:=rv.get hx
  obtain ⟨f0,f1,f2,f3,f4,f5⟩:=hf it (by simp)
  refine wpAny_pyNext_tuple_item st (show s.heap.IsTuple a its.toArray from p) (x:=u) (by simpa using hu) fun h' st' sb=>?_
  have I1:Inv X pins σ H { s with heap:=h' }:=I.turned (t':=s.toks) (fun b o hb e=>(sb.2 b hb).trans e) f0 f1 f3 f4 f5
  obtain ⟨o,e,c,d⟩:=id st'
  exact ⟨u,rfl,Gs (s:={ s with heap:=h' }) e c d (by decide) ⟨x,H,I1,ru,⟨rfl,fun ys hy=>by rw [I.tuple_inj hy hq]; exact hx⟩,st',fun b hb=>(hf b hb).1⟩⟩
 done:=by
  intro X hP hw hK hc i pins s σ H E I hf st hg
  subst hP hw hK
  obtain ⟨xs,hq,hx⟩:=hg
  obtain ⟨its,rv,p,hz⟩:=I.tuple hq
  obtain ⟨f0,f1,f2,f3,f4,f5⟩:=hf it (by simp)
  have hl:=rv.length
  exact wpAny_pyNext_tuple_end (I.ok.hd hc) st (show s.heap.IsTuple a its.toArray from p) (by simp; omega) fun h' eb=>⟨rfl,I.turned (t':=s.toks) (fun b o hb e=>eb b o hb e) f0 f1 f3 f4 f5⟩
 self:=fun _ _ _ _ _ st h=>wpAny_pyIter_tupleiter st h
theorem Gv {K:FG} {tg:Expr} (it:Addr) (lo:Int) (n:Nat):Turn P w K tg (M6 lo n) [it] it (fun i h=>IsRangeIter h it (lo+(i:Nat)*1) ((n:Int)-(i:Nat)) 1) where
 mem:=by simp
 obj:=fun i h st b hb=>by
  have e:b=it:=by simpa using hb
  subst e
  exact ⟨_,st,fun v z=>by
   have z':Data.fields _=Data.cell v:=z
   cases z'⟩
 keep:=fun i h h' st k=>k it (by simp) _ st
 item:=by
  intro X hP hw hK hc i pins s σ H E I hf st hg
  subst hP hw hK
  obtain ⟨f0,f1,f2,f3,f4,f5⟩:=hf it (by simp)
  have W:=Walks.range (prog:=X.prog) (w:=X.w) (I.ok.hd hc) it lo 1 n
  refine W.item i s _ _ hg st fun v h' tk hv st' kk=>?_
  obtain ⟨t,rfl⟩:=hv
  have I1:Inv X pins σ H { s with heap:=h',toks:=tk }:=I.turned (fun b o hb e=>kk b o (by simpa using hb) e) f0 f1 f3 f4 f5
  refine ⟨_,rfl,Gs (s:={ s with heap:=h',toks:=tk }) (n := "range_iterator") st' rfl rfl (by decide) ⟨.int (lo+i),H,I1,⟨t,?_⟩,⟨rfl,rfl⟩,st',fun b hb=>(hf b hb).1⟩⟩
  rw [Int.mul_one]
 done:=by
  intro X hP hw hK hc i pins s σ H E I hf st hg
  subst hP hw hK
  obtain ⟨f0,f1,f2,f3,f4,f5⟩:=hf it (by simp)
  exact wpAny_pyNext_range_end (I.ok.hd hc) st (by have:n<=i:=hg; omega) fun h' eb=>⟨rfl,I.turned (t':=s.toks) (fun b o hb e=>eb b o hb e) f0 f1 f3 f4 f5⟩
 self:=fun _ _ _ _ _ st h=>wpAny_pyIter_rangeiter st h
section
variable {X:Cx} {tg:Expr}
theorem Kr {σ:St} {H:Hp} {R:It->Hp->Prop} {lo hi:Int} {t u v:Tok} {tk:Nat} (I:Inv X pins σ H s) (h1:-(2 ^ 62)<=lo) (h2:lo<2 ^ 62) (h3:-(2 ^ 62)<=hi) (h4:hi<2 ^ 62)
 (q:R (M6 lo (hi-lo).toNat) H):wpAny (model X.prog X.w) X.A (pyIter (.ref s.heap.objs.size)) (PIE X pins σ tg R) E { s with heap:=s.heap.push { cls:=.type "range",data:=.fields #[.int lo t,.int hi u,.int 1 v] },toks:=tk }:=by
 refine wpAny_pyIter_range (IsRange.new ..) (small_one h1 h2 h3 h4) ?_
 have I1:Inv X pins σ H { s with heap:=s.heap.push { cls:=.type "range",data:=.fields #[.int lo t,.int hi u,.int 1 v] },toks:=tk }:=I.kept fun b o e=>Heap.get?_push_of_some _ e
 refine ⟨(s.heap.push { cls:=.type "range",data:=.fields #[.int lo t,.int hi u,.int 1 v] }).objs.size,[(s.heap.push { cls:=.type "range",data:=.fields #[.int lo t,.int hi u,.int 1 v] }).objs.size],_,_,H,rfl,
  I1.kept (t':=tk) fun b o e=>Heap.get?_push_of_some _ e,Gv _ lo (hi-lo).toNat,?_,fun b hb=>?_,q⟩
 . have e1:lo+((0:Nat):Int)*1=lo:=by simp
   have e2:(((hi-lo).toNat:Nat):Int)-((0:Nat):Int)=Builtin.Range.rangeSize lo hi 1:=by rw [rangeSize_one]; split<;>omega
   show IsRangeIter _ _ (lo+((0:Nat):Int)*1) ((((hi-lo).toNat:Nat):Int)-((0:Nat):Int)) 1
   rw [e1,e2]
   exact Heap.get?_push_size _ rfl
 . have e:b=(s.heap.push { cls:=.type "range",data:=.fields #[.int lo t,.int hi u,.int 1 v] }).objs.size:=by simpa using hb
   subst e
   exact I1.fpOk (Nat.le_refl _) (I1.hok.fresh (Nat.le_refl _))
noncomputable def Ug (ta:TA):TI:=fun σ H R=>ta σ H fun vs H1=>∃ j:Int,vs=[.int j]/\-(2 ^ 62)<=j/\j<2 ^ 62/\R (M6 0 j.toNat) H1
theorem Hz {a:Expr} {ta:TA} {p pos:Pos} (hg:Gl X "range") (hm:X.mg "range" = none) (ha:PA X [a] ta) (hs:starEach [a] X.env=[(false,eval a X.env)]:=by rfl):PI X tg (.Call (.Name "range" p) [a] [] pos) (Ug ta):=by
 intro pins s σ H R I h
 refine Call_ (sO I hg hm boot_range (PyProof.Rows.callWith_type1 (cu (ha pos pins s σ H _ I h) fun us s1 ⟨vs,H1,I1,r1,q1⟩=>?_) hs rfl))
 obtain ⟨j,e,q1,q2,q⟩:=q1
 subst e
 cases r1 with
 | cons r rr=>
  cases rr
  obtain ⟨t,rfl⟩:=r
  exact call_range_1 (Kr I1 (by omega) (by omega) q1 q2 (by simpa using q))
noncomputable def Vt (wi:TI) (g:TG) (tb:TS):TS:=fun D σ H=>wi σ H fun J H1=>∃ W:Nat->Nat->St->Hp->Prop,(∃ m,W 0 m σ H1)/\∀ i m σ H,W i m σ H->
 (J.stop i H/\D.nx σ H)\/(J.go i H/\∃ N:St->Hp->Prop,(∀ σ' H',N σ' H'->∃ m',m'<m/\W (i+1) m' σ' H')/\∀ x H',J.yld i H x H'->g x σ H' fun σ2 H2=>tb { D with nx:=N,ct:=N,bk:=D.nx } σ2 H2)
noncomputable def sU (fp:List Addr) (h:Heap):List (Addr×Obj):=fp.filterMap fun b=>(h.get? b).map fun o=>(b,o)
theorem rF {fp:List Addr} {h:Heap} {b:Addr} {o:Obj} (hb:b∈fp) (e:h.get? b=some o):(b,o)∈sU fp h:=List.mem_filterMap.mpr ⟨b,hb,by rw [e]; rfl⟩
theorem HB {fp:List Addr} {h:Heap} {p:Addr×Obj} (hp:p∈sU fp h):p.1∈fp/\h.get? p.1=some p.2:=by
 obtain ⟨b,hb,e⟩:=List.mem_filterMap.mp hp
 cases q:h.get? b with
 | none=>rw [q] at e; cases e
 | some o=>
  rw [q] at e
  have e':(b,o)=p:=Option.some.inj e
  subst e'
  exact ⟨hb,q⟩
theorem Inv.pinned {σ:St} {H:Hp} {fp:List Addr} (I:Inv X pins σ H s) (hf:∀ b∈fp,lN X pins H b) (ho:∀ b∈fp,∃ o,s.heap.get? b=some o/\∀ v,o.data≠.cell v):Inv X (pins++sU fp s.heap) σ H s:=
 I.pins_of fun p hp=>(List.mem_append.mp hp).elim (fun z=>I.pin p (List.mem_append_right _ z)) fun z=>by
  obtain ⟨hb,e⟩:=HB z
  obtain ⟨f0,f1,f2,_⟩:=hf p.1 hb
  obtain ⟨o,e',d⟩:=ho p.1 hb
  rw [e] at e'; cases e'
  exact ⟨e,f0,f1,f2,d⟩
theorem Inv.unpinned {pins pl:List (Addr×Obj)} {σ:St} {H:Hp} (I:Inv X (pins++pl) σ H s):Inv X pins σ H s:=I.pins_of fun p hp=>I.pin p (List.mem_append_right _ (List.mem_append_left _ hp))
theorem Ra {iter:Expr} {body:List Stmt} {wi:TI} {g:TG} {tb:TS} {pos:Pos} (hp:PassesOwn (model X.prog X.w) X.A X.env X.xe) (hc:X.calm=true) (hi:PI X tg iter wi) (hg:PG X tg g) (hb:iV X body tb)
 (hs:∀ x,foldedSetIterable iter X.env x=pure x:=by intro _; rfl):PS X (.For tg iter body [] pos) (Vt wi g tb):=by
 intro pins s σ H D I h
 refine wpAny_For (cu (hi pins s σ H _ I h) fun v s1 h1=>cu h1 fun itv s2 h2=>?_) hs
 obtain ⟨it,fp,tn,J,H2,e,I2,T,st2,f2,W,⟨m0,w0⟩,turn⟩:=h2
 subst e
 have stat:∀ {H':Hp},(∀ b∈fp,H' b=none)->∀ b∈fp,lN X pins H' b:=fun hn b hb=>⟨hn b hb,(f2 b hb).2⟩
 refine codeAny_forLoop_any (fun n s'=>∃ i σ' H',Inv X pins σ' H' s'/\tn i s'.heap/\(∀ b∈fp,H' b=none)/\W i n σ' H') ?_ m0 ⟨0,σ,H2,I2,st2,fun b hb=>(f2 b hb).1,w0⟩
 rintro n s3 ⟨i,σ3,H3,I3,st3,fr3,w3⟩
 rcases turn i n σ3 H3 w3 with ⟨stop,qn⟩ | ⟨go,N,hN,step⟩
 . refine wpAny_passesOwn hp (cu (T.done X rfl rfl rfl hc i pins s3 σ3 H3 X.xe I3 (stat fr3) st3 stop) fun r s4 ⟨hr,I4⟩=>?_)
   subst hr
   exact wpAny_execs_nil ⟨σ3,H3,I4,qn⟩
 . refine wpAny_passesOwn hp (cu (T.item X rfl rfl rfl hc i pins s3 σ3 H3 X.xe I3 (stat fr3) st3 go) fun r s4 ⟨u,hr,h4⟩=>?_)
   subst hr
   refine wpAny_passesOwn hp (cu h4 fun _ s5 ⟨x,H5,I5,r5,y5,st5,fr5⟩=>?_)
   have I5':=I5.pinned (stat fr5) (T.obj _ _ st5)
   refine wpAny_passesOwn hp (cu (hg _ s5 σ3 H5 x u _ I5' r5 (step x H5 y5)) fun _ s6 ⟨σ6,H6,I6,q6⟩=>?_)
   refine wpAny_passesOwn hp (cu (hb _ s6 σ6 H6 _ I6 q6) fun f s7 q7=>?_)
   have again:∀ {σ7:St} {H7:Hp},Inv X (pins++sU fp s5.heap) σ7 H7 s7->N σ7 H7->∃ m,m<n/\∃ i σ' H',Inv X pins σ' H' s7/\tn i s7.heap/\(∀ b∈fp,H' b=none)/\W i m σ' H':=fun {σ7 H7} I7 n7=>by
    obtain ⟨m',hm,w7⟩:=hN σ7 H7 n7
    refine ⟨m',hm,i+1,σ7,H7,I7.unpinned,T.keep _ _ _ st5 fun b hb o e=>(I7.pin (b,o) (List.mem_append_right _ (List.mem_append_right _ (rF hb e)))).1,fun b hb=>?_,w7⟩
    obtain ⟨o,e,d⟩:=T.obj _ _ st5 b hb
    exact (I7.pin (b,o) (List.mem_append_right _ (List.mem_append_right _ (rF hb e)))).2.1
   cases f with
   | next=>obtain ⟨σ7,H7,I7,n7⟩:=q7; exact again I7 n7
   | cont=>obtain ⟨σ7,H7,I7,n7⟩:=q7; exact again I7 n7
   | brk=>obtain ⟨σ7,H7,I7,q7⟩:=q7; exact ⟨σ7,H7,I7.unpinned,q7⟩
   | ret v=>obtain ⟨x7,σ7,H7,I7,r7,q7⟩:=q7; exact ⟨x7,σ7,H7,I7.unpinned,r7,q7⟩
end
noncomputable abbrev R2:=V->V->Hp->VK->Prop
noncomputable def iJ (X:Cx) (f:Value->Value->Sem Value) (r:R2):Prop:=
 ∀ (pins:List (Addr×Obj)) (s:Shared) (σ:St) (H:Hp) (x y:V) (v u:Value) (Q:VK),Inv X pins σ H s->RelV x v->RelV y u->r x y H Q->
  wpAny (model X.prog X.w) X.A (f v u) (EP X pins σ Q) X.xe s
noncomputable def Rb (X:Cx) (f:Value->Sem Value) (r:V->Hp->VK->Prop):Prop:=
 ∀ (pins:List (Addr×Obj)) (s:Shared) (σ:St) (H:Hp) (x:V) (v:Value) (Q:VK),Inv X pins σ H s->RelV x v->r x H Q->
  wpAny (model X.prog X.w) X.A (f v) (EP X pins σ Q) X.xe s
noncomputable def lO (X:Cx) (f:Value) (r:List V->Hp->VK->Prop):Prop:=
 ∀ (pins:List (Addr×Obj)) (s:Shared) (σ:St) (H:Hp) (xs:List V) (us:List Value) (Q:VK),Inv X pins σ H s->Vals xs us->r xs H Q->
  wpAny (model X.prog X.w) X.A (call f us) (EP X pins σ Q) X.xe s
noncomputable def Vu (X:Cx) (r:V->Hp->(Bool->Hp->Prop)->Prop):Prop:=
 ∀ (pins:List (Addr×Obj)) (s:Shared) (σ:St) (H:Hp) (x:V) (v:Value) (Q:Bool->Hp->Prop),Inv X pins σ H s->RelV x v->r x H Q->
  wpAny (model X.prog X.w) X.A (truthy v) (TP X pins σ Q) X.xe s
noncomputable def HD (r:R2) (ta tb:TE):TE:=fun σ H Q=>ta σ H fun x H1=>tb σ H1 fun y H2=>r x y H2 Q
noncomputable def V2 (r:V->Hp->VK->Prop) (ta:TE):TE:=fun σ H Q=>ta σ H fun x H1=>r x H1 Q
noncomputable def rI (C:Int->Int->Prop) (g:Int->Int->V):R2:=fun x y H Q=>∃ i j,x=.int i/\y=.int j/\C i j/\Q (g i j) H
noncomputable def sV (g:Int->Int->V):R2:=fun x y H Q=>∃ i j,x=.int i/\y=.int j/\Q (g i j) H
noncomputable def rU (g:Int->V):V->Hp->VK->Prop:=fun x H Q=>∃ i,x=.int i/\Q (g i) H
section
variable {X:Cx} {a b c:Expr} {ta tb tc:TE} {pos:Pos}
theorem Ks (ha:PE X a ta) (hb:PE X b tb) {σ:St} {H:Hp} {R:V->V->Hp->Prop} (I:Inv X pins σ H s)
 (h:ta σ H fun x H1=>tb σ H1 fun y H2=>R x y H2) {Q:Value->Shared->Prop} {f:Value->Value->Sem Value}
 (hf:∀ v u s2 x y H2,Inv X pins σ H2 s2->RelV x v->RelV y u->R x y H2->wpAny (model X.prog X.w) X.A (f v u) Q X.xe s2):
 wpAny (model X.prog X.w) X.A (eval a X.env) (fun v s₁=>wpAny (model X.prog X.w) X.A (eval b X.env) (fun u s₂=>wpAny (model X.prog X.w) X.A (f v u) Q X.xe s₂) X.xe s₁) X.xe s:=by
 refine cu (ha pins s σ H _ I h) fun v s1 ⟨x,H1,I1,r1,q1⟩=>?_
 refine cu (hb pins s1 σ H1 _ I1 q1) fun u s2 ⟨y,H2,I2,r2,q2⟩=>?_
 exact hf v u s2 x y H2 I2 r1 r2 q2
theorem Uh {op:Operator} {r:R2} (ho:iJ X (binaryOp op) r) (ha:PE X a ta) (hb:PE X b tb):PE X (.BinOp a op b pos) (HD r ta tb):=by
 intro pins s σ H Q I h
 exact wpAny_BinOp (Ks ha hb I h fun v u s2 x y H2 I2 rx ry q=>ho pins s2 σ H2 x y v u Q I2 rx ry q)
theorem Ui {op:UnaryOp} {r:V->Hp->VK->Prop} (ho:Rb X (unaryOp op) r) (ha:PE X a ta):PE X (.UnaryOp op a pos) (V2 r ta):=by
 intro pins s σ H Q I h
 exact UnaryOp_ (cu (ha pins s σ H _ I h) fun v s1 ⟨x,H1,I1,r1,q1⟩=>ho pins s1 σ H1 x v Q I1 r1 q1)
theorem M7 {f:Value->Value->Sem Value} {C:Int->Int->Prop} {g:Int->Int->Int}
 (rule:∀ (i j:Int) (t u:Tok) (s:Shared) (Q:Value->Shared->Prop) (E:Value->Shared->Prop),C i j->Q (.int (g i j) s.toks) { s with toks:=s.toks+1 }->wpAny (model X.prog X.w) X.A (f (.int i t) (.int j u)) Q E s):
 iJ X f (rI C fun i j=>.int (g i j)):=by
 intro pins s σ H x y v u Q I rx ry h
 obtain ⟨i,j,rfl,rfl,hc,q⟩:=h
 obtain ⟨t,rfl⟩:=rx
 obtain ⟨t',rfl⟩:=ry
 exact rule i j t t' s _ _ hc ⟨.int (g i j),H,I.tok _,⟨_,rfl⟩,q⟩
theorem Rc {f:Value->Value->Sem Value} {g:Int->Int->Int}
 (rule:∀ (i j:Int) (t u:Tok) (s:Shared) (Q:Value->Shared->Prop) (E:Value->Shared->Prop),Q (.int (g i j) s.toks) { s with toks:=s.toks+1 }->wpAny (model X.prog X.w) X.A (f (.int i t) (.int j u)) Q E s):
 iJ X f (sV fun i j=>.int (g i j)):=by
 intro pins s σ H x y v u Q I rx ry h
 obtain ⟨i,j,rfl,rfl,q⟩:=h
 obtain ⟨t,rfl⟩:=rx
 obtain ⟨t',rfl⟩:=ry
 exact rule i j t t' s _ _ ⟨.int (g i j),H,I.tok _,⟨_,rfl⟩,q⟩
theorem Rf {f:Value->Value->Sem Value} {g:Int->Int->Bool}
 (rule:∀ (i j:Int) (t u:Tok) (s:Shared) (Q:Value->Shared->Prop) (E:Value->Shared->Prop),Q (.bool (g i j)) s->wpAny (model X.prog X.w) X.A (f (.int i t) (.int j u)) Q E s):
 iJ X f (sV fun i j=>.bl (g i j)):=by
 intro pins s σ H x y v u Q I rx ry h
 obtain ⟨i,j,rfl,rfl,q⟩:=h
 obtain ⟨t,rfl⟩:=rx
 obtain ⟨t',rfl⟩:=ry
 exact rule i j t t' s _ _ ⟨.bl (g i j),H,I,rfl,q⟩
noncomputable def Rg (i j:Int):Prop:=0<j/\j<1073741824
noncomputable def Rh (i j:Int):Prop:=0<=j/\j<=1000000/\i.natAbs<2 ^ 64
noncomputable def Gw (i j:Int):Prop:=(-(2 ^ 64)<i/\i<2 ^ 64)\/(-(2 ^ 64)<j/\j<2 ^ 64)
theorem Gw.ok {i j:Int} (h:Gw i j):IntMulOk i j:=by
 rcases h with ⟨h1,h2⟩ | ⟨h1,h2⟩
 . exact .of_left (intBits_le_64 h1 h2)
 . exact .of_right (intBits_le_64 h1 h2)
theorem Ri:iJ X (binaryOp .Add) (sV fun i j=>.int (i+j)):=Rc fun _ _ _ _ _ _ _ q=>add_int q
theorem Rj:iJ X (binaryOp .Sub) (sV fun i j=>.int (i-j)):=Rc fun _ _ _ _ _ _ _ q=>sub_int q
theorem j9:iJ X (binaryOp .Mult) (rI Gw fun i j=>.int (i*j)):=M7 fun _ _ _ _ _ _ _ hc q=>mul_int q hc.ok
theorem cL:iJ X (binaryOp .FloorDiv) (rI Rg fun i j=>.int (i/j)):=M7 fun i j _ _ _ _ _ hc q=>by
 have h1:(0:Int)<j:=hc.1
 have h2:j<1073741824:=hc.2
 exact floordiv_int (by omega) (by rw [Int.fdiv_eq_ediv_of_nonneg i (by omega)]; exact q) (.inl (PyProof.noPylong_small (by omega)))
theorem bA:iJ X (binaryOp .Mod) (rI (fun _ j=>0<j) fun i j=>.int (i%j)):=M7 fun i j _ _ _ _ _ hc q=>by
 have h1:(0:Int)<j:=hc
 exact mod_int' (by omega) (by rw [Int.fmod_eq_emod_of_nonneg i (by omega)]; exact q)
theorem Rk:iJ X (binaryOp .Pow) (rI Rh fun i j=>.int (i ^ j.toNat)):=M7 fun _ _ _ _ _ _ _ hc q=>pow_int_small hc.1 hc.2.1 hc.2.2 q
theorem V3 {f:Value->Sem Value} {g:Int->Int}
 (rule:∀ (i:Int) (t:Tok) (s:Shared) (Q:Value->Shared->Prop) (E:Value->Shared->Prop),Q (.int (g i) s.toks) { s with toks:=s.toks+1 }->wpAny (model X.prog X.w) X.A (f (.int i t)) Q E s):
 Rb X f (rU fun i=>.int (g i)):=by
 intro pins s σ H x v Q I rx h
 obtain ⟨i,rfl,q⟩:=h
 obtain ⟨t,rfl⟩:=rx
 exact rule i t s _ _ ⟨.int (g i),H,I.tok _,⟨_,rfl⟩,q⟩
theorem Rm:Rb X (unaryOp .USub) (rU fun i=>.int (-i)):=V3 fun _ _ _ _ _ q=>neg_int q
end
noncomputable def scal:V->V->Bool
 | .non,.non=>true | .non,.int _=>true | .int _,.non=>true | .non,.bl _=>true | .bl _,.non=>true | .non,.str _=>true | .str _,.non=>true
 | .int _,.int _=>true | .bl _,.bl _=>true | .str _,.str _=>true | .byt _,.byt _=>true
 | .int _,.str _=>true | .str _,.int _=>true | .bl _,.str _=>true | .str _,.bl _=>true
 | _,_=>false
section
variable {X:Cx} {a b c:Expr} {ta tb tc:TE} {pos:Pos}
theorem Rn {σ:St} {H:Hp} {Q:VK} {k k':Bool} (I:Inv X pins σ H s) (q:Q (.bl k) H) (e:k=k'):EP X pins σ Q (.bool k') s:=by
 subst e
 exact ⟨.bl k,H,I,rfl,q⟩
theorem M8:iJ X (compareOp .Lt) (sV fun i j=>.bl (decide (i<j))):=Rf fun _ _ _ _ _ _ _ q=>lt_int q
theorem nj:iJ X (compareOp .Gt) (sV fun i j=>.bl (decide (j<i))):=Rf fun _ _ _ _ _ _ _ q=>gt_int q
theorem HF:iJ X (compareOp .In) (fun x y H Q=>∃ i j,x=.str i/\y=.str j/\Q (.bl (!(Builtin.Str.occurrences j i 0 j.length 1).isEmpty)) H):=by
 intro pins s σ H x y v u Q I rx ry h
 obtain ⟨i,j,rfl,rfl,q⟩:=h
 obtain ⟨t,rfl⟩:=rx
 obtain ⟨t',rfl⟩:=ry
 exact in_str (Rn I q rfl)
theorem iJ.or {f:Value->Value->Sem Value} {r r':R2} (h:iJ X f r) (h':iJ X f r'):iJ X f (fun x y H Q=>r x y H Q\/r' x y H Q):=by
 intro pins s σ H x y v u Q I rx ry q
 rcases q with q | q
 . exact h pins s σ H x y v u Q I rx ry q
 . exact h' pins s σ H x y v u Q I rx ry q
theorem bR (b:Expr) {op:CmpOp} (h:op≠.In:=by decide) (h2:op≠.NotIn:=by decide):behindInMarks op b=false:=by
 have e1:(op==CmpOp.In)=false:=by cases op<;>first | rfl | exact absurd rfl h
 have e2:(op==CmpOp.NotIn)=false:=by cases op<;>first | rfl | exact absurd rfl h2
 cases b<;>simp [behindInMarks,e1,e2]
theorem Ot {op:CmpOp} {r:R2} (ho:iJ X (compareOp op) r) (ha:PE X a ta) (hb:PE X b tb) (hm:behindInMarks op b=false):PE X (.Compare a [op] [b] pos) (HD r ta tb):=by
 intro pins s σ H Q I h
 exact wpAny_Compare1 (Ks ha hb I h fun v u s2 x y H2 I2 rx ry q=>ho pins s2 σ H2 x y v u Q I2 rx ry q) hm
noncomputable def M9 (t:TE):TT:=fun σ H Q=>t σ H fun x H'=>∃ k,x=.bl k/\Q k H'
theorem Ou {op:CmpOp} {r:R2} (ho:iJ X (compareOp op) r) (ha:PE X a ta) (hb:PE X b tb) (hm:behindInMarks op b=false):PT X (.Compare a [op] [b] pos) (M9 (HD r ta tb)):=by
 intro pins s σ H Q I h
 refine wpAny_isTrue_Compare1 (cu (ha pins s σ H _ I h) fun v s1 ⟨x,H1,I1,r1,q1⟩=>cu (hb pins s1 σ H1 _ I1 q1) fun u s2 ⟨y,H2,I2,r2,q2⟩=>
  cu (ho pins s2 σ H2 x y v u _ I2 r1 r2 q2) fun c s3 ⟨z,H3,I3,r3,k,e,q3⟩=>?_) hm
 subst e
 cases r3
 exact wpAny_truthy_bool ⟨H3,I3,q3⟩
noncomputable def Ku (K:FG) (x:V) (H:Hp) (k:Bool):Prop:=
 match x with
 | .non=>k=false
 | .bl b=>k=b
 | .int i=>k=(i != 0)
 | .str y=>y.length<=sizeLine/\k=((y.length:Int) != 0)
 | .byt y=>y.size<=sizeLine/\k=((y.size:Int) != 0)
 | .ref p=>(∃ xs,bK K H p xs/\k=!xs.isEmpty)\/(∃ xs,cB K H p xs/\k=!xs.isEmpty)\/∃ kvs,H p=some (.dK kvs)/\k=!kvs.isEmpty
 | _=>False
theorem Gx {κ:Type} {kvs:List (κ×V)} {vs:List (κ×Value)} (r:KV kvs vs):(!vs.isEmpty)=!kvs.isEmpty:=by
 cases r<;>rfl
theorem vQ {xs:List V} {its:List Value} (r:Vals xs its):(!its.toArray.isEmpty)=!xs.isEmpty:=by
 cases r<;>simp
theorem qx:(sizeLine:Nat)<2 ^ 63:=by rw [sizeLine_eq]; decide
theorem Ro:Vu X (fun x H Q=>∃ k,Ku X.K x H k/\Q k H):=by
 intro pins s σ H x v Q I rx h
 obtain ⟨k,e,q⟩:=h
 have hl:=qx
 have hs:sizeLine=16777216:=sizeLine_eq
 cases x with
 | non=>
  cases rx
  have e':k=false:=e
  subst e'
  exact truthy_none ⟨H,I,q⟩
 | bl b=>
  cases rx
  have e':k=b:=e
  subst e'
  exact wpAny_truthy_bool ⟨H,I,q⟩
 | int i=>
  obtain ⟨t,rfl⟩:=rx
  have e':k=(i != 0):=e
  subst e'
  exact PySem.P.truthy_int ⟨H,I,q⟩
 | str y=>
  obtain ⟨t,rfl⟩:=rx
  obtain ⟨hy,e'⟩:y.length<=sizeLine/\k=((y.length:Int) != 0):=e
  subst e'
  exact PySem.P.truthy_str (by omega) ⟨H,I.tok _,q⟩
 | byt y=>
  obtain ⟨t,rfl⟩:=rx
  obtain ⟨hy,e'⟩:y.size<=sizeLine/\k=((y.size:Int) != 0):=e
  subst e'
  exact W.truthy_bytes (by omega) ⟨H,I.tok _,q⟩
 | ref p=>
  cases rx
  have e':(∃ xs,bK X.K H p xs/\k=!xs.isEmpty)\/(∃ xs,cB X.K H p xs/\k=!xs.isEmpty)\/∃ kvs,H p=some (.dK kvs)/\k=!kvs.isEmpty:=e
  rcases e' with ⟨xs,hx,e'⟩ | ⟨xs,hx,e'⟩ | ⟨kvs,hx,e'⟩
  . subst e'
    obtain ⟨its,r,pl,hz⟩:=I.list hx
    have hlen:=r.length
    exact wpAny_truthy_list pl.isList (by simp only [List.size_toArray]; omega) ⟨H,I.tok _,by rw [vQ r]; exact q⟩
  . subst e'
    obtain ⟨its,r,pl,hz⟩:=I.tuple hx
    have hlen:=r.length
    exact truthy_tuple pl (by simp only [List.size_toArray]; omega) ⟨H,I.tok _,by rw [vQ r]; exact q⟩
  . subst e'
    obtain ⟨hz,hS,vs,r,m⟩:kvs.length<=sizeLine/\(p==sysModules)=false/\∃ vs,KV kvs vs/\s.heap.DictOf (dU X.prog X.w) p vs:=I.hok p _ hx
    have hlen:kvs.length=vs.length:=Paired.length r
    exact wpAny_truthy_dict hS m (by omega) ⟨H,I.tok _,by rw [Gx r]; exact q⟩
 | _=>exact (show False from e).elim
theorem Kv (ha:PE X a ta) (he:∀ whole,isTrue a X.env whole=(do let v ← whole; standAt a.pos; holding [v] (truthy v))):
 PT X a (fun σ H Q=>ta σ H fun x H'=>∃ k,Ku X.K x H' k/\Q k H'):=by
 intro pins s σ H Q I h
 exact isTrue_plain (cu (ha pins s σ H _ I h) fun v s1 ⟨x,H1,I1,r1,q1⟩=>Ro pins s1 σ H1 x v Q I1 r1 q1) (he _)
theorem Gy:iJ X (binaryOp .Add) (fun x y H Q=>∃ i j,x=.str i/\y=.str j/\i.length+j.length<=sizeLine/\Q (.str (i++j)) H):=by
 intro pins s σ H x y v u Q I rx ry h
 obtain ⟨i,j,rfl,rfl,hz,q⟩:=h
 obtain ⟨t,rfl⟩:=rx
 obtain ⟨t',rfl⟩:=ry
 exact add_str (fun t' tk=>⟨.str (i++j),H,I.tok _,⟨_,rfl⟩,q⟩) hz
theorem vals1 {x:V} {us:List Value} (r:Vals [x] us):∃ u,us=[u]/\RelV x u:=by
 cases r with
 | cons r1 r2=>cases r2; exact ⟨_,rfl,r1⟩
theorem vals2 {x y:V} {us:List Value} (r:Vals [x,y] us):∃ u w',us=[u,w']/\RelV x u/\RelV y w':=by
 cases r with
 | cons r1 r2=>
  cases r2 with
  | cons r3 r4=>cases r4; exact ⟨_,_,rfl,r1,r3⟩
theorem Al:lO X (.type "str") (fun xs H Q=>∃ i,xs=[.int i]/\i.natAbs.log2<1920/\Q (.str (toString i)) H):=by
 intro pins s σ H xs us Q I r h
 obtain ⟨i,rfl,hz,q⟩:=h
 obtain ⟨u,rfl,t,rfl⟩:=vals1 r
 exact PySem.P.str_of_int hz ⟨.str _,H,I.tok _,⟨_,rfl⟩,q⟩
noncomputable def Kw (K:FG) (x:V) (H:Hp) (n:Nat):Prop:=
 match x with
 | .str y=>y.length<=sizeLine/\n=y.length
 | .byt y=>y.size<=sizeLine/\n=y.size
 | .ref p=>(∃ xs,bK K H p xs/\n=xs.length)\/∃ xs,cB K H p xs/\n=xs.length
 | _=>False
theorem oR:lO X (.builtin "len") (fun xs H Q=>∃ x n,xs=[x]/\Kw X.K x H n/\Q (.int n) H):=by
 intro pins s σ H xs us Q I r h
 obtain ⟨x,n,rfl,e,q⟩:=h
 obtain ⟨u,rfl,rx⟩:=vals1 r
 have hl:=qx
 have hs:sizeLine=16777216:=sizeLine_eq
 cases x with
 | str y=>
  obtain ⟨t,rfl⟩:=rx
  obtain ⟨hy,e'⟩:y.length<=sizeLine/\n=y.length:=e
  subst e'
  exact len_str (by omega) ⟨.int _,H,I.tok _,⟨_,rfl⟩,q⟩
 | byt y=>
  obtain ⟨t,rfl⟩:=rx
  obtain ⟨hy,e'⟩:y.size<=sizeLine/\n=y.size:=e
  subst e'
  exact W.len_bytes (by omega) ⟨.int _,H,I.tok _,⟨_,rfl⟩,q⟩
 | ref p=>
  cases rx
  have e':(∃ xs,bK X.K H p xs/\n=xs.length)\/∃ xs,cB X.K H p xs/\n=xs.length:=e
  rcases e' with ⟨xs,hx,e'⟩ | ⟨xs,hx,e'⟩
  . subst e'
    obtain ⟨its,r',pl,hz⟩:=I.list hx
    have hlen:=r'.length
    exact Calls.call_len_list pl.isList (by simp only [List.size_toArray]; omega) ⟨.int xs.length,H,I.tok _,⟨_,by simp only [List.size_toArray]; rw [hlen]⟩,q⟩
  . subst e'
    obtain ⟨its,r',pl,hz⟩:=I.tuple hx
    have hlen:=r'.length
    exact len_tuple pl (by simp only [List.size_toArray]; omega) ⟨.int xs.length,H,I.tok _,⟨_,by simp only [List.size_toArray]; rw [hlen]⟩,q⟩
 | _=>exact (show False from e).elim
end
structure u6 (h:Heap) (x dx C:Addr) (mA:Str->Option Value):Prop where
 obj:h.get? x=some (W.instObj C dx)
 ns:h.Ns1 dx mA
 ne:dx≠x
theorem HH {h:Heap} {dx:Addr} {mA:Str->Option Value} (n:h.Ns1 dx mA):∃ od,h.get? dx=some od/\∀ name,W.lookIn name od=some (mA name):=by
 obtain ⟨o,es,ep,ho,hd,hk,_,hm⟩:=n
 refine ⟨o,ho,fun name=>?_⟩
 have e:=hm name
 unfold nsFind findBy at e
 rw [← Array.find?_toList] at e
 unfold W.lookIn
 rw [hd]
 dsimp only
 split
 . rename_i y q
   rw [q] at e
   exact congrArg some e
 . rename_i q
   rw [q] at e
   have a:es.toList.any (·.refKey)=false:=by
    rw [List.any_eq_false]
    intro y hy
    obtain ⟨z,t,hkey⟩:=hk y (Array.mem_toList_iff.mp hy)
    simp [DictEntry.refKey,hkey]
   have a':¬ es.toList.any (·.refKey)=true:=by rw [a]; exact Bool.false_ne_true
   rw [if_neg a']
   exact congrArg some e
theorem u6.look {h:Heap} {x dx C:Addr} {mA:Str->Option Value} (I:u6 h x dx C mA):∃ od,W.InstAt h x (W.instObj C dx) C (some od)/\∀ name,W.lookIn name od=some (mA name):=
 let ⟨od,ho,hl⟩:=HH I.ns
 ⟨od,⟨I.obj,rfl,rfl,ho⟩,hl⟩
section
variable {prog:Program} {w:World} {A:Around} {E:Value->Shared->Prop} {s:Shared} {K:FG} {x dx C f:Addr} {mA:Str->Option Value} {name:Str} {v:Value}
theorem Ov {expr:Bool} {Q:Value->Shared->Prop} (X:K.In s.heap) (I:u6 s.heap x dx C mA) (hg:W.plainGet K C name=true) (hh:W.hasDictIn K C=true)
 (ha:W.findIn K (.ref C) name=some none) (hv:mA name=some v) (hv':W.handedIn v=true) (h:Q v { s with toks:=s.toks+1 }):
 wpAny (model prog w) A (getAttr (.ref x) name expr) Q E s:=by
 obtain ⟨od,J,hl⟩:=I.look
 exact W.get_value X J (W.plainGet_of hg).1 (W.findObj_own hh ha rfl (by rw [hl,hv])) hv' h
theorem Ky {pl:Sem Bool} {Q:Value×List Value->Shared->Prop} (X:K.In s.heap) (I:u6 s.heap x dx C mA) (hg:W.plainGet K C name=true)
 (hf:W.findIn K (.ref C) name=some (some (.ref f))) (ht:W.isFn K (.ref f)=true) (hv:mA name=none) (h:Q (.ref f,[.ref x]) s):
 wpAny (model prog w) A (getMethod (.ref x) name pl) Q E s:=by
 obtain ⟨od,J,hl⟩:=I.look
 exact W.method_fn X J (W.plainGet_of hg).1 (W.plainGet_of hg).2 hf (beq_iff_eq.mp ht) (by show (W.lookIn name od).map (·.isSome)=some false; rw [hl,hv]; rfl) h
theorem Ow {ns:List Str} {Q:Unit->Shared->Prop} (X:K.In s.heap) (I:u6 s.heap x dx C mA)
 (hs:W.findIn K (.ref C) "__setattr__" = some (some (.builtin "object.__setattr__"))) (hp:W.plainOver K C=true) (ht:W.takerIn K C name=some none) (hh:W.hasDictIn K C=true)
 (hw:PySem.Within mA ns) (hsz:ns.length<=sizeLine)
 (h:∀ h',u6 h' x dx C (fun y=>if y=name then some v else mA y)->Heap.SameBut dx s.heap h'->Q () { s with heap:=h',toks:=s.toks+2 }):
 wpAny (model prog w) A (setAttr (.ref x) name v) Q E s:=by
 obtain ⟨od,J,hl⟩:=I.look
 refine W.set_plain X J hs (W.osa_open (s:={ s with toks:=s.toks+1 }) (r:=none) X J hp ht fun b=>?_)
 obtain ⟨cd,hc,hd'⟩:=W.any_some hh
 have hx:s.heap.get? x=some ⟨.ref C,some dx,.plain,#[]⟩:=I.obj
 refine wpAny_bind (wpAny_pure (wpAny_bind (wpAny_bind (wpAny_loadPart hx (wpAny_bind (W.Looks.here (s:={ s with toks:=s.toks+1 }) (W.looks_clsIn X hc) ?_))))))
 rw [hd']
 refine wpAny_pure (a:=some dx) (wpAny_bind (wpAny_pure (wpAny_bind ?_)))
 refine wpAny_nsSet1 (s:={ s with toks:=s.toks+1 }) I.ns fun h' hn2 hs2=>?_
 obtain ⟨oD,esD,epD,hoD,hdD,hcD⟩:=hn2.count (PySem.Within.cons name v hw)
 refine wpAny_bind (wpAny_lookBehind hoD (by rw [hdD]; exact pastItsLine_dict (Nat.le_trans hcD (by rw [List.length_cons]; omega))) ?_)
 exact wpAny_pure (h _ ⟨(hs2.2 _ (Ne.symm I.ne)).trans I.obj,hn2,I.ne⟩ hs2)
theorem Kz {R:Result->Shared->Prop} {vs:List Value} {kw:List (Str×Value)} (X:K.In s.heap) (hm:W.makesIn K C=true)
 (hi:W.findIn K (.ref C) "__init__" = some (some (.ref f))) (hf:W.typeIn K (.ref f)=some (.type "function"))
 (h:codeAny (model prog w) (A.under (.builtin "type.__call__" ⟨.ref C::vs,kw⟩)) (.call (.ref f) ⟨.ref (s.heap.objs.size+1)::vs,kw⟩) (W.InitBack (s.heap.objs.size+1) R)
   { s with heap:=(s.heap.push W.emptyDict).push (W.instObj C s.heap.objs.size) }):
 codeAny (model prog w) A (.call (.ref C) ⟨vs,kw⟩) R s:=by
 obtain ⟨hh,g,d,t,os⟩:=s
 exact W.make_core (W.makes_of X hm) (W.looks_findIn X hi) (fun self=>W.bind_fn X self hf) (.inl rfl) h
end
noncomputable def iB (f:Str) (v:V):List (Str×V)->List (Str×V)
 | []=>[(f,v)]
 | (g,x)::r=>if g=f then (g,v)::r else (g,x)::iB f v r
theorem uT (f g:Str) (v:V):∀ fs:List (Str×V),(iB f v fs).lookup g=if g=f then some v else fs.lookup g
 | []=>by
  show List.lookup g [(f,v)]=_
  by_cases h:g=f
  . have hb:(g==f)=true:=beq_iff_eq.mpr h
    simp only [List.lookup,hb,if_pos h]
  . have hb:(g==f)=false:=beq_eq_false_iff_ne.mpr h
    simp only [List.lookup,hb,if_neg h]
 | (k,x)::r=>by
  have ih:=uT f g v r
  rw [show iB f v ((k,x)::r)=(if k=f then (k,v)::r else (k,x)::iB f v r) from rfl]
  by_cases hk:k=f
  . rw [if_pos hk]
    by_cases h:g=k
    . have hb:(g==k)=true:=beq_iff_eq.mpr h
      simp only [List.lookup,hb,if_pos (h.trans hk)]
    . have hb:(g==k)=false:=beq_eq_false_iff_ne.mpr h
      simp only [List.lookup,hb,if_neg (fun e:g=f=>h (e.trans hk.symm))]
  . rw [if_neg hk]
    by_cases h:g=k
    . have hb:(g==k)=true:=beq_iff_eq.mpr h
      simp only [List.lookup,hb,if_neg (fun e:g=f=>hk (h.symm.trans e))]
    . have hb:(g==k)=false:=beq_eq_false_iff_ne.mpr h
      simp only [List.lookup,hb]
      exact ih
theorem sW (f:Str) (v:V):∀ fs:List (Str×V),f∈(iB f v fs).map (·.1)/\∀ g,g∈fs.map (·.1)->g∈(iB f v fs).map (·.1)
 | []=>⟨by simp [iB],fun g h=>by simp at h⟩
 | (k,x)::r=>by
  obtain ⟨i1,i2⟩:=sW f v r
  rw [show iB f v ((k,x)::r)=(if k=f then (k,v)::r else (k,x)::iB f v r) from rfl]
  by_cases hk:k=f
  . rw [if_pos hk]
    subst hk
    exact ⟨by simp,fun g h=>by simpa using h⟩
  . rw [if_neg hk]
    refine ⟨?_,fun g h=>?_⟩
    . rw [List.map_cons]
      exact List.mem_cons_of_mem _ i1
    . rw [List.map_cons] at h ⊢
      rcases List.mem_cons.mp h with e | e
      . exact List.mem_cons.mpr (.inl e)
      . exact List.mem_cons_of_mem _ (i2 g e)
theorem uU (f:Str) (v:V):∀ fs:List (Str×V),(iB f v fs).length<=fs.length+1
 | []=>by simp [iB]
 | (k,x)::r=>by
  have ih:=uU f v r
  rw [show iB f v ((k,x)::r)=(if k=f then (k,v)::r else (k,x)::iB f v r) from rfl]
  by_cases hk:k=f
  . rw [if_pos hk,List.length_cons,List.length_cons]; omega
  . rw [if_neg hk,List.length_cons,List.length_cons]; omega
theorem mJ.some_of {v:V} {o:Option Value} (r:mJ (some v) o):∃ u,o=some u/\RelV v u:=by
 cases o with
 | none=>exact (show False from r).elim
 | some u=>exact ⟨u,rfl,r⟩
theorem mJ.none_of {o:Option Value} (r:mJ none o):o=none:=by
 cases o with
 | none=>rfl
 | some u=>exact (show False from r).elim
theorem HJ {v:V} {u:Value} (r:RelV v u):W.handedIn u=true:=by
 cases v with
 | non=>cases (show u=Value.none from r); rfl
 | bl b=>cases (show u=Value.bool b from r); rfl
 | int i=>obtain ⟨t,e⟩:=(show ∃ t,u=Value.int i t from r); cases e; rfl
 | str x=>obtain ⟨t,e⟩:=(show ∃ t,u=Value.str x t from r); cases e; rfl
 | byt b=>obtain ⟨t,e⟩:=(show ∃ t,u=Value.bytes b t from r); cases e; rfl
 | flt b=>obtain ⟨t,e⟩:=(show ∃ t,u=Value.float b t from r); cases e; rfl
 | ref a=>cases (show u=Value.ref a from r); rfl
 | ty n=>cases (show u=Value.type n from r); rfl
section
variable {P:Program} {w:World} {H H':Hp} {h h':Heap} {a C dx:Addr} {fs fs':List (Str×V)}
theorem xq (hok:ik P w H h) (e:H a=some (.ins C dx fs)):∃ mA,u6 h a dx C mA/\(∀ f,mJ (fs.lookup f) (mA f))/\PySem.Within mA (fs.map (·.1))/\fs.length<=1000/\H dx=some (.own a):=by
 obtain ⟨d,z,ne,ob,mA,n,r,q⟩:=(show fD P w H h a (.ins C dx fs) from hok a _ e)
 exact ⟨mA,⟨ob,n,ne⟩,r,q,z,d⟩
end
structure uV (K:FG) (C:Addr):Prop where
 pg:W.plainGet K C Str.empty=true
 hd:W.hasDictIn K C=true
 po:W.plainOver K C=true
 sa:W.findIn K (.ref C) "__setattr__" = some (some (.builtin "object.__setattr__"))
theorem uV.get {K:FG} {C:Addr} (c:uV K C) (f:Str):W.plainGet K C f=true:=c.pg
noncomputable def kh (K:FG) (C:Addr) (f:Str):Prop:=W.findIn K (.ref C) f=some none
theorem kh.taker {K:FG} {C:Addr} {f:Str} (n:kh K C f):W.takerIn K C f=some none:=by
 unfold W.takerIn
 rw [show W.findIn K (.ref C) f=some none from n]
 rfl
structure Meth (K:FG) (C:Addr) (m:Str) (f:Addr):Prop where
 at_:W.findIn K (.ref C) m=some (some (.ref f))
 fn:W.isFn K (.ref f)=true
 kp:W.keepIn K (.ref f)=true
section
variable {X:Cx} {pins:List (Addr×Obj)} {σ:St} {H:Hp} {s:Shared} {a C dx:Addr} {fs:List (Str×V)} {f:Str} {v:V} {A:Around} {E:Value->Shared->Prop}
theorem Gz {b:Bool} {Q:Value->Shared->Prop} (I:Inv X pins σ H s) (e:H a=some (.ins C dx fs)) (c:uV X.K C) (n:kh X.K C f) (l:fs.lookup f=some v)
 (h:∀ u s',Inv X pins σ H s'->RelV v u->Q u s'):wpAny (model X.prog X.w) A (getAttr (.ref a) f b) Q E s:=by
 obtain ⟨mA,O,r,_,_,_⟩:=xq I.hok e
 obtain ⟨u,hu,ru⟩:=mJ.some_of (v:=v) (o:=mA f) (by rw [← l]; exact r f)
 exact Ov I.kIn O (c.get f) c.hd n hu (HJ ru) (h u _ (I.tok _) ru)
theorem vR {m:Str} {g:Addr} {pl:Sem Bool} {Q:Value×List Value->Shared->Prop} (I:Inv X pins σ H s) (e:H a=some (.ins C dx fs)) (c:uV X.K C) (k:Meth X.K C m g) (l:fs.lookup m=none)
 (h:Q (.ref g,[.ref a]) s):wpAny (model X.prog X.w) A (getMethod (.ref a) m pl) Q E s:=by
 obtain ⟨mA,O,r,_,_,_⟩:=xq I.hok e
 have hn:mA m=none:=mJ.none_of (by rw [← l]; exact r m)
 exact Ky I.kIn O (c.get m) k.at_ k.fn hn h
theorem GC {y:V} {u:Value} {Q:Unit->Shared->Prop} (I:Inv X pins σ H s) (e:H a=some (.ins C dx fs)) (c:uV X.K C) (n:kh X.K C f) (hl:fs.length<1000) (ry:RelV y u)
 (h:∀ s',Inv X pins σ (upd H a (.ins C dx (iB f y fs))) s'->Q () s'):wpAny (model X.prog X.w) A (setAttr (.ref a) f u) Q E s:=by
 obtain ⟨mA,O,r,wi,_,ho⟩:=xq I.hok e
 have hz:(fs.map (·.1)).length<=sizeLine:=by rw [List.length_map,sizeLine_eq]; omega
 refine Ow I.kIn O c.sa c.po n.taker c.hd wi hz fun h' O' sb=>h _ ?_
 have hd:∃ o,h'.get? dx=some o:=let ⟨o,_,_,e',_⟩:=O'.ns; ⟨o,e'⟩
 refine I.write (x:=a) (e:=dx) (by rw [e]; exact True.intro) (.inr ho) (fun b q hb z=>(sb.2 b hb).trans z) hd ?_
 refine ⟨by rw [bV O.ne]; exact ho,?_,O.ne,O'.obj,_,O'.ns,fun g=>?_,fun g hg=>?_⟩
 . have:=uU f y fs; omega
 . show mJ ((iB f y fs).lookup g) (if g=f then some u else mA g)
   rw [uT]
   by_cases q:g=f
   . rw [if_pos q,if_pos q]; exact ry
   . rw [if_neg q,if_neg q]; exact r g
 . by_cases q:g=f
   . rw [q]; exact (sW f y fs).1
   . refine (sW f y fs).2 g (wi g fun z=>hg ?_)
     show (if g=f then some u else mA g)=none
     rw [if_neg q]; exact z
theorem Inv.made (I:Inv X pins σ H s):Inv X pins σ (upd (upd H s.heap.objs.size (.own (s.heap.objs.size+1))) (s.heap.objs.size+1) (.ins C s.heap.objs.size []))
 { s with heap:=(s.heap.push W.emptyDict).push (W.instObj C s.heap.objs.size) }:=by
 have e1:(s.heap.push W.emptyDict).get? s.heap.objs.size=some W.emptyDict:=Heap.get?_push_size s.heap rfl
 have e2:((s.heap.push W.emptyDict).push (W.instObj C s.heap.objs.size)).get? (s.heap.objs.size+1)=some (W.instObj C s.heap.objs.size):=by
  have:=Heap.get?_push_size (s.heap.push W.emptyDict) (o:=W.instObj C s.heap.objs.size) rfl
  rwa [Heap.size_push] at this
 have e3:(s.heap.push W.emptyDict).Ns s.heap.objs.size (fun _=>none):=⟨W.emptyDict,#[],_,e1,rfl,(fun e he=>absurd he (by simp)),fun _=>rfl⟩
 have I1:=I.laid (a:=s.heap.objs.size) (o:=.own (s.heap.objs.size+1)) (h':=s.heap.push W.emptyDict) (t':=s.toks) (fun b u q=>Heap.get?_push_of_some _ q) (Nat.le_refl _) ⟨_,e1⟩
 refine I1.laid (a:=s.heap.objs.size+1) (o:=.ins C s.heap.objs.size []) (t':=s.toks) (fun b u q=>Heap.get?_push_of_some _ q) (Nat.le_of_eq (Heap.size_push _ _)) ?_
 have ne:s.heap.objs.size≠s.heap.objs.size+1:=Nat.ne_of_lt (Nat.lt_succ_self _)
 refine ⟨by rw [bV ne,bJ],Nat.zero_le _,ne,e2,fun _=>none,(Heap.Ns1.of_empty e3).at fun o q=>Heap.get?_push_of_some _ q,fun _=>True.intro,fun y hy=>absurd rfl hy⟩
theorem Ox {prog:Program} {env:Env} {e:Expr} {f:Str} {pos:Pos} {Q:Value->Shared->Prop} (hb:attributeBase e f env (eval e env)=eval e env)
 (h:wpAny (model prog w) A (eval e env) (fun o s₁=>wpAny (model prog w) A (getAttr o f true) Q E s₁) E s):wpAny (model prog w) A (eval (.Attribute e f pos) env) Q E s:=
 Attribute_any_ h (by rw [arm_eval_Attribute,hb])
end
noncomputable def Vv (K:FG) (ta:TE) (f:Str):TE:=fun σ H Q=>ta σ H fun x H1=>∃ a C dx fs v,x=.ref a/\H1 a=some (.ins C dx fs)/\uV K C/\kh K C f/\fs.lookup f=some v/\Q v H1
noncomputable def Vw (K:FG) (ta tv:TE) (f:Str):TS:=fun D σ H=>tv σ H fun y H1=>ta σ H1 fun x H2=>∃ a C dx fs,x=.ref a/\H2 a=some (.ins C dx fs)/\uV K C/\kh K C f/\fs.length<1000/\
 D.nx σ (upd H2 a (.ins C dx (iB f y fs)))
section
variable {X:Cx} {o e value:Expr} {f:Str} {pos pos' tpos:Pos} {ta tv:TE}
theorem Rp (he:PE X e ta) (hb:attributeBase e f X.env (eval e X.env)=eval e X.env):PE X (.Attribute e f pos) (Vv X.K ta f):=by
 intro pins s σ H Q I h
 refine Ox hb (cu (he pins s σ H _ I h) fun u s1 ⟨x,H1,I1,rx,a,C,dx,fs,v,ex,ea,c,n,l,q⟩=>?_)
 subst ex
 obtain rfl:u=Value.ref a:=rx
 exact Gz I1 ea c n l fun u' s2 I2 ru=>⟨v,H1,I2,ru,q⟩
theorem Rq (ha:PE X o ta) (hv:PE X value tv) (hs:swapsWith value (some (.Attribute o f pos')) pos.line X.env=pure false):PS X (.Assign [.Attribute o f pos'] value pos) (Vw X.K ta tv f):=by
 intro pins s σ H D I h
 refine plainObj_wpAny_Assign_Attribute (cu (hv pins s σ H _ I h) fun u s1 ⟨y,H1,I1,ry,q⟩=>cu (ha pins s1 σ H1 _ I1 q) fun ov s2 ⟨x,H2,I2,rx,a,C,dx,fs,ex,ea,c,n,l,q2⟩=>?_) hs
 subst ex
 obtain rfl:ov=Value.ref a:=rx
 exact GC I2 ea c n l ry fun s3 I3=>⟨σ,_,I3,q2⟩
noncomputable def KC:V->V->Hp->VK->Prop:=fun x y H Q=>∃ i j,x=.int i/\y=.int j/\Q (.int (i+j)) H
theorem Ua {pl:Sem Bool} {m:Str} {apos:Pos} {args:List Expr} {σ:St} {H:Hp} {Q:Value->Shared->Prop} {te:TE} (he:PE X e te) (I:Inv X pins σ H s)
 (h:te σ H fun x H1=>∃ a C dx fs g,x=.ref a/\H1 a=some (.ins C dx fs)/\uV X.K C/\Meth X.K C m g/\fs.lookup m=none/\
   ∀ s1,Inv X pins σ H1 s1->wpAny (model X.prog X.w) X.A (callWith pos (.ref g) [.ref a] (backTo pos (starEach args X.env)) (backToKw pos (keywordEach [] X.env))) Q X.xe s1)
 (ht:eval (.Call (.Attribute e m apos) args [] pos) X.env=(do
   let ov ← eval e X.env
   standAt apos.atName
   let (f,first) ← holding [ov] (getMethod ov m pl)
   callWith pos f first (backTo pos (starEach args X.env)) (backToKw pos (keywordEach [] X.env)))):
 wpAny (model X.prog X.w) X.A (eval (.Call (.Attribute e m apos) args [] pos) X.env) Q X.xe s:=by
 refine W.methodCall_KW (pl:=pl) (cu (he pins s σ H _ I h) fun u s1 ⟨x,H1,I1,rx,a,C,dx,fs,g,ex,ea,c,k,l,q⟩=>?_) ht
 subst ex
 obtain rfl:u=Value.ref a:=rx
 exact vR I1 ea c k l (q s1 I1)
end
section
variable {X:Cx} {pins:List (Addr×Obj)} {σ:St} {H:Hp} {s:Shared} {A:Around} {E:Value->Shared->Prop} {Q:Value->Shared->Prop} {c:Value} {b:Bool}
end
structure dW (k:Nat) (A:Around):Prop where
 hd:A.handled=none
 dp:A.depth+3*k+5<recursionLimit
 un:A.units+16*k+200<cLine
theorem dW.mono {j k:Nat} (r:dW k A) (h:j<=k):dW j A:=⟨r.hd,by have:=r.dp; omega,by have:=r.un; omega⟩
theorem dW.deeper {k:Nat} (r:dW (k+1) A) (env:Env):dW k (A.deeper env):=
 ⟨r.hd,by have:=r.dp; show A.depth+1+3*k+5<_; omega,by have:=r.un; show A.units+3+16*k+200<_; omega⟩
theorem GD {C:Addr} {us:List Value} {kw:List (Str×Value)}:(A.under (.builtin "type.__call__" ⟨.ref C::us,kw⟩)).depth=A.depth+1:=by
 first | rfl | simp [Around.under,Code.weight,Code.isCreation,Code.isGuard,Code.isCaller,Code.frames,Code.isFrame,guardIds]
theorem GJ {C:Addr} {us:List Value} {kw:List (Str×Value)}:(A.under (.builtin "type.__call__" ⟨.ref C::us,kw⟩)).units=A.units+1:=by
 first | rfl | simp [Around.under,Code.cUnits,Code.frames,Code.isFrame]
theorem dW.make {k:Nat} (r:dW (k+1) A) (C:Addr) (us:List Value) (kw:List (Str×Value)):dW k (A.under (.builtin "type.__call__" ⟨.ref C::us,kw⟩)):=
 ⟨r.hd,by have:=r.dp; rw [GD]; omega,by have:=r.un; rw [GJ]; omega⟩
theorem dW.depth {k:Nat} (r:dW k A):A.depth<recursionLimit:=by have:=r.dp; omega
theorem dW.units {k:Nat} (r:dW k A):A.units+64<cLine:=by have:=r.un; omega
noncomputable def KH:TA:=fun _ H Q=>Q [] H
noncomputable def zU (ta:TE) (tr:TA):TA:=fun σ H Q=>ta σ H fun x H1=>tr σ H1 fun xs H2=>Q (x::xs) H2
section
variable {X:Cx} {e:Expr} {es:List Expr} {te:TE} {t:TA} {pos:Pos}
theorem vU:PA X [] KH:=fun _ _ _ _ H Q I h=>Calls.spliced_nil ⟨[],H,I,.nil,h⟩
theorem qy (ha:PE X e te) (hr:PA X es t) (hs:starEach (e::es) X.env=(false,eval e X.env)::starEach es X.env:=by rfl):PA X (e::es) (zU te t):=by
 intro pos pins s σ H Q I h
 rw [hs]
 show wpAny _ _ (spliced ((false,eval e X.env)::backTo pos (starEach es X.env))) _ _ s
 refine Calls.spliced_cons (cu (ha pins s σ H _ I h) fun u s1 ⟨x,H1,I1,r1,q1⟩=>?_)
 exact cu (hr pos pins s1 σ H1 _ I1 q1) fun us s2 ⟨xs,H2,I2,r2,q2⟩=>⟨x::xs,H2,I2,.cons r1 r2,q2⟩
noncomputable def Vx (t:TA):TE:=fun σ H Q=>t σ H fun xs H1=>xs.length<=sizeLine/\∀ p,H1 p=none->Q (.ref p) (upd H1 p (.tup xs))
noncomputable def Vy (t:TA):TE:=fun σ H Q=>t σ H fun xs H1=>xs.length<=sizeLine/\∀ p,H1 p=none->Q (.ref p) (upd H1 p (.lst xs))
theorem Rr {x1} (h:PA X es t):PE X (.Tuple es x1 pos) (Vx t):=by
 intro pins s σ H Q I hq
 refine wpAny_Tuple_spliced (cu (h pos pins s σ H _ I hq) fun us s1 ⟨xs,H1,I1,r,z,q⟩=>⟨by rw [← r.length]; exact z,?_⟩)
 have hf:H1 s1.heap.objs.size=none:=I1.hok.fresh (Nat.le_refl _)
 refine ⟨.ref s1.heap.objs.size,upd H1 s1.heap.objs.size (.tup xs),I1.laid (t':=s1.toks) (fun b u e=>Heap.get?_push_of_some _ e) (Nat.le_refl _) ?_,rfl,q _ hf⟩
 exact ⟨z,us,r,⟨_,Heap.get?_push_size _ rfl,rfl,_,rfl⟩⟩
theorem Rt (h:PA X es t):PE X (.List es pos) (Vy t):=by
 intro pins s σ H Q I hq
 refine wpAny_List_spliced (cu (h pos pins s σ H _ I hq) fun us s1 ⟨xs,H1,I1,r,z,q⟩=>⟨by rw [← r.length]; exact z,?_⟩)
 have hf:H1 s1.heap.objs.size=none:=I1.hok.fresh (Nat.le_refl _)
 refine ⟨.ref s1.heap.objs.size,upd H1 s1.heap.objs.size (.lst xs),I1.laid (t':=s1.toks) (fun b u e=>Heap.get?_push_of_some _ e) (Nat.le_refl _) ?_,rfl,q _ hf⟩
 exact ⟨z,us,0,r,Heap.get?_push_size _ rfl⟩
end
noncomputable abbrev Sp:=List V->Hp->VK->XK->Prop
noncomputable abbrev sG:=List Env->Hp->Shared->XK->Value->Shared->Prop
structure u9 (P:Program) (w:World) (K:FG) (mg:Str->Option Value) (base:Heap) (A:Around) (outer:List Env) (s:Shared) (H:Hp):Prop where
 frames:A.frames=some outer
 mod:Mod K mg base
 bs:∀ b o,base.get? b=some o->s.heap.get? b=some o/\H b=none
 bsz:base.objs.size<=s.heap.objs.size
 funs:s.heap.FunFrames base outer
 frf:∀ b∈frs outer,H b=none
 hok:ik P w H s.heap
 bare:AllBare s.gens
noncomputable def CE (outer:List Env) (P:Program) (w:World) (H:Hp) (s:Shared) (Q:VK) (u:Value) (s':Shared):Prop:=
 ∃ v H',s'.os=s.os/\AllBare s'.gens/\Un (frs outer) [] H H' s.heap s'.heap/\ik P w H' s'.heap/\RelV v u/\Q v H'
noncomputable def CR (CX:sG) (outer:List Env) (P:Program) (w:World) (H:Hp) (s:Shared) (Q:VK) (E:XK) (r:Result) (s':Shared):Prop:=
 match r with
 | .ok (.ret u)=>CE outer P w H s Q u s'
 | .ok _=>False
 | .error e=>CX outer H s E e s'
structure iC (P:Program) (w:World) (K:FG) (mg:Str->Option Value) (base:Heap) (CX:sG) (k:Nat) (f:Addr) (fd:FuncData) (ps:List Str) (sp:Sp):Prop where
 len:∀ vs H Q E,sp vs H Q E->vs.length=ps.length
 run:∀ (A:Around) (outer:List Env) (s:Shared) (H:Hp) (args:Args) (us:List Value) (vs:List V) (Q:VK) (E:XK),dW k A->u9 P w K mg base A outer s H->BindsTo s fd args (ps.zip us)->Vals vs us->sp vs H Q E->
  codeAny (model P w) A (.call (.ref f) args) (CR CX outer P w H s Q E) s
theorem iC.imp {K:FG} {mg:Str->Option Value} {base:Heap} {CX:sG} {k:Nat} {f:Addr} {fd:FuncData} {ps:List Str} {sp sp':Sp} (F:iC P w K mg base CX k f fd ps sp)
 (h:∀ vs H Q E,sp' vs H Q E->sp vs H Q E):iC P w K mg base CX k f fd ps sp':=
 ⟨fun vs H Q E q=>F.len vs H Q E (h _ _ _ _ q),fun A outer s H args us vs Q E hr he hb hv hs=>F.run A outer s H args us vs Q E hr he hb hv (h _ _ _ _ hs)⟩
theorem u9.make {K:FG} {mg:Str->Option Value} {base:Heap} {outer:List Env} {H:Hp} (e:u9 P w K mg base A outer s H) (C:Addr) (us:List Value) (kw:List (Str×Value)):
 u9 P w K mg base (A.under (.builtin "type.__call__" ⟨.ref C::us,kw⟩)) outer s H:=⟨by first | exact e.frames | (simpa [Around.under,Code.envs,Code.isFrame,pushEnvs] using e.frames),e.mod,e.bs,e.bsz,e.funs,e.frf,e.hok,e.bare⟩
section
variable {X:Cx} {pins:List (Addr×Obj)} {σ:St} {H:Hp} {s s':Shared}
theorem Inv.env0 (I:Inv X pins σ H s):u9 X.prog X.w X.K X.mg X.base X.A X.stack s H:=
 ⟨I.ok.frames,I.ok.mod,I.bs,Nat.le_trans I.ok.bsz I.sz,I.stack,I.stkFree,I.hok,I.bare⟩
theorem Inv.after {Q:VK} {u:Value} (I:Inv X pins σ H s) (h:CE X.stack X.prog X.w H s Q u s'):EP X pins σ Q u s':=by
 obtain ⟨v,H',os,bare,un,hok,r,q⟩:=h
 obtain ⟨hh,g,d,t,os'⟩:=s'
 obtain rfl:os'=s.os:=os
 exact ⟨v,H',I.call (h':=hh) (g':=g) (d':=d) (t':=t) (ch:=[]) un hok bare (fun b z=>absurd z (by simp)),r,q⟩
end
noncomputable def Nb (sp:Sp) (dvs:List V) (E:XK) (t:TA):TE:=fun σ H Q=>t σ H fun vs H1=>sp (vs++dvs) H1 Q E
noncomputable def Nf (C:Addr) (m:Str) (sp:Sp) (dvs:List V) (E:XK) (ta:TE) (t:TA):TE:=fun σ H Q=>ta σ H fun x H1=>∃ a dx fs,x=.ref a/\H1 a=some (.ins C dx fs)/\fs.lookup m=none/\
 t σ H1 fun vs H2=>sp (x::(vs++dvs)) H2 Q E
noncomputable def Ng (C:Addr) (sp:Sp) (dvs:List V) (E:XK) (t:TA):TE:=fun σ H Q=>t σ H fun vs H1=>∀ x dx,H1 x=none->H1 dx=none->dx≠x->
 sp (.ref x::(vs++dvs)) (upd (upd H1 dx (.own x)) x (.ins C dx [])) (fun v H2=>v=.non/\Q (.ref x) H2) E
noncomputable def Binds (K:FG) (fd:FuncData) (ps:List Str) (ds:List Value):Prop:=
 ∀ (s:Shared) (us:List Value),K.In s.heap->(us++ds).length=ps.length->BindsTo s fd ⟨us,[]⟩ (ps.zip (us++ds))
theorem Binds.all {K:FG} {fd:FuncData} {ps:List Str} (h:∀ us:List Value,us.length=ps.length->bindArgs fd ⟨us,[]⟩=pure (ps.zip us)):Binds K fd ps []:=fun s us _ hl=>by
 rw [List.append_nil] at hl ⊢
 exact .of_eq (h us hl)
noncomputable def qz (CX:sG) (X:Cx) (E:XK):Prop:=∀ (pins:List (Addr×Obj)) (σ:St) (H:Hp) (s:Shared) (e:Value) (s':Shared),Inv X pins σ H s->CX X.stack H s E e s'->X.xe e s'
section
variable {X:Cx} {CX:sG} {k:Nat} {f C:Addr} {fd:FuncData} {ps:List Str} {sp:Sp} {dvs:List V} {ds:List Value} {E:XK} {x m:Str} {p pos apos:Pos} {e o:Expr} {es:List Expr} {ta:TE} {t:TA}
theorem HN {σ:St} {H:Hp} {Q:VK} {us:List Value} {vs:List V} (F:iC X.prog X.w X.K X.mg X.base CX k f fd ps sp) (hr:dW k X.A) (hb:Binds X.K fd ps ds) (hd:Vals dvs ds) (hx:qz CX X E)
 (I:Inv X pins σ H s) (r:Vals vs us) (h:sp (vs++dvs) H Q E):wpAny (model X.prog X.w) X.A (call (.ref f) us) (EP X pins σ Q) X.xe s:=by
 have r2:Vals (vs++dvs) (us++ds):=r.append hd
 have hl:(us++ds).length=ps.length:=by rw [← r2.length]; exact F.len _ _ _ _ h
 refine wpAny_call (codeAny_mono (F.run X.A X.stack s H ⟨us,[]⟩ (us++ds) (vs++dvs) Q E hr I.env0 (hb s us I.kIn hl) r2 h) fun r s' hq=>?_)
 cases r with
 | error e=>exact hx pins σ H s e s' I hq
 | ok fl=>
  cases fl with
  | ret u=>exact I.after hq
  | next=>exact False.elim hq
  | brk=>exact False.elim hq
  | cont=>exact False.elim hq
theorem Oz (F:iC X.prog X.w X.K X.mg X.base CX k f fd ps sp) (hr:dW k X.A) (hg:Gl X x) (hm:X.mg x=some (.ref f)) (hk:W.keepIn X.K (.ref f)=true) (hb:Binds X.K fd ps ds) (hd:Vals dvs ds) (hx:qz CX X E)
 (ha:PA X (e::es) t) (hdb:(x==("__debug__" : Str))=false:=by decide) (he:starEach (e::es) X.env=(false,eval e X.env)::starEach es X.env:=by rfl) (hpl:(backTo pos (starEach es X.env)).any (·.1)=false:=by rfl):
 PE X (.Call (.Name x p) (e::es) [] pos) (Nb sp dvs E t):=by
 intro pins s σ H Q I h
 refine wpAny_Call_Name_kw (Ef I hg hm ?_ hdb)
 refine W.callWith_K (h₀:=X.base) I.ok.mod.kin hk (cu (ha pos pins s σ H _ I h) fun us s1 ⟨vs,H1,I1,r,q⟩=>⟨I1.kIn,?_⟩) he hpl
 exact HN F hr hb hd hx I1 r q
theorem OD {pl:Sem Bool} (he:PE X o ta) (c:uV X.K C) (hm:Meth X.K C m f) (F:iC X.prog X.w X.K X.mg X.base CX k f fd ps sp) (hr:dW k X.A) (hb:Binds X.K fd ps ds) (hd:Vals dvs ds) (hx:qz CX X E) (ha:PA X (e::es) t)
 (hst:starEach (e::es) X.env=(false,eval e X.env)::starEach es X.env:=by rfl) (hpl:(backTo pos (starEach es X.env)).any (·.1)=false:=by rfl)
 (ht:eval (.Call (.Attribute o m apos) (e::es) [] pos) X.env=(do
   let ov ← eval o X.env
   standAt apos.atName
   let (f,first) ← holding [ov] (getMethod ov m pl)
   callWith pos f first (backTo pos (starEach (e::es) X.env)) (backToKw pos (keywordEach [] X.env))):=by rfl):
 PE X (.Call (.Attribute o m apos) (e::es) [] pos) (Nf C m sp dvs E ta t):=by
 intro pins s σ H Q I h
 refine W.methodCall_KW (pl:=pl) (cu (he pins s σ H _ I h) fun u s1 ⟨x,H1,I1,rx,a,dx,fs,ex,ea,l,q⟩=>?_) ht
 subst ex
 obtain rfl:u=Value.ref a:=rx
 refine vR I1 ea c hm l ?_
 refine W.callWith_K (first:=[.ref a]) (h₀:=X.base) I.ok.mod.kin hm.kp (cu (ha pos pins s1 σ H1 _ I1 q) fun us s2 ⟨vs,H2,I2,r,q2⟩=>⟨I2.kIn,?_⟩) hst hpl
 exact HN (us:=.ref a::us) (vs:=.ref a::vs) F hr hb hd hx I2 (.cons rfl r) q2
structure Mk (K:FG) (C f:Addr):Prop where
 makes:W.makesIn K C=true
 init:W.findIn K (.ref C) "__init__" = some (some (.ref f))
 fn:W.isFn K (.ref f)=true
 kp:W.keepIn K (.ref C)=true
theorem KJ {σ:St} {H:Hp} {Q:VK} {us:List Value} {vs:List V} (M:Mk X.K C f) (F:iC X.prog X.w X.K X.mg X.base CX k f fd ps sp) (hr:dW (k+1) X.A) (hb:Binds X.K fd ps ds) (hd:Vals dvs ds)
 (hx:qz CX X E) (I:Inv X pins σ H s) (r:Vals vs us)
 (h:∀ x dx,H x=none->H dx=none->dx≠x->sp (.ref x::(vs++dvs)) (upd (upd H dx (.own x)) x (.ins C dx [])) (fun v H2=>v=.non/\Q (.ref x) H2) E):
 wpAny (model X.prog X.w) X.A (call (.ref C) us) (EP X pins σ Q) X.xe s:=by
 have hq:=h (s.heap.objs.size+1) s.heap.objs.size (I.hok.fresh (Nat.le_succ _)) (I.hok.fresh (Nat.le_refl _)) (Nat.ne_of_lt (Nat.lt_succ_self _))
 have I2:=Inv.made (C:=C) I
 have r2:Vals (V.ref (s.heap.objs.size+1)::(vs++dvs)) (Value.ref (s.heap.objs.size+1)::(us++ds)):=.cons rfl (r.append hd)
 have hl:(Value.ref (s.heap.objs.size+1)::us++ds).length=ps.length:=by
  have e:=r2.length
  rw [F.len _ _ _ _ hq] at e
  exact e.symm
 refine wpAny_call (Kz (f:=f) I.kIn M.makes M.init (beq_iff_eq.mp M.fn) (codeAny_mono (F.run _ X.stack _ _ ⟨Value.ref (s.heap.objs.size+1)::us,[]⟩ (Value.ref (s.heap.objs.size+1)::(us++ds)) _ _ E (hr.make C us [])
  (I2.env0.make C us []) (hb _ (Value.ref (s.heap.objs.size+1)::us) I2.kIn hl) r2 hq) fun r s' hq'=>?_))
 cases r with
 | error e=>exact hx pins σ _ _ e s' I2 hq'
 | ok fl=>
  cases fl with
  | ret u=>
   obtain ⟨v,H',I3,rv,ev,q3⟩:=I2.after hq'
   subst ev
   exact ⟨rv,⟨V.ref (s.heap.objs.size+1),H',I3,rfl,q3⟩⟩
  | next=>exact False.elim hq'
  | brk=>exact False.elim hq'
  | cont=>exact False.elim hq'
theorem OJ (M:Mk X.K C f) (F:iC X.prog X.w X.K X.mg X.base CX k f fd ps sp) (hr:dW (k+1) X.A) (hg:Gl X x) (hm:X.mg x=some (.ref C)) (hb:Binds X.K fd ps ds) (hd:Vals dvs ds) (hx:qz CX X E)
 (ha:PA X (e::es) t) (hdb:(x==("__debug__" : Str))=false:=by decide) (he:starEach (e::es) X.env=(false,eval e X.env)::starEach es X.env:=by rfl) (hpl:(backTo pos (starEach es X.env)).any (·.1)=false:=by rfl):
 PE X (.Call (.Name x p) (e::es) [] pos) (Ng C sp dvs E t):=by
 intro pins s σ H Q I h
 refine wpAny_Call_Name_kw (Ef I hg hm ?_ hdb)
 refine W.callWith_K (h₀:=X.base) I.ok.mod.kin M.kp (cu (ha pos pins s σ H _ I h) fun us s1 ⟨vs,H1,I1,r,q⟩=>⟨I1.kIn,?_⟩) he hpl
 exact KJ M F hr hb hd hx I1 r q
end
section
variable {X:Cx} {CX:sG} {k:Nat} {f C:Addr} {fd:FuncData} {ps ks:List Str} {sp:Sp} {E:XK} {x m:Str} {p pos apos kpos:Pos} {e o:Expr} {es:List Expr} {kws:List Keyword} {te ta:TE} {t tk:TA} {nm:Option Str}
variable {g:List Value->List Value->List Value} {gV:List V->List V->List V}
end
structure bL (N P:List Str) (sc:Scope):Prop where
 kind:sc.kind=.function
 co:sc.isCoroutine=false
 gen:sc.isGenerator=false
 nd:N.Nodup
 pre:N.take P.length=P
 par:∀ x∈P,sc.names.lookup x=some .local\/sc.names.lookup x=some .cell
 nofree:∀ y∈sc.names,y.2≠.free
theorem yw {kindOf:Str->Option NameKind} {x:Str}:∀ {binds:List (Str×Value)} {m:Str->Option Value},(∀ v,(x,v)∉binds)->bindL kindOf binds m x=m x
 | [],_,_=>rfl
 | (n,v)::r,m,h=>by
  unfold bindL
  rw [yw fun w hw=>h w (List.mem_cons_of_mem _ hw)]
  split
  . have:x≠n:=by rintro rfl; exact h v List.mem_cons_self
    simp [this]
  . rfl
theorem yx {kindOf:Str->Option NameKind} {x:Str}:∀ {binds:List (Str×Value)} {m:Str->Option Value},(∀ v,(x,v)∉binds)->bindC kindOf binds m x=m x
 | [],_,_=>rfl
 | (n,v)::r,m,h=>by
  unfold bindC
  rw [yx fun w hw=>h w (List.mem_cons_of_mem _ hw)]
  split
  . rfl
  . have:x≠n:=by rintro rfl; exact h v List.mem_cons_self
    simp [this]
theorem yz {kindOf:Str->Option NameKind} {x:Str} {v:Value}:∀ {P:List Str} {vs:List Value} {i:Nat} {m:Str->Option Value},P.Nodup->P[i]?=some x->vs[i]?=some v->kindOf x=some .local->
 bindL kindOf (P.zip vs) m x=some v
 | [],_,_,_,_,h,_,_=>by simp at h
 | _::_,[],_,_,_,_,h,_=>by simp at h
 | p::P,w::vs,0,m,nd,h1,h2,hk=>by
  simp at h1 h2; subst h1; subst h2
  show bindL kindOf ((p,w)::P.zip vs) m p=_
  unfold bindL
  rw [yw fun v hv=>(List.nodup_cons.mp nd).1 (List.of_mem_zip hv).1,if_pos hk]
  simp
 | p::P,w::vs,i+1,m,nd,h1,h2,hk=>by
  show bindL kindOf ((p,w)::P.zip vs) m x=_
  unfold bindL
  exact yz (i:=i) (List.nodup_cons.mp nd).2 (by simpa using h1) (by simpa using h2) hk
theorem yC {kindOf:Str->Option NameKind} {x:Str} {v:Value}:∀ {P:List Str} {vs:List Value} {i:Nat} {m:Str->Option Value},P.Nodup->P[i]?=some x->vs[i]?=some v->kindOf x≠some .local->
 bindC kindOf (P.zip vs) m x=some v
 | [],_,_,_,_,h,_,_=>by simp at h
 | _::_,[],_,_,_,_,h,_=>by simp at h
 | p::P,w::vs,0,m,nd,h1,h2,hk=>by
  simp at h1 h2; subst h1; subst h2
  show bindC kindOf ((p,w)::P.zip vs) m p=_
  unfold bindC
  rw [yx fun v hv=>(List.nodup_cons.mp nd).1 (List.of_mem_zip hv).1,if_neg hk]
  simp
 | p::P,w::vs,i+1,m,nd,h1,h2,hk=>by
  show bindC kindOf ((p,w)::P.zip vs) m x=_
  unfold bindC
  exact yC (i:=i) (List.nodup_cons.mp nd).2 (by simpa using h1) (by simpa using h2) hk
noncomputable def start (N:List Str) (vs:List V):St:=vs.map some++List.replicate (N.length-vs.length) none
noncomputable def qg (CX:sG) (P:Program) (w:World) (K:FG) (mg:Str->Option Value) (base:Heap) (N:List Str) (qual:Str) (scope:Scope) (f:Addr) (cd:Value) (A:Around) (outer:List Env) (s:Shared) (H:Hp) (E:XK):Cx where
 prog:=P
 w:=w
 K:=K
 mg:=mg
 base:=base
 A:=A.deeper (envOfC qual scope s.heap.objs.size f cd)
 N:=N
 s₀:=s
 H0:=H
 env:=envOfC qual scope s.heap.objs.size f cd
 outer:=outer
 stack:=envOfC qual scope s.heap.objs.size f cd::outer
 ex:=[]
 calm:=true
 fn:=fun _=>true
 pn:=[]
 xe:=fun e s'=>wpAny (model P w) (A.deeper (envOfC qual scope s.heap.objs.size f cd)) (leaving (envOfC qual scope s.heap.objs.size f cd) e) (fun _ s''=>CX outer H s E e s'') (fun e' s''=>CX outer H s E e' s'') s'
theorem Am {sc:Scope} {n:Nat} {x:Str} (h:sc.names.lookup x=some .cell):∃ c,(cellsFrom n sc.names []).lookup x=some c:=by
 have q:=W.cellsFrom_some sc.names n [] (.inl h)
 exact Option.isSome_iff_exists.mp q
theorem HQ {CX:sG} {K:FG} {mg:Str->Option Value} {base:Heap} {N ps:List Str} {qual:Str} {scope:Scope} {f:Addr} {cd:Value} {outer:List Env} {s s1:Shared} {H:Hp} {E:XK} {us:List Value} {vs:List V}
 (S:bL N ps scope) (hd:A.handled=none) (e0:u9 P w K mg base A outer s H) (hl:vs.length=ps.length) (r:Vals vs us)
 (x:InCallC s s.heap.objs.size (bindL (envOfC qual scope s.heap.objs.size f cd).kindOf (ps.zip us) fun _=>none) (cellsFrom (s.heap.objs.size+1) scope.names []) (bindC (envOfC qual scope s.heap.objs.size f cd).kindOf (ps.zip us) fun _=>none) s1):
 Inv (qg CX P w K mg base N qual scope f cd A outer s H E) [] (start N vs) H s1:=by
 have hpl:ps.length<=N.length:=by have:=congrArg List.length S.pre; rw [List.length_take] at this; omega
 obtain ⟨h1,tk,rfl,hk⟩:=x.done
 have noA:∀ b:Addr,b∉(qg CX P w K mg base N qual scope f cd A outer s H E).ex:=fun b z=>absurd (show b∈([]:List Addr) from z) (by simp)
 refine ⟨⟨e0.mod,S.kind,rfl,rfl,Nat.le_refl _,fun y z c h1 h2=>?_,fun y hy=>?_,fun y c _ h=>?_,fun _=>hd,Around.frames_deeper e0.frames,.inr ⟨rfl,rfl⟩,fun b z=>absurd z (noA b),e0.bs,e0.bsz,fun b _ _=>noA b,fun b z=>absurd z (noA b),e0.funs,e0.frf⟩,
  rfl,e0.bare,Un.kept hk,⟨_,x.toInCall.ns,fun i y v h1 h2 h3=>?_⟩,fun y c h=>⟨_,x.cell y c h⟩,e0.hok.fresh (Nat.le_refl _),fun y c h=>?_,fun p hp=>absurd (show p∈([]:List (Addr×Obj)) from hp) (by simp),e0.hok.kept hk,?_⟩
 . exact name_of_addr x.apart (PySem.mem_of_lookup h1) (PySem.mem_of_lookup h2)
 . have hy:scope.names.lookup y=some .cell\/scope.names.lookup y=some .free:=hy
   rcases hy with hy | hy
   . exact Am hy
   . exact absurd rfl (S.nofree _ (PySem.mem_of_lookup hy))
 . exact Nat.le_of_lt (x.above y c (PySem.mem_of_lookup h))
 . have hi:i<vs.length:=by
    unfold start at h2
    by_cases hi:i<vs.length
    . exact hi
    . rw [List.getElem?_append_right (by simpa using hi)] at h2
      rw [List.getElem?_replicate] at h2
      split at h2<;>cases h2
   have ha:vs[i]?=some v:=by
    unfold start at h2
    rw [List.getElem?_append_left (by simpa using hi),List.getElem?_map] at h2
    cases e:vs[i]? with
    | none=>rw [e] at h2; cases h2
    | some a=>rw [e] at h2; cases h2; rfl
   obtain ⟨u,hu,rv⟩:=r.get ha
   have hp:ps[i]?=some y:=by
    rw [← S.pre,List.getElem?_take_of_lt (by omega)]; exact h1
   have ndP:ps.Nodup:=by rw [← S.pre]; exact S.nd.sublist (List.take_sublist _ _)
   refine ⟨u,rv,?_⟩
   rcases S.par y (List.mem_of_getElem? hp) with k | k
   . exact .inl ⟨k,yz ndP hp hu k⟩
   . obtain ⟨c,e⟩:=Am (n:=s.heap.objs.size+1) k
     refine .inr ⟨.inl k,c,e,?_⟩
     have q:=x.cell y c e
     rw [yC ndP hp hu (by show scope.names.lookup y≠_; rw [k]; decide)] at q
     exact q
 . exact e0.hok.fresh (Nat.le_of_lt (x.above y c (PySem.mem_of_lookup h)))
 . unfold start
   show _=N.length
   rw [List.length_append,List.length_map,List.length_replicate]
   omega
theorem Uj {CX:sG} {K:FG} {mg:Str->Option Value} {base:Heap} {k:Nat} {f:Addr} {name qual:Str} {params:Arguments} {body:List Stmt} {scope:Scope} {dV kV doc pm cdv ct oc:Value} {an od:Option Addr}
 {osl:Array (Option Value)} {N ps:List Str} {sp:Sp} (lk:K.lookup f=some ⟨oc,od,.func (W.fnOf name qual params body scope dV kV doc pm an cdv ct),osl⟩) (hcd:W.codeIn K cdv qual=true) (S:bL N ps scope)
 (len:∀ vs H Q E,sp vs H Q E->vs.length=ps.length)
 (hbody:∀ (A:Around) (outer:List Env) (s:Shared) (H:Hp) (vs:List V) (Q:VK) (E:XK),dW k (A.deeper (envOfC qual scope s.heap.objs.size f cdv))->sp vs H Q E->
   ∃ t,iV (qg CX P w K mg base N qual scope f cdv A outer s H E) body t/\t { nx:=fun _ H'=>Q .non H',rt:=Q } (start N vs) H):
 iC P w K mg base CX (k+1) f (W.fnOf name qual params body scope dV kV doc pm an cdv ct) ps sp:=by
 refine ⟨len,fun A outer s H args us vs Q E hr e0 hb r hsp=>?_⟩
 have hl:=len _ _ _ _ hsp
 have KX:K.In s.heap:=e0.mod.kin.keeps fun b o e=>(e0.bs b o e).1
 have lim:s.heap.NoLimit:=e0.mod.nolimit.keeps fun b o e=>(e0.bs b o e).1
 have hkind:∀ y∈ps.zip us,scope.names.lookup y.1=some .local\/(scope.names.lookup y.1=some .cell/\((cellsFrom (s.heap.objs.size+1) scope.names []).lookup y.1).isSome=true):=fun ⟨n,v⟩ hy=>by
  rcases S.par n (List.of_mem_zip hy).1 with q | q
  . exact .inl q
  . exact .inr ⟨q,W.cellsFrom_some _ _ _ (.inl q)⟩
 refine codeAny_call_function hr.depth (KX _ _ lk) rfl S.co S.gen rfl (W.codeRec_of KX hcd) (hb _ _ _ _ ?_)
 refine wpAny_newFunctionEnv_cells S.kind hkind fun env he s1 x=>?_
 subst he
 refine ⟨lim.keeps x.toInCall.keep,codeAny_func ?_⟩
 obtain ⟨t,ht,hq⟩:=hbody A outer s H vs Q E (hr.deeper _) hsp
 have I:Inv (qg CX P w K mg base N qual scope f cdv A outer s H E) [] (start N vs) H s1:=HQ S hr.hd e0 hl r x
 refine wpAny_mono (ht [] s1 (start N vs) H _ I hq) (fun fl s' hs=>?_) fun e s' hs=>hs
 have fin:∀ {σ':St} {H':Hp} {v:V} {u:Value},Inv (qg CX P w K mg base N qual scope f cdv A outer s H E) [] σ' H' s'->RelV v u->Q v H'->CE outer P w H s Q u s':=
  fun {σ' H' v u} J rv q=>⟨v,H',J.os,J.bare,J.base,J.hok,rv,q⟩
 cases fl with
 | ret u=>
  obtain ⟨v,σ',H',J,rv,q⟩:=hs
  exact fin J rv q
 | next=>
  obtain ⟨σ',H',J,q⟩:=hs
  exact fin (v:=V.non) (u:=Value.none) J rfl q
 | brk=>
  obtain ⟨_,_,_,q⟩:=hs
  exact False.elim q
 | cont=>
  obtain ⟨_,_,_,q⟩:=hs
  exact False.elim q
section
variable {X:Cx} {x:Str} {p pos:Pos} {e:Expr} {es:List Expr} {t:TA} {id T:String} {r:List V->Hp->VK->Prop}
noncomputable def yD (r:List V->Hp->VK->Prop) (t:TA):TE:=fun σ H Q=>t σ H fun vs H1=>r vs H1 Q
theorem gM (hc:lO X (.builtin id) r) (hg:Gl X x) (hm:X.mg x=none) (hv:bootBuiltins x=some (.builtin id)) (ha:PA X (e::es) t) (hn:x ≠ "__name__" := by decide) (hdb:(x==("__debug__" : Str))=false:=by decide)
 (he:starEach (e::es) X.env=(false,eval e X.env)::starEach es X.env:=by rfl) (hpl:(backTo pos (starEach es X.env)).any (·.1)=false:=by rfl):PE X (.Call (.Name x p) (e::es) [] pos) (yD r t):=by
 intro pins s σ H Q I h
 refine wpAny_Call_Name_kw (sO I hg hm hv ?_ hn hdb)
 exact PyProof.Rows.callWith_builtin1 (cu (ha pos pins s σ H _ I h) fun us s1 ⟨vs,H1,I1,r1,q1⟩=>hc pins s1 σ H1 vs us Q I1 r1 q1) he hpl
theorem nJ (hc:lO X (.type T) r) (hg:Gl X x) (hm:X.mg x=none) (hv:bootBuiltins x=some (.type T)) (ha:PA X (e::es) t) (hn:x ≠ "__name__" := by decide) (hdb:(x==("__debug__" : Str))=false:=by decide)
 (he:starEach (e::es) X.env=(false,eval e X.env)::starEach es X.env:=by rfl) (hpl:(backTo pos (starEach es X.env)).any (·.1)=false:=by rfl):PE X (.Call (.Name x p) (e::es) [] pos) (yD r t):=by
 intro pins s σ H Q I h
 refine wpAny_Call_Name_kw (sO I hg hm hv ?_ hn hdb)
 exact PyProof.Rows.callWith_type1 (cu (ha pos pins s σ H _ I h) fun us s1 ⟨vs,H1,I1,r1,q1⟩=>hc pins s1 σ H1 vs us Q I1 r1 q1) he hpl
end
end L2
namespace HT
open PySem PyProof.Rows
section
open PySem.SeqAt
open PySem.AutoSeq1 (wpAny_loadPart')
open PySem.MeetsSeq PySem.MeetsSeq2 PySem.MeetsSeq3
end
section
variable {prog:Program} {w:World} {A:Around} {E:Value->Shared->Prop} {s:Shared}
theorem cat_tup {t b:Addr} {vs ws:List Value} {Q:Value->Shared->Prop} (ht:IsTup s.heap t vs.toArray) (hb:IsTup s.heap b ws.toArray) (hv:vs≠[])
 (h1:ws=[]->Q (.ref t) s) (h2:ws≠[]->Q (.ref s.heap.objs.size) { s with heap:=s.heap.push { cls:=.type "tuple",data:=.seq (vs++ws).toArray } })
 (hsz:vs.length+ws.length<=sizeLine):wpAny (model prog w) A (binaryOp .Add (.ref t) (.ref b)) Q E s:=by
 obtain ⟨⟨cls,dd,data,sl⟩,ho,hc,n,hd⟩:=id ht
 obtain ⟨⟨cls2,dd2,data2,sl2⟩,ho2,hc2,n2,hd2⟩:=id hb
 simp only at hc hd hc2 hd2
 subst hc hd hc2 hd2
 have e:vs.toArray++ws.toArray=(vs++ws).toArray:=by simp
 by_cases hw:ws=[]
 . exact concat_meets ⟨_,ho,rfl⟩ ⟨_,ho2,rfl⟩ noFill_tuple_add seq_tuple_add F.slot_tuple_add F.entry_tuple_add (F.args_tuple_add_2 _ _)
    (tuple_addW1 t b vs.toArray ws.toArray n n2 dd dd2 sl sl2 (by simpa using hv) (by simp [hw])) ⟨ho,ho2,h1 hw⟩
 . refine concat_meets ⟨_,ho,rfl⟩ ⟨_,ho2,rfl⟩ noFill_tuple_add seq_tuple_add F.slot_tuple_add F.entry_tuple_add (F.args_tuple_add_2 _ _)
    (tuple_addW2 t b vs.toArray ws.toArray n n2 dd dd2 sl sl2 (by simpa using hv) (by simpa using hw) (by rw [List.size_toArray,List.size_toArray]; exact hsz)) ⟨ho,ho2,?_⟩
   rw [e]
   exact h2 hw
noncomputable def sIx (n d:Nat):Option Int->Nat
 | none=>d
 | some v=>if v<0 then (v+(n:Int)).toNat else min v.toNat n
theorem sIx_nat (n d k:Nat):sIx n d (some (k:Int))=min k n:=by
 show (if (k:Int)<0 then ((k:Int)+(n:Int)).toNat else min (k:Int).toNat n)=min k n
 rw [if_neg (by omega),Int.toNat_natCast]
theorem sIx_le (n d:Nat) (hd:d<=n) (o:Option Int):sIx n d o<=n:=by
 cases o with
 | none=>exact hd
 | some v=>
  show (if v<0 then (v+(n:Int)).toNat else min v.toNat n)<=n
  by_cases hv:v<0
  . rw [if_pos hv]; omega
  . rw [if_neg hv]; exact Nat.min_le_right _ _
theorem Eg (v:Int) (n d:Nat):(if v<0 then max (v+(n:Int)) 0 else min v (n:Int))=((sIx n d (some v):Nat):Int):=by
 show (if v<0 then max (v+(n:Int)) 0 else min v (n:Int))=(((if v<0 then (v+(n:Int)).toNat else min v.toNat n):Nat):Int)
 by_cases hv:v<0
 . simp only [if_pos hv]; omega
 . simp only [if_neg hv]; omega
theorem GK (lo hi:Option Int) (n:Nat):Builtin.Slice.sliceAdjust lo hi 1 (n:Int)=(((sIx n 0 lo:Nat):Int),((sIx n n hi:Nat):Int)):=by
 have h1:¬ ((1:Int)<0):=by omega
 unfold Builtin.Slice.sliceAdjust
 simp only [h1,if_false]
 refine Prod.ext ?_ ?_
 . cases lo with
   | none=>rfl
   | some v=>exact Eg v n 0
 . cases hi with
   | none=>rfl
   | some v=>exact Eg v n n
theorem GP (i j:Nat):Builtin.Slice.slicePlaces (i:Int) (j:Int) 1=j-i:=by
 unfold Builtin.Slice.slicePlaces
 have h1:(1:Int)>0:=by omega
 simp only [h1,if_true,Int.ediv_one]
 split<;>omega
theorem vV {v:Value} {o:Option Int} {Q:Option Int->Shared->Prop} (p:IsPart v o) (h:Q o s):wpAny (model prog w) A (Builtin.Slice.slicePartIndex v) Q E s:=by
 cases p with
 | none=>exact slicePart_none h
 | int i t=>exact slicePart_int h
theorem vd {sl:Addr} {vl vu:Value} {lo hi:Option Int} {n:Nat} {Q:Int×Int×Nat->Shared->Prop} (hs:s.heap.IsSliceOf sl vl vu .none) (pl:IsPart vl lo) (pu:IsPart vu hi)
 (h:Q (((sIx n 0 lo:Nat):Int),1,sIx n n hi-sIx n 0 lo) s):wpAny (model prog w) A (Builtin.Slice.sliceApplied (.ref sl) (pure (n:Int))) Q E s:=by
 obtain ⟨os,hos,hcs,hds⟩:=id hs
 unfold Builtin.Slice.sliceApplied Builtin.Slice.sliceFields
 refine wpAny_bind (wpAny_bind (wpAny_field hos hds (x:=vl) rfl (wpAny_bind (wpAny_field hos hds (x:=vu) rfl (wpAny_bind (wpAny_field hos hds (x:=.none) rfl (wpAny_pure ?_)))))))
 refine wpAny_bind (slicePart_none ?_)
 show wpAny _ _ (if ((1:Int)==0)=true then _ else _) _ _ s
 rw [if_neg (by decide)]
 refine wpAny_bind (vV pl (wpAny_bind (vV pu (wpAny_bind (wpAny_pure ?_)))))
 show wpAny _ _ (match Builtin.Slice.sliceAdjust lo hi 1 (n:Int) with | (lo,hi)=>pure (lo,(1:Int),Builtin.Slice.slicePlaces lo hi 1)) _ _ s
 rw [GK lo hi n]
 show wpAny _ _ (pure (((sIx n 0 lo:Nat):Int),(1:Int),Builtin.Slice.slicePlaces ((sIx n 0 lo:Nat):Int) ((sIx n n hi:Nat):Int) 1)) _ _ s
 rw [GP]
 exact wpAny_pure h
theorem KN (xs:Array Value) (i k:Nat):((List.range k).filterMap fun (m:Nat)=>xs[((i:Int)+(m:Int)*1).toNat]?).toArray=((xs.toList.drop i).take k).toArray:=by
 have e:(fun (m:Nat)=>xs[((i:Int)+(m:Int)*1).toNat]?)=fun m=>xs[i+m]?:=by
  funext m
  have:((i:Int)+(m:Int)*1).toNat=i+m:=by omega
  rw [this]
 rw [e]
 have:=pick_run xs i k
 rw [List.filterMap_map] at this
 have e2:((fun x=>xs[x]?) ∘ fun x=>i+x)=fun m=>xs[i+m]?:=rfl
 rw [e2] at this
 rw [this]
theorem getItem_tuple_cut {t sl:Addr} {items:Array Value} {vl vu:Value} {lo hi:Option Int} {Q:Value->Shared->Prop} (ht:IsTup s.heap t items) (hs:s.heap.IsSliceOf sl vl vu .none) (pl:IsPart vl lo) (pu:IsPart vu hi)
 (hw:¬ (sIx items.size 0 lo=0/\sIx items.size items.size hi=items.size))
 (h:Q (.ref s.heap.objs.size) { s with heap:=s.heap.push { cls:=.type "tuple",data:=.seq ((items.toList.drop (sIx items.size 0 lo)).take (sIx items.size items.size hi-sIx items.size 0 lo)).toArray } })
 (hsz:items.size<=sizeLine):wpAny (model prog w) A (getItem (.ref t) (.ref sl)) Q E s:=by
 have htake:sizeOk (.seq ((items.toList.drop (sIx items.size 0 lo)).take (sIx items.size items.size hi-sIx items.size 0 lo)).toArray):=by
  show ((items.toList.drop (sIx items.size 0 lo)).take (sIx items.size items.size hi-sIx items.size 0 lo)).toArray.size<=sizeLine
  rw [List.size_toArray,List.length_take,List.length_drop,Array.length_toList]
  omega
 have hj:sIx items.size items.size hi<=items.size:=sIx_le _ _ (Nat.le_refl _) hi
 obtain ⟨os,hos,hcs,hds⟩:=id hs
 have hTs:s.TypeIs (.ref sl) "slice" := ⟨os,hos,hcs⟩
 unfold getItem
 try with_reducible refine wpAny_holding ?_
 first | refine wpAny_bind (wpAny_pure ?_) | skip
 refine wpAny_bind (wpAny_sequenceKey ht.typeIs (by decide) ?_)
 refine wpAny_bind (wpAny_callSpecial?_slot (name:=Str.ofString "__getitem__") ht.typeIs PyProof.Rows.slot_tuple_getitem
  (wpAny_call_entry PyProof.Rows.slot_tuple_getitem ht.typeIs entry_tuple_getitem ?_ (args_tuple_getitem _ _)))
 show wpAny _ _ (Builtin.Tuple.tupleItemsOf (.ref t) >>= _) _ _ s
 refine wpAny_bind (tupleItemsOf_ ht ?_)
 refine wpAny_bind (wpAny_typeOf hTs ?_)
 rw [if_pos (by decide)]
 refine wpAny_bind (vd hs pl pu ?_)
 have hno:¬ ((((sIx items.size 0 lo:Nat):Int)==0&&(1:Int)==1&&(sIx items.size items.size hi-sIx items.size 0 lo)==items.size)=true):=by
  intro q
  rw [Bool.and_eq_true,Bool.and_eq_true] at q
  have q1:((sIx items.size 0 lo:Nat):Int)=0:=eq_of_beq q.1.1
  have q2:sIx items.size items.size hi-sIx items.size 0 lo=items.size:=eq_of_beq q.2
  exact hw ⟨by omega,by omega⟩
 show wpAny _ _ (if (((sIx items.size 0 lo:Nat):Int)==0&&(1:Int)==1&&(sIx items.size items.size hi-sIx items.size 0 lo)==items.size)=true then _ else _) _ _ s
 rw [if_neg hno,KN]
 first
  | exact wpAny_bind (m:=Builtin.Tuple.tupleExact _) (wpAny_newObj_type (wpAny_pure ⟨_,rfl,wpAny_pure h⟩) htake)
  | exact wpAny_bind (m:=Builtin.Tuple.tupleExact _) (wpAny_newObj_type (wpAny_bind (wpAny_pure (wpAny_pure ⟨_,rfl,wpAny_pure h⟩))) htake)
  | exact wpAny_bind (wpAny_bind (m:=Builtin.Tuple.tupleExact _) (wpAny_newObj_type (wpAny_pure (wpAny_pure ⟨_,rfl,wpAny_pure h⟩)) htake))
  | exact wpAny_bind (wpAny_bind (m:=Builtin.Tuple.tupleExact _) (wpAny_newObj_type (wpAny_pure ⟨_,rfl,wpAny_pure h⟩) htake))
end
end HT
namespace L2
open PySem PySem.Spec PyProof.Rows
variable {pins:List (Addr×Obj)} {E:Value->Shared->Prop} {s:Shared} {A:Around} {w:World} {P:Program}
noncomputable abbrev TO:=St->Hp->(Option Int->Hp->Prop)->Prop
noncomputable def PO (X:Cx) (e:Option Expr) (t:TO):Prop:=
 ∀ (pins:List (Addr×Obj)) (s:Shared) (σ:St) (H:Hp) (Q:Option Int->Hp->Prop),Inv X pins σ H s->t σ H Q->
  wpAny (model X.prog X.w) X.A (evalPart e X.env) (fun u s'=>∃ o H',Inv X pins σ H' s'/\IsPart u o/\Q o H') X.xe s
noncomputable def O1:TO:=fun _ H Q=>Q none H
noncomputable def Uk (t:TE):TO:=fun σ H Q=>t σ H fun x H1=>∃ i,x=.int i/\Q (some i) H1
section
variable {X:Cx} {e:Expr} {te:TE} {lo hi:Option Expr} {tl th:TO} {pos p2:Pos}
theorem O2:PO X none O1:=by
 intro pins s σ H Q I h
 rw [evalPart_none]
 exact wpAny_pure ⟨none,H,I,.none,h⟩
theorem O3 (h:PE X e te):PO X (some e) (Uk te):=by
 intro pins s σ H Q I hw
 rw [evalPart_some]
 refine cu (h pins s σ H _ I hw) fun u s1 ⟨x,H1,I1,r1,q1⟩=>?_
 obtain ⟨i,rfl,q⟩:=q1
 obtain ⟨t,rfl⟩:=r1
 exact ⟨some i,H1,I1,.int i t,q⟩
noncomputable def yE (X:Cx) (r:V->Option Int->Option Int->Hp->VK->Prop):Prop:=
 ∀ (pins:List (Addr×Obj)) (s:Shared) (σ:St) (H:Hp) (x:V) (v vl vu:Value) (lo hi:Option Int) (sl:Addr) (Q:VK),Inv X pins σ H s->RelV x v->s.heap.IsSliceOf sl vl vu .none->IsPart vl lo->IsPart vu hi->r x lo hi H Q->
  ∃ T id,typeLookup (.type T) "__getitem__" = pure (some (.builtin id))/\s.TypeIs v T/\wpAny (model X.prog X.w) X.A (getItem v (.ref sl)) (EP X pins σ Q) X.xe s
theorem yE.or {r r':V->Option Int->Option Int->Hp->VK->Prop} (h:yE X r) (h':yE X r'):yE X (fun x lo hi H Q=>r x lo hi H Q\/r' x lo hi H Q):=by
 intro pins s σ H x v vl vu lo hi sl Q I rx hs pl pu q
 rcases q with q | q
 . exact h pins s σ H x v vl vu lo hi sl Q I rx hs pl pu q
 . exact h' pins s σ H x v vl vu lo hi sl Q I rx hs pl pu q
noncomputable def V4 (r:V->Option Int->Option Int->Hp->VK->Prop) (te:TE) (tl th:TO):TE:=fun σ H Q=>te σ H fun x H1=>tl σ H1 fun l H2=>th σ H2 fun u H3=>r x l u H3 Q
theorem An {r:V->Option Int->Option Int->Hp->VK->Prop} (hr:yE X r) (he:PE X e te) (hl:PO X lo tl) (hu:PO X hi th):PE X (.Subscript e (.Slice lo hi none p2) pos) (V4 r te tl th):=by
 intro pins s σ H Q I h
 refine Subscript_ (cu (he pins s σ H _ I h) fun v s1 ⟨x,H1,I1,r1,q1⟩=>?_)
 refine wpAny_Slice (cu (hl pins s1 σ H1 _ I1 q1) fun vl s2 ⟨l,H2,I2,pl,q2⟩=>cu (hu pins s2 σ H2 _ I2 q2) fun vu s3 ⟨u,H3,I3,pu,q3⟩=>?_)
 rw [evalPart_none]
 refine wpAny_pure ?_
 have I4:Inv X pins σ H3 { s3 with heap:=s3.heap.push { cls:=.type "slice",data:=.fields #[vl,vu,.none] } }:=I3.kept (t':=s3.toks) fun b ob q=>Heap.get?_push_of_some _ q
 obtain ⟨T,id,hT,ht,hg⟩:=hr pins { s3 with heap:=s3.heap.push { cls:=.type "slice",data:=.fields #[vl,vu,.none] } } σ H3 x v vl vu l u s3.heap.objs.size Q I4 r1 (Heap.IsSliceOf.new ..) pl pu q3
 show wpAny (model X.prog X.w) X.A (subscriptTail e (.Slice lo hi none p2) v (.ref s3.heap.objs.size)) (EP X pins σ Q) X.xe { s3 with heap:=s3.heap.push { cls:=.type "slice",data:=.fields #[vl,vu,.none] } }
 exact tail_any (ops:=[.ref s3.heap.objs.size,v]) ht hT hg (by with_unfolding_all rfl)
noncomputable def oU (xs:List V) (lo hi:Option Int):List V:=(xs.drop (HT.sIx xs.length 0 lo)).take (HT.sIx xs.length xs.length hi-HT.sIx xs.length 0 lo)
theorem uW (xs:List V) (lo hi:Option Int):(oU xs lo hi).length<=xs.length:=by
 unfold oU
 rw [List.length_take,List.length_drop]
 omega
noncomputable def Vz (K:FG):V->Option Int->Option Int->Hp->VK->Prop:=fun x lo hi H Q=>∃ a xs,x=.ref a/\cB K H a xs/\
 ¬ (HT.sIx xs.length 0 lo=0/\HT.sIx xs.length xs.length hi=xs.length)/\∀ p,H p=none->Q (.ref p) (upd H p (.tup (oU xs lo hi)))
theorem Ru:yE X (Vz X.K):=by
 intro pins s σ H x v vl vu lo hi sl Q I rx hs pl pu h
 obtain ⟨a,xs,rfl,hx,hw,q⟩:=h
 cases rx
 obtain ⟨its,r,ht,hz⟩:=I.tuple hx
 have hlen:its.toArray.size=xs.length:=by rw [List.size_toArray]; exact r.length.symm
 refine ⟨"tuple",_,PyProof.Rows.slot_tuple_getitem.lookup,ht.typeIs,?_⟩
 refine HT.getItem_tuple_cut ht hs pl pu (by rw [hlen]; exact hw) ?_ (by rw [hlen]; exact hz)
 rw [hlen]
 refine ⟨.ref s.heap.objs.size,_,I.laid (t':=s.toks) (o:=.tup (oU xs lo hi)) (fun b ob q=>Heap.get?_push_of_some _ q) (Nat.le_refl _) ?_,rfl,q _ (I.hok.fresh (Nat.le_refl _))⟩
 exact ⟨Nat.le_trans (uW xs lo hi) hz,_,(r.drop (HT.sIx xs.length 0 lo)).take (HT.sIx xs.length xs.length hi-HT.sIx xs.length 0 lo),IsTup.new _ _⟩
noncomputable def Nh (K:FG):R2:=fun x y H Q=>∃ a b xs ys,x=.ref a/\y=.ref b/\cB K H a xs/\cB K H b ys/\xs≠[]/\xs.length+ys.length<=sizeLine/\
 (ys=[]->Q (.ref a) H)/\(ys≠[]->∀ p,H p=none->Q (.ref p) (upd H p (.tup (xs++ys))))
theorem Vals.nil_iff {xs:List V} {us:List Value} (r:Vals xs us):us=[] ↔ xs=[]:=by
 cases r with
 | nil=>simp
 | cons _ _=>simp
theorem O7:iJ X (binaryOp .Add) (Nh X.K):=by
 intro pins s σ H x y v u Q I rx ry h
 obtain ⟨a,b,xs,ys,rfl,rfl,ha,hb,hx,hz,q1,q2⟩:=h
 cases rx
 cases ry
 obtain ⟨its,r1,p1,_⟩:=I.tuple ha
 obtain ⟨its2,r2,p2,_⟩:=I.tuple hb
 refine HT.cat_tup p1 p2 (fun z=>hx (r1.nil_iff.mp z)) (fun z=>⟨.ref a,H,I,rfl,q1 (r2.nil_iff.mp z)⟩) (fun z=>?_) (by rw [← r1.length,← r2.length]; exact hz)
 refine ⟨.ref s.heap.objs.size,_,I.laid (t':=s.toks) (o:=.tup (xs++ys)) (fun b ob q=>Heap.get?_push_of_some _ q) (Nat.le_refl _) ?_,rfl,q2 (fun w=>z (r2.nil_iff.mpr w)) _ (I.hok.fresh (Nat.le_refl _))⟩
 exact ⟨by rw [List.length_append]; exact hz,_,r1.append r2,IsTup.new _ _⟩
end
noncomputable def nY (n:Nat) (i:Int):Option Nat:=if 0<=i then (if i<n then some i.toNat else none) else if -(n:Int)<=i then some (i+n).toNat else none
noncomputable def fW {α:Type} (xs:List α) (i:Int):Option α:=(nY xs.length i).bind fun j=>xs[j]?
theorem Eh {n:Nat} {i:Int} {j:Nat} (h:nY n i=some j):seqIndex? i n=some j/\j<n/\-(n:Int)<=i/\i<n:=by
 unfold nY at h
 by_cases h0:0<=i
 . rw [if_pos h0] at h
   by_cases h1:i<n
   . rw [if_pos h1] at h
     have e:i.toNat=j:=Option.some.inj h
     exact ⟨by rw [seqIndex_of h0 h1,e],by omega,by omega,h1⟩
   . rw [if_neg h1] at h; cases h
 . rw [if_neg h0] at h
   by_cases h1:-(n:Int)<=i
   . rw [if_pos h1] at h
     have e:(i+n).toNat=j:=Option.some.inj h
     exact ⟨by rw [seqIndex_neg (by omega) h1,e],by omega,h1,by omega⟩
   . rw [if_neg h1] at h; cases h
theorem xx {α:Type} {xs:List α} {i:Int} {v:α} (h:fW xs i=some v):∃ j,seqIndex? i xs.length=some j/\xs[j]?=some v/\j<xs.length/\-(xs.length:Int)<=i/\i<xs.length:=by
 unfold fW at h
 cases e:nY xs.length i with
 | none=>rw [e] at h; cases h
 | some j=>
  rw [e] at h
  obtain ⟨h1,h2,h3,h4⟩:=Eh e
  exact ⟨j,h1,h,h2,h3,h4⟩
theorem O8 {α:Type} {xs:List α} {j:Nat} {v:α} (h:xs[j]?=some v):fW xs (j:Int)=some v:=by
 have hj:j<xs.length:=(List.getElem?_eq_some_iff.mp h).1
 have e:nY xs.length (j:Int)=some j:=by
  unfold nY
  rw [if_pos (by omega),if_pos (by omega)]; simp
 unfold fW; rw [e]; exact h
theorem vf {α:Type} (xs:List α) (v:α):fW (xs++[v]) (-1)=some v:=by
 have hl:(xs++[v]).length=xs.length+1:=by simp
 have e:nY (xs++[v]).length (-1)=some xs.length:=by
  unfold nY
  rw [hl,if_neg (by decide),if_pos (by omega)]
  congr 1
  omega
 unfold fW
 rw [e]
 show (xs++[v])[xs.length]?=some v
 simp
noncomputable def Ei (b:Expr):Prop:=∀ o i,subscripted b false o i=operate [o,i] (getItem o i)
noncomputable def vW (X:Cx) (r:R2):Prop:=
 ∀ (value slice:Expr) (pins:List (Addr×Obj)) (s:Shared) (σ:St) (H:Hp) (x y:V) (v u:Value) (Q:VK),Inv X pins σ H s->RelV x v->RelV y u->r x y H Q->
  subscripted slice false v u=operate [v,u] (getItem v u)->wpAny (model X.prog X.w) X.A (subscriptTail value slice v u) (EP X pins σ Q) X.xe s
noncomputable def HR (X:Cx) (id:String) (r:V->List V->Hp->VK->Prop):Prop:=
 ∀ (pins:List (Addr×Obj)) (s:Shared) (σ:St) (H:Hp) (x:V) (xs:List V) (v:Value) (us:List Value) (Q:VK),Inv X pins σ H s->RelV x v->Vals xs us->r x xs H Q->
  wpAny (model X.prog X.w) X.A (call (.builtin id) (v::us)) (EP X pins σ Q) X.xe s
section
variable {X:Cx} {a b:Expr} {ta tb:TE} {pos:Pos}
theorem vW.or {r r':R2} (h:vW X r) (h':vW X r'):vW X (fun x y H Q=>r x y H Q\/r' x y H Q):=by
 intro value slice pins s σ H x y v u Q I rx ry q hs
 rcases q with q | q
 . exact h value slice pins s σ H x y v u Q I rx ry q hs
 . exact h' value slice pins s σ H x y v u Q I rx ry q hs
theorem Ul {r:R2} (hr:vW X r) (ha:PE X a ta) (hb:PE X b tb) (hs:Ei b):PE X (.Subscript a b pos) (HD r ta tb):=by
 intro pins s σ H Q I h
 exact Subscript_ (Ks ha hb I h fun v u s2 x y H2 I2 rx ry q=>hr a b pins s2 σ H2 x y v u Q I2 rx ry q (hs _ _))
noncomputable def Rv (K:FG):R2:=fun x y H Q=>∃ p xs i v,x=.ref p/\y=.int i/\bK K H p xs/\fW xs i=some v/\Q v H
noncomputable def Rw (K:FG):R2:=fun x y H Q=>∃ p xs i v,x=.ref p/\y=.int i/\cB K H p xs/\fW xs i=some v/\Q v H
noncomputable def Rx:R2:=fun x y H Q=>∃ z i c,x=.str z/\y=.int i/\z.length<=sizeLine/\fW z.cps.toList i=some c/\Q (.str ⟨#[c]⟩) H
theorem O9:vW X (Rv X.K):=by
 intro value slice pins s σ H x y v u Q I rx ry h hs
 obtain ⟨p,xs,i,z,rfl,rfl,hq,he,q⟩:=h
 cases rx
 obtain ⟨t,rfl⟩:=ry
 obtain ⟨its,r,pl,hz⟩:=I.list hq
 obtain ⟨j,h1,h2,h3,h4,h5⟩:=xx he
 obtain ⟨w,ew,rw'⟩:=r.get h2
 have hl:=r.length
 have hn:=qx
 have fin:EP X pins σ Q w s:=⟨z,H,I,rw',q⟩
 by_cases h0:0<=i
 . have hj:i.toNat=j:=by
    rw [seqIndex_of h0 h5] at h1
    exact Option.some.inj h1
   exact item_listR pl.isList h0 (by omega) (by rw [hj]; simpa using ew) fin hs
 . have hj:(i+(its.toArray.size:Int)).toNat=j:=by
    rw [seqIndex_neg (by omega) h4] at h1
    rw [List.size_toArray,← hl]
    exact Option.some.inj h1
   exact subscriptTail_builtinR (x:=w) pl.isList.typeIs slot_list_getitem.lookup
    (wpAny_getItem_list_neg (Q:=fun r s'=>r=w/\EP X pins σ Q r s') pl.isList (by omega) (by rw [List.size_toArray]<;>omega) (by omega) (by rw [hj]; simpa using ew) ⟨rfl,fin⟩) hs
theorem Ry:vW X (Rw X.K):=by
 intro value slice pins s σ H x y v u Q I rx ry h hs
 obtain ⟨p,xs,i,z,rfl,rfl,hq,he,q⟩:=h
 cases rx
 obtain ⟨t,rfl⟩:=ry
 obtain ⟨its,r,pl,hz⟩:=I.tuple hq
 obtain ⟨j,h1,h2,h3,h4,h5⟩:=xx he
 obtain ⟨w,ew,rw'⟩:=r.get h2
 have hl:=r.length
 have hn:=qx
 have fin:EP X pins σ Q w s:=⟨z,H,I,rw',q⟩
 exact subscriptTail_builtinR (x:=w) pl.typeIs slot_tuple_getitem.lookup
  (getItem_tuple (j:=j) (Q:=fun r s'=>r=w/\EP X pins σ Q r s') pl (by omega) (by omega) (by rw [List.size_toArray,← hl]; exact h1) (by simpa using ew) ⟨rfl,fin⟩) hs
theorem Rz:vW X Rx:=by
 intro value slice pins s σ H x y v u Q I rx ry h hs
 obtain ⟨z,i,c,rfl,rfl,hz,he,q⟩:=h
 obtain ⟨t,rfl⟩:=rx
 obtain ⟨t',rfl⟩:=ry
 obtain ⟨j,h1,h2,h3,h4,h5⟩:=xx he
 have hl:z.cps.toList.length=z.length:=by simp [Str.length]
 rw [hl] at h1 h4 h5
 have hn:=qx
 exact tail_any (typeIs_str s z t) slot_str_getitem.lookup (getItem_str (c:=c) (by
  have e1:decide (i < -(2 ^ 63:Int))=false:=decide_eq_false (by omega)
  have e2:decide (i ≥ 2 ^ 63)=false:=decide_eq_false (by omega)
  rw [e1,e2,Bool.or_false]) (by rw [h1]; simpa using h2) ⟨.str ⟨#[c]⟩,H,I.tok _,⟨_,rfl⟩,q⟩) hs
noncomputable def Vc (K:FG):R2:=fun x y H Q=>Rv K x y H Q\/Rw K x y H Q\/Rx x y H Q
theorem RB:vW X (Vc X.K):=O9.or (Ry.or Rz)
theorem GQ (its:List Value) (n j:Nat) (u:Value):Obj.mapSeq (·.setIfInBounds j u) { cls:=.type "list",data:=.seq its.toArray n }={ cls:=.type "list",data:=.seq (its.set j u).toArray n }:=by
 simp [Obj.mapSeq]
theorem Inv.lst {σ:St} {H:Hp} {p:Addr} {xs:List V} (I:Inv X pins σ H s) (h:H p=some (.lst xs)):
 ∃ (its:List Value) (n:Nat),Vals xs its/\s.heap.get? p=some { cls:=.type "list",data:=.seq its.toArray n }/\xs.length<=sizeLine:=by
 obtain ⟨z,its,n,r,e⟩:=I.hok p _ h
 exact ⟨its,n,r,e,z⟩
theorem Inv.lstUpd {σ:St} {H:Hp} {p:Addr} {xs ys:List V} {its its':List Value} {n n':Nat} {f:Obj->Obj} (I:Inv X pins σ H s) (h:H p=some (.lst xs))
 (ho:s.heap.get? p=some { cls:=.type "list",data:=.seq its.toArray n }) (hf:f { cls:=.type "list",data:=.seq its.toArray n }={ cls:=.type "list",data:=.seq its'.toArray n' }) (r:Vals ys its') (hz:ys.length<=sizeLine) (t:Nat):
 Inv X pins σ (upd H p (.lst ys)) { s with heap:=s.heap.update p f,toks:=t }:=by
 have e:(s.heap.update p f).get? p=some { cls:=.type "list",data:=.seq its'.toArray n' }:=by
  rw [Heap.get?_update_self f ho (by rw [hf]<;>rfl),hf]
 refine I.write (x:=p) (e:=p) (by rw [h]; trivial) (.inl rfl) (fun b u hb q=>(Heap.get?_update_other _ _ (Ne.symm hb)).trans q) ⟨_,e⟩ ?_
 exact ⟨hz,its',n',r,e⟩
noncomputable def Ni:V->V->V->Hp->(Hp->Prop)->Prop:=fun o i v H Q=>∃ p xs k j,o=.ref p/\i=.int k/\H p=some (.lst xs)/\nY xs.length k=some j/\Q (upd H p (.lst (xs.set j v)))
theorem set_list:Kp X Ni:=by
 intro pins s σ H o i v ov iv u Q I ro ri rv h
 obtain ⟨p,xs,k,j,rfl,rfl,hp,hj,q⟩:=h
 cases ro
 obtain ⟨t,rfl⟩:=ri
 obtain ⟨its,n,r,ho,hz⟩:=I.lst hp
 obtain ⟨h1,h2,h3,h4⟩:=Eh hj
 have hl:=r.length
 have hn:=qx
 have I':Inv X pins σ (upd H p (.lst (xs.set j v))) { s with heap:=s.heap.update p (Obj.mapSeq (·.setIfInBounds j u)) }:=
  I.lstUpd hp ho (GQ its n j u) (r.set rv j) (by rw [List.length_set]; exact hz) s.toks
 by_cases h0:0<=k
 . have hk:k.toNat=j:=by
    rw [seqIndex_of h0 h4] at h1
    exact Option.some.inj h1
   exact W.ki_setAt ho h0 (by omega) (by rw [List.size_toArray,← hl]; exact h4) (by rw [hk]; exact ⟨_,I',q⟩)
 . have hk:(k+(its.toArray.size:Int)).toNat=j:=by
    rw [seqIndex_neg (by omega) h3] at h1
    rw [List.size_toArray,← hl]
    exact Option.some.inj h1
   exact W.ki_setBack ho (by omega) (by rw [List.size_toArray,← hl]; exact h3) (by omega) (by rw [hk]; exact ⟨_,I',q⟩)
theorem Ao (lo hi:Option Int) (n:Nat):(sliceBounds lo hi none n).1=((HT.sIx n 0 lo:Nat):Int)/\(sliceBounds lo hi none n).2.1=((HT.sIx n n hi:Nat):Int)/\(sliceBounds lo hi none n).2.2=1:=by
 refine ⟨?_,?_,rfl⟩
 . cases lo with
   | none=>simp [sliceBounds,HT.sIx]
   | some i=>
    simp only [sliceBounds,HT.sIx,Option.getD_none,show (1:Int)>0 by decide,if_true]
    by_cases h:i<0
    . simp only [h,if_true]<;>omega
    . simp only [h,if_false]<;>omega
 . cases hi with
   | none=>simp [sliceBounds,HT.sIx]
   | some i=>
    simp only [sliceBounds,HT.sIx,Option.getD_none,show (1:Int)>0 by decide,if_true]
    by_cases h:i<0
    . simp only [h,if_true]<;>omega
    . simp only [h,if_false]<;>omega
theorem zA (its:List Value) (lo hi:Option Int):slicePick its.toArray lo hi none=((its.drop (HT.sIx its.length 0 lo)).take (HT.sIx its.length its.length hi-HT.sIx its.length 0 lo)).toArray:=by
 obtain ⟨h1,h2,h3⟩:=Ao lo hi its.toArray.size
 unfold slicePick
 rw [h1,h2,h3]
 simp only [sliceRange_one,pick_run,List.size_toArray]<;>rfl
noncomputable def VB (K:FG):V->Option Int->Option Int->Hp->VK->Prop:=fun x lo hi H Q=>∃ a xs,x=.ref a/\bK K H a xs/\∀ p,H p=none->Q (.ref p) (upd H p (.lst (oU xs lo hi)))
theorem Pa:yE X (VB X.K):=by
 intro pins s σ H x v vl vu lo hi sl Q I rx hs pl pu h
 obtain ⟨a,xs,rfl,hx,q⟩:=h
 cases rx
 obtain ⟨its,r,ht,hz⟩:=I.list hx
 have hlen:=r.length
 refine ⟨"list",_,slot_list_getitem.lookup,ht.isList.typeIs,?_⟩
 refine wpAny_getItem_list_slice ht.isList hs pl pu .none (by simp) ?_ (by rw [List.size_toArray]<;>omega)
 rw [zA,← hlen]
 refine ⟨.ref s.heap.objs.size,_,I.laid (t':=s.toks) (o:=.lst (oU xs lo hi)) (fun b ob q=>Heap.get?_push_of_some _ q) (Nat.le_refl _) ?_,rfl,q _ (I.hok.fresh (Nat.le_refl _))⟩
 exact ⟨Nat.le_trans (uW xs lo hi) hz,_,0,(r.drop (HT.sIx xs.length 0 lo)).take (HT.sIx xs.length xs.length hi-HT.sIx xs.length 0 lo),Heap.get?_push_size _ rfl⟩
noncomputable def Nj:V->Bool
 | .non=>true
 | .bl _=>true
 | .int _=>true
 | .str _=>true
 | _=>false
theorem sX:lO X (.type "list") (fun xs H Q=>∃ p ys,xs=[.ref p]/\(bK X.K H p ys\/cB X.K H p ys)/\∀ l,H l=none->Q (.ref l) (upd H l (.lst ys))):=by
 intro pins s σ H xs us Q I r h
 obtain ⟨p,ys,rfl,hq,q⟩:=h
 obtain ⟨u,rfl,rx⟩:=vals1 r
 cases rx
 have fin:∀ (its:List Value),Vals ys its->ys.length<=sizeLine->∀ (h':Heap) (c':Nat),(∀ b o',s.heap.get? b=some o'->h'.get? b=some o')->
  h'.get? s.heap.objs.size=some { cls:=.type "list",dict:=none,data:=.seq its.toArray c',slots:=#[] }->EP X pins σ Q (.ref s.heap.objs.size) { s with heap:=h' }:=fun its r' hz h' c' kp e=>
  ⟨.ref s.heap.objs.size,_,I.laid (t':=s.toks) kp (Nat.le_refl _) (show fD X.prog X.w _ h' _ (.lst ys) from ⟨hz,its,c',r',e⟩),rfl,q _ (I.hok.fresh (Nat.le_refl _))⟩
 rcases hq with hq | hq
 . obtain ⟨its,r',pl,hz⟩:=I.list hq
   have hlen:=r'.length
   obtain ⟨o,ho,hc,n,hd⟩:=pl.isList
   exact call_list_seq p (.inl rfl) ho hc hd (fun h' c' kp e=>fin its r' hz h' c' kp e) (by simp only [List.size_toArray]<;>omega)
 . obtain ⟨its,r',pl,hz⟩:=I.tuple hq
   have hlen:=r'.length
   obtain ⟨o,ho,hc,n,hd⟩:=pl
   exact call_list_seq p (.inr rfl) ho hc hd (fun h' c' kp e=>fin its r' hz h' c' kp e) (by simp only [List.size_toArray]<;>omega)
noncomputable def RC (K:FG) (T:String) (x:V) (H:Hp):Prop:=match x with
 | .str _=>T = "str"
 | .int _=>T = "int"
 | .ref p=>(T = "list" /\ ∃ xs,bK K H p xs)\/(T = "tuple" /\ ∃ o,K.lookup p=some o/\o.cls=.type "tuple" /\ o.dict=none)\/
  (T = "dict" /\ ((∃ kvs,H p=some (.dK kvs))\/∃ kvs,H p=some (.dT kvs)))\/(T = "set" /\ ∃ S n,H p=some (.set S n))
 | _=>False
theorem HS {σ:St} {H:Hp} {T:String} {x:V} {v:Value} (I:Inv X pins σ H s) (r:RelV x v) (ty:RC X.K T x H):
 s.TypeIs v T/\∀ a,v=.ref a->∃ ob,s.heap.get? a=some ob/\ob.dict=none:=by
 cases x with
 | str z=>
  obtain ⟨t,rfl⟩:=r
  cases (show T = "str" from ty)
  exact ⟨typeIs_str s z t,fun _ e=>nomatch e⟩
 | int i=>
  obtain ⟨t,rfl⟩:=r
  cases (show T = "int" from ty)
  exact ⟨typeIs_int s i t,fun _ e=>nomatch e⟩
 | ref p=>
  cases r
  rcases ty with ⟨rfl,xs,hq⟩ | ⟨rfl,o,hk,hc,hd⟩ | ⟨rfl,hk⟩ | ⟨rfl,S,n,hk⟩
  . obtain ⟨its,_,pl,_⟩:=I.list hq
    refine ⟨pl.isList.typeIs,fun a e=>?_⟩
    cases e
    obtain ⟨o,n,e,c,hd,_⟩:=pl
    exact ⟨o,e,hd⟩
  . refine ⟨⟨o,I.kIn p o hk,hc⟩,fun a e=>?_⟩
    cases e
    exact ⟨o,I.kIn _ o hk,hd⟩
  . have z:∃ o,s.heap.get? p=some o/\o.ExactDict:=by
     rcases hk with ⟨kvs,hk⟩ | ⟨kvs,hk⟩
     . obtain ⟨_,_,_,_,o,_,_,e,ex,_⟩:=I.hok p _ hk
       exact ⟨o,e,ex⟩
     . obtain ⟨_,_,_,_,o,_,_,e,ex,_⟩:=I.hok p _ hk
       exact ⟨o,e,ex⟩
    obtain ⟨o,e,ex⟩:=z
    refine ⟨⟨o,e,ex.1⟩,fun a e2=>?_⟩
    cases e2
    exact ⟨o,e,ex.2.1⟩
  . obtain ⟨o,_,_,_,e,ex,_⟩:=I.hok p _ hk
    refine ⟨⟨o,e,ex.1⟩,fun a e2=>?_⟩
    cases e2
    exact ⟨o,e,ex.2.1⟩
 | _=>exact False.elim ty
noncomputable def RD (K:FG) (T:String) (r:V->List V->Hp->VK->Prop) (to:TE):TE:=fun σ H Q=>to σ H fun x H1=>RC K T x H1/\r x [] H1 Q
noncomputable def Ej (K:FG) (T:String) (r:V->List V->Hp->VK->Prop) (to:TE) (t:TA):TE:=fun σ H Q=>to σ H fun x H1=>RC K T x H1/\t σ H1 fun xs H2=>r x xs H2 Q
variable {o e:Expr} {es:List Expr} {to:TE} {t:TA} {name:Str} {apos cpos:Pos} {T id:String} {r:V->List V->Hp->VK->Prop}
theorem RG (pa:PlainAttrs T) (slot:Slot T name id) (hty:typeOf (.builtin id)=pure (.type "method_descriptor")) (hm:HR X id r) (ho:PE X o to)
 (hbase:attributeBase o name X.env (eval o X.env)=eval o X.env:=by rfl) (hline:(apos.endLine==cpos.line)=true:=by rfl):PE X (.Call (.Attribute o name apos) [] [] cpos) (RD X.K T r to):=by
 intro pins s σ H Q I h
 refine wpAny_Call_method0_late hbase hline (cu (ho pins s σ H _ I h) fun v s1 ⟨x,H1,I1,r1,ty,q1⟩=>?_)
 obtain ⟨h1,h2⟩:=HS I1 r1 ty
 exact ⟨T,id,pa,slot,hty,h1,h2,Calls.callWith_builtin rfl (PySem.evalArgs_none (hm pins s1 σ H1 x [] v [] Q I1 r1 .nil q1))⟩
theorem n8 (pa:PlainAttrs T) (slot:Slot T name id) (hty:typeOf (.builtin id)=pure (.type "method_descriptor")) (hm:HR X id r) (ho:PE X o to) (ha:PA X (e::es) t)
 (hbase:attributeBase o name X.env (eval o X.env)=eval o X.env:=by rfl)
 (hfew:((backTo cpos (starEach (e::es) X.env)).all (fun x=>!x.1)&&(backToKw cpos (keywordEach [] X.env)).all (fun x=>x.1.isSome)
   && decide ((e::es).length+([]:List Keyword).length+(if ([]:List Keyword).isEmpty then 0 else 1)<30))=true:=by rfl)
 (hline:(apos.endLine==cpos.line)=true:=by rfl) (hs:starEach (e::es) X.env=(false,eval e X.env)::starEach es X.env:=by rfl) (hplain:(backTo cpos (starEach es X.env)).any (·.1)=false:=by rfl):
 PE X (.Call (.Attribute o name apos) (e::es) [] cpos) (Ej X.K T r to t):=by
 intro pins s σ H Q I h
 refine wpAny_Call_method_late hbase hfew hline rfl (cu (ho pins s σ H _ I h) fun v s1 ⟨x,H1,I1,r1,ty,q1⟩=>?_)
 obtain ⟨h1,h2⟩:=HS I1 r1 ty
 refine ⟨T,id,pa,slot,hty,h1,h2,?_⟩
 have hA:=ha cpos pins s1 σ H1 _ I1 q1
 rw [hs] at hA ⊢
 refine Calls.callWith_builtin (by show (false||(backTo cpos (starEach es X.env)).any (·.1))=false; rw [hplain]<;>rfl) (Calls.evalArgs_plain ?_)
 exact cu hA fun us s2 ⟨vs,H2,I2,r2,q2⟩=>hm pins s2 σ H2 x vs v us Q I2 r1 r2 q2
end
noncomputable def HW (X:Cx) (id:String) (r:V->List V->Hp->VK->Prop):Prop:=
 ∀ (pins:List (Addr×Obj)) (s:Shared) (σ:St) (H:Hp) (x:V) (xs:List V) (v:Value) (us:List Value) (Q:VK),Inv X pins σ H s->RelV x v->Vals xs us->r x xs H Q->
  wpAny (model X.prog X.w) X.A (call (.builtin id) (v::us)) (EP X pins σ Q) X.xe s
theorem Vals.one:∀ {x:V} {us:List Value},Vals [x] us->∃ u,us=[u]/\RelV x u
 | _,_,.cons r .nil=>⟨_,rfl,r⟩
theorem Vals.two:∀ {x y:V} {us:List Value},Vals [x,y] us->∃ u v,us=[u,v]/\RelV x u/\RelV y v
 | _,_,_,.cons r (.cons q .nil)=>⟨_,_,rfl,r,q⟩
theorem Vals.zero:∀ {us:List Value},Vals [] us->us=[]
 | _,.nil=>rfl
theorem Vals.dropLast {xs:List V} {us:List Value} (h:Vals xs us):Vals xs.dropLast us.dropLast:=by
 induction h with
 | nil=>exact .nil
 | cons r t ih=>
  cases t with
  | nil=>exact .nil
  | cons q t'=>exact .cons r ih
theorem Vals.eraseIdx:∀ {xs:List V} {us:List Value} (i:Nat),Vals xs us->Vals (xs.eraseIdx i) (us.eraseIdx i)
 | _,_,_,.nil=>.nil
 | _,_,0,.cons _ t=>t
 | _,_,i+1,.cons r t=>.cons r (Vals.eraseIdx i t)
theorem GR {α:Type} (l:List α):l.eraseIdx (l.length-1)=l.dropLast:=by
 induction l with
 | nil=>rfl
 | cons a r ih=>
  cases r with
  | nil=>rfl
  | cons b r=>
   have e:(a::b::r).length-1=((b::r).length-1)+1:=by
    have h1:(a::b::r).length=r.length+2:=rfl
    have h2:(b::r).length=r.length+1:=rfl
    omega
   rw [e,List.eraseIdx_cons_succ,ih]
   all_goals rfl
theorem yF {α:Type}:∀ (l:List α) (i:Nat),(l.eraseIdx i).length<=l.length
 | [],_=>Nat.le_refl _
 | _::_,0=>Nat.le_succ _
 | _::r,i+1=>Nat.succ_le_succ (yF r i)
section
variable {X:Cx} {pins:List (Addr×Obj)} {σ:St} {H:Hp} {s:Shared} {l b:Addr} {xs ys zs:List V}
theorem Inv.lset {its its':List Value} {n:Nat} {f:Array Value->Array Value} {t':Nat} (I:Inv X pins σ H s) (hH:H l=some (.lst xs))
 (e:s.heap.get? l=some { cls:=.type "list",data:=.seq its.toArray n }) (hf:f its.toArray=its'.toArray) (hv:Vals ys its') (hz:ys.length<=sizeLine):
 Inv X pins σ (upd H l (.lst ys)) { s with heap:=s.heap.update l (Obj.mapSeq f),toks:=t' }:=by
 have q:=PySem.IsL.update e f
 rw [hf] at q
 refine I.write (x:=l) (e:=l) (by rw [hH]; exact trivial) (.inl rfl) (fun b' u hb hu=>(Heap.get?_update_other s.heap (Obj.mapSeq f) (Ne.symm hb)).trans hu) ⟨_,q⟩ ?_
 exact ⟨hz,its',_,hv,q⟩
theorem Inv.lnew {its:List Value} {t':Nat} (I:Inv X pins σ H s) (hv:Vals ys its) (hz:ys.length<=sizeLine):
 Inv X pins σ (upd H s.heap.objs.size (.lst ys)) { s with heap:=s.heap.push { cls:=.type "list",data:=.seq its.toArray },toks:=t' }:=
 I.laid (fun _ _ q=>Heap.get?_push_of_some _ q) (Nat.le_refl _) ⟨hz,its,0,hv,Heap.get?_push_size _ rfl⟩
theorem Inv.fresh (I:Inv X pins σ H s):H s.heap.objs.size=none:=I.hok.fresh (Nat.le_refl _)
theorem Inv.lstM (I:Inv X pins σ H s) (hH:H l=some (.lst xs)):xs.length<=sizeLine/\∃ (its:List Value) (n:Nat),Vals xs its/\xs.length=its.length/\s.heap.get? l=some { cls:=.type "list",data:=.seq its.toArray n }:=by
 obtain ⟨z,its,n,r,e⟩:=I.hok l _ hH
 exact ⟨z,its,n,r,r.length,e⟩
theorem KQ {n:Nat} (h:n<=sizeLine):Builtin.List.listTooLong n=false:=by
 unfold Builtin.List.listTooLong
 exact decide_eq_false (by omega)
end
section
variable {X:Cx}
noncomputable def xG:V->List V->Hp->VK->Prop:=fun x vs H Q=>∃ l xs y,x=.ref l/\vs=[y]/\H l=some (.lst xs)/\xs.length<sizeLine/\Q .non (upd H l (.lst (xs++[y])))
theorem lF:HW X "list.append" xG:=by
 intro pins s σ H x vs v us Q I rx rv h
 obtain ⟨l,xs,y,rfl,rfl,hH,hz,q⟩:=h
 cases rx
 obtain ⟨u,rfl,ru⟩:=rv.one
 obtain ⟨z,its,n,r,hl,e⟩:=I.lstM hH
 refine call_meets F.slot_list_append ⟨_,e,rfl⟩ F.entry_list_append (F.args_list_append_2 _ _) (PySem.list_append l its.toArray n u (by rw [List.size_toArray]; omega)) ⟨e,?_⟩
 refine ⟨.non,_,I.lset (its':=its++[u]) hH e (by simp) (r.append (.cons ru .nil)) ?_,rfl,q⟩
 rw [List.length_append,List.length_singleton]
 omega
noncomputable def RJ:V->List V->Hp->VK->Prop:=fun x vs H Q=>∃ l xs y,x=.ref l/\vs=[]/\H l=some (.lst xs)/\xs[xs.length-1]?=some y/\Q y (upd H l (.lst xs.dropLast))
theorem RK:HW X "list.pop" RJ:=by
 intro pins s σ H x vs v us Q I rx rv h
 obtain ⟨l,xs,y,rfl,rfl,hH,hy,q⟩:=h
 cases rx
 have hus:=rv.zero
 subst hus
 obtain ⟨z,its,n,r,hl,e⟩:=I.lstM hH
 obtain ⟨u,hu,ru⟩:=r.get hy
 have hy':its.toArray[its.toArray.size-1]?=some u:=by
  show its.toArray[its.length-1]?=some u
  rw [← Array.getElem?_toList,← hl]
  exact hu
 refine call_meets F.slot_list_pop ⟨_,e,rfl⟩ F.entry_list_pop (F.args_list_pop_1 _) (MeetsSeq.list_pop_last l its.toArray n u hy' (by rw [List.size_toArray]; omega)) ⟨e,?_⟩
 refine ⟨y,_,I.lset (its':=its.dropLast) hH e ?_ r.dropLast ?_,ru,q⟩
 . show its.toArray.eraseIdxIfInBounds (its.toArray.size-1)=its.dropLast.toArray
   rw [List.size_toArray,List.eraseIdxIfInBounds_toArray,GR]
 . rw [List.length_dropLast]
   omega
noncomputable def HX:V->List V->Hp->VK->Prop:=fun x vs H Q=>∃ l xs i k y,x=.ref l/\vs=[.int i]/\H l=some (.lst xs)/\-(2 ^ 63)<=i/\i<2 ^ 63/\seqIndex? i xs.length=some k/\xs[k]?=some y/\Q y (upd H l (.lst (xs.eraseIdx k)))
theorem KR:HW X "list.pop" HX:=by
 intro pins s σ H x vs v us Q I rx rv h
 obtain ⟨l,xs,i,k,y,rfl,rfl,hH,h1,h2,hk,hy,q⟩:=h
 cases rx
 obtain ⟨u,rfl,ru⟩:=rv.one
 obtain ⟨t,rfl⟩:=ru
 obtain ⟨z,its,n,r,hl,e⟩:=I.lstM hH
 obtain ⟨w,hw,rw'⟩:=r.get hy
 refine call_meets F.slot_list_pop ⟨_,e,rfl⟩ F.entry_list_pop (F.args_list_pop_2 _ _)
  (MeetsSeq.list_pop_at l its.toArray n i t k w (fitsIndex_both h1 h2) (by rw [List.size_toArray,← hl]; exact hk) (by rw [← Array.getElem?_toList]; exact hw) (by rw [List.size_toArray]; omega)) ⟨e,?_⟩
 refine ⟨y,_,I.lset (its':=its.eraseIdx k) hH e ?_ (r.eraseIdx k) ?_,rw',q⟩
 . show its.toArray.eraseIdxIfInBounds k=(its.eraseIdx k).toArray
   rw [List.eraseIdxIfInBounds_toArray]
 . have:=yF xs k
   omega
end
section
variable {prog:Program}
end
section
variable {X:Cx}
end
end L2
namespace Att
open PySem PySem.W PySem.Calls PyProof.Rows
theorem vX {P:Params} {h:Heap}:∀ (ns:List Int) (vs:List Value),WellAll P h vs (ns.map WData.int)->IntsAre vs ns:=by
 intro ns
 induction ns with
 | nil=>
  intro vs w
  rw [List.map_nil] at w
  cases w
  exact .nil
 | cons n ns ih=>
  intro vs w
  rw [List.map_cons] at w
  cases w with
  | cons a b=>
   cases a
   exact .cons _ _ (ih _ b)
theorem HY {l:OpenLaw} {n:Nat} (hn:l.most=some n) {P:Params} {h:Heap} {args:List WData} {vals:List Value}
 (hpre:l.row.toRowW.claim.pre args=true) (hwl:WellAll P h vals args):
 ∃ a vs ns,vals=[Value.ref a]/\args=[WData.list (ns.map WData.int)]/\h.get? a=some { cls:=.type "list",data:=.seq vs.toArray }/\IntsAre vs ns/\ns.length<=n:=by
 have hsh:WShape.hasAll [] args [.list .int]=true:=(pre_splitW hpre).1
 have hc:l.pre.holds [] { args:=args }=true:=(pre_splitW hpre).2
 obtain ⟨d,r,rfl,h1,h2⟩:=hasAllW_cons hsh
 obtain rfl:=hasAllW_nil h2
 obtain ⟨xs,rfl,h3⟩:=hasW_list h1
 obtain ⟨ns,rfl⟩:=items_int h3
 have hlen:ns.length<=n:=by
  unfold OpenLaw.pre at hc
  have h4:(WTm.not (.lt (.lit (.int (n:Int))) (.len (.arg 0)))).holds [] { args:=[.list (ns.map .int)] }=true:=by
   have h4:=(holds_andW hc).1
   rw [hn] at h4
   exact h4
  have h5:=condW_of h4 (w_not (w_lt w_lit (w_len_list (w_arg rfl))))
  rw [List.length_map] at h5
  refine Nat.le_of_not_lt fun q=>?_
  have q':(n:Int)<((ns.length:Nat):Int):=by omega
  first
   | (rw [decide_eq_true q'] at h5; exact absurd h5 (by decide))
   | (simp at h5; omega)
 cases hwl with
 | cons w1 w2=>
  cases w2
  cases w1 with
  | list ho hall=>exact ⟨_,_,ns,rfl,rfl,ho,vX ns _ hall,hlen⟩
theorem Ia (l:OpenLaw) (args:List WData):l.row.toRowW.claim.post args (.bool true) args=true:=
 postW_of (r:=l.row.toRowW) (X:=(true==true))
  (show WShape.has [] (.bool true) .bool=true by first | rfl | decide | simp [WShape.has,WShape.arms,WShape.armsAll])
  (show (WTm.eq .res (.lit (.bool true))).value [] { args:=args,res:=some (.bool true),after:=args }=some (.bool (true==true)) from w_eq_bool (w_res rfl) w_lit) rfl
theorem attach_call {l:OpenLaw} {n:Nat} {q:Program} {loose:List Str} {XP:(Str->Option Value)->Heap->Prop} {YP:World->Heap->Prop} {d:DefRec}
 (hn:l.most=some n) (hdf:d.params.defaults=[])
 (call:∀ (w:World) (s₀ s₁:Shared) (mg mb:Str->Option Value) (fa:Addr) (o:Obj) (pm cd doc:Value) (a:Addr) (vs:List Value) (ns:List Int),
   Ground q loose [] XP w s₀ mg mb s₁.heap->YP w s₁.heap->
   s₁.heap.get? fa=some o->o.data=.func (docDef d.name d.params d.body d.scope pm cd doc)->s₁.heap.CodeRec cd d.name->mg d.name=some (.ref fa)->
   s₁.heap.get? a=some { cls:=.type "list",data:=.seq vs.toArray }->IntsAre vs ns->ns.length<=n->s₁.gens=#[]->
   codeAny (model l.prog w) callerA (.call (.ref fa) ⟨[.ref a],[]⟩) (fun r s'=>r=.ok (.ret (.bool true))/\OldK s₁.heap s'.heap/\s'.os=s₁.os/\AllBare s'.gens) s₁):
 WalkO q loose XP YP l.row.toRowW d [] (fun f vs=>PySem.call f vs):=by
 intro w s₀ s₁ mg mb G Y fa o pm cd doc dV kV ho hd hcd hD hmg hg args vals as hpre hlay hrd hwl hlo
 obtain rfl:dV=.none:=Dflts.none hD hdf
 obtain rfl:kV=.none:=Dflts.noKw hD
 obtain ⟨a,vs,ns,rfl,rfl,hobj,hints,hlen⟩:=HY hn hpre hwl
 refine enter_call (codeAny_mono (call w s₀ s₁ mg mb fa o pm cd doc a vs ns G Y ho (fd_plain hd) hcd hmg hobj hints hlen hg) fun r s' hq=>?_)
 obtain ⟨rfl,h2,h3,h4⟩:=hq
 exact ⟨.inl ⟨.bool true,.bool true,[],rfl,fun _=>rfl,.bool true,Ia l _,fun _=>⟨List.Pairwise.nil,fun _ hm=>(nomatch hm)⟩⟩,h2,h3,h4⟩
section
variable {prog:Program} {w:World} {A:Around} {E:Value->Shared->Prop} {s:Shared} {K:Frag}
end
end Att
namespace L2
open PySem PySem.Spec PyProof.Rows
variable {pins:List (Addr×Obj)} {E:Value->Shared->Prop} {s:Shared} {A:Around} {w:World} {P:Program}
theorem yG:∀ {vs:List Value} {ns:List Int},IntsAre vs ns->Vals (ns.map V.int) vs
 | _,_,.nil=>.nil
 | _,_,.cons n t h=>.cons ⟨t,rfl⟩ (yG h)
noncomputable def Only (H:Hp):Prop:=∀ b,H b=none\/∃ o xs,H b=some (.frz o (.lst xs))
theorem KY {K:FG} {mg mb:Str->Option Value} {CX:sG} {k:Nat} {fa a:Addr} {fd:FuncData} {x:Str} {sp:Sp} {s₁:Shared} {vs:List Value} {ns:List Int}
 (KX:K.In s₁.heap) (hns:s₁.heap.Ns mainGlobals mg) (hb:s₁.heap.Ns builtinsNs mb) (hbb:∀ x:Str,x ≠ "__name__" -> mb x=bootBuiltins x) (hlim:s₁.heap.NoLimit) (hg:s₁.gens=#[])
 (ha:s₁.heap.get? a=some { cls:=.type "list",data:=.seq vs.toArray }) (hi:IntsAre vs ns) (hl:ns.length<=sizeLine) (hr:dW k callerA)
 (F:∀ base:Heap,K.In base->base.Ns mainGlobals mg->iC P w K mg base CX k fa fd [x] sp) (hbind:∀ (s:Shared) (u:Value),BindsTo s fd ⟨[u],[]⟩ [(x,u)])
 (hsp:∀ H:Hp,Only H->bK K H a (ns.map V.int)->sp [.ref a] H (fun v _=>v=.bl true) fun _ _ _=>False)
 (hCX:∀ H e s',CX [] H s₁ (fun _ _ _=>False) e s'->False):
 codeAny (model P w) callerA (.call (.ref fa) ⟨[.ref a],[]⟩) (fun r s'=>r=.ok (.ret (.bool true))/\OldK s₁.heap s'.heap/\s'.os=s₁.os/\AllBare s'.gens) s₁:=by
 have rv:=yG hi
 have lenV:=hi.length
 have core:∀ H:Hp,Only H->bK K H a (ns.map V.int)->ik P w H s₁.heap->(∀ b,H b≠none->b=a)->(H a≠none->K.lookup a=none)->
  codeAny (model P w) callerA (.call (.ref fa) ⟨[.ref a],[]⟩) (fun r s'=>r=.ok (.ret (.bool true))/\OldK s₁.heap s'.heap/\s'.os=s₁.os/\AllBare s'.gens) s₁:=by
  intro H hO hS hok hA hK
  have base_of:∀ {b:Addr} {o:Obj},s₁.heap.get? b=some o->H b=none->(rE s₁.heap H).get? b=some o:=fun e n=>Kl e n
  have noA:∀ {b:Addr} {o:Obj} {es:Array DictEntry} {ep:Nat},s₁.heap.get? b=some o->o.data=.dict es ep->H b=none:=fun {b o es ep} e d=>by
   cases q:H b with
   | none=>rfl
   | some u=>
    have e':b=a:=hA b (by rw [q]; simp)
    subst e'
    rw [ha] at e; cases e
    have d':Data.seq vs.toArray _=Data.dict es ep:=d
    cases d'
  have nsK:∀ {b:Addr} {m:Str->Option Value},s₁.heap.Ns b m->(rE s₁.heap H).Ns b m:=fun {b m} ⟨o,es,ep,e,d,r⟩=>⟨o,es,ep,base_of e (noA e d),d,r⟩
  have hKb:K.In (rE s₁.heap H):=fun b o e=>base_of (KX b o e) (by
   cases q:H b with
   | none=>rfl
   | some u=>
    have e':b=a:=hA b (by rw [q]; simp)
    subst e'
    rw [hK (by rw [q]; simp)] at e; cases e)
  have hM:Mod K mg (rE s₁.heap H):=⟨hKb,nsK hns,⟨mb,nsK hb,hbb⟩,let ⟨mc,h1,h2⟩:=hlim; ⟨mc,nsK h1,h2⟩⟩
  have e0:u9 P w K mg (rE s₁.heap H) callerA [] s₁ H:=⟨rfl,hM,fun b o e=>Oh e,Nat.le_of_eq (Hu _ _),trivial,fun b hb=>absurd (show b∈([]:List Addr) from hb) (by simp),hok,.of_eq hg⟩
  refine codeAny_mono ((F _ hKb (nsK hns)).run callerA [] s₁ H ⟨[.ref a],[]⟩ [.ref a] [.ref a] _ _ hr e0 (hbind s₁ (.ref a)) (.cons rfl .nil) (hsp H hO hS)) fun r s' h=>?_
  cases r with
  | error e=>exact (hCX H e s' h).elim
  | ok fl=>
   cases fl with
   | next=>exact False.elim h
   | brk=>exact False.elim h
   | cont=>exact False.elim h
   | ret u=>
    obtain ⟨v,H',os,bare,un,hok',r',q⟩:=h
    have q':v=.bl true:=q
    subst q'
    obtain rfl:u=Value.bool true:=r'
    refine ⟨rfl,OldK.of_keep fun b o e=>?_,os,bare⟩
    cases q:H b with
    | none=>exact un.keep b o e q (by intro z; exact absurd (show b∈([]:List Addr) from z) (by simp)) (by simp)
    | some u=>
     rcases hO b with z | ⟨ob,xs,z⟩
     . rw [q] at z; cases z
     . have z2:=un.frzs b ob _ z
       obtain ⟨e1,_⟩:=hok b _ z
       obtain ⟨e2,_⟩:=hok' b _ z2
       rw [e] at e1; cases e1
       exact e2
 cases hk:K.lookup a with
 | some o=>
  have e:=KX a o hk
  rw [ha] at e
  cases e
  refine core (fun _=>none) (fun _=>.inl rfl) (.inr ⟨_,vs.toArray,_,hk,rfl,rfl,rfl,by rw [List.size_toArray,lenV]; exact hl,by simpa using rv⟩) (fun b u z=>by have z':(none:Option HO)=some u:=z; cases z') (fun b z=>absurd rfl z) fun z=>absurd rfl z
 | none=>
  refine core (fun b=>if b=a then some (.frz { cls:=.type "list",data:=.seq vs.toArray } (.lst (ns.map V.int))) else none) (fun b=>?_) (.inl (.inr ⟨{ cls:=.type "list",data:=.seq vs.toArray },if_pos rfl⟩)) (fun b u z=>?_) (fun b z=>?_) fun _=>hk
  . by_cases hb:b=a
    . exact .inr ⟨_,_,if_pos hb⟩
    . exact .inl (if_neg hb)
  . by_cases hb:b=a
    . have z':=(if_pos hb).symm.trans z
      cases z'
      subst hb
      exact ⟨ha,by rw [List.length_map]; exact hl,vs,_,rv,ha⟩
    . have z':=(if_neg hb).symm.trans z
      cases z'
  . by_cases hb:b=a
    . exact hb
    . exact absurd (if_neg hb) z
theorem walk_of {l:W.OpenLaw} {n k:Nat} {q:Program} {loose:List Str} {XP:(Str->Option Value)->Heap->Prop} {YP:World->Heap->Prop} {d:DefRec} {K:Params->FG} {CX:World->sG} {sp:World->Sp} {x:Str}
 (hn:l.most=some n) (hn2:n<=sizeLine) (hdf:d.params.defaults=[]) (hr:dW k callerA)
 (hY:∀ (w:World) (h:Heap),YP w h->(K w.params).In h)
 (F:∀ (w:World) (mg:Str->Option Value) (fa:Addr) (h:Heap),(K w.params).In h->h.Ns mainGlobals mg->mg d.name=some (.ref fa)->
   ∃ fd:FuncData,(∀ (s:Shared) (u:Value),BindsTo s fd ⟨[u],[]⟩ [(x,u)])/\
    ∀ base:Heap,(K w.params).In base->base.Ns mainGlobals mg->iC l.prog w (K w.params) mg base (CX w) k fa fd [x] (sp w))
 (hsp:∀ (w:World) (H:Hp) (a:Addr) (ns:List Int),ns.length<=n->Only H->bK (K w.params) H a (ns.map V.int)->sp w [.ref a] H (fun v _=>v=.bl true) fun _ _ _=>False)
 (hCX:∀ (w:World) (H:Hp) (s:Shared) (e:Value) (s':Shared),CX w [] H s (fun _ _ _=>False) e s'->False):
 W.WalkO q loose XP YP l.row.toRowW d [] (fun f vs=>PySem.call f vs):=by
 refine Att.attach_call hn hdf fun w s₀ s₁ mg mb fa o pm cd doc a vs ns G Y ho hd hcd hmg hobj hints hlen hg=>?_
 have KX:=hY w _ Y
 obtain ⟨fd,hb,hF⟩:=F w mg fa _ KX G.T.g hmg
 exact KY KX G.T.g G.T.b G.T.builtins G.T.nolimit hg hobj hints (Nat.le_trans hlen hn2) hr hF hb (fun H hO hS=>hsp w H a ns hlen hO hS) fun H e s'=>hCX w H s₁ e s'
noncomputable def inClass (s:Stmt) (j:Nat):Stmt:=match s with
 | .ClassDef _ _ _ body _ _ _ _ _ _ _=>body.getD j (.Pass ⟨0,0,0,0⟩)
 | _=>.Pass ⟨0,0,0,0⟩
noncomputable def bM (s:Stmt):Arguments:=match s with
 | .FunctionDef _ a _ _ _ _ _ _ _ _=>a
 | _=>{ posonlyargs:=[],args:=[],vararg:=none,kwonlyargs:=[],kw_defaults:=[],kwarg:=none,defaults:=[] }
noncomputable def bz (s:Stmt):List Stmt:=match s with
 | .FunctionDef _ _ b _ _ _ _ _ _ _=>b
 | _=>[]
noncomputable def aA (s:Stmt):Scope:=match s with
 | .FunctionDef _ _ _ _ _ _ sc _ _ _=>sc
 | _=>{ kind:=.function,names:=[],isGenerator:=false,isCoroutine:=false }
noncomputable abbrev mG:sG:=fun _ _ _ _ _ _=>False
noncomputable abbrev E0:XK:=fun _ _ _=>False
theorem GX {X:Cx}:qz mG X E0:=fun _ _ _ _ _ _ _ h=>h.elim
structure pK (K:FG) (x qual:Str) (st:Stmt) (f:Addr) (fd:FuncData):Prop where
 ex:∃ (oc:Value) (od:Option Addr) (kV doc pm:Value) (an:Option Addr) (cdv ct:Value) (osl:Array (Option Value)),
  fd=W.fnOf x qual (bM st) (bz st) (aA st) .none kV doc pm an cdv ct/\K.lookup f=some ⟨oc,od,.func fd,osl⟩/\W.codeIn K cdv qual=true
 kp:W.keepIn K (.ref f)=true
section
variable {P:Program} {w:World} {K:FG} {mg:Str->Option Value} {base:Heap}
theorem pK.ok {x qual:Str} {st:Stmt} {f:Addr} {fd:FuncData} {N ps:List Str} {k:Nat} {sp:Sp} (F:pK K x qual st f fd) (S:bL N ps (aA st)) (len:∀ vs H Q E,sp vs H Q E->vs.length=ps.length)
 (hbody:∀ (cdv:Value) (A:Around) (outer:List Env) (s:Shared) (H:Hp) (vs:List V) (Q:VK) (E:XK),dW k (A.deeper (envOfC qual (aA st) s.heap.objs.size f cdv))->sp vs H Q E->
   ∃ t,iV (qg mG P w K mg base N qual (aA st) f cdv A outer s H E).nox (bz st) t/\t { nx:=fun _ H'=>Q .non H',rt:=Q } (start N vs) H):iC P w K mg base mG (k+1) f fd ps sp:=by
 obtain ⟨oc,od,kV,doc,pm,an,cdv,ct,osl,rfl,lk,hcd⟩:=F.ex
 refine Uj lk hcd S len fun A outer s H vs Q E hr hsp=>?_
 obtain ⟨t,h,q⟩:=hbody cdv A outer s H vs Q E hr hsp
 exact ⟨t,h.nox,q⟩
theorem pK.binds {x qual:Str} {st:Stmt} {f:Addr} {fd:FuncData} {ps:List Str} (F:pK K x qual st f fd)
 (h:∀ (kV doc pm:Value) (an:Option Addr) (cdv ct:Value) (us:List Value),us.length=ps.length->bindArgs (W.fnOf x qual (bM st) (bz st) (aA st) .none kV doc pm an cdv ct) ⟨us,[]⟩=pure (ps.zip us)):Binds K fd ps []:=by
 obtain ⟨oc,od,kV,doc,pm,an,cdv,ct,osl,rfl,lk,hcd⟩:=F.ex
 exact .all (h kV doc pm an cdv ct)
theorem jL {x qual:Str} {st:Stmt} {f:Addr} {oc:Value} {od an:Option Addr} {osl:Array (Option Value)} {kV doc pm cdv ct:Value} (l:K.lookup f=some ⟨oc,od,.func (W.fnOf x qual (bM st) (bz st) (aA st) .none kV doc pm an cdv ct),osl⟩)
 (c:W.codeIn K cdv qual=true) (k:W.keepIn K (.ref f)=true):pK K x qual st f (W.fnOf x qual (bM st) (bz st) (aA st) .none kV doc pm an cdv ct):=⟨⟨oc,od,kV,doc,pm,an,cdv,ct,osl,rfl,l,c⟩,k⟩
end
theorem GZ {k:Nat} (hr:dW k A):A.units+1<cLine:=Nat.lt_of_le_of_lt (Nat.add_le_add_left (by decide:1<=64) _) hr.units
section
variable {X:Cx}
theorem pv (i:Nat) {x:Str} {pos:Pos} (hN:X.N[i]?=some x:=by rfl) (hv:Hv X.env.scope x:=by first | exact Or.inl rfl | exact Or.inr (Or.inl rfl) | exact Or.inr (Or.inr rfl)) (hd:(x==("__debug__" : Str))=false:=by decide)
 (hcd:(x==("__classdict__" : Str))=false:=by decide):PE X (.Name x pos) (oO i):=QV hN hv hd hcd
end
noncomputable def dC (H H':Hp):Prop:=∀ b o,H b=some o->H' b=some o
theorem dC.refl (H:Hp):dC H H:=fun _ _ h=>h
theorem dC.trans {H H1 H2:Hp} (a:dC H H1) (b:dC H1 H2):dC H H2:=fun c o h=>b c o (a c o h)
theorem dC.free {H H':Hp} (e:dC H H') {l:Addr} (h:H' l=Option.none):H l=Option.none:=by
 cases q:H l with
 | none=>rfl
 | some o=>
  rw [e l o q] at h
  cases h
theorem dC.seq {K:FG} {H H':Hp} {a:Addr} {xs:List V} (e:dC H H') (h:bK K H a xs):bK K H' a xs:=by
 rcases h with (h | ⟨o,h⟩) | h
 . exact .inl (.inl (e _ _ h))
 . exact .inl (.inr ⟨o,e _ _ h⟩)
 . exact .inr h
section
variable {κ:Type} [DecidableEq κ]
noncomputable def qi (kvs:List (κ×V)) (k:κ):Option V:=(kvs.find? fun kv=>decide (kv.1=k)).map (·.2)
noncomputable def putK (kvs:List (κ×V)) (k:κ) (v:V):List (κ×V):=
 if (kvs.any fun kv=>decide (kv.1=k))=true then kvs.map (fun kv=>if kv.1=k then (kv.1,v) else kv) else kvs++[(k,v)]
theorem vg {p:κ×V} {r:List (κ×V)} {k:κ} (e:p.1=k):qi (p::r) k=some p.2:=by simp [qi,List.find?_cons,e]
theorem vh {p:κ×V} {r:List (κ×V)} {k:κ} (e:¬ p.1=k):qi (p::r) k=qi r k:=by simp [qi,List.find?_cons,e]
theorem rG (k:κ):∀ kvs:List (κ×V),(kvs.any fun kv=>decide (kv.1=k))=(qi kvs k).isSome
 | []=>rfl
 | p::r=>by
  rw [List.any_cons]
  by_cases e:p.1=k
  . simp only [vg e,decide_eq_true e,Bool.true_or,Option.isSome_some]
  . rw [vh e,decide_eq_false e,Bool.false_or]; exact rG k r
theorem uX (kvs:List (κ×V)) (k:κ) (v:V):(putK kvs k v).length<=kvs.length+1:=by
 unfold putK
 split
 . rw [List.length_map]; omega
 . rw [List.length_append,List.length_cons,List.length_nil]; omega
theorem KZ {kvs:List (κ×V)} {k:κ} (v:V) (h:qi kvs k=none):putK kvs k v=kvs++[(k,v)]:=by
 unfold putK
 rw [rG,h]
 exact if_neg (by decide)
theorem mJ.isSome_eq {o:Option V} {u:Option Value} (r:mJ o u):o.isSome=u.isSome:=by
 cases o with
 | none=>cases u with
  | none=>rfl
  | some _=>exact (show False from r).elim
 | some _=>cases u with
  | none=>exact (show False from r).elim
  | some _=>rfl
theorem KV.any {kvs:List (κ×V)} {vs:List (κ×Value)} (r:KV kvs vs) (k:κ):(kvs.any fun kv=>decide (kv.1=k))=vs.any fun kv=>decide (kv.1=k):=by
 unfold KV at r
 induction r with
 | nil=>rfl
 | cons h t ih=>rw [List.any_cons,List.any_cons,ih,h.1]
theorem KV.repl {kvs:List (κ×V)} {vs:List (κ×Value)} (r:KV kvs vs) (k:κ) {y:V} {u:Value} (ry:RelV y u):
 KV (kvs.map fun kv=>if kv.1=k then (kv.1,y) else kv) (vs.map fun kv=>if kv.1=k then (kv.1,u) else kv):=by
 unfold KV at r ⊢
 induction r with
 | nil=>exact .nil
 | @cons p q ps qs h t ih=>
  rw [List.map_cons,List.map_cons]
  refine .cons ?_ ih
  obtain ⟨h1,h2⟩:=h
  by_cases e:p.1=k
  . rw [if_pos e,if_pos (h1.symm.trans e)]; exact ⟨h1,ry⟩
  . rw [if_neg e,if_neg (fun z=>e (h1.trans z))]; exact ⟨h1,h2⟩
theorem KV.put {kvs:List (κ×V)} {vs:List (κ×Value)} (r:KV kvs vs) (k:κ) {y:V} {u:Value} (ry:RelV y u):KV (putK kvs k y) (stored vs k u):=by
 unfold putK stored
 rw [r.any k]
 by_cases e:(vs.any fun kv=>decide (kv.1=k))=true
 . rw [if_pos e,if_pos e]; exact r.repl k ry
 . rw [if_neg e,if_neg e]; exact Paired.snoc r ⟨rfl,ry⟩
theorem KV.length {kvs:List (κ×V)} {vs:List (κ×Value)} (r:KV kvs vs):kvs.length=vs.length:=Paired.length r
end
theorem G3 {k:Key} {u:Value} (r:RelV (kV k) u):(dU P w).is k u=true:=by
 cases k with
 | inl i=>obtain ⟨t,e⟩:=(show ∃ t,u=Value.int i t from r); subst e; exact Dp P w i t
 | inr x=>obtain ⟨t,e⟩:=(show ∃ t,u=Value.str x t from r); subst e; exact Dq P w x t
theorem yH:∀ {ks:List Key} {us:List Value},Vals (ks.map kV) us->ItemsAre (dU P w) ks us
 | [],_,r=>by rw [List.map_nil] at r; cases r; exact .nil
 | k::ks,_,r=>by
  rw [List.map_cons] at r
  cases r with
  | cons h t=>exact .cons (G3 h) (yH t)
noncomputable abbrev KT (H:Hp):List (List Key×V)->List (List Key×Addr×Value)->Prop:=Paired fun p q=>p.1=q.1/\H q.2.1=some (.tup (p.1.map kV))/\RelV p.2 q.2.2
theorem KT.val {H:Hp} {kvs:List (List Key×V)} {xs:List (List Key×Addr×Value)} (r:KT H kvs xs) (k:List Key):mJ (qi kvs k) ((atKey xs k).map (·.2)):=by
 induction r with
 | nil=>exact True.intro
 | @cons p q ps qs h t ih=>
  obtain ⟨h1,_,h2⟩:=h
  by_cases e:p.1=k
  . have e':q.1=k:=h1.symm.trans e
    have b:atKey (q::qs) k=some q.2:=by simp [atKey,List.find?_cons,e']
    rw [vg e,b]; exact h2
  . have e':¬ q.1=k:=fun z=>e (h1.trans z)
    have b:atKey (q::qs) k=atKey qs k:=by simp [atKey,List.find?_cons,e']
    rw [vh e,b]; exact ih
theorem KT.repl {H:Hp} {kvs:List (List Key×V)} {xs:List (List Key×Addr×Value)} (r:KT H kvs xs) (k:List Key) {y:V} {u:Value} (ry:RelV y u):
 KT H (kvs.map fun kv=>if kv.1=k then (kv.1,y) else kv) (xs.map (putAt k u)):=by
 induction r with
 | nil=>exact .nil
 | @cons p q ps qs h t ih=>
  rw [List.map_cons,List.map_cons]
  refine .cons ?_ ih
  obtain ⟨h1,h2,h3⟩:=h
  unfold putAt
  by_cases e:p.1=k
  . rw [if_pos e,if_pos (h1.symm.trans e)]; exact ⟨h1,h2,ry⟩
  . rw [if_neg e,if_neg (fun z=>e (h1.trans z))]; exact ⟨h1,h2,h3⟩
theorem KT.put {H:Hp} {kvs:List (List Key×V)} {xs:List (List Key×Addr×Value)} (r:KT H kvs xs) (k:List Key) {b:Addr} {y:V} {u:Value} (hb:H b=some (.tup (k.map kV))) (ry:RelV y u):
 KT H (putK kvs k y) (storedH xs k b u):=by
 have e:(kvs.any fun kv=>decide (kv.1=k))=(atKey xs k).isSome:=by
  rw [rG,(r.val k).isSome_eq,Option.isSome_map]
 unfold putK storedH
 rw [e]
 by_cases q:(atKey xs k).isSome=true
 . rw [if_pos q,if_pos q]; exact r.repl k ry
 . rw [if_neg q,if_neg q]; exact Paired.snoc r ⟨rfl,hb,ry⟩
theorem KT.keeps {H H':Hp} {kvs:List (List Key×V)} {xs:List (List Key×Addr×Value)} (r:KT H kvs xs) (ht:∀ b ys,H b=some (.tup ys)->H' b=some (.tup ys)):KT H' kvs xs:=
 Paired.mapP r fun _ _ z=>⟨z.1,ht _ _ z.2.1,z.2.2⟩
section
variable {P:Program} {w:World} {H:Hp} {h:Heap} {a:Addr}
theorem Nk {u:HO} (ok:ik P w H h) (e:Rd H a u):fD P w H h a u:=e.ok ok
theorem Um {kvs:List (Key×V)} (ok:ik P w H h) (e:Rd H a (.dK kvs)):kvs.length<=sizeLine/\(a==sysModules)=false/\∃ vs,KV kvs vs/\h.DictOf (dU P w) a vs:=
 show fD P w H h a (.dK kvs) from Nk ok e
theorem Uo {kvs:List (Key×V)} (ok:ik P w H h) (e:H a=some (.dK kvs)):kvs.length<=sizeLine/\(a==sysModules)=false/\∃ vs,KV kvs vs/\h.DictOf (dU P w) a vs:=Um ok (.inl e)
theorem Ib {ks:List Key} (ok:ik P w H h) (e:H a=some (.tup (ks.map kV))):(tupleKind (dU P w)).is h ks a:=by
 obtain ⟨_,its,r,o,h1,h2,n,h3⟩:=(show fD P w H h a (.tup (ks.map kV)) from ok a _ e)
 exact ⟨o,its.toArray,n,h1,h2,h3,by simpa using yH r⟩
theorem Up {kvs:List (List Key×V)} (ok:ik P w H h) (e:Rd H a (.dT kvs)):kvs.length<=sizeLine/\(a==sysModules)=false/\
 ∃ xs,KT H kvs xs/\h.DictOfH (tupleKind (dU P w)) a xs:=by
 obtain ⟨z,y,xs,r,o,es,ep,h1,h2,h3,h4,h5⟩:=(show fD P w H h a (.dT kvs) from Nk ok e)
 refine ⟨z,y,xs,r,o,es,ep,h1,h2,h3,h4,fun x hx=>?_,h5⟩
 have all:∀ {l:List (List Key×V)} {m:List (List Key×Addr×Value)},KT H l m->∀ x∈m,(tupleKind (dU P w)).is h x.1 x.2.1:=by
  intro l m q
  induction q with
  | nil=>intro x hx; exact nomatch hx
  | @cons p q ps qs hq t ih=>
   intro x hx
   rcases List.mem_cons.mp hx with e | hx
   . subst e
     exact Ib ok (by rw [← hq.1]; exact hq.2.1)
   . exact ih x hx
 exact all r x hx
theorem Uq {kvs:List (List Key×V)} (ok:ik P w H h) (e:H a=some (.dT kvs)):kvs.length<=sizeLine/\(a==sysModules)=false/\
 ∃ xs,KT H kvs xs/\h.DictOfH (tupleKind (dU P w)) a xs:=Up ok (.inl e)
end
noncomputable def RL (H:Hp) (a:Addr) (y v:V) (H':Hp):Prop:=
 (∃ kvs k,H a=some (.dK kvs)/\y=kV k/\kvs.length<sizeLine/\H'=upd H a (.dK (putK kvs k v)))\/
 ∃ kvs k b,H a=some (.dT kvs)/\y=.ref b/\H b=some (.tup (k.map kV))/\kvs.length<sizeLine/\H'=upd H a (.dT (putK kvs k v))
section
variable {X:Cx} {pins:List (Addr×Obj)} {σ:St} {H:Hp} {s:Shared} {a:Addr} {y v:V} {u r:Value} {o:Option V} {A:Around} {E:Value->Shared->Prop}
theorem Inv.big (I:Inv X pins σ H s):sysModules<s.heap.objs.size:=by
 have h:mainGlobals<s.heap.objs.size:=(I.mod.glob.keeps I.bk).lt
 exact Nat.lt_trans (by decide) h
theorem xH {h':Heap} {t':Nat} {ob:HO} (I:Inv X pins σ H s) (mu:Ht (H a)) (hs:Heap.SameBut a s.heap h') (he:∃ q,h'.get? a=some q) (new:fD X.prog X.w (upd H a ob) h' a ob):
 Inv X pins σ (upd H a ob) { s with heap:=h',toks:=t' }:=
 I.write (x:=a) (e:=a) mu (.inl rfl) (fun b q hb z=>(hs.2 b hb).trans z) he new
theorem RM {H':Hp} {h':Heap} {kvs:List (Key×V)} {vs:List (Key×Value)} (z:kvs.length<=sizeLine) (hd:(a==sysModules)=false) (rel:KV kvs vs) (dd:h'.DictOf (dU P w) a vs):
 fD P w H' h' a (.dK kvs):=⟨z,hd,vs,rel,dd⟩
theorem Ie {H':Hp} {Q:Unit->Shared->Prop} (hu:A.units+1<cLine) (I:Inv X pins σ H s) (g:RL H a y v H') (ry:RelV y u) (rv:RelV v r) (h:∀ s',Inv X pins σ H' s'->Q () s'):
 wpAny (model X.prog X.w) A (setItem (.ref a) u r) Q E s:=by
 rcases g with ⟨kvs,k,e,ey,l,eH⟩ | ⟨kvs,k,b,e,ey,eb,l,eH⟩
 . subst ey eH
   obtain ⟨z,hd,vs,rel,dd⟩:=Uo I.hok e
   have hz:vs.length<=sizeLine:=by rw [← rel.length]; exact z
   have hl:(putK kvs k v).length<=sizeLine:=by have:=uX kvs k v; omega
   refine wpAny_setItem_pairs (hsz:=hz) (G3 ry) dd fun h' dd' hs=>h _ ?_
   have he:∃ q,h'.get? a=some q:=let ⟨q,_,_,hq,_⟩:=dd'; ⟨q,hq⟩
   exact xH I (by rw [e]; exact True.intro) hs he (RM hl hd (rel.put k rv) dd')
 . subst ey eH
   cases (show u=Value.ref b from ry)
   obtain ⟨z,hd,xs,rel,dd⟩:=Uq I.hok e
   have hz:xs.length<=sizeLine:=by rw [← Paired.length rel]; exact z
   have hl:(putK kvs k v).length<=sizeLine:=by have:=uX kvs k v; omega
   refine wpAny_setItem_heap (hsz:=hz) (tupleKind_room_in1 hu) (Ib I.hok eb) dd fun h' dd' hs=>h _ ?_
   obtain ⟨q,es,ep,hq,h2,h3,h4,_,h5⟩:=dd'
   refine xH I (by rw [e]; exact True.intro) hs ⟨q,hq⟩ ⟨hl,hd,_,(rel.put k eb rv).keeps fun c ys ec=>?_,q,es,ep,hq,h2,h3,h4,h5⟩
   rw [bV (Ub ec e (fun z=>nomatch z))]
   exact ec
end
section
variable {X:Cx} {pins:List (Addr×Obj)} {σ:St} {H:Hp} {s:Shared} {a:Addr} {kvs:List (Key×V)} {k:Key} {u:Value} {A:Around} {E:Value->Shared->Prop}
end
section
variable {X:Cx} {o i e value:Expr} {pos pos' tpos:Pos} {td ty tv:TE}
end
theorem K1 {H:Hp} (h:Heap) (hb:sysModules<h.objs.size):fD P w H (h.push { cls:=.type "dict",data:=.dict #[] }) h.objs.size (.dK []):=
 ⟨Nat.zero_le _,beq_eq_false_iff_ne.mpr (Ne.symm (Nat.ne_of_lt hb)),[],.nil,Heap.DictOf.new h⟩
noncomputable def RN:TE:=fun _ H Q=>∀ p,H p=none->Q (.ref p) (upd H p (.dK []))
section
variable {X:Cx} {pos:Pos}
theorem K3:PE X (.Dict [] [] pos) RN:=fun pins s σ H Q I h=>
 wpAny_Dict_empty ⟨.ref s.heap.objs.size,_,I.laid (a:=s.heap.objs.size) (o:=.dK []) (t':=s.toks) (fun _ _ q=>Heap.get?_push_of_some _ q) (Nat.le_refl _) (K1 s.heap I.big),rfl,h _ (I.hok.fresh (Nat.le_refl _))⟩
end
section
variable {X:Cx} {pins:List (Addr×Obj)} {σ:St} {H:Hp} {s:Shared} {a:Addr} {y d:V} {u r:Value} {o:Option V} {A:Around} {E:Value->Shared->Prop}
end
section
variable {X:Cx} {o e f:Expr} {apos cpos:Pos} {td ty tx:TE}
end
section
variable {X:Cx} {pins:List (Addr×Obj)} {σ:St} {H:Hp} {s:Shared} {a:Addr} {kvs:List (Key×V)} {A:Around} {E:Value->Shared->Prop}
end
section
variable {X:Cx} {pins:List (Addr×Obj)} {σ:St} {H:Hp} {s:Shared} {a:Addr} {y:V} {u:Value} {A:Around} {E:Value->Shared->Prop}
end
section
variable {X:Cx}
end
section
variable {κ:Type} [DecidableEq κ]
end
noncomputable def lQ (names:List (Str×NameKind)) (env:Env):List (Str×Addr):=names.foldl (fun cs p=>if (p.2==NameKind.free)=true then (p.1,(env.cells.lookup p.1).getD 0)::cs else cs) []
theorem sY {env:Env}:∀ (names:List (Str×NameKind)) (cs:List (Str×Addr)) (x:Str) (c:Addr),
 (∀ y d,cs.lookup y=some d->d=(env.cells.lookup y).getD 0)->
 (names.foldl (fun cs p=>if (p.2==NameKind.free)=true then (p.1,(env.cells.lookup p.1).getD 0)::cs else cs) cs).lookup x=some c->c=(env.cells.lookup x).getD 0
 | [],cs,x,c,h,e=>h x c e
 | (n,k)::r,cs,x,c,h,e=>by
  simp only [List.foldl_cons] at e
  refine sY r _ x c ?_ e
  intro y d q
  split at q
  . simp only [List.lookup_cons] at q
    split at q
    . rename_i z
      have z':y=n:=by simpa using z
      rw [z']; exact (Option.some.inj q).symm
    . exact h y d q
  . exact h y d q
theorem vY {env:Env}:∀ (names:List (Str×NameKind)) (cs:List (Str×Addr)) (x:Str) (c:Addr),
 (names.foldl (fun cs p=>if (p.2==NameKind.free)=true then (p.1,(env.cells.lookup p.1).getD 0)::cs else cs) cs).lookup x=some c->(∃ d,cs.lookup x=some d)\/(x,NameKind.free)∈names
 | [],cs,x,c,e=>.inl ⟨c,e⟩
 | (n,k)::r,cs,x,c,e=>by
  simp only [List.foldl_cons] at e
  rcases vY r _ x c e with ⟨d,q⟩ | q
  . split at q
    . rename_i hk
      simp only [List.lookup_cons] at q
      split at q
      . rename_i z
        have z':x=n:=by simpa using z
        have k':k=NameKind.free:=by simpa using hk
        right; rw [z',k']; exact List.mem_cons_self
      . exact .inl ⟨d,q⟩
    . exact .inl ⟨d,q⟩
  . exact .inr (List.mem_cons_of_mem _ q)
theorem sZ {env:Env}:∀ (names:List (Str×NameKind)) (cs:List (Str×Addr)) (x:Str),
 ((∃ d,cs.lookup x=some d)\/(x,NameKind.free)∈names)->∃ c,(names.foldl (fun cs p=>if (p.2==NameKind.free)=true then (p.1,(env.cells.lookup p.1).getD 0)::cs else cs) cs).lookup x=some c
 | [],cs,x,h=>by
  rcases h with h | h
  . exact h
  . cases h
 | (n,k)::r,cs,x,h=>by
  simp only [List.foldl_cons]
  refine sZ r _ x ?_
  rcases h with ⟨d,h⟩ | h
  . left
    split
    . simp only [List.lookup_cons]
      split
      . exact ⟨_,rfl⟩
      . exact ⟨d,h⟩
    . exact ⟨d,h⟩
  . rcases List.mem_cons.mp h with e | h
    . left
      cases e
      simp
    . exact .inr h
theorem nP {env:Env}:∀ (names:List (Str×NameKind)) (cs:List (Str×Addr)),(∀ p∈names,p.2=NameKind.free->∃ c,env.cells.lookup p.1=some c)->
 (forIn names cs fun p r=>if (p.2==NameKind.free)=true then do let a ← cellOf env p.1; pure (ForInStep.yield ((p.1,a)::r)) else pure (ForInStep.yield r):Sem (List (Str×Addr)))=
  pure (names.foldl (fun cs p=>if (p.2==NameKind.free)=true then (p.1,(env.cells.lookup p.1).getD 0)::cs else cs) cs)
 | [],cs,_=>by simp
 | (n,k)::r,cs,h=>by
  rw [List.forIn_cons,List.foldl_cons]
  by_cases hk:(k==NameKind.free)=true
  . obtain ⟨c,hc⟩:=h (n,k) List.mem_cons_self (by simpa using hk)
    have hc':List.lookup n env.cells=some c:=hc
    simp only [hk,if_true,cellOf,hc',pure_bind,Option.getD_some]
    exact nP r _ fun p hp=>h p (List.mem_cons_of_mem _ hp)
  . simp only [hk,pure_bind]
    exact nP r _ fun p hp=>h p (List.mem_cons_of_mem _ hp)
theorem sH {sc:Scope} {env:Env} (h:∀ p∈sc.names,p.2=NameKind.free->∃ c,env.cells.lookup p.1=some c):closureFor sc env=pure (lQ sc.names env):=by
 have:=nP (env:=env) sc.names [] h
 unfold closureFor lQ
 rw [← this]
 simp only [bind_pure]
theorem mL {env:Env}:∀ (names:List (Str×NameKind)) (x:Str),
 (names.map fun (n,k)=>if (k==NameKind.free&&env.scope.kind==.function&&env.kindOf n==some .cell) then (n,NameKind.cell) else (n,k)).lookup x=
  (names.lookup x).map fun k=>if (k==NameKind.free&&env.scope.kind==.function&&env.kindOf x==some .cell) then NameKind.cell else k
 | [],x=>rfl
 | (n,k)::r,x=>by
  have ih:=mL (env:=env) r x
  simp only [List.map_cons]
  by_cases hx:x=n
  . subst hx
    split<;>simp_all
  . have hb:(x==n)=false:=beq_eq_false_iff_ne.mpr hx
    split<;>simp only [List.lookup_cons,hb,ih]
structure jc (X:Cx) (M F:List Str) (ixs:List Nat) (sc:Scope):Prop where
 kind:sc.kind=.function
 locs:∀ y∈sc.names,y.2=.local->sc.names.lookup y.1=some .local
 nocell:∀ y∈sc.names,y.2≠.cell
 own:∀ p∈sc.names,p.2=.free->X.env.scope.names.lookup p.1=some .cell\/X.env.scope.names.lookup p.1=some .free
 frs:∀ x∈F,sc.names.lookup x=some .free
 ixl:ixs.length=F.length
 ixn:∀ (j i:Nat),ixs[j]?=some i->X.N[i]?=F[j]?
 visM:∀ x∈M,sc.names.lookup x=some .local
noncomputable abbrev tu (m:Nat) (ixs:List Nat) (σ:St):St:=List.replicate m none++ixs.map fun i=>(σ[i]?).join
noncomputable def fj (X:Cx) (M F:List Str) (sc:Scope) (C:Addr) (fp:List Addr) (s:Shared) (H:Hp):Cx where
 prog:=X.prog
 w:=X.w
 K:=X.K
 mg:=X.mg
 base:=X.base
 A:=X.A
 N:=M++F
 s₀:=s
 H0:=H
 env:=compEnvC sc (lQ sc.names X.env) C X.env
 outer:=X.stack
 stack:=X.stack
 ex:=fp
 fn:=fun _=>false
 calm:=X.calm
 pn:=[]
 xe:=fun _ _=>False
section
variable {X:Cx} {pins:List (Addr×Obj)} {σ:St} {H:Hp} {s:Shared}
theorem jc.free_of {M F:List Str} {ixs:List Nat} {sc:Scope} (c:jc X M F ixs sc) {x:Str} {k:NameKind} (h:sc.names.lookup x=some k):(x,k)∈sc.names:=by
 generalize sc.names=l at h
 induction l with
 | nil=>cases h
 | cons p r ih=>
  rw [List.lookup_cons] at h
  split at h
  . rename_i z
    have z':x=p.1:=by simpa using z
    have e:p.2=k:=Option.some.inj h
    subst e
    rw [z']
    exact List.mem_cons_self
  . exact List.mem_cons_of_mem _ (ih h)
theorem vm (I:Inv X pins σ H s) {M F:List Str} {ixs:List Nat} {sc:Scope} (c:jc X M F ixs sc):∀ p∈sc.names,p.2=NameKind.free->∃ a,X.env.cells.lookup p.1=some a:=fun p hp e=>
 I.ok.has p.1 (by rcases c.own p hp e with h | h; exact .inl h; exact .inr h)
theorem iK (I:Inv X pins σ H s) {M F:List Str} {ixs:List Nat} {sc:Scope} (c:jc X M F ixs sc) {x:Str} {a:Addr} (h:(lQ sc.names X.env).lookup x=some a):X.env.cells.lookup x=some a:=by
 have e:=sY (env:=X.env) sc.names [] x a (fun y d q=>by cases q) h
 rcases vY sc.names [] x a h with ⟨d,q⟩ | q
 . cases q
 . obtain ⟨b,hb⟩:=vm I c _ q rfl
   have hb':X.env.cells.lookup x=some b:=hb
   rw [hb',Option.getD_some] at e
   rw [hb',e]
theorem Pb (I:Inv X pins σ H s) {M F:List Str} {ixs:List Nat} {sc:Scope} (c:jc X M F ixs sc) {C:Addr} {fp:List Addr} (hC:s.heap.objs.size<=C) (hf:∀ b∈fp,lN X pins H b) (ho:∀ b∈fp,∃ o,s.heap.get? b=some o):(fj X M F sc C fp s H).Ok where
 mod:=I.ok.mod
 kind:=c.kind
 glob:=I.ok.glob
 blt:=I.ok.blt
 above:=hC
 inj:=fun x y a e1 e2=>I.ok.inj x y a (iK I c e1) (iK I c e2)
 has:=fun x h=>by
  have h':((sc.names.lookup x).map fun k=>if (k==NameKind.free&&X.env.scope.kind==.function&&X.env.kindOf x==some .cell) then NameKind.cell else k)=some .cell\/((sc.names.lookup x).map fun k=>if (k==NameKind.free&&X.env.scope.kind==.function&&X.env.kindOf x==some .cell) then NameKind.cell else k)=some .free:=by
   rw [← mL]; exact h
  refine sZ sc.names [] x (.inr ?_)
  cases e:sc.names.lookup x with
  | none=>rw [e] at h'; rcases h' with h' | h'<;>cases h'
  | some k=>
   rw [e] at h'
   have m:=c.free_of e
   cases k with
   | free=>exact m
   | cell=>exact absurd rfl (c.nocell _ m)
   | _=>rcases h' with h' | h'<;>simp at h'
 cab:=fun x a h=>by cases h
 hd:=I.ok.hd
 frames:=I.ok.frames
 stk:=.inl rfl
 exf:=fun b hb=>⟨by
  obtain ⟨o,e⟩:=ho b hb
  exact Nat.ne_of_lt (Nat.lt_of_lt_of_le (Heap.lt_size e) hC),fun x a e=>(hf b hb).2.2.2.2.1 x a (iK I c e)⟩
 bs:=I.bs
 bsz:=Nat.le_trans I.ok.bsz I.sz
 noex:=fun b o e hb=>by
  obtain ⟨_,_,_,h,_⟩:=hf b hb
  rcases h with h | h
  . exact I.ok.noex b o e h
  . exact absurd (Nat.lt_of_lt_of_le (Heap.lt_size (I.ok.bs b o e).1) h) (Nat.lt_irrefl _)
 exfs:=fun b hb z=>by
  obtain ⟨_,h1,h2,_⟩:=hf b hb
  rcases List.mem_cons.mp (I.stkSub b z) with z | z
  . exact h1 z
  . exact h2 z
 funs:=I.stack
 frf:=I.stkFree
theorem K4 (I:Inv X pins σ H s) {M F:List Str} {ixs:List Nat} {sc:Scope} (c:jc X M F ixs sc) {fp:List Addr} (hf:∀ b∈fp,lN X pins H b) (ho:∀ b∈fp,∃ o,s.heap.get? b=some o)
 {h₁:Heap} {tk:Nat} {C:Addr} {m1:Str->Option Value} (hC:C=s.heap.objs.size+1) (hns:h₁.Ns C m1) (old:∀ b o,s.heap.get? b=some o->h₁.get? b=some o)
 (hD:h₁.get? s.heap.objs.size=some { cls:=.type "list",data:=.seq #[] 0 }):
 Inv (fj X M F sc C fp s H) [] (tu M.length ixs σ) (upd H s.heap.objs.size (.lst [])) { s with heap:=h₁,toks:=tk }:=by
 have hDn:H s.heap.objs.size=none:=I.hok.fresh (Nat.le_refl _)
 have hCle:s.heap.objs.size<=C:=by rw [hC]; exact Nat.le_succ _
 have hCn:H C=none:=I.hok.fresh hCle
 have hok:=Pb (X:=X) I c (C:=C) (fp:=fp) hCle hf ho
 refine ⟨hok,rfl,I.bare,Un.laid old (Nat.le_refl _) hDn,⟨m1,hns,?_⟩,?_,?_,?_,?_,?_,?_⟩
 . intro i x v e1 e2 hv
   have e1':(M++F)[i]?=some x:=e1
   by_cases hi:i<M.length
   . rw [List.getElem?_append_left (by simpa using hi)] at e2
     rw [List.getElem?_replicate] at e2
     simp [hi] at e2
   . rw [List.getElem?_append_right (by omega)] at e1'
     rw [List.getElem?_append_right (by simpa using Nat.le_of_not_lt hi)] at e2
     simp only [List.length_replicate,List.getElem?_map] at e2
     cases q:ixs[i-M.length]? with
     | none=>rw [q] at e2; cases e2
     | some i'=>
      rw [q] at e2
      have e2':(σ[i']?).join=some v:=by simpa using e2
      have e3:σ[i']?=some (some v):=by
       cases z:σ[i']? with
       | none=>rw [z] at e2'; cases e2'
       | some y=>rw [z] at e2'; simp at e2'; rw [e2']
      have xF:x∈F:=List.mem_of_getElem? e1'
      have hlk:=c.frs x xF
      have hm:=c.free_of hlk
      have hX:=c.own _ hm rfl
      have hN:X.N[i']?=some x:=by rw [c.ixn _ _ q]; exact e1'
      obtain ⟨m,hn,hl⟩:=I.loc
      have vis:Hv X.env.scope x:=by
       rcases hX with h | h
       . exact .inr (.inl h)
       . exact .inr (.inr h)
      obtain ⟨u,r,l⟩:=hl i' x v hN e3 vis
      refine ⟨u,r,.inr ⟨?_,?_⟩⟩
      . show (Env.kindOf (compEnvC sc (lQ sc.names X.env) C X.env) x=_)\/(Env.kindOf (compEnvC sc (lQ sc.names X.env) C X.env) x=_)
        have:Env.kindOf (compEnvC sc (lQ sc.names X.env) C X.env) x=(sc.names.lookup x).map fun k=>if (k==NameKind.free&&X.env.scope.kind==.function&&X.env.kindOf x==some .cell) then NameKind.cell else k:=mL sc.names x
        rw [this,hlk]
        simp only [Option.map_some]
        split
        . exact .inl rfl
        . exact .inr rfl
      . rcases l with ⟨hk,_⟩ | ⟨_,cc,hcc,hcell⟩
        . rcases hX with h | h
          . have hk':X.env.scope.names.lookup x=some .local:=hk
            have h':X.env.scope.names.lookup x=some .cell:=h
            rw [h'] at hk'; cases hk'
          . have hk':X.env.scope.names.lookup x=some .local:=hk
            have h':X.env.scope.names.lookup x=some .free:=h
            rw [h'] at hk'; cases hk'
        . obtain ⟨a,ha⟩:=sZ (env:=X.env) sc.names [] x (.inr hm)
          have ha':=iK I c (x:=x) (a:=a) ha
          rw [hcc] at ha'; cases ha'
          obtain ⟨oc,hoc,hd⟩:=hcell
          exact ⟨cc,ha,oc,old _ _ hoc,hd⟩
 . intro x a e
   obtain ⟨v,oc,hoc,hd⟩:=I.cell x a (iK I c e)
   exact ⟨v,oc,old _ _ hoc,hd⟩
 . show upd H s.heap.objs.size (.lst []) C=none
   rw [bV (by rw [hC]; exact Nat.succ_ne_self _)]; exact hCn
 . intro x a e
   obtain ⟨v,oc,hoc,hd⟩:=I.cell x a (iK I c e)
   rw [bV (Nat.ne_of_lt (Heap.lt_size hoc))]
   exact I.freeC x a (iK I c e)
 . intro p hp; cases hp
 . exact I.hok.laid old (Nat.le_refl _) ⟨Nat.zero_le _,[],0,.nil,hD⟩
 . show (List.replicate M.length none++_).length=(M++F).length
   simp [c.ixl]
noncomputable def tB (X:Cx) (ifs:List Expr) (t:TT):Prop:=
 ∀ (pins:List (Addr×Obj)) (s:Shared) (σ:St) (H:Hp) (Q:Bool->Hp->Prop),Inv X pins σ H s->t σ H Q->
  wpAny (model X.prog X.w) X.A (forIn ifs true fun c r=>if r=true then do let ok ← isTrue c X.env (eval c X.env); pure (ForInStep.yield ok) else pure (ForInStep.yield r)) (TP X pins σ Q) X.xe s
theorem K5 {X:Cx}:tB X [] (fun _ H Q=>Q true H):=fun _ s σ H Q I h=>wpAny_tests_nil ⟨H,I,h⟩
noncomputable def G4 (wi:TI) (m:Nat) (ixs:List Nat) (g:TG) (tc:TT) (te:TE):TE:=fun σ H Q=>wi σ H fun J H1=>∀ p,H1 p=none->
 ∃ W:Nat->Nat->St->Hp->Prop,(∃ n,W 0 n (tu m ixs σ) (upd H1 p (.lst [])))/\∀ i n σ' H',W i n σ' H'->
  ((J.stop i H'/\Q (.ref p) H')\/(J.go i H'/\∀ x H2,J.yld i H' x H2->g x σ' H2 fun σ3 H3=>tc σ3 H3 fun b H4=>
    if b=true then te σ3 H4 fun v H5=>∃ ys,H5 p=some (.lst ys)/\ys.length<sizeLine/\∃ n',n'<n/\W (i+1) n' σ3 (upd H5 p (.lst (ys++[v])))
    else ∃ n',n'<n/\W (i+1) n' σ3 H4))
noncomputable def CI (X:Cx) (fp:List Addr) (tn:Nat->Heap->Prop) (W:Nat->Nat->St->Hp->Prop) (n:Nat) (s:Shared):Prop:=∃ i σ H,Inv X [] σ H s/\tn i s.heap/\(∀ b∈fp,H b=none)/\W i n σ H
theorem Aq {P:Prop} (h:∀ G:Prop,(P->G)->G):P:=h P id
theorem Ig {D it:Addr} {fp:List Addr} {tn:Nat->Heap->Prop} {J:It} {tg iter elt:Expr} {ifs:List Expr} {sc:Scope} {pos:Pos} {g:TG} {tc:TT} {te:TE} {W:Nat->Nat->St->Hp->Prop} {F:Hp->Prop} (hcalm:X.calm=true) (T:Turn X.prog X.w X.K tg J fp it tn) (hg:PG X tg g) (hc:tB X ifs tc) (he:PE X elt te) (hx:∀ u s,X.xe u s->False)
 (stat:∀ {H':Hp},(∀ b∈fp,H' b=none)->∀ b∈fp,lN X [] H' b)
 (turn:∀ i n σ' H',W i n σ' H'->((J.stop i H'/\F H')\/(J.go i H'/\∀ x H2,J.yld i H' x H2->g x σ' H2 fun σ3 H3=>tc σ3 H3 fun b H4=>
   if b=true then te σ3 H4 fun v H5=>∃ ys,H5 D=some (.lst ys)/\ys.length<sizeLine/\∃ n',n'<n/\W (i+1) n' σ3 (upd H5 D (.lst (ys++[v])))
   else ∃ n',n'<n/\W (i+1) n' σ3 H4)))
 {R:Result->Shared->Prop} (hR:∀ σ' H' s',Inv X [] σ' H' s'->F H'->R (.ok .next) s') (n:Nat) (s':Shared) (hI:CI X fp tn W n s'):
 wpAny (model X.prog X.w) X.A (compTurn (.ListComp elt [⟨tg,iter,ifs,0⟩] sc pos) 0 (.ref it) (.ref D) X.env)
  (fun fin s'=>match fin with | .done f=>R (.ok f) s' | .again c'=>c'=.compLoop (.ListComp elt [⟨tg,iter,ifs,0⟩] sc pos) 0 (.ref it) (.ref D) X.env/\∃ m,m<n/\CI X fp tn W m s') (fun _ _=>False) s':=by
 refine Aq fun G kG=>?_
 obtain ⟨i,σ',H',I',st',fr',w'⟩:=hI
 rw [compTurn_list] at kG
 rcases turn i n σ' H' w' with ⟨stop,qn⟩ | ⟨go,step⟩
 . refine kG (wpAny_bind (wpAny_standAt (wpAny_bind (wpAny_mono (T.done X rfl rfl rfl hcalm i [] s' σ' H' (fun _ _=>False) I' (stat fr') st' stop) (fun r s4 h4=>?_) fun _ _ f=>f))))
   obtain ⟨hr,I4⟩:=h4
   subst hr
   exact wpAny_pure (hR σ' H' _ I4 qn)
 . refine kG (wpAny_bind (wpAny_standAt (wpAny_bind (wpAny_mono (T.item X rfl rfl rfl hcalm i [] s' σ' H' (fun _ _=>False) I' (stat fr') st' go) (fun r s4 h4=>?_) fun _ _ f=>f))))
   obtain ⟨u,hr,h4⟩:=h4
   subst hr
   refine wpAny_bind (wpAny_mono h4 (fun _ s5 h5=>?_) fun _ _ f=>f)
   refine Aq fun G kG=>?_
   obtain ⟨x,H5,I5,r5,y5,st5,fr5⟩:=h5
   have again:∀ {s7:Shared} {σ7:St} {H7:Hp} {n':Nat},Inv X ([]++sU fp s5.heap) σ7 H7 s7->W (i+1) n' σ7 H7->CI X fp tn W n' s7:=fun {s7 σ7 H7 n'} I7 w7=>by
    have pn:∀ b∈fp,∀ o,s5.heap.get? b=some o->s7.heap.get? b=some o/\H7 b=none:=fun b hb o e=>by
     have:=I7.pin (b,o) (List.mem_append_right _ (List.mem_append_right _ (rF hb e)))
     exact ⟨this.1,this.2.1⟩
    refine ⟨i+1,σ7,H7,I7.unpinned,T.keep _ _ _ st5 fun b hb o e=>(pn b hb o e).1,fun b hb=>?_,w7⟩
    obtain ⟨o,e,d⟩:=T.obj _ _ st5 b hb
    exact (pn b hb o e).2
   refine kG (wpAny_bind (wpAny_mono (hg _ s5 σ' H5 x u _ (I5.pinned (stat fr5) (T.obj _ _ st5)) r5 (step x H5 y5)) (fun _ s6 h6=>?_) hx))
   refine Aq fun G kG=>?_
   obtain ⟨σ6,H6,I6,q6⟩:=h6
   refine kG (wpAny_bind (wpAny_mono (hc _ s6 σ6 H6 _ I6 q6) (fun ok s7 h7=>?_) hx))
   refine Aq fun G kG=>?_
   obtain ⟨H7,I7,q7⟩:=h7
   cases ok with
   | false=>
    rw [if_neg Bool.false_ne_true] at q7
    obtain ⟨n',hn',w7⟩:=q7
    exact kG (wpAny_pure ⟨rfl,n',hn',again I7 w7⟩)
   | true=>
    rw [if_pos rfl] at q7
    refine kG (wpAny_bind (wpAny_bind (wpAny_mono (he _ s7 σ6 H7 _ I7 q7) (fun v s8 h8=>?_) hx)))
    refine Aq fun G kG=>?_
    obtain ⟨y,H8,I8,r8,ys,hp8,hz,n',hn',w8⟩:=h8
    refine kG (wpAny_bind (wpAny_mono (lF (X:=X) _ s8 σ6 H8 (.ref D) [y] (.ref D) [v] (fun _ H9=>W (i+1) n' σ6 H9) I8 rfl (.cons r8 .nil) ⟨_,ys,y,rfl,rfl,hp8,hz,w8⟩) (fun _ s9 h9=>?_) hx))
    obtain ⟨_,H9,I9,_,w9⟩:=h9
    exact wpAny_pure (wpAny_pure ⟨rfl,n',hn',again I9 w9⟩)
theorem vZ {M F:List Str} {ixs:List Nat} {sc:Scope} {tg iter elt:Expr} {ifs:List Expr} {g:TG} {tc:TT} {te:TE} {pos:Pos} (hcalm:X.calm=true) (c:jc X M F ixs sc)
 (hg:∀ C fp s H,PG (fj X M F sc C fp s H) tg g) (hc:∀ C fp s H,tB (fj X M F sc C fp s H) ifs tc) (he:∀ C fp s H,PE (fj X M F sc C fp s H) elt te)
 {fp:List Addr} {it:Addr} {tn:Nat->Heap->Prop} {J:It} {Q:VK} (I:Inv X pins σ H s) (T:Turn X.prog X.w X.K tg J fp it tn) (st:tn 0 s.heap) (hf:∀ b∈fp,lN X pins H b)
 (h:∀ p,H p=none->∃ W:Nat->Nat->St->Hp->Prop,(∃ n,W 0 n (tu M.length ixs σ) (upd H p (.lst [])))/\∀ i n σ' H',W i n σ' H'->
   ((J.stop i H'/\Q (.ref p) H')\/(J.go i H'/\∀ x H2,J.yld i H' x H2->g x σ' H2 fun σ3 H3=>tc σ3 H3 fun b H4=>
     if b=true then te σ3 H4 fun v H5=>∃ ys,H5 p=some (.lst ys)/\ys.length<sizeLine/\∃ n',n'<n/\W (i+1) n' σ3 (upd H5 p (.lst (ys++[v])))
     else ∃ n',n'<n/\W (i+1) n' σ3 H4)))
 {RR:Value->Addr->Result->Shared->Prop} {E:Value->Shared->Prop}
 (hR:∀ D C s' H' m,s.heap.get? D=none->s.heap.get? C=none->s.heap.objs.size<=C->H D=none->D≠C->H' C=none->s'.heap.Ns C m->s'.os=s.os->AllBare s'.gens->Un (frs X.stack) fp H H' s.heap s'.heap->ik X.prog X.w H' s'.heap->Q (.ref D) H'->RR (.ref D) C (.ok .next) s'):
 wpAny (model X.prog X.w) X.A (newList []) (fun acc s₃=>wpAny (model X.prog X.w) X.A (newFunctionEnv sc X.env.globals (lQ sc.names X.env) [] X.env.qual none .none (some X.env)) (fun cenv s₄=>
  codeAny (model X.prog X.w) X.A (.compStart (.ListComp elt [⟨tg,iter,ifs,0⟩] sc pos) 0 (.ref it) acc { cenv with scope:=relabel sc X.env }) (RR acc cenv.locals) s₄) E s₃) E s:=by
 refine wpAny_newObj_type (wpAny_newFunctionEnv c.nocell (by intro y hy; simp at hy) (fun h₁ hns₁ hsb₁=>?_) c.kind)
 dsimp only at hns₁ hsb₁ ⊢
 generalize hH2:s.heap.push { cls:=.type "list",dict:=none,data:=.seq ([]:List Value).toArray }=H2 at hns₁ hsb₁ ⊢
 have hC:H2.objs.size=s.heap.objs.size+1:=by rw [← hH2,Heap.size_push]
 have hDC:s.heap.objs.size≠H2.objs.size:=by rw [hC]; exact Nat.ne_of_lt (Nat.lt_succ_self _)
 have below:∀ b,b<s.heap.objs.size->b≠H2.objs.size:=fun b hb=>by rw [hC]; exact Nat.ne_of_lt (Nat.lt_succ_of_lt hb)
 have old:∀ b o,s.heap.get? b=some o->h₁.get? b=some o:=fun b o e=>hsb₁.extBut b o (below b (Heap.lt_size e)) (Heap.get?_push_of_some _ (hH2▸Heap.get?_push_of_some _ e))
 have hD:h₁.get? s.heap.objs.size=some { cls:=.type "list",data:=.seq #[] 0 }:=hsb₁.extBut _ _ hDC (Heap.get?_push_of_some _ (hH2▸Heap.get?_push_size _ rfl))
 have fresh:∀ a,s.heap.objs.size<=a->s.heap.get? a=none:=fun a ha=>by
  cases e:s.heap.get? a with
  | none=>rfl
  | some o'=>exact absurd (Heap.lt_size e) (Nat.not_lt.mpr ha)
 have hDn:H s.heap.objs.size=none:=I.hok.fresh (Nat.le_refl _)
 have hfo:∀ b∈fp,∃ o,s.heap.get? b=some o:=fun b hb=>let ⟨o,e,_⟩:=T.obj 0 _ st b hb; ⟨o,e⟩
 have I0:=K4 I c hf hfo (tk:=s.toks+([]:List (Str×Value)).length) hC hns₁ old hD
 obtain ⟨W,⟨n0,w0⟩,turn⟩:=h _ hDn
 have nf:∀ b∈fp,b≠s.heap.objs.size:=fun b hb=>by obtain ⟨o,e⟩:=hfo b hb; exact Nat.ne_of_lt (Heap.lt_size e)
 have stat:∀ {H':Hp},(∀ b∈fp,H' b=none)->∀ b∈fp,lN (fj X M F sc H2.objs.size fp s H) [] H' b:=fun {H'} hn b hb=>by
  obtain ⟨f0,f1,f2,f3,f4,f5⟩:=hf b hb
  obtain ⟨o,e⟩:=hfo b hb
  refine ⟨hn b hb,below b (Heap.lt_size e),fun z=>?_,.inl hb,fun x a e'=>f4 x a (iK I c e'),fun p hp=>by cases hp⟩
  rcases List.mem_cons.mp (I.stkSub b z) with z | z
  . exact f1 z
  . exact f2 z
 have st1:tn 0 h₁:=T.keep 0 _ _ st fun b hb o e=>old b o e
 have loop:codeAny (model X.prog X.w) X.A (.compLoop (.ListComp elt [⟨tg,iter,ifs,0⟩] sc pos) 0 (.ref it) (.ref s.heap.objs.size) (compEnvC sc (lQ sc.names X.env) H2.objs.size X.env))
  (RR (.ref s.heap.objs.size) H2.objs.size) { s with heap:=h₁,toks:=s.toks+([]:List (Str×Value)).length }:=by
  refine codeAny_loop rfl (CI (fj X M F sc H2.objs.size fp s H) fp tn W) (fun n s' hI=>?_) n0 ⟨0,_,_,I0,st1,fun b hb=>by rw [bV (nf b hb)]; exact (hf b hb).1,w0⟩
  show wpAny _ X.A ((compTurn (.ListComp elt [⟨tg,iter,ifs,0⟩] sc pos) 0 (.ref it) (.ref s.heap.objs.size) (compEnvC sc (lQ sc.names X.env) H2.objs.size X.env)).onRaise (fun x=>do noteFrame x (compEnvC sc (lQ sc.names X.env) H2.objs.size X.env); theTreesLotGoes x)) _ _ s'
  refine wpAny_noted (wpAny_mono (Ig (X:=fj X M F sc H2.objs.size fp s H) hcalm T (hg _ fp s H) (hc _ fp s H) (he _ fp s H) (fun _ _ f=>f) stat turn (fun σ' H' s4 I4 qn=>?_) n s' hI) (fun _ _ h=>h) fun _ _ f=>f.elim)
  obtain ⟨m4,hn4,_⟩:=I4.loc
  exact hR _ _ _ H' m4 (fresh _ (Nat.le_refl _)) (fresh _ (by rw [hC]; exact Nat.le_succ _)) (by rw [hC]; exact Nat.le_succ _) hDn hDC I4.free hn4 I4.os I4.bare I4.base I4.hok qn
 exact codeAny_compStart_list loop (T.self _ 0 _ _ _ st1 loop)
end
section
variable {X:Cx}
theorem Ek {σ σ':St} {H H':Hp} {s s':Shared} {C:Addr} (I:Inv X pins σ H s) (hC:s.heap.get? C=none) (I':Inv X pins σ' H' s') (hn:H' C=none) {h':Heap} {m:Str->Option Value} (hs:Heap.SameBut C s'.heap h')
 (hsz:s.heap.objs.size<=C):Inv X pins σ' H' { s' with heap:=h' }:=by
 have ne:∀ a o,s.heap.get? a=some o->C≠a:=fun a o e z=>by rw [z,e] at hC; cases hC
 refine I'.turned (t':=s'.toks) (it:=C) (fun b o hb e=>(hs.2 b hb).trans e) hn ?_ (.inr (Nat.le_trans I.sz hsz)) (fun x c e=>?_) (fun p hp=>?_)
 . exact Nat.ne_of_gt (Nat.lt_of_lt_of_le I.lt hsz)
 . obtain ⟨v,o,ho,_⟩:=I.cell x c e
   exact Ne.symm (ne _ _ ho)
 . exact Ne.symm (ne _ _ (I.pin p hp).1)
theorem Ph (M F:List Str) (ixs:List Nat) {sc:Scope} {tg iter elt:Expr} {ifs:List Expr} {wi:TI} {g:TG} {tc:TT} {te:TE} {pos:Pos} (hcalm:X.calm=true) (c:jc X M F ixs sc) (hi:PI X tg iter wi)
 (hg:∀ C fp s H,PG (fj X M F sc C fp s H) tg g) (hc:∀ C fp s H,tB (fj X M F sc C fp s H) ifs tc) (he:∀ C fp s H,PE (fj X M F sc C fp s H) elt te)
 (hs:∀ x,foldedSetIterable iter X.env x=pure x:=by intro _; rfl):PE X (.ListComp elt [⟨tg,iter,ifs,0⟩] sc pos) (G4 wi M.length ixs g tc te):=by
 intro pins s σ H Q I h
 rw [eval_ListComp]
 refine wpAny_comprehension_free (use:=none) rfl hs (sH (vm I c)) c.kind c.locs (cu (hi pins s σ H _ I h) fun v s1 h1=>cu h1 fun itv s2 h2=>?_)
 obtain ⟨it,fp,tn,J,H2,e,I2,T,st2,f2,q⟩:=h2
 subst e
 refine vZ (Q:=Q) hcalm c hg hc he I2 T st2 f2 q (RR:=fun acc C=>compPost (model X.prog X.w) X.A X.xe none (EP X pins σ Q) acc C) ?_
 intro D C s' H' m hD hC hsz hDn hDC hCn hns hos hbare hun hok q'
 have I3:Inv X pins σ H' s':=I2.call' hos hun hok hbare fun b hb=>by
  obtain ⟨_,g1,g2,g3,g4,g5⟩:=f2 b hb
  exact ⟨g3,g1,g4,g5⟩
 exact ⟨m,hns,fun h' hs'=>⟨.ref D,H',Ek (m:=m) I2 hC I3 hCn hs' hsz,rfl,q'⟩⟩
theorem Pj {i:Nat} (M F:List Str) (ixs:List Nat) {x:Str} {sc:Scope} {tg iter elt:Expr} {ifs:List Expr} {wi:TI} {g:TG} {tc:TT} {te:TE} {pos pos' pos2:Pos} (hN:X.N.Nodup) (hix:X.N[i]?=some x) (hx:X.env.scope.names.lookup x=some .local)
 (hcalm:X.calm=true) (c:jc X M F ixs sc) (hi:PI X tg iter wi)
 (hg:∀ C fp s H,PG (fj X M F sc C fp s H) tg g) (hc:∀ C fp s H,tB (fj X M F sc C fp s H) ifs tc) (he:∀ C fp s H,PE (fj X M F sc C fp s H) elt te)
 (hsw:swapsWith (.ListComp elt [⟨tg,iter,ifs,0⟩] sc pos) (some (.Name x pos')) pos2.line X.env=pure true:=by rfl)
 (hs:∀ x,foldedSetIterable iter X.env x=pure x:=by intro _; rfl):PS X (.Assign [.Name x pos'] (.ListComp elt [⟨tg,iter,ifs,0⟩] sc pos) pos2) (fun D σ H=>G4 wi M.length ixs g tc te σ H fun v H1=>D.nx (σ.set i (some v)) H1):=by
 intro pins s σ H D I h
 rw [exec_Assign_Name_used _ _ _ _ hsw]
 refine wpAny_bind (wpAny_standAt (wpAny_bind ?_))
 show wpAny _ X.A (do let _ ← comprehension (.ListComp elt [⟨tg,iter,ifs,0⟩] sc pos) sc X.env _ (newList []) false (eval iter X.env) (some (assign (.Name x pos') X.env))) _ _ s
 refine wpAny_bind (wpAny_mono (wpAny_comprehension_free (use:=some (assign (.Name x pos') X.env)) (Q:=fun _ s'=>SP X pins D .next s') rfl hs (sH (vm I c)) c.kind c.locs
  (cu (hi pins s σ H _ I h) fun v s1 h1=>cu h1 fun itv s2 h2=>?_)) (fun _ s' hq=>wpAny_pure (wpAny_pure hq)) fun _ _ e=>e)
 obtain ⟨it,fp,tn,J,H2,e,I2,T,st2,f2,q⟩:=h2
 subst e
 refine vZ (Q:=fun v H1=>D.nx (σ.set i (some v)) H1) hcalm c hg hc he I2 T st2 f2 q (RR:=fun acc C=>compPost (model X.prog X.w) X.A X.xe (some (assign (.Name x pos') X.env)) (fun _ s'=>SP X pins D .next s') acc C) ?_
 intro D' C s' H' m hD hC hsz hDn hDC hCn hns hos hbare hun hok q'
 have I3:Inv X pins σ H' s':=I2.call' hos hun hok hbare fun b hb=>by
  obtain ⟨_,g1,g2,g3,g4,g5⟩:=f2 b hb
  exact ⟨g3,g1,g4,g5⟩
 have hLC:C≠X.env.locals:=Nat.ne_of_gt (Nat.lt_of_lt_of_le I2.lt hsz)
 show wpAny _ X.A (assign (.Name x pos') X.env (.ref D')) _ _ _
 refine wpAny_assign_Name (yu (v:=.ref D') I3 hN hix (.inl hx) rfl (fun s'' I4 ⟨a,hsb,ha⟩=>?_) (.inr hx))
 have hCa:C≠a:=by
  rcases ha with ha | ha
  . rw [ha]; exact hLC
  . obtain ⟨v,o,ho,_⟩:=I2.cell x a ha
    intro z; rw [z,ho] at hC; cases hC
 exact ⟨m,hns.sameBut hsb hCa,fun h' hs'=>⟨_,H',Ek (m:=m) I2 hC I4 hCn hs' hsz,q'⟩⟩
end
theorem Ar (l:Addr) (items:Array Value) (n:Nat) (b:Addr) (items2:Array Value) (n2:Nat) (dd2:Option Addr) (sl2:Array (Option Value)) (hc0:¬(!items.isEmpty&&Builtin.List.listTooLong (items.size+items2.size))=true) (hc1:items.size<=sizeLine) (hs2:items.size+items2.size<=sizeLine+1):
 Meets (Builtin.«list.extend» ⟨[.ref l,.ref b],[]⟩) (fun _ R s=>s.heap.get? l=some { cls:=.type "list",dict:=none,data:=.seq items n,slots:=#[] }/\s.heap.get? b=some { cls:=.type "list",dict:=dd2,data:=.seq items2 n2,slots:=sl2 }/\R (.ok (.ret Value.none)) { s with heap:=s.heap.update l (Obj.mapSeq fun x=>x++items2),toks:=s.toks }):=
 .of_wp fun prog w A R s h=>by
  obtain ⟨hp,g,d,tk,os⟩:=s; obtain ⟨hl,hb,h⟩:=h; have f1:=AutoSeq1.idx_int; have f2:=AutoSeq1.sub_tuple_tuple; have f3:=AutoSeq1.sub_list_list; have f4:=AutoSeq1.sub_tuple_list; have f5:=AutoSeq1.sub_list_tuple;
  have hz':(items++items2).size<=sizeLine+1:=by rw [Array.size_append]; exact hs2
  wp_walk using (wpAny_updateSeq hl rfl (hz:=hc1) (_hz':=hz')),AutoSeq1.wpAny_loadPart' hl,AutoSeq1.wpAny_loadPart' hb; exact ⟨_,rfl,h⟩
section
variable {X:Cx}
theorem Pk:iJ X (binaryOp .Add) (fun x y H Q=>∃ a b xs ys,x=.ref a/\y=.ref b/\bK X.K H a xs/\bK X.K H b ys/\xs.length+ys.length<=sizeLine/\∀ p,H p=none->Q (.ref p) (upd H p (.lst (xs++ys)))):=by
 intro pins s σ H x y v u Q I rx ry h
 obtain ⟨a,b,xs,ys,rfl,rfl,ha,hb,hz,q⟩:=h
 cases rx
 cases ry
 obtain ⟨its,r1,⟨⟨c1,d1,dt1,s1⟩,n1,g1,e1,e2,e3⟩,_⟩:=I.list ha
 obtain ⟨its2,r2,⟨⟨c2,d2,dt2,s2⟩,n2,g2,f1,f2,f3⟩,_⟩:=I.list hb
 simp only at e1 e2 e3 f1 f2 f3
 subst e1 e2 e3 f1 f2 f3
 have hl1:=r1.length
 have hl2:=r2.length
 refine concat_meets ⟨_,g1,rfl⟩ ⟨_,g2,rfl⟩ noFill_list_add seq_list_add F.slot_list_add F.entry_list_add (F.args_list_add_2 _ _) (list_addW a b its.toArray its2.toArray n1 n2 none none s1 s2 (by rw [List.size_toArray,List.size_toArray]; omega)) ⟨g1,g2,?_⟩
 have ea:its.toArray++its2.toArray=(its++its2).toArray:=by simp
 rw [ea]
 exact ⟨.ref _,_,I.lnew (t':=s.toks) (r1.append r2) (by rw [List.length_append]; omega),rfl,q _ I.fresh⟩
noncomputable def Av (K:FG):V->List V->Hp->VK->Prop:=fun x vs H Q=>∃ l b xs zs,x=.ref l/\vs=[.ref b]/\H l=some (.lst xs)/\bK K H b zs/\xs.length+zs.length<=sizeLine/\Q .non (upd H l (.lst (xs++zs)))
theorem G5:HW X "list.extend" (Av X.K):=by
 intro pins s σ H x vs v us Q I rx rv h
 obtain ⟨l,b,xs,zs,rfl,rfl,hH,hB,hz,q⟩:=h
 cases rx
 obtain ⟨u,rfl,ru⟩:=rv.one
 cases ru
 obtain ⟨z,its,n,r,hl,e⟩:=I.lstM hH
 obtain ⟨its2,r2,⟨⟨c2,d2,dt2,s2⟩,n2,g2,f1,f2,f3⟩,_⟩:=I.list hB
 simp only at f1 f2 f3
 subst f1 f2 f3
 have hl2:=r2.length
 have hsz:its.toArray.size+its2.toArray.size<=sizeLine:=by rw [List.size_toArray,List.size_toArray]; omega
 have hlong:¬ (!its.toArray.isEmpty&&Builtin.List.listTooLong (its.toArray.size+its2.toArray.size))=true:=by
  rw [KQ hsz,Bool.and_false]
  exact Bool.false_ne_true
 refine call_meets F.slot_list_extend ⟨_,e,rfl⟩ F.entry_list_extend (F.args_list_extend_2 _ _)
  (Ar l its.toArray n b its2.toArray n2 none s2 hlong (by rw [List.size_toArray]; omega) (by omega)) ⟨e,g2,?_⟩
 refine ⟨.non,_,I.lset (its':=its++its2) hH e (by simp) (r.append r2) ?_,rfl,q⟩
 rw [List.length_append]
 omega
end
noncomputable def jM (z:Str) (lo hi:Option Int):Str:=⟨((z.cps.toList.drop (HT.sIx z.length 0 lo)).take (HT.sIx z.length z.length hi-HT.sIx z.length 0 lo)).toArray⟩
theorem Ur (lo hi:Option Int) (n:Nat):Builtin.Str.strSliceIndices lo hi 1 n=(List.range (HT.sIx n n hi-HT.sIx n 0 lo)).map (HT.sIx n 0 lo+·):=by
 have e1:∀ (o:Option Int) (d:Nat),d<=n->(match o with | none=>(d:Int) | some i=>max 0 (min (if i<0 then i+(n:Int) else i) (n:Int)))=((HT.sIx n d o:Nat):Int):=fun o d hd=>by
  cases o with
  | none=>rfl
  | some i=>
   simp only [HT.sIx]
   by_cases h:i<0
   . simp only [h,if_true]<;>omega
   . simp only [h,if_false]<;>omega
 rw [← sliceRange_one]
 have a1:=e1 lo 0 (Nat.zero_le _)
 have a2:=e1 hi n (Nat.le_refl _)
 unfold Builtin.Str.strSliceIndices
 rw [← a1,← a2]
 cases lo<;>cases hi<;>simp
theorem Ih (z:Str) (lo hi:Option Int):Txt.slice z lo hi=jM z lo hi:=by
 unfold Txt.slice jM
 rw [Ur]
 have hp:=pick_run z.cps (HT.sIx z.length 0 lo) (HT.sIx z.length z.length hi-HT.sIx z.length 0 lo)
 split
 . rename_i h
   have h2:(List.map (HT.sIx z.length 0 lo+·) (List.range (HT.sIx z.length z.length hi-HT.sIx z.length 0 lo))).length=z.length:=by simpa using h
   rw [List.length_map,List.length_range] at h2
   have hh:HT.sIx z.length z.length hi<=z.length:=HT.sIx_le _ _ (Nat.le_refl _) hi
   have hl0:HT.sIx z.length 0 lo<=z.length:=HT.sIx_le _ _ (Nat.zero_le _) lo
   have hl:HT.sIx z.length 0 lo=0:=by omega
   rw [h2,hl,List.drop_zero,List.take_of_length_le (by rw [Array.length_toList]; exact Nat.le_refl _)]
 . rw [hp]
noncomputable def VD:V->Option Int->Option Int->Hp->VK->Prop:=fun x lo hi H Q=>∃ z,x=.str z/\z.length<=sizeLine/\Q (.str (jM z lo hi)) H
section
variable {X:Cx}
theorem RP:yE X VD:=by
 intro pins s σ H x v vl vu lo hi sl Q I rx hs pl pu h
 obtain ⟨z,rfl,hz,q⟩:=h
 obtain ⟨t,rfl⟩:=rx
 refine ⟨"str",_,F.slot_str_getitem.lookup,typeIs_str _ _ _,?_⟩
 have go:∀ (l u:Option (Int×Tok)),vl=partValue l->vu=partValue u->l.map (·.1)=lo->u.map (·.1)=hi->wpAny (model X.prog X.w) X.A (getItem (.str z t) (.ref sl)) (EP X pins σ Q) X.xe s:=fun l u e1 e2 e3 e4=>by
  subst e1 e2 e3 e4
  refine wpAny_getItem_str_slice (l:=l) (u:=u) (st:=none) hs rfl (post_val_or_str ⟨Nat.le_trans (Txt.slice_le z _ _) hz,fun t' k=>?_⟩)
  refine ⟨.str (jM z (l.map (·.1)) (u.map (·.1))),H,I.tok _,⟨t',?_⟩,q⟩
  rw [← Ih]
  rfl
 cases pl with
 | none=>cases pu with
  | none=>exact go none none rfl rfl rfl rfl
  | int j tj=>exact go none (some (j,tj)) rfl rfl rfl rfl
 | int i ti=>cases pu with
  | none=>exact go (some (i,ti)) none rfl rfl rfl rfl
  | int j tj=>exact go (some (i,ti)) (some (j,tj)) rfl rfl rfl rfl
end
section
variable {X:Cx} {pins:List (Addr×Obj)} {σ:St} {H:Hp} {s:Shared} {h':Heap}
theorem K6 {h:Heap} {a:Addr} {o:Obj} (e:h.get? a=some o):o.isFreed=false:=by
 unfold Heap.get? at e
 split at e
 . cases e
 . rename_i hne
   obtain ⟨c,d,dt,sl⟩:=o
   cases dt<;>first | rfl | exact (hne _ _ _ e).elim
theorem Inv.turned2 {t':Nat} {e it:Addr} (I:Inv X pins σ H s) (hei:e≠it) (k:∀ b o,b≠e->b≠it->s.heap.get? b=some o->h'.get? b=some o) (fe:lN X pins H e) (fi:lN X pins H it) (he:∃ o,h'.get? e=some o) (hes:∃ o,s.heap.get? e=some o):Inv X pins σ H { s with heap:=h',toks:=t' }:=by
 obtain ⟨o,ho⟩:=he
 obtain ⟨o0,ho0⟩:=hes
 obtain ⟨a0,a1,a2,a3,a4,a5⟩:=fe
 obtain ⟨b0,b1,b2,b3,b4,b5⟩:=fi
 have I1:Inv X pins σ H { s with heap:=s.heap.update e (fun _=>o),toks:=s.toks }:=I.turned (it:=e) (fun b u hb q=>(Heap.get?_update_other s.heap (fun _=>o) (Ne.symm hb)).trans q) a0 a1 a3 a4 a5
 refine Inv.turned (s:={ s with heap:=s.heap.update e (fun _=>o),toks:=s.toks }) (it:=it) (h':=h') (t':=t') I1 (fun b u hb q=>?_) b0 b1 b3 b4 b5
 by_cases hbe:b=e
 . subst hbe
   have q':(s.heap.update b (fun _=>o)).get? b=some u:=q
   rw [Heap.get?_update_self (fun _=>o) ho0 (K6 ho)] at q'
   cases q'
   exact ho
 . have q':(s.heap.update e (fun _=>o)).get? b=some u:=q
   rw [Heap.get?_update_other s.heap (fun _=>o) (Ne.symm hbe)] at q'
   exact k b u hbe hb q'
end
noncomputable def RQ (K:FG) (a:Addr):It:=
 ⟨fun i H=>∃ xs x,bK K H a xs/\xs[i]?=some x,fun i H x H'=>∃ T y,H T=none/\x=.ref T/\H'=upd H T (.tup [.int i,y])/\∀ xs,bK K H a xs->xs[i]?=some y,fun i H=>∃ xs,bK K H a xs/\xs.length<=i⟩
theorem Ii {K:FG} {elts:List Expr} {x1} {pos:Pos} (a e it:Addr) (hei:e≠it):Turn P w K (.Tuple elts x1 pos) (RQ K a) [e,it] e (fun i h=>(∃ old,IsEnum h e it i old)/\h.IsListIter it a i) where
 mem:=by simp
 obj:=fun i h st b hb=>by
  obtain ⟨⟨old,he⟩,hit⟩:=st
  rcases List.mem_cons.mp hb with rfl | hb
  . exact ⟨_,he,fun v z=>by
     have z':Data.fields _=Data.cell v:=z
     cases z'⟩
  . have eb:b=it:=by simpa using hb
    subst eb
    obtain ⟨o,ho,c,d⟩:=hit
    exact ⟨o,ho,fun v z=>by rw [d] at z; cases z⟩
 keep:=fun i h h' st k=>by
  obtain ⟨⟨old,he⟩,hit⟩:=st
  exact ⟨⟨old,k e (by simp) _ he⟩,hit.at fun o q=>k it (by simp) o q⟩
 item:=by
  intro X hP hw hK hc i pins s σ H E I hf st hg
  subst hP hw hK
  obtain ⟨⟨old,he⟩,hit⟩:=st
  obtain ⟨xs,x,hq,hx⟩:=hg
  obtain ⟨its,rv,p,hz⟩:=I.list hq
  obtain ⟨u,hu,ru⟩:=rv.get hx
  have fe:=hf e (by simp)
  have fi:=hf it (by simp)
  have helt:e<s.heap.objs.size:=Heap.lt_size he
  have hilt:it<s.heap.objs.size:=by obtain ⟨_,q,_⟩:=hit; exact Heap.lt_size q
  have hTn:H s.heap.objs.size=none:=I.hok.fresh (Nat.le_refl _)
  refine wpAny_pyNext_enum_item he hit p.isList (x:=u) (by simpa using hu) hei fun h1 ho hit' hT hsz hk=>?_
  refine ⟨_,rfl,wpAny_letOwnedTupleGo_enum ho fun h2 he' hs'=>?_⟩
  have ne1:s.heap.objs.size≠e:=Nat.ne_of_gt helt
  have ne2:s.heap.objs.size≠it:=Nat.ne_of_gt hilt
  have I1:Inv X pins σ (upd H s.heap.objs.size (.tup [.int i,x])) { s with heap:=s.heap.push { cls:=.type "tuple",data:=.seq #[.int i s.toks,u] },toks:=s.toks+1 }:=by
   refine I.laid (fun b o q=>Heap.get?_push_of_some _ q) (Nat.le_refl _) ⟨by simp only [List.length_cons,List.length_nil]; rw [sizeLine_eq]; decide,[.int i s.toks,u],.cons ⟨_,rfl⟩ (.cons ru .nil),?_⟩
   exact ⟨_,Heap.get?_push_size s.heap rfl,rfl,0,rfl⟩
  have up:∀ b,b≠s.heap.objs.size->H b=none->upd H s.heap.objs.size (.tup [.int i,x]) b=none:=fun b hb q=>by rw [bV hb]; exact q
  have I2:Inv X pins σ (upd H s.heap.objs.size (.tup [.int i,x])) { s with heap:=h2,toks:=s.toks+1 }:=by
   refine I1.turned2 (h':=h2) (t':=s.toks+1) hei (fun b o hb1 hb2 q=>?_) ⟨up e ne1.symm fe.1,fe.2⟩ ⟨up it ne2.symm fi.1,fi.2⟩ ⟨_,he'⟩ ⟨_,Heap.get?_push_of_some _ he⟩
   rw [hs'.2 b hb1]
   by_cases hbT:b=s.heap.objs.size
   . subst hbT
     have q':(s.heap.push { cls:=.type "tuple",data:=.seq #[.int i s.toks,u] }).get? s.heap.objs.size=some o:=q
     rw [Heap.get?_push_size s.heap rfl] at q'
     cases q'
     exact hT
   . refine hk b o hb1 hb2 ?_
     have q':(s.heap.push { cls:=.type "tuple",data:=.seq #[.int i s.toks,u] }).get? b=some o:=q
     rw [Heap.get?_push_ne s.heap b _ hbT] at q'
     exact q'
  refine ⟨.ref s.heap.objs.size,_,I2,rfl,⟨s.heap.objs.size,x,hTn,rfl,rfl,fun ys hy=>by rw [I.list_inj hy hq]; exact hx⟩,⟨⟨u,by simpa using he'⟩,hit'.at fun o y=>(hs'.2 it hei.symm).trans y⟩,fun b hb=>?_⟩
  rcases List.mem_cons.mp hb with rfl | hb
  . exact up _ ne1.symm fe.1
  . have eb:b=it:=by simpa using hb
    subst eb
    exact up _ ne2.symm fi.1
 done:=by
  intro X hP hw hK hc i pins s σ H E I hf st hg
  subst hP hw hK
  obtain ⟨⟨old,he⟩,hit⟩:=st
  obtain ⟨xs,hq,hx⟩:=hg
  obtain ⟨its,rv,p,hz⟩:=I.list hq
  obtain ⟨f0,f1,f2,f3,f4,f5⟩:=hf it (by simp)
  have hl:=rv.length
  exact wpAny_pyNext_enum_end (I.ok.hd hc) he hit p.isList (Array.getElem?_eq_none (by simp; omega)) fun h' eb=>⟨rfl,I.turned (t':=s.toks) (fun b o hb q=>eb b o hb q) f0 f1 f3 f4 f5⟩
 self:=fun _ _ _ _ _ st h=>by
  obtain ⟨⟨old,he⟩,_⟩:=st
  exact wpAny_pyIter_enum he h
section
variable {X:Cx}
noncomputable def Us (K:FG) (ta:TA):TI:=fun σ H R=>ta σ H fun vs H1=>∃ a,vs=[.ref a]/\(∃ xs,bK K H1 a xs)/\R (RQ K a) H1
theorem Pn {a:Expr} {ta:TA} {p pos:Pos} {elts:List Expr} {x1} {tpos:Pos} (hg:Gl X "enumerate") (hm:X.mg "enumerate" = none) (ha:PA X [a] ta) (hs:starEach [a] X.env=[(false,eval a X.env)]:=by rfl):PI X (.Tuple elts x1 tpos) (.Call (.Name "enumerate" p) [a] [] pos) (Us X.K ta):=by
 intro pins s σ H R I h
 refine Call_ (sO (u:=.type "enumerate") I hg hm (by kernel_rfl) (PyProof.Rows.callWith_type1 (cu (ha pos pins s σ H _ I h) fun us s1 ⟨vs,H1,I1,r1,q1⟩=>?_) hs rfl))
 obtain ⟨b,e,⟨xs,hq⟩,q⟩:=q1
 subst e
 cases r1 with
 | cons r rr=>
  cases rr
  cases r
  obtain ⟨its,rv,pl,hz⟩:=I1.list hq
  refine call_enumerate_list pl.isList fun h' he hit hsz hk=>?_
  have I2:Inv X pins σ H1 { s1 with heap:=h' }:=I1.kept (t':=s1.toks) hk
  refine wpAny_pyIter_enum he ?_
  refine ⟨s1.heap.objs.size+1,[s1.heap.objs.size+1,s1.heap.objs.size],_,_,H1,rfl,I2,Ii b (s1.heap.objs.size+1) s1.heap.objs.size (Nat.succ_ne_self _),⟨⟨_,he⟩,hit⟩,fun c hc=>?_,q⟩
  have hc':s1.heap.objs.size<=c:=by
   rcases List.mem_cons.mp hc with rfl | hc
   . exact Nat.le_succ _
   . have ec:c=s1.heap.objs.size:=by simpa using hc
     exact Nat.le_of_eq ec.symm
  exact I1.fpOk hc' (I1.hok.fresh hc')
noncomputable def Nm:V->V->V->Hp->(Hp->Prop)->Prop:=fun o i v H Q=>∃ a H',o=.ref a/\RL H a i v H'/\Q H'
theorem set_dict (hu:X.A.units+1<cLine):Kp X Nm:=by
 intro pins s σ H o i v ov iv u Q I ro ri rv h
 obtain ⟨a,H',rfl,g,q⟩:=h
 cases ro
 exact Ie hu I g ri rv fun s4 I4=>⟨H',I4,q⟩
end
section
variable {X:Cx} {pins:List (Addr×Obj)} {σ:St} {H:Hp} {s:Shared} {h':Heap}
end
theorem RT {h:Heap} {a b:Addr} {o o':Obj} (e:h.get? a=some o) (e':h.get? b=some o') (n:o.cls≠o'.cls):a≠b:=fun z=>by
 subst z
 rw [e] at e'
 cases e'
 exact n rfl
section
variable {X:Cx}
end
noncomputable def fG (es:Array (Int×Value)):List Str:=es.toList.map fun e=>strOf e.2
structure il (prog:Program) (w:World) (h:Heap) (a:Addr) (es:Array (Int×Value)) (ep:Nat) (t:SetTable) (led:Bool):Prop where
 at_:h.get? a=some { cls:=.type "set",dict:=none,data:=.set es ep t,slots:=#[] }
 el:ElemsOf (PySem.strKind prog w) es.toList
 nd:(fG es).Nodup
 bd:es.size<scanBound
 fits:t.fits es.size=true
 led:t.led=led
 plain:0<es.size->t.plain=false
theorem G6 {t:SetTable} {es:Array (Int×Value)} {h:Int} {x:Value}:(layNew t es h x).2.1.led=t.led:=by
 unfold layNew
 split
 . show (SetTable.orStandIn _ _).led=_
   unfold SetTable.orStandIn
   split<;>rfl
 . rfl
theorem v4 {t t':SetTable} {hs:Array Int} {n:Nat} {o:Array Nat} (e:t.relaid hs n=some (t',o)):t'.led=t.led/\t'.plain=t.plain:=by
 unfold SetTable.relaid SetTable.laid at e
 obtain ⟨ow,h1,h2⟩:=Option.bind_eq_some_iff.mp e
 cases h2
 exact ⟨rfl,rfl⟩
theorem Aw {t:SetTable} {es:Array (Int×Value)} {n:Nat}:(relayAll t es n).2.1.led=t.led:=by
 unfold relayAll
 split
 . rename_i e
   dsimp only
   split
   . exact (v4 e).1
   . rfl
 . rfl
theorem xJ {t:SetTable} {es:Array (Int×Value)} {n:Nat} (hp:t.plain=false):(relayAll t es n).2.1.plain=false:=by
 unfold relayAll
 split
 . rename_i e
   dsimp only
   split
   . exact (v4 e).2.trans hp
   . rfl
 . rfl
theorem Ij {h:Heap} {a:Addr} {es es':Array (Int×Value)} {ep:Nat} {t t':SetTable} (e:h.get? a=some { cls:=.type "set",dict:=none,data:=.set es ep t,slots:=#[] }):(h.update a (Obj.putSet es' t')).get? a=some { cls:=.type "set",dict:=none,data:=.set es' (ep+1) t',slots:=#[] }:=
 Heap.get?_update_self (Obj.putSet es' t') e rfl
section
variable {prog:Program}
theorem add_str {a:Addr} {x:Str} {tk:Tok} {es:Array (Int×Value)} {ep:Nat} {t:SetTable} {led:Bool} {Q:Bool->Shared->Prop} (S:il prog w s.heap a es ep t led) (room:es.size+1<scanBound)
 (h:∀ b h' es' ep' t',Heap.SameBut a s.heap h'->il prog w h' a es' ep' t' led->(∀ y,y∈fG es' ↔ y∈fG es\/y=x)->es'.size<=es.size+1->Q b { s with heap:=h' }):
 wpAny (model prog w) A (setAddHashed a (.str x tk) (hashStr w x)) Q E s:=by
 have hk:(PySem.strKind prog w).is x (.str x tk)=true:=by show Value.isStrOf x (.str x tk)=true; simp [Value.isStrOf]
 unfold setAddHashed setAddHashedIn
 refine wpAny_holding (wpAny_bind (wpAny_setState_of S.at_ rfl S.fits ?_))
 dsimp only
 rw [byScan_of (knd:=PySem.strKind prog w) (x:=.str x tk) rfl S.bd S.el]
 simp only [↓reduceIte]
 unfold setAddByScan
 refine wpAny_bind (wpAny_bind (wpAny_rule (wpAny_bind ?_)))
 refine wpAny_setScan_of (knd:=PySem.strKind prog w) (k:=x) hk S.at_ rfl S.fits S.el ?_
 have key:∀ e∈es.toList,(PySem.strKind prog w).is x e.2=true ↔ strOf e.2=x:=fun e he=>by
  obtain ⟨⟨k,h1,_⟩,_⟩:=S.el e he
  obtain ⟨u,hu⟩:=Value.isStrOf_shape (x:=k) (v:=e.2) h1
  rw [hu]
  show Value.isStrOf x (.str k u)=true ↔ k=x
  simp [Value.isStrOf]
 cases hr:List.findIdx? (fun e=>(PySem.strKind prog w).is x e.2) es.toList with
 | some j=>
  dsimp only
  obtain ⟨hj,hpj,_⟩:=List.findIdx?_eq_some_iff_getElem.mp hr
  have hm:x∈fG es:=List.mem_map.mpr ⟨es.toList[j],List.getElem_mem hj,(key _ (List.getElem_mem hj)).mp hpj⟩
  refine wpAny_pure (wpAny_pure ?_)
  exact h false s.heap es ep t (Heap.SameBut.refl a s.heap) S (fun y=>⟨.inl,fun q=>q.elim id fun q=>q▸hm⟩) (Nat.le_succ _)
 | none=>
  dsimp only
  have hm:x∉fG es:=fun q=>by
   obtain ⟨e,he,q⟩:=List.mem_map.mp q
   have:=List.findIdx?_eq_none_iff.mp hr e he
   rw [(key e he).mpr q] at this
   cases this
  have way:∀ (b:Bool) {s₁:Shared} {Q':Unit->Shared->Prop},Q' () s₁->wpAny (model prog w) A (match b with | true=>rule "set.scan.the-table-gave-way" | false=>pure ()) Q' E s₁:=fun b s₁ Q' q=>by
   cases b
   . exact wpAny_pure q
   . exact wpAny_rule q
  have hp:=layNew_perm t es (hashStr w x) (.str x tk)
  have hf:=layNew_fits t es (hashStr w x) (.str x tk)
  have hl:(layNew t es (hashStr w x) (.str x tk)).2.1.led=led:=G6.trans S.led
  have k1:∀ es1:Array (Int×Value),List.Perm es1.toList (es.push (hashStr w x,.str x tk)).toList->ElemsOf (PySem.strKind prog w) es1.toList/\(fG es1).Nodup/\es1.size=es.size+1/\∀ y,y∈fG es1 ↔ y∈fG es\/y=x:=fun es1 q=>by
   rw [Array.toList_push] at q
   have q2:List.Perm (fG es1) (fG es++[x]):=by
    have:=q.map fun e=>strOf e.2
    simpa [fG,strOf] using this
   refine ⟨(S.el.push (k:=x) hk rfl).perm q,q2.nodup_iff.mpr (List.nodup_append.mpr ⟨S.nd,by simp,fun a ha b hb=>?_⟩),?_,fun y=>?_⟩
   . rw [List.mem_singleton.mp hb]
     exact fun z=>hm (z▸ha)
   . have:=q.length_eq
     simpa using this
   . rw [q2.mem_iff]
     simp
  generalize layNew t es (hashStr w x) (.str x tk)=L at hp hf hl ⊢
  obtain ⟨es1,t1,wd,gv⟩:=L
  obtain ⟨k11,k12,k13,k14⟩:=k1 es1 hp
  dsimp only at hp hf hl ⊢
  refine wpAny_bind (way gv ?_)
  have fin:∀ t2:SetTable,t2.fits es1.size=true->t2.led=led->t2.plain=false->wpAny (model prog w) A (do
   storeSet a es1 t2
   if (!wd&&t2.tooFull)=true then do
    (match (relayAll t2 es1 (SetTable.grown es1.size)).2.2 with | true=>rule "set.scan.the-table-gave-way" | false=>pure ())
    storeSet a (relayAll t2 es1 (SetTable.grown es1.size)).1 (relayAll t2 es1 (SetTable.grown es1.size)).2.1
    pure (some true)
    else pure (some true)) (fun r s'=>∃ h',s'={ s with heap:=h' }/\r=some true/\∃ es' ep' t',Heap.SameBut a s.heap h'/\il prog w h' a es' ep' t' led/\(∀ y,y∈fG es' ↔ y∈fG es\/y=x)/\es'.size<=es.size+1) E s:=by
   intro t2 f2 l2 p2
   have b1:es1.size<scanBound:=by omega
   refine wpAny_bind (wpAny_storeSet_of S.at_ rfl ?_ (fits_of_scanBound b1))
   have g1:=Ij (es':=es1) (t':=t2) S.at_
   have sb1:=Heap.SameBut.update s.heap a (Obj.putSet es1 t2)
   split
   . refine wpAny_bind (way _ ?_)
     have q:=relayAll_perm t2 es1 (SetTable.grown es1.size)
     have qf:=relayAll_fits t2 es1 (SetTable.grown es1.size)
     have ql:(relayAll t2 es1 (SetTable.grown es1.size)).2.1.led=led:=Aw.trans l2
     have qp:=xJ (es:=es1) (n:=SetTable.grown es1.size) p2
     generalize relayAll t2 es1 (SetTable.grown es1.size)=R at q qf ql qp ⊢
     obtain ⟨es2,t3,g3⟩:=R
     dsimp only at q qf ql qp ⊢
     obtain ⟨m1,m2,m3,m4⟩:=k1 es2 (q.trans hp)
     refine wpAny_bind (wpAny_storeSet_of g1 rfl ?_ (fits_of_scanBound (by omega)))
     exact wpAny_pure ⟨_,rfl,rfl,es2,_,t3,sb1.trans (Heap.SameBut.update _ a _),⟨Ij g1,m1,m2,by omega,qf,ql,fun _=>qp⟩,m4,by omega⟩
   . exact wpAny_pure ⟨_,rfl,rfl,es1,_,t2,sb1,⟨g1,k11,k12,b1,f2,l2,fun _=>p2⟩,k14,by omega⟩
  have out:∀ r s',(∃ h',s'={ s with heap:=h' }/\r=some true/\∃ es' ep' t',Heap.SameBut a s.heap h'/\il prog w h' a es' ep' t' led/\(∀ y,y∈fG es' ↔ y∈fG es\/y=x)/\es'.size<=es.size+1)->r=some true/\Q true s':=fun r s' q=>by
   obtain ⟨h',rfl,rfl,es',ep',t',q1,q2,q3,q4⟩:=q
   exact ⟨rfl,h true h' es' ep' t' q1 q2 q3 q4⟩
  split
  . refine wpAny_bind ?_
    rw [hashByValue_scannable 8 (x:=.str x tk) rfl]
    refine wpAny_pure ?_
    refine wpAny_mono (fin { t1 with plain:=false } (SetTable.fits_plain_off hf) hl rfl) (fun r s' q=>?_) fun _ _ e=>e
    obtain ⟨rfl,q'⟩:=out r s' q
    exact wpAny_pure q'
  . rename_i np
    refine wpAny_bind (wpAny_pure ?_)
    simp only [↓reduceIte]
    refine wpAny_mono (fin t1 hf hl (by simpa using np)) (fun r s' q=>?_) fun _ _ e=>e
    obtain ⟨rfl,q'⟩:=out r s' q
    exact wpAny_pure q'
theorem il.moved {h h':Heap} {a:Addr} {es:Array (Int×Value)} {ep:Nat} {t:SetTable} {led:Bool} (S:il prog w h a es ep t led) (k:∀ o,h.get? a=some o->h'.get? a=some o):il prog w h' a es ep t led:=⟨k _ S.at_,S.el,S.nd,S.bd,S.fits,S.led,S.plain⟩
end
section
variable {prog:Program} {w:World} {A:Around} {R:Result->Shared->Prop} {I:Addr} {fp wr:List Addr} {G:Array GenState->Array GenState->Prop} {n:Nat} {P:Nat->Value->Prop} {St:Nat->Shared->Prop}
theorem Ik (W:WalksS prog w A.in1 I fp wr G n P St) (D:Addr) (hD:D∉fp) (val:Nat->Str) (hv:∀ i v,P i v->∃ t,v=.str (val i) t) (hb:n+1<scanBound) (led:Bool):
 ∀ (k i:Nat) (s:Shared) (es:Array (Int×Value)) (ep:Nat) (t:SetTable),n-i=k->i<=n->St i s->il prog w s.heap D es ep t led->es.size<=i->(∀ y,y∈fG es ↔ ∃ j,j<i/\val j=y)->
  (∀ s' es' ep' t',Moved (D::wr) G s s'->il prog w s'.heap D es' ep' t' led->(∀ y,y∈fG es' ↔ ∃ j,j<n/\val j=y)->es'.size<=n->R (.ok (.ret .none)) s')->
  codeAny (model prog w) A (.builtin "set.update.loop" ⟨[.ref D,.ref I],[]⟩) R s:=by
 have nw:D∉wr:=fun q=>hD (W.sub _ q)
 have mw:∀ b∈wr,b∈D::wr:=fun b q=>List.mem_cons_of_mem _ q
 intro k
 induction k with
 | zero=>
  intro i s es ep t hk hi st S sz mem hR
  obtain rfl:i=n:=by omega
  refine codeAny_builtin F.entry_set_update_loop ?_
  rw [Around.under_plainId F.plain_set_update_loop _]
  refine wpAny_bind (m:=pyNext (.ref I)) (W.done s _ _ st fun s' m=>?_)
  exact wpAny_pure (hR s' es ep t (m.mono mw) (S.moved fun o q=>m.heap D o nw q) mem sz)
 | succ k ih=>
  intro i s es ep t hk hi st S sz mem hR
  have lt:i<n:=by omega
  refine codeAny_builtin F.entry_set_update_loop ?_
  rw [Around.under_plainId F.plain_set_update_loop _]
  refine wpAny_bind (m:=pyNext (.ref I)) (W.item i s _ _ lt st fun v s' hP st' m=>?_)
  obtain ⟨u,rfl⟩:=hv i v hP
  have S':=S.moved fun o q=>m.heap D o nw q
  refine wpAny_bind (m:=holding [Value.str (val i) u] (setAdd D (.str (val i) u))) (wpAny_holding ?_)
  unfold setAdd
  refine wpAny_holding (wpAny_bind (wpAny_pyHash_str ?_))
  refine add_str (s:={ s' with toks:=s'.toks+1 }) S' (by omega) fun b h' es' ep' t' sb S2 mem2 sz2=>?_
  refine wpAny_pure ⟨plainId_quiet F.plain_set_update_loop _,ih (i+1) _ es' ep' t' (by omega) lt (W.frame _ s' _ _ st' (Nat.le_succ _) fun c hc o q=>?_) S2 (by omega) (fun y=>?_) fun s'' es'' ep'' t'' m2 S3 mem3 sz3=>?_⟩
  . rw [sb.2 c (fun z=>hD (z▸hc))]
    exact q
  . rw [mem2 y,mem y]
    constructor
    . rintro (⟨j,hj,q⟩ | q)
      . exact ⟨j,by omega,q⟩
      . exact ⟨i,by omega,q.symm⟩
    . rintro ⟨j,hj,q⟩
      rcases Nat.lt_or_ge j i with g | g
      . exact .inl ⟨j,g,q⟩
      . obtain rfl:j=i:=by omega
        exact .inr q.symm
  . refine hR s'' es'' ep'' t'' (Moved.trans W.gtrans ((m.mono mw).then_heap (Nat.le_succ _) fun c o hc q=>?_) m2) S3 mem3 sz3
    rw [sb.2 c (fun z=>hc (z▸List.mem_cons_self))]
    exact q
end
noncomputable def byText (w:World):Bool:=w.params.followText "set-order"
noncomputable abbrev qj (w:World):Obj:={ cls:=.type "set",dict:=none,data:=.set #[] 0 (.fresh 0 0 (!byText w)),slots:=#[] }
section
variable {prog:Program}
theorem Pq (a:Value) {Q:Value->Shared->Prop} (h:Q (.ref s.heap.objs.size) { s with heap:=s.heap.push (qj w) }):
 codeAny (model prog w) A (.call (.builtin "set.__new__") ⟨[.type "set",a],[]⟩) (wants Q E) s:=by
 refine codeAny_of_tree (show wpAny _ A.in1 (do checkBuiltinCall "set.__new__" ⟨[.type "set",a],[]⟩; again (.builtin "set.__new__" ⟨[.type "set",a],[]⟩)) _ _ s from ?_)
 refine wpAny_bind (wpAny_of_eq (F.newCall_set_1 a) (wpAny_pure ⟨plainId_quiet F.plain_set_new _,codeAny_builtin F.entry_set_new (?_:wpAny _ _ _ _ _ _)⟩))
 rw [Around.under_plainId F.plain_set_new _]
 unfold Builtin.«set.__new__»; unfold Builtin.Frozenset.newClass
 have hs:=sub_set_self
 obtain ⟨x1,x2,x3,x4,x5⟩:=s
 dsimp only
 wp_walk
 refine wpAny_askSetting (wpAny_pure ?_); dsimp only; simp only [newObj]
 refine wpAny_bind (wpAny_alloc (wpAny_pure (wpAny_pure ?_)))
 exact h
theorem El:∀ {vs:List Value} {ss:List Str},StrsAre vs ss->∀ (i:Nat) (v:Value),vs[i]?=some v->∃ t,v=.str (ss.getD i ⟨#[]⟩) t
 | _,_,.nil,i,v,h=>by simp at h
 | _,_,.cons y t r,0,v,h=>by cases h; exact ⟨t,rfl⟩
 | _,_,.cons y t r,i+1,v,h=>by
  obtain ⟨u,e⟩:=El r i v (by simpa using h)
  exact ⟨u,by simpa using e⟩
theorem vo:∀ {vs:List Value} {ss:List Str},StrsAre vs ss->vs.length=ss.length
 | _,_,.nil=>rfl
 | _,_,.cons y t r=>by simp [vo r]
theorem Ds {l:Addr} {items:Array Value} {ss:List Str} {Q:Value->Shared->Prop} (hh:A.handled=none) (hl:s.heap.IsList l items) (hi:StrsAre items.toList ss) (hb:items.size+1<scanBound)
 (h:∀ (h':Heap) (tk:Nat) es ep t,il prog w h' s.heap.objs.size es ep t (!byText w)->(∀ y,y∈fG es ↔ y∈ss)->es.size<=items.size->(∀ b o,b<s.heap.objs.size->s.heap.get? b=some o->h'.get? b=some o)->Q (.ref s.heap.objs.size) { s with heap:=h',toks:=tk }):
 wpAny (model prog w) A (call (.type "set") [.ref l]) Q E s:=by
 obtain ⟨c,tl,hmro⟩:=F.called_set.mro
 have m1:=F.called_set.made; have m2:=F.called_set.sub
 refine wpAny_call (codeAny_of_tree (show wpAny _ _ (callAny (.type "set") _) _ _ _ from wpAny_pure ⟨Code.quiet_builtin _ (by decide +kernel),codeAny_builtin F.entry_type_call (?_:wpAny _ _ _ _ _ _)⟩))
 rw [Around.under_plain (weight_type_call_type "set" [.ref l] []) rfl]
 have m3:=F.called_set.notType; have m4:=F.called_set.canCreate
 have m5:=F.typeCall_set_1 (.ref l)
 repeat any_goals first | assumption | wp_step
 refine codeAny_mono (Pq (.ref l) (E:=E) (Q:=fun o s₁=>o=.ref s.heap.objs.size/\s₁={ s with heap:=s.heap.push (qj w) }) ⟨rfl,rfl⟩) fun r s₁ hr=>?_
 cases r with
 | error e=>exact hr
 | ok fl=>
  cases fl with
  | ret obj=>
   obtain ⟨rfl,rfl⟩:=hr
   have g0:(s.heap.push (qj w)).get? s.heap.objs.size=some (qj w):=Heap.get?_push_size _ rfl
   have hT:Shared.TypeIs { s with heap:=s.heap.push (qj w) } (.ref s.heap.objs.size) "set" := ⟨_,g0,rfl⟩
   have m6:=F.called_set.init.lookup; have m7:=F.called_set.init.bind (.ref s.heap.objs.size)
   repeat any_goals first | assumption | wp_step
   refine codeAny_mono (codeAny_call_builtin (R:=wants (fun r s₂=>r=.none/\∃ h' tk es ep t,s₂={ s with heap:=h',toks:=tk }/\il prog w h' s.heap.objs.size es ep t (!byText w)/\(∀ y,y∈fG es ↔ y∈ss)/\es.size<=items.size/\(∀ b o,b<s.heap.objs.size->s.heap.get? b=some o->h'.get? b=some o)) E) F.called_set.init.plain F.entry_set_init (check_set_init_1 hT ?_)) fun r₂ s₂ hr₂=>?_
   . obtain ⟨⟨c1,c2,c3,c4⟩,ho,hc,nl,hd⟩:=hl
     simp only at hc hd
     subst hc; subst hd
     have ho':(s.heap.push (qj w)).get? l=some { cls:=.type "list",dict:=c2,data:=.seq items nl,slots:=c4 }:=Heap.get?_push_of_some _ ho
     have n1:=F.sub_list_set; have n2:=F.sub_list_frozenset
     have n3:(Value.type "list" == Value.type "dict")=false:=by decide
     have hl1:(s.heap.push (qj w)).IsList l items:=⟨_,ho',rfl,nl,rfl⟩
     unfold Builtin.«set.__init__»; unfold noKeywords; unfold Builtin.Frozenset.updateFrom
     generalize hPI:pyIter=PI
     wp_walk
     subst hPI
     refine wpAny_pyIter_list hl1 (wpAny_bind (wpAny_runValue ?_))
     have lS:l<s.heap.objs.size:=Heap.lt_size ho
     have h3:A.in1.in1.in1.handled=none:=by simp [hh]
     have nI:l≠(s.heap.push (qj w)).objs.size:=by rw [Heap.size_push]; exact Nat.ne_of_lt (Nat.lt_succ_of_lt lS)
     have nS:s.heap.objs.size∉[(s.heap.push (qj w)).objs.size,l]:=by
      rw [Heap.size_push]; simp only [List.mem_cons,List.not_mem_nil,or_false,not_or]
      exact ⟨Nat.ne_of_lt (Nat.lt_succ_self _),Nat.ne_of_gt lS⟩
     refine Ik ((Walks.list h3 _ l nI items).toS) s.heap.objs.size nS (fun i=>ss.getD i ⟨#[]⟩) (fun i v q=>El hi i v (by rw [Array.getElem?_toList]; exact q)) hb (!byText w) (items.size-0) 0 _ #[] 0 (.fresh 0 0 (!byText w)) (by omega) (Nat.zero_le _) ⟨⟨_,Heap.get?_push_size _ rfl,rfl,rfl⟩,(hl1.push _)⟩ ?S0 (Nat.zero_le _) (fun y=>?M0) ?hR
     case S0=>exact ⟨Heap.get?_push_of_some _ g0,fun e q=>by simp at q,by simp [fG],by decide,rfl,rfl,fun q=>by simp at q⟩
     case M0=>simp [fG]
     case hR=>
      intro s' es ep t m S' mem sz
      obtain ⟨h',g',d',tk',os'⟩:=s'
      obtain rfl:g'=s.gens:=m.gens
      obtain rfl:d'=s.drawn:=m.drawn
      obtain rfl:os'=s.os:=m.os
      refine wpAny_pure (show wpAny _ _ (ret Value.none) _ _ _ from wpAny_pure ⟨rfl,h',tk',es,ep,t,rfl,S',fun y=>?_,sz,fun b o hb q=>?_⟩)
      . rw [mem y]
        have e0:=vo hi
        rw [Array.length_toList] at e0
        have gd:∀ j (hj:j<ss.length),ss.getD j ⟨#[]⟩=ss[j]:=fun j hj=>by simp [hj]
        constructor
        . rintro ⟨j,hj,rfl⟩
          rw [gd j (by omega)]
          exact List.getElem_mem _
        . intro q
          obtain ⟨j,hj,rfl⟩:=List.mem_iff_getElem.mp q
          exact ⟨j,by omega,gd j hj⟩
      . have b1:b≠s.heap.objs.size:=Nat.ne_of_lt hb
        have b2:b≠(s.heap.push (qj w)).objs.size:=by rw [Heap.size_push]; exact Nat.ne_of_lt (Nat.lt_succ_of_lt hb)
        exact m.heap b o (by simp only [List.mem_cons,List.not_mem_nil,or_false,not_or]; exact ⟨b1,b2⟩) (Heap.get?_push_of_some _ (Heap.get?_push_of_some _ q))
   . cases r₂ with
     | error e=>exact hr₂
     | ok fl₂=>
      cases fl₂ with
      | ret r=>
       obtain ⟨rfl,h',tk,es,ep,t,rfl,q1,q2,q3,q4⟩:=hr₂
       repeat any_goals first | assumption | wp_step
       exact h _ _ _ _ _ q1 q2 q3 q4
      | _=>exact hr₂.elim
  | _=>exact hr.elim
end
theorem Em:Manifest.owners.lookup (String.ofList ['r','o','t','a','r','e','t','i','_','t','e','s'].reverse)=some Manifest.sig_set_iterator:=by kernel_rfl
theorem lu:Slot "set_iterator" "__next__" "set_iterator.__next__" := .of (owner := "set_iterator") (n := "__next__") (by rw [typeLookup_type,builtinLookup_eq_fast]; kernel_rfl) (by decide +kernel) (by decide +kernel) (by decide +kernel) (by first | exact .inl (by decide +kernel) | exact .inr (by decide +kernel)) (by rw [isSubtype_type]; kernel_rfl)
theorem Ax:Slot "set_iterator" "__iter__" "set_iterator.__iter__" := .of (owner := "set_iterator") (n := "__iter__") (by rw [typeLookup_type,builtinLookup_eq_fast]; kernel_rfl) (by decide +kernel) (by decide +kernel) (by decide +kernel) (by first | exact .inl (by decide +kernel) | exact .inr (by decide +kernel)) (by rw [isSubtype_type]; kernel_rfl)
theorem En:entryFor table "set_iterator.__next__" = some Builtin.«set_iterator.__next__»:=entryFor_of_tree (by kernel_rfl)
theorem Ay (a:Value):argsOk "set_iterator.__next__" ⟨[a],[]⟩:=by
 unfold argsOk; rw [signature?_of (id := "set_iterator.__next__") (n:=['_','_','t','x','e','n','_','_']) (o:=['r','o','t','a','r','e','t','i','_','t','e','s']) (by kernel_rfl) Em]; kernel_rfl
theorem Il:entryFor table "set.__iter__" = some Builtin.«frozenset.__iter__»:=entryFor_alias (id' := "frozenset.__iter__") (by kernel_rfl) rfl (by decide +kernel) (by kernel_rfl)
theorem rH {α:Type}:∀ {l:List α} {i:Nat} (h:i<l.length),(l[i]::l.eraseIdx i).Perm l
 | a::l,0,h=>.rfl
 | a::l,i+1,h=>(List.Perm.swap _ _ _).trans ((rH (l:=l) (i:=i) (by simpa using h)).cons a)
theorem yI {α:Type} (f:Nat->Nat):∀ (n k:Nat) (l:List α) (o:Array α),l.length<=n->(pickOrder.go f n k l o).toList.Perm (o.toList++l)
 | 0,k,l,o,h=>by
  have:l=[]:=List.length_eq_zero_iff.mp (by omega)
  subst this
  simp [pickOrder.go]
 | n+1,k,l,o,h=>by
  unfold pickOrder.go
  cases l with
  | nil=>simp
  | cons a l=>
   have hlt:f k%(a::l).length<(a::l).length:=Nat.mod_lt _ (by simp)
   rw [List.getElem?_eq_getElem hlt]
   dsimp only
   refine (yI f n (k+1) _ _ (by rw [List.length_eraseIdx_of_lt hlt]; omega)).trans ?_
   rw [Array.toList_push,List.append_assoc]
   exact List.Perm.append_left _ (rH hlt)
theorem K7 {α:Type} (f:Nat->Nat) (o:Array α):(pickOrder f o).toList.Perm o.toList:=by
 have:=yI f o.size 0 o.toList #[] (by simp)
 simpa [pickOrder] using this
section
variable {prog:Program}
theorem Az {M:Model} {src:Source} {n:Nat} {Q:Nat->Shared->Prop} (hn:0<n) (h:∀ i d,i<n->Q i { s with drawn:=d }):wpAny M A (choose src n) Q E s:=fun Γ p hΓ=>by
 show Sem.wp M Γ (.choose src n .pure) _ _ p s
 rw [Sem.wp_choose]
 exact ⟨by omega,h _ _ (Nat.mod_lt _ hn)⟩
theorem pL {M:Model} {α:Type}:∀ (n:Nat) (xs:List α) {Q:List α->Shared->Prop} {s:Shared},xs.length<=n->(∀ ys d,ys.Perm xs->Q ys { s with drawn:=d })->wpAny M A (drawOrder n xs) Q E s
 | 0,xs,Q,s,h,q=>by
  have:xs=[]:=List.length_eq_zero_iff.mp (by omega)
  subst this
  exact wpAny_pure (q [] s.drawn .rfl)
 | n+1,[],Q,s,h,q=>wpAny_pure (q [] s.drawn .rfl)
 | n+1,x::xs,Q,s,h,q=>by
  show wpAny M A (choose .order (x::xs).length >>= _) Q E s
  refine wpAny_bind (Az (by simp) fun i d hi=>?_)
  rw [List.getElem?_eq_getElem hi]
  refine wpAny_bind (pL n _ (by rw [List.length_eraseIdx_of_lt hi]; simp only [List.length_cons] at h ⊢; omega) fun ys d' p=>wpAny_pure (q _ d' ((p.cons _).trans (rH hi))))
noncomputable abbrev oh (h:Heap) (it a:Addr) (f:Value) (i n ep:Nat):Prop:=h.get? it=some { cls:=.type "set_iterator",dict:=none,data:=.fields #[f,rawInt i,.ref a,rawInt n,rawInt ep],slots:=#[] }
noncomputable def pM (w:World) (h:Heap) (it P a:Addr) (es:Array (Int×Value)) (ep:Nat) (t:SetTable) (vs:List Value) (i:Nat):Prop:=
 (byText w=true/\oh h it a (rawInt 0) i es.size ep/\vs=(pickOrder (w.params.setOrder a ep) es).toList.map (·.2))
 \/ (byText w=false/\1<es.size/\∃ (pl:List Nat) (k:Nat),oh h it a (.ref P) i es.size ep/\h.get? P=some (seqObj "tuple" (pl.map fun j:Nat=>rawInt j).toArray k)/\P≠it/\pl.Perm (List.range es.size)/\vs=pl.map fun j=>(es.getD j (0,.none)).2)
 \/ (byText w=false/\es.size<=1/\∃ sl:Nat,oh h it a (rawInt sl) i es.size ep/\vs=es.toList.map (·.2)/\((i=0/\sl=0)\/∃ p,t.place=#[p]/\i=1/\sl=p+1))
theorem K8 {a:Addr} {es:Array (Int×Value)} {ep:Nat} {t:SetTable} {Q:Value->Shared->Prop} (S:il prog w s.heap a es ep t (!byText w))
 (h:∀ h' d it P vs,(∀ b o,s.heap.get? b=some o->h'.get? b=some o)->pM w h' it P a es ep t vs 0->vs.Perm (es.toList.map (·.2))->s.heap.objs.size<=it->s.heap.objs.size<=P->it<h'.objs.size->P<h'.objs.size->Q (.ref it) { s with heap:=h',drawn:=d }):
 wpAny (model prog w) A (pyIter (.ref a)) Q E s:=by
 have hT:s.TypeIs (.ref a) "set" := ⟨_,S.at_,rfl⟩
 refine wpAny_pyIter_slot hT F.slot_set_iter (wpAny_call_entry F.slot_set_iter hT Il ?_ (F.args_set_iter_1 _))
 unfold Builtin.«frozenset.__iter__» Builtin.Frozenset.slot0 slotArgs
 simp only [List.isEmpty_nil,Bool.not_true,Bool.false_eq_true,↓reduceIte,bind_assoc,List.length_nil,bne_self_eq_false]
 unfold Builtin.Frozenset.addrOf Builtin.Frozenset.sizeOf
 refine wpAny_bind (wpAny_pure ?_)
 try dsimp only
 refine wpAny_bind (wpAny_pure ?_)
 refine wpAny_bind (wpAny_bind (wpAny_setEntries_of S.at_ rfl S.fits (wpAny_pure ?_)))
 unfold setDrawn setsByText
 refine wpAny_bind (wpAny_bind (wpAny_setState_of S.at_ rfl S.fits (wpAny_bind (wpAny_bind (wpAny_askSetting (wpAny_pure (wpAny_pure ?_)))))))
 show wpAny _ _ (if (!byText w&&(!t.plain&&decide (es.size>1)))=true then _ else _) _ _ _
 split
 . rename_i hc
   simp only [Bool.and_eq_true,Bool.not_eq_true',decide_eq_true_eq] at hc
   refine wpAny_bind (pL es.size (List.range es.size) (by simp) fun pl d hp=>?_)
   have hl:pl.length=es.size:=by rw [hp.length_eq,List.length_range]
   refine wpAny_bind (wpAny_newTuple ?_ (by have:=fits_of_scanBound S.bd; simp; omega))
   have g1:(s.heap.push (seqObj "tuple" (pl.map fun j:Nat=>rawInt j).toArray 0)).get? s.heap.objs.size=some (seqObj "tuple" (pl.map fun j:Nat=>rawInt j).toArray 0):=Heap.get?_push_size _ rfl
   refine wpAny_bind (wpAny_setEpoch_of (Heap.get?_push_of_some _ S.at_) rfl S.fits ?_)
   refine wpAny_bind (wpAny_newObj_type (wpAny_pure ⟨_,rfl, "set_iterator",_,⟨_,Heap.get?_push_size _ rfl,rfl⟩,lu.lookup,?_⟩))
   have z1:(s.heap.push (seqObj "tuple" (pl.map fun j:Nat=>rawInt j).toArray 0)).objs.size=s.heap.objs.size+1:=size_push' ..
   refine h _ d _ s.heap.objs.size (pl.map fun j=>(es.getD j (0,.none)).2) (fun b o q=>Heap.get?_push_of_some _ (Heap.get?_push_of_some _ q)) (.inr (.inl ⟨hc.1,hc.2.2,pl,0,Heap.get?_push_size _ rfl,Heap.get?_push_of_some _ g1,?_,hp,rfl⟩)) ?_ ?_ (Nat.le_refl _) ?_ ?_
   . exact Nat.ne_of_lt (by show s.heap.objs.size<(s.heap.push _).objs.size; rw [z1]; exact Nat.lt_succ_self _)
   . refine (hp.map _).trans (.of_eq ?_)
     refine List.ext_getElem (by simp) fun i h1 h2=>?_
     have h3:i<es.size:=by simpa using h1
     simp [h3]
   . show s.heap.objs.size<=(s.heap.push _).objs.size; rw [z1]; exact Nat.le_succ _
   . exact Heap.lt_size (Heap.get?_push_size _ rfl)
   . exact Heap.lt_size (Heap.get?_push_of_some _ g1)
 . rename_i hc
   refine wpAny_bind (wpAny_pure (wpAny_bind (wpAny_setEpoch_of S.at_ rfl S.fits ?_)))
   refine wpAny_bind (wpAny_newObj_type (wpAny_pure ⟨_,rfl, "set_iterator",_,⟨_,Heap.get?_push_size _ rfl,rfl⟩,lu.lookup,?_⟩))
   have z1:∀ o:Obj,s.heap.objs.size<(s.heap.push o).objs.size:=fun o=>by rw [size_push']; exact Nat.lt_succ_self _
   by_cases hb:byText w=true
   . exact h _ s.drawn _ s.heap.objs.size _ (fun b o q=>Heap.get?_push_of_some _ q) (.inl ⟨hb,Heap.get?_push_size _ rfl,rfl⟩) ((K7 _ es).map _) (Nat.le_refl _) (Nat.le_refl _) (z1 _) (z1 _)
   . have hb':byText w=false:=by simpa using hb
     have hz:es.size<=1:=by
      rw [hb'] at hc
      rcases Nat.lt_or_ge 1 es.size with g | g
      . exact absurd (by rw [S.plain (by omega)]; simp; omega) hc
      . exact g
     exact h _ s.drawn _ s.heap.objs.size _ (fun b o q=>Heap.get?_push_of_some _ q) (.inr (.inr ⟨hb',hz,0,Heap.get?_push_size _ rfl,rfl,.inl ⟨rfl,rfl⟩⟩)) .rfl (Nat.le_refl _) (Nat.le_refl _) (z1 _) (z1 _)
theorem yJ {a:Addr} {es:Array (Int×Value)} {ep i sl:Nat} {t:SetTable} {Q:Option (Value×Nat)->Shared->Prop} (S:il prog w s.heap a es ep t (!byText w)) (hb:byText w=true)
 (h:Q (((pickOrder (w.params.setOrder a ep) es)[i]?).map fun e=>(e.2,sl)) s):wpAny (model prog w) A (setNext a sl i ep) Q E s:=by
 unfold setNext setsByText
 refine wpAny_bind (wpAny_setState_of S.at_ rfl S.fits (wpAny_bind (wpAny_bind (wpAny_askSetting (wpAny_pure ?_)))))
 show wpAny _ _ (if byText w=true then _ else _) _ _ _
 rw [if_pos hb,if_neg (by simp)]
 refine wpAny_bind ?_
 unfold setWalk setsByText
 refine wpAny_bind (wpAny_setState_of S.at_ rfl S.fits (wpAny_bind (wpAny_bind (wpAny_askSetting (wpAny_pure ?_)))))
 show wpAny _ _ (if byText w=true then _ else _) _ _ _
 rw [if_pos hb]
 exact wpAny_bind (wpAny_askSetting (wpAny_pure (wpAny_pure h)))
theorem yK {a:Addr} {es:Array (Int×Value)} {ep i sl:Nat} {t:SetTable} {Q:Option (Value×Nat)->Shared->Prop} (S:il prog w s.heap a es ep t (!byText w)) (hb:byText w=false) (hz:es.size<=1)
 (h:Q (match es[SetTable.below t.place sl]?,t.place[SetTable.below t.place sl]? with | some (_,x),some j=>some (x,j+1) | _,_=>none) s):wpAny (model prog w) A (setNext a sl i ep) Q E s:=by
 unfold setNext setsByText
 refine wpAny_bind (wpAny_setState_of S.at_ rfl S.fits (wpAny_bind (wpAny_bind (wpAny_askSetting (wpAny_pure ?_)))))
 show wpAny _ _ (if byText w=true then _ else if (!t.plain&&decide (es.size>1))=true then _ else _) _ _ _
 have n1:¬ es.size>1:=by omega
 rw [if_neg (by rw [hb]; simp),if_neg (by simp [n1])]
 refine wpAny_bind (show wpAny _ _ (if (!t.led&&!es.isEmpty)=true then unsupported "set:maker-not-led" else pure ()) _ _ _ from ?_)
 rw [if_neg (by rw [S.led,hb]; simp)]
 exact wpAny_pure (wpAny_pure h)
theorem RV {a it:Addr} {es:Array (Int×Value)} {ep i:Nat} {t:SetTable} {f:Value} {b:Bool} (S:il prog w s.heap a es ep t b) (q:oh s.heap it a f i es.size ep):a≠it:=RT S.at_ q (by simp)
theorem Ba {α:Type} {Q':α->Shared->Prop} (hh:A.handled=none) (h:∀ h' e,(∀ b o,s.heap.get? b=some o->h'.get? b=some o)->(∃ o,h'.get? e=some o/\o.cls=.type "StopIteration")->E (.ref e) { s with heap:=h' }):
 wpAny (model prog w) A (newExc (.type "StopIteration") [] >>= fun e=>(raiseNew e:Sem α)) Q' E s:=by
 refine wpAny_bind ?_
 simp only [newExc,newTuple]
 refine wpAny_bind (wpAny_newObj_type (wpAny_bind (m:=firstArgMember _ _) (wpAny_of_eq (a:=Value.none) (by first | rfl | (simp only [firstArgMember]; rfl)) (wpAny_newObj_type ?_ (by size_fits)))) (by size_fits))
 simp only [raiseNew]
 refine wpAny_bind (wpAny_handled ?_)
 rw [hh]
 exact wpAny_bind (wpAny_pure (wpAny_throw (h _ _ (fun b o q=>Heap.get?_push_of_some _ (Heap.get?_push_of_some _ q)) ⟨_,Heap.get?_push_size _ rfl,rfl⟩)))
theorem xK {P:Addr} {xs:Array Value} {k:Nat} {Q:Option (Array Value)->Shared->Prop} (hP:s.heap.get? P=some (seqObj "tuple" xs k)) (h:Q (some xs) s):wpAny (model prog w) A (seqItems? (.ref P)) Q E s:=by
 unfold seqItems?
 refine wpAny_bind (wpAny_load hP ?_)
 exact wpAny_pure h
theorem rJ {it a:Addr} {es:Array (Int×Value)} {ep i:Nat} {sl:Nat} {t:SetTable} {Q:Option Value->Shared->Prop} (hh:A.handled=none) (S:il prog w s.heap a es ep t (!byText w)) (q:oh s.heap it a (rawInt sl) i es.size ep) (r:Option (Value×Nat))
 (hn:∀ {A':Around} {Q':Option (Value×Nat)->Shared->Prop} {E':Value->Shared->Prop},Q' r s->wpAny (model prog w) A' (setNext a sl i ep) Q' E' s)
 (h1:∀ x n h',r=some (x,n)->Heap.SameBut it s.heap h'->oh h' it a (rawInt n) (i+1) es.size ep->Q (some x) { s with heap:=h' })
 (h2:r=none->∀ h',Heap.ExtBut it s.heap h'->Q none { s with heap:=h' }):wpAny (model prog w) A (pyNext (.ref it)) Q E s:=by
 have hT:s.TypeIs (.ref it) "set_iterator" := ⟨_,q,rfl⟩
 unfold pyNext
 refine wpAny_bind (wpAny_attempt (wpAny_callSpecial?_slot (name:=Str.ofString "__next__") hT lu (wpAny_call_entry lu hT En ?_ (Ay _))))
 unfold Builtin.«set_iterator.__next__»
 refine wpAny_bind (m:=slotArgs "__next__" 0 _) (wpAny_pure ?_)
 refine wpAny_bind (wpAny_fieldsOf q rfl (show wpAny _ _ (setEntries a >>= _) _ _ _ from wpAny_bind (wpAny_setEntries_of S.at_ rfl S.fits ?_)))
 rw [if_neg (by simp)]
 show wpAny _ _ (setNext a sl i ep >>= _) _ _ _
 refine wpAny_bind (hn ?_)
 cases r with
 | some x=>
  obtain ⟨x,n⟩:=x
  show wpAny _ _ (setField (.ref it) 0 (rawInt n) >>= fun _=>setField (.ref it) 1 (rawInt ((i:Int)+1)) >>= fun _=>ret x) _ _ _
  refine wpAny_bind (wpAny_setField_rec q (by simp) fun g1 q1 b1=>wpAny_bind (wpAny_setField_rec (s:={ s with heap:=g1 }) q1 (by simp) fun g2 q2 b2=>wpAny_pure ⟨_,rfl,wpAny_pure (h1 x n g2 rfl (b1.trans b2) ?_)⟩))
  exact q2
 | none=>
  show wpAny _ _ (setField (.ref it) 2 .none >>= fun _=>newExc (.type "StopIteration") [] >>= fun e=>raiseNew e) _ _ _
  refine wpAny_bind (wpAny_setField_rec q (by simp) fun g1 q1 b1=>Ba (s:={ s with heap:=g1 }) hh fun g2 e k ⟨o,ho,hc⟩=>?_)
  refine wpAny_bind (wpAny_isInstance (T := "StopIteration") (b:=true) (show Shared.TypeIs { s with heap:=g2 } (.ref e) "StopIteration" from ⟨o,ho,hc⟩) isSubtype_stop (?_:wpAny _ _ _ _ _ _))
  exact wpAny_pure (h2 rfl _ fun b o hb z=>k b o (b1.extBut b o hb z))
theorem yL {it P a:Addr} {es:Array (Int×Value)} {ep i k:Nat} {pl:List Nat} {t:SetTable} {Q:Option Value->Shared->Prop} (hh:A.handled=none) (S:il prog w s.heap a es ep t (!byText w)) (q:oh s.heap it a (.ref P) i es.size ep)
 (hP:s.heap.get? P=some (seqObj "tuple" (pl.map fun j:Nat=>rawInt j).toArray k)) (hp:∀ j∈pl,j<es.size)
 (h1:∀ j h',pl[i]?=some j->Heap.SameBut it s.heap h'->oh h' it a (.ref P) (i+1) es.size ep->Q (some (es.getD j (0,.none)).2) { s with heap:=h' })
 (h2:pl[i]?=none->∀ h',Heap.ExtBut it s.heap h'->Q none { s with heap:=h' }):wpAny (model prog w) A (pyNext (.ref it)) Q E s:=by
 have hT:s.TypeIs (.ref it) "set_iterator" := ⟨_,q,rfl⟩
 unfold pyNext
 refine wpAny_bind (wpAny_attempt (wpAny_callSpecial?_slot (name:=Str.ofString "__next__") hT lu (wpAny_call_entry lu hT En ?_ (Ay _))))
 unfold Builtin.«set_iterator.__next__»
 refine wpAny_bind (m:=slotArgs "__next__" 0 _) (wpAny_pure ?_)
 refine wpAny_bind (wpAny_fieldsOf q rfl (show wpAny _ _ (setEntries a >>= _) _ _ _ from wpAny_bind (wpAny_setEntries_of S.at_ rfl S.fits ?_)))
 rw [if_neg (by simp)]
 show wpAny _ _ (seqItems? (.ref P) >>= _) _ _ _
 refine wpAny_bind (xK hP ?_)
 show wpAny _ _ (match (pl.map fun j:Nat=>rawInt j).toArray[i]? with | some (.int place _)=>_ | some _=>_ | none=>_) _ _ _
 cases hj:pl[i]? with
 | some j=>
  rw [show (pl.map fun j:Nat=>rawInt j).toArray[i]?=some (rawInt j) from by simp [hj]]
  have hlt:=hp j (List.mem_of_getElem? hj)
  show wpAny _ _ (setNextDrawn a j ep >>= fun x=>setField (.ref it) 1 (rawInt ((i:Int)+1)) >>= fun _=>ret x) _ _ _
  refine wpAny_bind ?_
  unfold setNextDrawn
  refine wpAny_bind (wpAny_setState_of S.at_ rfl S.fits ?_)
  dsimp only
  rw [if_neg (by simp),Array.getElem?_eq_getElem hlt]
  have e0:(es.getD j (0,.none)).2=es[j].2:=by simp [hlt]
  have h1':=h1 j
  rw [e0] at h1'
  refine wpAny_pure (wpAny_bind (wpAny_setField_rec q (by simp) fun g1 q1 b1=>wpAny_pure ⟨_,rfl,wpAny_pure (h1' g1 hj b1 ?_)⟩))
  exact q1
 | none=>
  rw [show (pl.map fun j:Nat=>rawInt j).toArray[i]?=none from by simp at hj ⊢; exact hj]
  show wpAny _ _ (setField (.ref it) 0 (rawInt 0) >>= fun _=>setField (.ref it) 2 .none >>= fun _=>newExc (.type "StopIteration") [] >>= fun e=>raiseNew e) _ _ _
  refine wpAny_bind (wpAny_setField_rec q (by simp) fun g0 q0 b0=>wpAny_bind (wpAny_setField_rec (s:={ s with heap:=g0 }) q0 (by simp) fun g1 q1 b1=>Ba (s:={ s with heap:=g1 }) hh fun g2 e k ⟨o,ho,hc⟩=>?_))
  refine wpAny_bind (wpAny_isInstance (T := "StopIteration") (b:=true) (show Shared.TypeIs { s with heap:=g2 } (.ref e) "StopIteration" from ⟨o,ho,hc⟩) isSubtype_stop (?_:wpAny _ _ _ _ _ _))
  exact wpAny_pure (h2 hj _ fun b o hb z=>k b o (b1.extBut b o hb (b0.extBut b o hb z)))
theorem pM.keep {h h':Heap} {it P a:Addr} {es:Array (Int×Value)} {ep i:Nat} {t:SetTable} {vs:List Value} (W:pM w h it P a es ep t vs i) (k1:∀ o,h.get? it=some o->h'.get? it=some o) (k2:∀ o,h.get? P=some o->h'.get? P=some o):pM w h' it P a es ep t vs i:=by
 rcases W with ⟨hb,q,e⟩ | ⟨hb,hz,pl,k,q,hP,hPi,hp,e⟩ | ⟨hb,hz,sl,q,e,hs⟩
 . exact .inl ⟨hb,k1 _ q,e⟩
 . exact .inr (.inl ⟨hb,hz,pl,k,k1 _ q,k2 _ hP,hPi,hp,e⟩)
 . exact .inr (.inr ⟨hb,hz,sl,k1 _ q,e,hs⟩)
theorem yM {p:Nat}:SetTable.below #[p] 0=0/\SetTable.below #[p] (p+1)=1:=by
 constructor
 . simp [SetTable.below,SetTable.below.go]
 . simp [SetTable.below,SetTable.below.go]
theorem il.place {h:Heap} {a:Addr} {es:Array (Int×Value)} {ep:Nat} {t:SetTable} {b:Bool} (S:il prog w h a es ep t b):t.place.size=es.size:=by
 have:=S.fits
 simp only [SetTable.fits,Bool.and_eq_true,beq_iff_eq] at this
 exact this.1
theorem pM.ne {it P a:Addr} {es:Array (Int×Value)} {ep i:Nat} {t:SetTable} {vs:List Value} {b:Bool} (S:il prog w s.heap a es ep t b) (W:pM w s.heap it P a es ep t vs i):a≠it:=by
 rcases W with ⟨hb,q,e⟩ | ⟨hb,hz,pl,k,q,hP,hPi,hp,e⟩ | ⟨hb,hz,sl,q,e,hs⟩<;>exact RV S q
theorem Bb:entryFor table "set_iterator.__iter__" = some Builtin.«dict_keyiterator.__iter__»:=entryFor_alias (id' := "dict_keyiterator.__iter__") (by kernel_rfl) (by first | rfl | decide +kernel | (unfold String.splitOn; simp +decide [String.splitOnAux])) (by decide +kernel) (by kernel_rfl)
theorem zB (a:Value):argsOk "set_iterator.__iter__" ⟨[a],[]⟩:=by
 unfold argsOk; rw [signature?_of (id := "set_iterator.__iter__") (n:=['_','_','r','e','t','i','_','_']) (o:=['r','o','t','a','r','e','t','i','_','t','e','s']) (by kernel_rfl) Em]; kernel_rfl
theorem K9 {it a:Addr} {f:Value} {i n ep:Nat} {Q:Value->Shared->Prop} (q:oh s.heap it a f i n ep) (h:Q (.ref it) s):wpAny (model prog w) A (pyIter (.ref it)) Q E s:=by
 have hT:s.TypeIs (.ref it) "set_iterator" := ⟨_,q,rfl⟩
 refine wpAny_pyIter_slot hT Ax (wpAny_call_entry Ax hT Bb ?_ (zB _))
 exact show wpAny _ _ (ret (.ref it)) _ _ s from wpAny_pure ⟨_,rfl, "set_iterator",_,hT,lu.lookup,h⟩
theorem Im (hh:A.handled=none) (it P a:Addr) (es:Array (Int×Value)) (ep:Nat) (t:SetTable) (vs:List Value):
 Walks prog w A it [it,P,a] [it] vs.length (fun i v=>vs[i]?=some v) (fun i h=>pM w h it P a es ep t vs i/\il prog w h a es ep t (!byText w)) where
 sub:=fun b hb=>by
  have:b=it:=by simpa using hb
  simp [this]
 frame:=fun i h h' st k=>⟨st.1.keep (fun o q=>k it (by simp) o q) fun o q=>k P (by simp) o q,st.2.moved fun o q=>k a (by simp) o q⟩
 item:=fun i s Q E hi st hQ=>by
  obtain ⟨W,S⟩:=st
  obtain ⟨v,hv⟩:∃ v,vs[i]?=some v:=⟨_,List.getElem?_eq_getElem hi⟩
  have na:=W.ne S
  have fin:∀ h',Heap.SameBut it s.heap h'->pM w h' it P a es ep t vs (i+1)->Q (some v) { s with heap:=h' }:=fun h' b W'=>hQ _ h' s.toks hv ⟨W',S.moved fun o q=>(b.2 a na).trans q⟩ fun c o hc q=>b.extBut c o (fun z=>hc (by simp [z])) q
  rcases W with ⟨hb,q,e⟩ | ⟨hb,hz,pl,k,q,hP,hPi,hp,e⟩ | ⟨hb,hz,sl,q,e,hs⟩
  . have hx:∃ z,(pickOrder (w.params.setOrder a ep) es)[i]?=some z/\z.2=v:=by
     have h0:=hv
     rw [e,List.getElem?_map,Array.getElem?_toList] at h0
     cases hz:(pickOrder (w.params.setOrder a ep) es)[i]? with
     | none=>rw [hz] at h0; cases h0
     | some z=>rw [hz] at h0; exact ⟨z,rfl,by simpa using h0⟩
    obtain ⟨z,hz,ez⟩:=hx
    refine rJ (sl:=0) hh S q (some (z.2,0)) (fun {A'} {Q'} {E'} hq=>yJ S hb (by rw [hz]; exact hq)) (fun x n h' er b q'=>?_) (fun er=>by cases er)
    cases er
    rw [ez]
    exact fin h' b (.inl ⟨hb,q',e⟩)
  . refine yL hh S q hP (fun j hj=>by simpa using hp.mem_iff.mp hj) (fun j h' hj b q'=>?_) (fun hn=>?_)
    . have:(es.getD j (0,.none)).2=v:=by
       have h0:=hv
       rw [e,List.getElem?_map,hj] at h0
       simpa using h0
      rw [this]
      exact fin h' b (.inr (.inl ⟨hb,hz,pl,k,q',(b.2 P hPi).trans hP,hPi,hp,e⟩))
    . have h0:=hv
      rw [e,List.getElem?_map,hn] at h0
      cases h0
  . have hl:vs.length=es.size:=by rw [e]; simp
    have hi0:i=0:=by omega
    have hs0:sl=0:=by
     rcases hs with ⟨_,g⟩ | ⟨p,_,g,_⟩
     . exact g
     . omega
    have hz1:es.size=1:=by omega
    obtain ⟨p,hp⟩:∃ p,t.place=#[p]:=by
     have:=S.place
     rw [hz1] at this
     exact Array.size_eq_one_iff.mp this
    have hb0:SetTable.below t.place sl=0:=by rw [hp,hs0]; exact yM.1
    have he:es[0]?=some es[0]:=Array.getElem?_eq_getElem (by omega)
    have ev:v=es[0].2:=by
     subst hi0
     have h0:=hv
     rw [e,List.getElem?_map,Array.getElem?_toList,he] at h0
     simpa using h0.symm
    refine rJ (sl:=sl) hh S q (some (es[0].2,p+1)) (fun {A'} {Q'} {E'} hq=>yK S hb hz (by rw [hb0,he,hp]; exact hq)) (fun x n h' er b q'=>?_) (fun er=>by cases er)
    cases er
    rw [← ev]
    exact fin h' b (.inr (.inr ⟨hb,hz,p+1,q',e,.inr ⟨p,hp,by omega,rfl⟩⟩))
 done:=fun s Q E st hQ=>by
  obtain ⟨W,S⟩:=st
  have fin:∀ h',Heap.ExtBut it s.heap h'->Q none { s with heap:=h' }:=fun h' b=>hQ h' s.toks fun c o hc q=>b c o (fun z=>hc (by simp [z])) q
  rcases W with ⟨hb,q,e⟩ | ⟨hb,hz,pl,k,q,hP,hPi,hp,e⟩ | ⟨hb,hz,sl,q,e,hs⟩
  . have hn:(pickOrder (w.params.setOrder a ep) es)[vs.length]?=none:=by
     rw [e]
     simp
    exact rJ (sl:=0) hh S q none (fun {A'} {Q'} {E'} hq=>yJ S hb (by rw [hn]; exact hq)) (fun x n h' er b q'=>by cases er) (fun _=>fin)
  . exact yL hh S q hP (fun j hj=>by simpa using hp.mem_iff.mp hj) (fun j h' hj b q'=>by rw [e] at hj; simp at hj) (fun _=>fin)
  . have hl:vs.length=es.size:=by rw [e]; simp
    refine rJ (sl:=sl) hh S q none (fun {A'} {Q'} {E'} hq=>yK S hb hz ?_) (fun x n h' er b q'=>by cases er) (fun _=>fin)
    rcases hs with ⟨g,g'⟩ | ⟨p,hp,g,g'⟩
    . have:es=#[]:=by apply Array.eq_empty_of_size_eq_zero; omega
      subst this
      simpa using hq
    . rw [hp,g',yM.2]
      have:es.size=1:=by omega
      have hn:es[1]?=none:=Array.getElem?_eq_none (by omega)
      rw [hn]
      exact hq
 self:=fun i s Q E st hQ=>by
  rcases st.1 with ⟨hb,q,e⟩ | ⟨hb,hz,pl,k,q,hP,hPi,hp,e⟩ | ⟨hb,hz,sl,q,e,hs⟩<;>exact K9 q hQ
noncomputable def Bc (prog:Program) (w:World) (A:Around) (d:Addr) (ok:List Value->Prop) (s1:Shared):Prop:=∀ (Q':Value->Shared->Prop) (E':Value->Shared->Prop),
 (∀ h' dr I fp wr n P St,(∀ b o,s1.heap.get? b=some o->h'.get? b=some o)->Walks prog w A I fp wr n P St->St 0 h'->(∀ acc,ItemsOf P acc n->ok acc.toList)->(∀ b∈fp,b=d\/s1.heap.objs.size<=b)->(∀ b∈wr,s1.heap.objs.size<=b)->n<=sizeLine->Q' (.ref I) { s1 with heap:=h',drawn:=dr })->
 wpAny (model prog w) A (pyIter (.ref d)) Q' E' s1
noncomputable abbrev tD:Obj:={ cls:=.type "list",data:=.seq ([]:List Value).toArray }
theorem G7 {vs:List Value} {acc:Array Value} (h:ItemsOf (fun i v=>vs[i]?=some v) acc vs.length):acc.toList=vs:=by
 refine List.ext_getElem? fun i=>?_
 rw [Array.getElem?_toList]
 cases hi:acc[i]? with
 | some v=>exact (h.2 i v hi).symm
 | none=>
  have:vs.length<=i:=by rw [← h.1]; exact Array.getElem?_eq_none_iff.mp hi
  exact (List.getElem?_eq_none this).symm
theorem G8 {d:Addr} {T:String} {ok:List Value->Prop} {Q:List Value->Shared->Prop} (hTm:T = "set" \/ T = "dict") (hT:s.TypeIs (.ref d) T) (hI:Bc prog w A.in1 d ok { s with heap:=s.heap.push tD })
 (hQ:∀ h' dr tk vs,ok vs->(∀ b o,s.heap.get? b=some o->h'.get? b=some o)->s.heap.objs.size<=h'.objs.size->Q vs { s with heap:=h',drawn:=dr,toks:=tk }):wpAny (model prog w) A (collect (.ref d)) Q E s:=by
 have hd:d<s.heap.objs.size:=by obtain ⟨o,ho,_⟩:=hT; exact Heap.lt_size ho
 unfold collect
 refine wpAny_bind (wpAny_runValue (codeAny_builtin F.entry_proto_collect (?_:wpAny _ _ _ _ _ _)))
 rw [Around.under_plainId F.plain_proto_collect _]
 refine (show wpAny _ A.in1 (newList [] >>= fun l=>again (.builtin "list.__iadd__" ⟨[l,.ref d],[]⟩)) _ _ s from wpAny_bind (wpAny_newObj_type (wpAny_pure ⟨plainId_quiet F.plain_list_iadd _,codeAny_builtin F.entry_list_iadd (?_:wpAny _ _ _ _ _ _)⟩)))
 rw [Around.under_plainId F.plain_list_iadd _]
 have hT1:Shared.TypeIs { s with heap:=s.heap.push tD } (.ref d) T:=by
  obtain ⟨o,ho,hc⟩:=hT
  exact ⟨o,Heap.get?_push_of_some _ ho,hc⟩
 refine (show wpAny _ A.in1 (Builtin.List.listExtendWith (.ref s.heap.objs.size) (.ref d) (.ref s.heap.objs.size)) _ _ { s with heap:=s.heap.push tD } from ?_)
 unfold Builtin.List.listExtendWith
 refine wpAny_bind (wpAny_typeOf hT1 ?_)
 have h1:Builtin.List.listSameRef (.ref s.heap.objs.size) (.ref d)=false:=by
  have:s.heap.objs.size≠d:=Nat.ne_of_gt hd
  simp [Builtin.List.listSameRef,this]
 have g0:(s.heap.push tD).get? s.heap.objs.size=some tD:=Heap.get?_push_size _ rfl
 have z0:(s.heap.push tD).objs.size=s.heap.objs.size+1:=size_push' ..
 rw [if_neg (by rcases hTm with rfl | rfl<;>(rw [h1]; decide))]
 refine wpAny_bind (hI _ _ fun h' dr I fp wr n P St k W st hok hfp hwr hsz=>?_)
 have hT2:Shared.TypeIs { s with heap:=h',drawn:=dr } (.ref d) T:=by
  obtain ⟨o,ho,hc⟩:=hT1
  exact ⟨o,k _ _ ho,hc⟩
 have g1:=k _ _ g0
 have nf:s.heap.objs.size∉fp:=fun q=>by
  rcases hfp _ q with z | z
  . exact absurd z (Nat.ne_of_gt hd)
  . rw [z0] at z
    exact absurd z (Nat.not_succ_le_self _)
 have hint:∀ {Q':Bool->Shared->Prop} {E':Value->Shared->Prop},Q' false { s with heap:=h',drawn:=dr }->wpAny (model prog w) A.in1 (Builtin.List.listLengthHint (.ref d)) Q' E' { s with heap:=h',drawn:=dr }:=by
  intro Q' E' q
  unfold Builtin.List.listLengthHint
  rcases hTm with rfl | rfl
  . refine wpAny_bind (wpAny_specialOf hT2 F.slot_set_len.lookup ?_)
    generalize hid:("set.__len__" : String)=id0
    wp_delta
    rw [show splitId id0=some ("set", "__len__") from by subst hid; decide +kernel]
    subst hid
    refine wpAny_bind (wpAny_isInstance (b:=true) hT2 (by rw [isSubtype_type]; kernel_rfl) ?_)
    rw [if_neg (by simp)]
    dsimp only
    rw [if_pos (by decide +kernel)]
    exact wpAny_bind (wpAny_typeOf hT2 (wpAny_pure q))
  . refine wpAny_bind (wpAny_specialOf hT2 F.slot_dict_len.lookup ?_)
    generalize hid:("dict.__len__" : String)=id0
    wp_delta
    rw [show splitId id0=some ("dict", "__len__") from by subst hid; decide +kernel]
    subst hid
    refine wpAny_bind (wpAny_isInstance (b:=true) hT2 (by rw [isSubtype_type]; kernel_rfl) ?_)
    rw [if_neg (by simp)]
    dsimp only
    rw [if_pos (by decide +kernel)]
    exact wpAny_bind (wpAny_typeOf hT2 (wpAny_pure q))
 refine wpAny_bind (wpAny_holding (hint ?_))
 rw [if_pos (by rcases hTm with rfl | rfl<;>decide +kernel)]
 refine wpAny_bind (wpAny_rule (wpAny_bind ?_))
 refine (show wpAny _ A.in1 (updateSeq s.heap.objs.size (·.push .none) >>= fun _=>updateSeq s.heap.objs.size (·.pop)) _ _ { s with heap:=h',drawn:=dr } from wpAny_bind (wpAny_updateSeq g1 rfl ?_))
 have g2:=Heap.get?_update_self (Obj.mapSeq (·.push Value.none)) g1 rfl
 refine wpAny_updateSeq g2 rfl ?_
 have g3:=Heap.get?_update_self (Obj.mapSeq (·.pop)) g2 rfl
 have oth:∀ b o,b≠s.heap.objs.size->h'.get? b=some o->((h'.update s.heap.objs.size (Obj.mapSeq (·.push Value.none))).update s.heap.objs.size (Obj.mapSeq (·.pop))).get? b=some o:=fun b o hb q=>(Heap.get?_update_other _ _ (Ne.symm hb)).trans ((Heap.get?_update_other _ _ (Ne.symm hb)).trans q)
 refine wpAny_pure ⟨plainId_quiet F.plain_extend_loop _,codeAny_extend_loopS W.toS hsz s.heap.objs.size nf (.ref s.heap.objs.size) n 0 _ _ _ rfl (Nat.zero_le _) (W.frame 0 h' _ st fun b hb o q=>oth b o (fun z=>nf (z▸hb)) q) g3 (ItemsOf.nil _) fun s' acc c m g4 it=>?_⟩
 refine (show wpAny _ A (load s.heap.objs.size >>= _) _ _ s' from wpAny_bind (wpAny_load g4 (wpAny_pure ?_)))
 obtain ⟨x1,x2,x3,x4,x5⟩:=s'
 obtain rfl:x2=s.gens:=m.gens
 obtain rfl:x3=dr:=m.drawn
 obtain rfl:x5=s.os:=m.os
 refine hQ x1 x3 x4 acc.toList (hok acc it) (fun b o q=>m.heap b o (fun z=>?_) (oth b o (Nat.ne_of_lt (Heap.lt_size q)) (k _ _ (Heap.get?_push_of_some _ q)))) (Nat.le_of_lt (Heap.lt_size g4))
 rcases List.mem_cons.mp z with z | z
 . exact absurd z (Nat.ne_of_lt (Heap.lt_size q))
 . have:=hwr b z
   rw [z0] at this
   exact absurd (Nat.lt_of_lt_of_le (Heap.lt_size q) (Nat.le_of_succ_le this)) (Nat.lt_irrefl _)
theorem G9 {a:Addr} {es:Array (Int×Value)} {ep:Nat} {t:SetTable} (hh:A.handled=none) (S:il prog w s.heap a es ep t (!byText w)):Bc prog w A a (fun vs=>vs.Perm (es.toList.map (·.2))) s:=fun Q' E' k=>K8 S fun h' d it P vs ext W pm l1 l2 _ _=>by
 have hl:vs.length=es.size:=by rw [pm.length_eq]; simp
 refine k h' d it [it,P,a] [it] _ _ _ ext (Im hh it P a es ep t vs) ⟨W,S.moved fun o q=>ext _ _ q⟩ (fun acc q=>by rw [G7 q]; exact pm) (fun b hb=>?_) (fun b hb=>?_) (by rw [hl]; exact fits_of_scanBound S.bd)
 . simp only [List.mem_cons,List.not_mem_nil,or_false] at hb
   rcases hb with rfl | rfl | rfl
   . exact .inr l1
   . exact .inr l2
   . exact .inl rfl
 . simp only [List.mem_cons,List.not_mem_nil,or_false] at hb
   subst hb
   exact l1
theorem Io {d:Addr} {T:String} {ok:List Value->Prop} {Q:Value->Shared->Prop} (hTm:T = "set" \/ T = "dict") (hT:s.TypeIs (.ref d) T) (hI:Bc prog w A.in1.in1 d ok { s with heap:=s.heap.push tD }) (hok:∀ vs,ok vs->(∃ ss,StrsAre vs ss)/\vs.length<64)
 (h:∀ h' dr tk L out c vs ss ss',ok vs->StrsAre vs ss->StrsAre out.toList ss'->ss'.Perm ss->sortedS ss'=true->(∀ b o,s.heap.get? b=some o->h'.get? b=some o)->h'.get? L=some (seqObj "list" out c)->s.heap.objs.size<=L->Q (.ref L) { s with heap:=h',drawn:=dr,toks:=tk }):
 wpAny (model prog w) A (call (.builtin "sorted") [.ref d]) Q E s:=by
 refine Calls.call_function_entry kind_sorted plain_sorted entry_sorted (args_sorted1 _) ?_
 unfold Builtin.«sorted»
 refine wpAny_bind (m:=checkCount "sorted" 1 1 _) (wpAny_pure (wpAny_bind (G8 hTm hT hI fun h1 dr tk vs hv k hz=>?_)))
 obtain ⟨⟨ss,hs⟩,hl⟩:=hok vs hv
 refine wpAny_bind (wpAny_newList ?_ (by rw [sizeLine_eq]; omega))
 have g0:(h1.push (seqObj "list" vs.toArray 0)).get? h1.objs.size=some (seqObj "list" vs.toArray 0):=Heap.get?_push_size _ rfl
 refine wpAny_bind (wpAny_holding (wpAny_call_entry slot_list_sort ⟨_,g0,rfl⟩ entry_list_sort (list_sort_treeK strKind_oneLt g0 hs.keysOf (fun v₁ v₂ rest e=>keyKind_strs (by rw [← e]; exact hs)) hl fun st' p1 p2=>⟨_,rfl,?_⟩) (args_list_sort _)))
 obtain ⟨ss',r1,r2,r3⟩:=sorted_out_str hs p1 p2
 obtain ⟨e,he⟩:=sortedHeap_at (out:=(arrOf st').map (·.2)) g0
 refine wpAny_pure ⟨_,rfl,h _ dr tk _ _ e vs ss ss' hv hs r1 r2 r3 (fun b o q=>?_) he ?_⟩
 . exact (sortedHeap_old (Nat.ne_of_lt (Heap.lt_size (k b o q))) (by rw [size_push']; exact Nat.lt_succ_of_lt (Heap.lt_size (k b o q)))).trans (Heap.get?_push_of_some _ (k b o q))
 . exact hz
end
section
variable {X:Cx} {pins:List (Addr×Obj)} {σ:St} {H:Hp} {s:Shared}
theorem Inv.drew (I:Inv X pins σ H s) (d:Drawn):Inv X pins σ H { s with drawn:=d }:=
 I.step (g':=s.gens) (d':=d) (t':=s.toks) (h':=s.heap) (H':=H) (ch:=[]) (fun b hb=>by cases hb) (fun b o _ _ _ e _=>e) (fun b o _ _ _ e _=>⟨o.slots,e⟩) (fun _ _ _ _ n=>n) (fun b o _ e=>⟨o,e⟩) (fun _ _ e=>e) (fun _ _ _ e=>e) (fun b ps e=>⟨#[],by rw [e]; simp⟩) (fun m hm=>hm) I.hok I.bare
theorem yN:∀ {ss:List Str} {its:List Value},Vals (ss.map V.str) its->StrsAre its ss
 | [],its,r=>by cases r; exact .nil
 | x::ss,its,r=>by
  cases r with
  | cons a b=>
   obtain ⟨t,rfl⟩:=a
   exact .cons x t (yN b)
theorem yO:∀ {its:List Value} {ss:List Str},StrsAre its ss->Vals (ss.map V.str) its
 | _,_,.nil=>.nil
 | _,_,.cons y t r=>.cons ⟨t,rfl⟩ (yO r)
noncomputable def Bd (P:Program) (w:World) (a:Addr) (ss:List Str):Heap->Prop:=fun h=>∃ es ep t,il P w h a es ep t (!byText w)/\(∀ y,y∈fG es ↔ y∈ss)/\es.size<=ss.length
noncomputable def RW (X:Cx):List V->Hp->VK->Prop:=fun xs H Q=>∃ a ss,xs=[.ref a]/\bK X.K H a (ss.map V.str)/\ss.length<4000/\∀ l,H l=none->Q (.ref l) (upd H l (.ext (Bd X.prog X.w l ss)))
theorem Be (hc:X.calm=true):lO X (.type "set") (RW X):=by
 intro pins s σ H xs us Q I r h
 obtain ⟨a,ss,rfl,hq,hl,q⟩:=h
 obtain ⟨u,rfl,rx⟩:=vals1 r
 cases rx
 obtain ⟨its,rv,pl,hz⟩:=I.list hq
 have hs:=yN rv
 have e0:=vo hs
 refine Ds (ss:=ss) (I.ok.hd hc) pl.isList (by simpa using hs) (by show its.toArray.size+1<4096; rw [List.size_toArray]; omega) fun h' tk es ep t S mem sz kp=>?_
 have sz':es.size<=ss.length:=by
  have e9:its.toArray.size=its.length:=by simp
  omega
 refine ⟨.ref s.heap.objs.size,_,I.laid (t':=tk) (fun b o e=>kp b o (Heap.lt_size e) e) (Nat.le_refl _) (show fD X.prog X.w _ h' _ (.ext (Bd X.prog X.w s.heap.objs.size ss)) from ⟨⟨es,ep,t,S,mem,sz'⟩,⟨_,S.at_⟩,fun h1 h2 ⟨es,ep,t,S,r⟩ k=>⟨es,ep,t,S.moved k,r⟩⟩),rfl,q _ (I.hok.fresh (Nat.le_refl _))⟩
noncomputable def Ip (X:Cx):List V->Hp->VK->Prop:=fun xs H Q=>∃ a ss,xs=[.ref a]/\H a=some (.ext (Bd X.prog X.w a ss))/\ss.length<64/\∀ l ss',H l=none->ss'.Nodup->(∀ y,y∈ss' ↔ y∈ss)->sortedS ss'=true->Q (.ref l) (upd H l (.lst (ss'.map V.str)))
theorem Ir {es:Array (Int×Value)} {vs:List Value} {ss:List Str} (p:vs.Perm (es.toList.map (·.2))) (h:StrsAre vs ss):ss.Perm (fG es):=by
 rw [← h.strs]
 have:=p.map strOf
 rwa [List.map_map] at this
theorem pN (hc:X.calm=true):lO X (.builtin "sorted") (Ip X):=by
 intro pins s σ H xs us Q I r h
 obtain ⟨a,ss,rfl,hq,hl,q⟩:=h
 obtain ⟨u,rfl,rx⟩:=vals1 r
 cases rx
 obtain ⟨⟨es,ep,t,S,mem,sz⟩,_⟩:=I.hok a _ hq
 refine Io (T := "set") (.inl rfl) ⟨_,S.at_,rfl⟩ (G9 (s:={ s with heap:=s.heap.push tD }) (by simpa using I.ok.hd hc) (S.moved fun o e=>Heap.get?_push_of_some _ e)) (fun vs p=>⟨⟨_,strsAre_map vs fun v hv=>?_⟩,?_⟩) fun h' dr tk L out c vs s1 s2 p t1 t2 p2 so kp g hL=>?_
 . obtain ⟨e,he,rfl⟩:=List.mem_map.mp (p.mem_iff.mp hv)
   obtain ⟨⟨k,h1,_⟩,_⟩:=S.el e he
   obtain ⟨u,hu⟩:=Value.isStrOf_shape (x:=k) (v:=e.2) h1
   exact ⟨k,u,hu⟩
 . have:=p.length_eq
   simp only [List.length_map,Array.length_toList] at this
   omega
 . have pk:=p2.trans (Ir p t1)
   have hl2:s2.length<=64:=by
    have:=pk.length_eq
    unfold fG at this
    simp only [List.length_map,Array.length_toList] at this
    omega
   have I1:Inv X pins σ (upd H L (.lst (s2.map V.str))) { s with heap:=h',toks:=tk }:=I.laid (t':=tk) kp hL (show fD X.prog X.w _ h' L (.lst (s2.map V.str)) from ⟨by rw [List.length_map,sizeLine_eq]; omega,out.toList,c,yO t2,g⟩)
   exact ⟨.ref L,_,I1.drew dr,rfl,q L s2 (I.hok.fresh hL) (pk.nodup_iff.mpr S.nd) (fun y=>(pk.mem_iff).trans (mem y)) so⟩
end
section
variable {X:Cx}
theorem Eo:∀ {ns:List Int} {its:List Value},Vals (ns.map V.int) its->∀ (i:Nat) (v:Value),its[i]?=some v->∃ t,v=.int (ns.getD i 0) t
 | [],its,r,i,v,h=>by cases r; simp at h
 | n::ns,its,r,i,v,h=>by
  cases r with
  | cons a b=>
   obtain ⟨t,rfl⟩:=a
   cases i with
   | zero=>cases h; exact ⟨t,rfl⟩
   | succ i=>
    obtain ⟨u,e⟩:=Eo b i v (by simpa using h)
    exact ⟨u,by simpa using e⟩
theorem vp:∀ {ns:List Int},(∀ n∈ns,0<=n)->∀ j,0<=(ns.take j).sum/\(ns.take j).sum<=ns.sum/\0<=ns.getD j 0/\ns.getD j 0<=ns.sum
 | [],_,j=>by simp
 | n::ns,h,j=>by
  have h0:=h n List.mem_cons_self
  have ih:=vp (ns:=ns) fun x hx=>h x (List.mem_cons_of_mem _ hx)
  have i0:=ih 0
  cases j with
  | zero=>simp at i0 ⊢; omega
  | succ j=>
   have:=ih j
   simp only [List.take_succ_cons,List.sum_cons,List.getD_cons_succ] at this ⊢
   omega
theorem Bf (hc:X.calm=true):lO X (.builtin "sum") (fun xs H Q=>∃ (p:Addr) (ns:List Int),xs=[.ref p]/\bK X.K H p (ns.map V.int)/\(∀ n∈ns,0<=n)/\ns.sum<4611686018427387904/\Q (.int ns.sum) H):=by
 intro pins s σ H xs us Q I r h
 obtain ⟨p,ns,rfl,hq,hp,hs,q⟩:=h
 obtain ⟨u,rfl,rx⟩:=vals1 r
 cases rx
 obtain ⟨its,rv,pl,hz⟩:=I.list hq
 have hl:ns.length=its.length:=by simpa using rv.length
 have plt:p<s.heap.objs.size:=by obtain ⟨o,ho,_⟩:=pl.isList; exact Heap.lt_size ho
 have hne:p≠s.heap.objs.size:=Nat.ne_of_lt plt
 refine call_sum_walk (wpAny_pyIter_list pl.isList ⟨s.heap.objs.size,_,_,_,_,_,fun i=>ns.getD i 0,rfl,Walks.list (by simpa using I.ok.hd hc) s.heap.objs.size p hne its.toArray,⟨⟨_,Heap.get?_push_size _ rfl,rfl,rfl⟩,pl.isList.push _⟩,fun b hb=>?_,fun i v hv=>Eo rv i v (by simpa using hv),fun j hj=>?_,fun h' tk t' k=>?_⟩)
 . rw [Heap.size_push]
   simp only [List.mem_cons,List.not_mem_nil,or_false] at hb
   rcases hb with rfl | rfl
   . exact Nat.lt_succ_self _
   . exact Nat.lt_succ_of_lt plt
 . have a:=vp hp j
   have b:=vp hp (j+1)
   rw [preSum_getD]
   unfold InLong
   show (-(2 ^ 63)<=ns.getD j 0/\ns.getD j 0<2 ^ 63)/\_
   omega
 . rw [preSum_getD]
   have e:its.toArray.size=ns.length:=by simp [hl]
   rw [e,List.take_length]
   refine ⟨.int ns.sum,H,?_,⟨t',rfl⟩,q⟩
   exact I.kept (t':=tk) fun b o z=>k b o (fun m=>by
    have:b=s.heap.objs.size:=by simpa using m
    exact absurd (Heap.lt_size z) (by rw [this]; exact Nat.lt_irrefl _)) (Heap.get?_push_of_some _ z)
end
section
variable {prog:Program}
end
section
variable {X:Cx}
end
section
variable {prog:Program}
end
section
variable {X:Cx} {pins:List (Addr×Obj)} {σ:St} {H:Hp} {s:Shared}
end
section
variable {X:Cx}
end
noncomputable def VF:V->Option Str
 | .str z=>some z
 | .int i=>if i.natAbs.log2<1920 then some (toString i) else none
 | _=>none
theorem Ep (c:Str):Str.empty++c=c:=by
 show (⟨#[]++c.cps⟩:Str)=c
 rw [Array.empty_append]
noncomputable def V5 (c:Str) (t:TE):TE:=fun σ H Q=>t σ H fun v H'=>∃ z,VF v=some z/\(c++z).length<=sizeLine/\z.length<=sizeLine/\Q (.str (c++z)) H'
section
variable {X:Cx}
theorem Pr {c:Str} {j:Nat} {e:Expr} {p1 p2 p3:Pos} {t:TE} (hc:c.length<=sizeLine) (he:PE X e t):PE X (.JoinedStr [.Constant (.str c) j p1,.FormattedValue e (-1) none p2] p3) (V5 c t):=fun pins s σ H Q I h=>by
 refine JoinedStr_many (joinParts_cons (Calls.Constant_str ⟨by rw [Ep]; exact hc,?_⟩))
 rw [Ep]
 refine joinParts_cons (FormattedValue_plain (wpAny_mono (he pins _ σ H _ (I.tok _) h) (fun u s1 q=>?_) fun _ _ x=>x))
 obtain ⟨v,H',I1,rv,z,hz,hl,hl2,q⟩:=q
 cases v with
 | str x=>
  cases hz
  obtain ⟨tk,rfl⟩:=rv
  exact formatField_str (fun t' tk=>⟨hl,joinParts_nilE (joinParts_nil ⟨.str (c++z),H',(I1.tok _).tok _,⟨_,rfl⟩,q⟩ hl)⟩) hl2
 | int i=>
  have hz':(if i.natAbs.log2<1920 then some (toString i) else none:Option Str)=some z:=hz
  split at hz'
  . rename_i hi
    cases hz'
    obtain ⟨tk,rfl⟩:=rv
    exact formatField_int_small hi ⟨hl,joinParts_nilE (joinParts_nil ⟨.str (c++toString i),H',((I1.tok _).tok _),⟨_,rfl⟩,q⟩ hl)⟩
  . cases hz'
 | _=>cases hz
end
noncomputable abbrev b7:=Option Key
noncomputable def pO:b7->V
 | none=>.non
 | some k=>kV k
noncomputable def La:b7->Value->Bool
 | none,v=>v==.none
 | some k,v=>pJ k v
noncomputable def V6 (w:World):b7->Int
 | none=>0xFCA86420
 | some k=>QM w k
theorem gQ:∀ {k:b7} {v:Value},La k v=true->(k=none/\v=.none)\/∃ x,k=some x/\pJ x v=true
 | none,v,h=>.inl ⟨rfl,by
  cases v<;>first | rfl | (exfalso; revert h; unfold La; simp)⟩
 | some x,v,h=>.inr ⟨x,rfl,h⟩
section
variable {prog:Program}
theorem Iu {Q:Int->Shared->Prop} (h:Q 0xFCA86420 { s with toks:=s.toks+1 }):wpAny (model prog w) A (pyHash .none) Q E s:=by
 have hT:s.TypeIs .none "NoneType" := rfl
 unfold pyHash
 refine wpAny_bind ?_
 rw [cRoomFor,if_neg (by simp [Value.onHeap])]
 refine wpAny_pure (wpAny_bind (wpAny_specialOf hT F.slot_NoneType_hash.lookup ?_))
 dsimp only
 rw [if_neg (by rw [beq_builtin_none]; exact Bool.false_ne_true)]
 refine wpAny_bind (wpAny_specialOf hT F.slot_NoneType_hash.lookup (wpAny_bind (wpAny_callSpecialIfBoundUnlessNone?_slot hT F.slot_NoneType_hash (wpAny_call_entry F.slot_NoneType_hash hT F.entry_NoneType_hash ?_ (F.args_NoneType_hash_1 _)))))
 refine wpAny_bind (wpAny_pure ?_)
 refine wpAny_ret_mkInt ?_
 exact wpAny_pure h
end
noncomputable def oJ (prog:Program) (w:World):PySem.KeyKind prog w b7 where
 is:=La
 hash:=V6 w
 inj:=fun v a b ha hb=>by
  rcases gQ ha with ⟨rfl,rfl⟩ | ⟨x,rfl,hx⟩
  . rcases gQ hb with ⟨rfl,_⟩ | ⟨y,rfl,hy⟩
    . rfl
    . rcases dz hy with ⟨i,t,_,e⟩ | ⟨i,t,_,e⟩<;>cases e
  . rcases gQ hb with ⟨rfl,e⟩ | ⟨y,rfl,hy⟩
    . subst e
      rcases dz hx with ⟨i,t,_,e⟩ | ⟨i,t,_,e⟩<;>cases e
    . exact congrArg some ((dU prog w).inj v x y hx hy)
 byValue:=fun k v h=>by
  rcases gQ h with ⟨rfl,rfl⟩ | ⟨x,rfl,hx⟩
  . rfl
  . exact (dU prog w).byValue x v hx
 pyHash:=fun hv h=>by
  rcases gQ hv with ⟨rfl,rfl⟩ | ⟨x,rfl,hx⟩
  . exact Iu h
  . exact (dU prog w).pyHash hx h
 eqBool:=fun hu hv h=>by
  rcases gQ hu with ⟨rfl,rfl⟩ | ⟨x,rfl,hx⟩
  . rcases gQ hv with ⟨rfl,rfl⟩ | ⟨y,rfl,hy⟩
    . exact SeqAt.EqAt.same _ _ _ _ _ h
    . rcases dz hy with ⟨i,t,rfl,rfl⟩ | ⟨i,t,rfl,rfl⟩
      . exact SeqAt.EqAt.none_int i t _ _ _ _ h
      . exact SeqAt.EqAt.none_str i t _ _ _ _ h
  . rcases gQ hv with ⟨rfl,rfl⟩ | ⟨y,rfl,hy⟩
    . rcases dz hx with ⟨i,t,rfl,rfl⟩ | ⟨i,t,rfl,rfl⟩
      . exact SeqAt.EqAt.int_none i t _ _ _ _ h
      . exact SeqAt.EqAt.str_none i t _ _ _ _ h
    . refine (dU prog w).eqBool hx hy ?_
      have e:decide ((some x:b7)=some y)=decide (x=y):=by simp
      rw [e] at h
      exact h
 «strs»:=fun k x t v h=>by
  rcases gQ h with ⟨rfl,e⟩ | ⟨y,rfl,hy⟩
  . cases e
  . exact (dU prog w).strs y x t v hy
theorem RX:∀ {k:b7} {u:Value},RelV (pO k) u->(oJ P w).is k u=true
 | none,u,r=>by
  have e:u=.none:=r
  subst e
  rfl
 | some k,u,r=>G3 (P:=P) (w:=w) r
theorem Er:∀ {ks:List b7} {us:List Value},Vals (ks.map pO) us->ItemsAre (oJ P w) ks us
 | [],us,h=>by
  have e:=h.zero
  subst e
  exact .nil
 | k::ks,us,h=>by
  cases h with
  | cons r t=>exact .cons (RX r) (Er t)
noncomputable def v5 (P:Program) (w:World):List b7->Int:=(tupleKind (oJ P w)).hash
noncomputable abbrev XD:=List (List b7×Addr×V)
noncomputable abbrev XV:=List (List b7×Addr×Value)
noncomputable def XR:XD->XV->Prop:=Paired fun x y=>x.1=y.1/\x.2.1=y.2.1/\RelV x.2.2 y.2.2
noncomputable def qC (hk:List b7->Int) (a:Addr) (xs:XD):Heap->Prop:=fun h=>xs.length<=sizeLine/\(a==sysModules)=false/\∃ ys:XV,XR xs ys/\(ys.map (·.1)).Nodup/\
 ∃ o es ep,h.get? a=some o/\o.ExactDict/\o.data=.dict es ep/\es.toList=ys.map fun y=>⟨hk y.1,.ref y.2.1,y.2.2⟩
noncomputable def dX (P:Program) (w:World) (a:Addr) (xs:XD):HO:=.ext (qC (v5 P w) a xs)
theorem RZ {H:Hp} {h:Heap} {hk:List b7->Int} {a:Addr} {xs:XD} (p:qC hk a xs h):fD P w H h a (.ext (qC hk a xs)):=by
 have q:=p
 obtain ⟨_,_,ys,_,_,o,es,ep,e,_⟩:=q
 refine ⟨p,⟨o,e⟩,fun h1 h2 ⟨z,m,ys,r,n,o,es,ep,e,g⟩ k=>⟨z,m,ys,r,n,o,es,ep,k _ e,g⟩⟩
noncomputable def jh (xs:XD) (k:List b7):Option V:=(xs.find? fun x=>decide (x.1=k)).map (·.2.2)
theorem XR.at {k:List b7}:∀ {xs:XD} {ys:XV},XR xs ys->(∀ v,jh xs k=some v->∃ p,atKey ys k=some p/\RelV v p.2)/\(jh xs k=none->atKey ys k=none)
 | _,_,.nil=>⟨fun v h=>(by cases h),fun _=>rfl⟩
 | x::xs,y::ys,.cons ⟨h1,h2,h3⟩ t=>by
  have ih:=XR.at (k:=k) t
  unfold jh atKey at ih ⊢
  by_cases e:x.1=k
  . have e':y.1=k:=h1▸e
    rw [List.find?_cons_of_pos (by simpa using e),List.find?_cons_of_pos (by simpa using e')]
    exact ⟨fun v h=>by cases h; exact ⟨_,rfl,h3⟩,fun h=>by cases h⟩
  . have e':¬ y.1=k:=h1▸e
    rw [List.find?_cons_of_neg (by simpa using e),List.find?_cons_of_neg (by simpa using e')]
    exact ih
theorem XR.snoc {x:List b7×Addr×V} {y:List b7×Addr×Value} (h:x.1=y.1/\x.2.1=y.2.1/\RelV x.2.2 y.2.2):∀ {xs:XD} {ys:XV},XR xs ys->XR (xs++[x]) (ys++[y])
 | _,_,.nil=>.cons h .nil
 | _,_,.cons a t=>.cons a (XR.snoc h t)
theorem XR.mem:∀ {xs:XD} {ys:XV},XR xs ys->∀ y∈ys,∃ x∈xs,x.1=y.1/\x.2.1=y.2.1
 | _,_,.nil,y,h=>by cases h
 | x::xs,z::ys,.cons ⟨h1,h2,_⟩ t,y,h=>by
  rcases List.mem_cons.mp h with rfl | h
  . exact ⟨x,List.mem_cons_self,h1,h2⟩
  . obtain ⟨x',m,e⟩:=XR.mem t y h
    exact ⟨x',List.mem_cons_of_mem _ m,e⟩
section
variable {prog:Program} {w:World} {A:Around} {E:Value->Shared->Prop} {s:Shared} {K:Type} [DecidableEq K] {knd:HeapKind prog w K}
theorem Dt {d a:Addr} {xs:List (K×Addr×Value)} {k:K} {v:Value} {Q:Value->Shared->Prop} (hu:knd.room A) (hkey:knd.is s.heap k a) (hm:s.heap.DictOfH knd d xs)
 (q1:∀ p,atKey xs k=some p->Q p.2 { s with toks:=s.toks+knd.draws k })
 (q2:atKey xs k=none->∀ h',h'.DictOfH knd d (xs++[(k,a,v)])->Heap.SameBut d s.heap h'->Q v { s with heap:=h',toks:=s.toks+knd.draws k })
 (hsz:xs.length<=sizeLine):wpAny (model prog w) A (dictSetDefault d (.ref a) v) Q E s:=by
 obtain ⟨o,es,ep,ho,hc,hd,he,his,hn⟩:=hm
 have hsz':=size_of_entries he
 unfold dictSetDefault
 refine wpAny_holding ?_
 refine wpAny_bind (knd.pyHash hu hkey (wpAny_bind (wpAny_dictFind_heap (s:={ s with toks:=s.toks+knd.draws k }) hu hkey ho hd he his hn (fun hno=>?_) fun j p hj=>?_)))
 . have hq:=atKey_none_of_get hno
   refine wpAny_bind (wpAny_rule (wpAny_bind (wpAny_updateDictKeys (hz:=by omega) (s:={ s with toks:=s.toks+knd.draws k }) ho hd (wpAny_pure (q2 hq _ ?_ (Heap.SameBut.update ..))))))
   refine ⟨_,_,ep+1,Heap.get?_update_self _ ho (Obj.isFreed_of_dict (Obj.data_mapDictKeys hd _)),hc.mapDictKeys _,Obj.data_mapDictKeys hd _,by simp [he,entryOfKey],fun x hx=>?_,?_⟩
   . rcases List.mem_append.mp hx with hx | hx
     . exact knd.keeps (his x hx) ho hd (Heap.SameBut.update ..)
     . rw [List.mem_singleton.mp hx]
       exact knd.keeps hkey ho hd (Heap.SameBut.update ..)
   . rw [List.map_append]
     refine List.nodup_append.mpr ⟨hn,List.nodup_cons.mpr ⟨List.not_mem_nil,List.nodup_nil⟩,fun x hx y hy e=>not_mem_keys_of_get hno ?_⟩
     rw [List.map_cons,List.map_nil,List.mem_singleton] at hy
     have q:x=k:=e.trans hy
     rw [← q]
     exact hx
 . refine wpAny_bind (wpAny_dictEntries (s:={ s with toks:=s.toks+knd.draws k }) ho hd ?_)
   rw [entry_at he j,hj]
   exact wpAny_bind (wpAny_rule (wpAny_pure (q1 p (atKey_of_get hn hj))))
end
section
variable {X:Cx}
theorem xM {σ:St} {H:Hp} {b:Addr} {k:List b7} (I:Inv X pins σ H s) (e:cB X.K H b (k.map pO)):(tupleKind (oJ P w)).is s.heap k b:=by
 obtain ⟨its,r,⟨o,h1,h2,n,h3⟩,_⟩:=I.tuple e
 exact ⟨o,its.toArray,n,h1,h2,h3,by simpa using Er r⟩
theorem Inv.dx {σ:St} {H:Hp} {a:Addr} {xs:XD} (I:Inv X pins σ H s) (e:H a=some (dX X.prog X.w a xs)) (hk:∀ x∈xs,cB X.K H x.2.1 (x.1.map pO)):
 xs.length<=sizeLine/\(a==sysModules)=false/\∃ ys:XV,XR xs ys/\s.heap.DictOfH (tupleKind (oJ X.prog X.w)) a ys:=by
 obtain ⟨⟨z,m,ys,r,n,o,es,ep,h1,h2,h3,h4⟩,_⟩:=I.hok a _ e
 refine ⟨z,m,ys,r,o,es,ep,h1,h2,h3,h4,fun y hy=>?_,n⟩
 obtain ⟨x,hx,e1,e2⟩:=r.mem y hy
 rw [← e1,← e2]
 exact xM I (hk x hx)
theorem XR.len:∀ {xs:XD} {ys:XV},XR xs ys->ys.length=xs.length
 | _,_,.nil=>rfl
 | _,_,.cons _ t=>by rw [List.length_cons,List.length_cons,XR.len t]
noncomputable def Iv (P:Program) (w:World) (K:FG):V->List V->Hp->VK->Prop:=fun x vs H Q=>∃ a b xs k v,x=.ref a/\vs=[.ref b,v]/\H a=some (dX P w a xs)/\(∀ x∈xs,cB K H x.2.1 (x.1.map pO))/\cB K H b (k.map pO)/\xs.length<sizeLine/\
 match jh xs k with
 | some u=>Q u H
 | none=>Q v (upd H a (dX P w a (xs++[(k,b,v)])))
theorem Iw (hu:X.A.units+1<cLine):HR X "dict.setdefault" (Iv X.prog X.w X.K):=by
 intro pins s σ H x vs v us Q I rx rv h
 obtain ⟨a,b,xs,k,y,rfl,rfl,hH,hks,hb,hl,q⟩:=h
 cases rx
 obtain ⟨u,r,rfl,rb,ry⟩:=rv.two
 cases (show u=Value.ref b from rb)
 obtain ⟨z,m,ys,xr,dd⟩:=I.dx hH hks
 have hl':=xr.len
 refine call_meetsIn F.slot_dict_setdefault dd.typeIs F.entry_dict_setdefault (F.args_dict_setdefault_3 _ _ _) (S:=fun A R s'=>A=X.A/\R=wants (EP X pins σ Q) X.xe/\s'=s) (.of_wp fun A R s' ⟨e1,e2,e3⟩=>?_) ⟨rfl,rfl,rfl⟩
 subst e1 e2 e3
 unfold Builtin.«dict.setdefault»
 refine wpAny_bind ?_
 unfold Builtin.Dict.keyAndDefault
 refine wpAny_bind (wpAny_notOrdered_dict dd.typeIs ?_)
 refine (show wpAny _ _ (pure (a,Value.ref b,some r)) _ _ _ from wpAny_pure ?_)
 dsimp only
 rw [if_neg (by rw [m]; exact Bool.false_ne_true)]
 refine wpAny_bind (Dt (tupleKind_room_in1 hu) (xM I hb) dd (fun p hp=>wpAny_pure ⟨p.2,rfl,?_⟩) (fun hn h' dd' hs=>wpAny_pure ⟨r,rfl,?_⟩) (by omega))
 . cases e:jh xs k with
   | none=>rw [(xr.at).2 e] at hp; cases hp
   | some w'=>
    rw [e] at q
    obtain ⟨p',hp',rp⟩:=(xr.at).1 w' e
    rw [hp] at hp'
    cases hp'
    exact ⟨_,_,I.tok _,rp,q⟩
 . cases e:jh xs k with
   | some w'=>
    obtain ⟨p',hp',_⟩:=(xr.at).1 w' e
    rw [hn] at hp'
    cases hp'
   | none=>
    rw [e] at q
    obtain ⟨o,es,ep,h1,h2,h3,h4,h5,h6⟩:=dd'
    refine ⟨_,_,xH I (by rw [hH]; exact True.intro) hs ⟨o,h1⟩ (RZ ⟨?_,m,ys++[(k,b,r)],xr.snoc ⟨rfl,rfl,ry⟩,h6,o,es,ep,h1,h2,h3,h4⟩),ry,q⟩
    rw [List.length_append]
    exact hl
noncomputable def Np (P:Program) (w:World) (K:FG):V->List V->Hp->VK->Prop:=fun x vs H Q=>∃ a b xs k v,x=.ref a/\vs=[.ref b,v]/\H a=some (dX P w a xs)/\(∀ x∈xs,cB K H x.2.1 (x.1.map pO))/\cB K H b (k.map pO)/\Q ((jh xs k).getD v) H
theorem Pu (hu:X.A.units+1<cLine):HR X "dict.get" (Np X.prog X.w X.K):=by
 intro pins s σ H x vs v us Q I rx rv h
 obtain ⟨a,b,xs,k,y,rfl,rfl,hH,hks,hb,q⟩:=h
 cases rx
 obtain ⟨u,r,rfl,rb,ry⟩:=rv.two
 cases (show u=Value.ref b from rb)
 obtain ⟨z,m,ys,xr,dd⟩:=I.dx hH hks
 refine call_meetsIn F.slot_dict_get dd.typeIs F.entry_dict_get (F.args_dict_get_3 _ _ _) (meetsH_dict_get_default (tupleKind (oJ X.prog X.w)) a b m r) ⟨tupleKind_room_in1 hu,k,ys,xM I hb,dd,?_⟩
 refine ⟨_,_,I.tok _,?_,q⟩
 cases e:jh xs k with
 | none=>
  rw [(xr.at).2 e]
  exact ry
 | some w'=>
  obtain ⟨p',hp',rp⟩:=(xr.at).1 w' e
  rw [hp']
  exact rp
theorem Iz {o e1 e2:Expr} {to:TE} {t:TA} {apos cpos:Pos} {name:Str} {id:String} {r:V->List V->Hp->VK->Prop} (slot:Slot "dict" name id) (hty:typeOf (.builtin id)=pure (.type "method_descriptor")) (hm:HR X id r) (ho:PE X o to) (ha:PA X [e1,e2] t)
 (hbase:attributeBase o name X.env (eval o X.env)=eval o X.env:=by rfl)
 (hfew:((backTo cpos (starEach [e1,e2] X.env)).all (fun x=>!x.1)&&(backToKw cpos (keywordEach [] X.env)).all (fun x=>x.1.isSome)
   && decide ([e1,e2].length+([]:List Keyword).length+(if ([]:List Keyword).isEmpty then 0 else 1)<30))=true:=by rfl)
 (hline:(apos.endLine==cpos.line)=true:=by rfl) (hs:starEach [e1,e2] X.env=(false,eval e1 X.env)::starEach [e2] X.env:=by rfl) (hplain:(backTo cpos (starEach [e2] X.env)).any (·.1)=false:=by rfl):
 PE X (.Call (.Attribute o name apos) [e1,e2] [] cpos) (fun σ H Q=>to σ H fun x H1=>(∃ a hk xs,x=.ref a/\H1 a=some (.ext (qC hk a xs)))/\t σ H1 fun vs H2=>r x vs H2 Q):=by
 intro pins s σ H Q I h
 refine wpAny_Call_method_late hbase hfew hline rfl (cu (ho pins s σ H _ I h) fun v s1 ⟨x,H1,I1,r1,⟨a,hk,xs,ea,hH⟩,q1⟩=>?_)
 subst ea
 cases r1
 obtain ⟨⟨_,_,ys,_,_,o,es,ep,h1,h2,_⟩,_⟩:=I1.hok a _ hH
 refine ⟨"dict",id,F.plainAttrs_dict,slot,hty,⟨o,h1,h2.1⟩,fun b e=>(by cases e; exact ⟨o,h1,h2.2.1⟩),?_⟩
 have hA:=ha cpos pins s1 σ H1 _ I1 q1
 rw [hs] at hA ⊢
 refine Calls.callWith_builtin (by show (false||(backTo cpos (starEach [e2] X.env)).any (·.1))=false; rw [hplain]<;>rfl) (Calls.evalArgs_plain ?_)
 exact cu hA fun us s2 ⟨vs,H2,I2,r2,q2⟩=>hm pins s2 σ H2 (.ref a) vs (.ref a) us Q I2 rfl r2 q2
theorem Lb {pos:Pos}:PE X (.Dict [] [] pos) (fun _ H Q=>∀ p,H p=none->Q (.ref p) (upd H p (dX X.prog X.w p []))):=fun pins s σ H Q I h=>
 wpAny_Dict_empty ⟨.ref s.heap.objs.size,_,I.laid (a:=s.heap.objs.size) (t':=s.toks) (fun _ _ q=>Heap.get?_push_of_some _ q) (Nat.le_refl _) (RZ (hk:=v5 X.prog X.w) (xs:=[]) ⟨Nat.zero_le _,beq_eq_false_iff_ne.mpr (Ne.symm (Nat.ne_of_lt I.big)),[],.nil,List.nodup_nil,_,#[],0,Heap.get?_push_size _ rfl,⟨rfl,rfl,rfl⟩,rfl,rfl⟩),rfl,h _ (I.hok.fresh (Nat.le_refl _))⟩
end
end L2
namespace PL
open PySem PySem.Spec PyProof.Rows L2
inductive PV where
 | non
 | bl (b:Bool)
 | int (i:Int)
 | str (x:Str)
 | tup (ps:List PV)
 | lst (ps:List PV)
 | dk (ks:List Key) (ps:List PV)
 | dt (ks:List (List Key)) (ps:List PV)
 | obj (C:Str) (ks:List Str) (ps:List PV)
 | df (ks:List Key) (ps:List PV)
 | dtf (ks:List (List Key)) (ps:List PV)
 | dx (hk:List b7->Int) (ks:List (List b7)) (ps:List PV)
 | ptr (n:Nat)
structure ZG where
 z:Hp
 g:List Addr
noncomputable def gA (Z Z':ZG):Prop:=dC Z.z Z'.z/\Z.g <+: Z'.g
theorem gA.refl (Z:ZG):gA Z Z:=⟨dC.refl _,List.prefix_refl _⟩
theorem gA.trans {Z Z1 Z2:ZG} (a:gA Z Z1) (b:gA Z1 Z2):gA Z Z2:=⟨a.1.trans b.1,a.2.trans b.2⟩
theorem Px {α:Type} {l r:List α} {n:Nat} {a:α} (h:l <+: r) (e:l[n]?=some a):r[n]?=some a:=by
 obtain ⟨t,rfl⟩:=h
 rw [List.getElem?_append_left (List.getElem?_eq_some_iff.mp e).1]; exact e
noncomputable def CN (K:FG) (C:Str) (c:Addr):Prop:=W.nsIn K mainGlobals C=some (some (.ref c))
mutual
noncomputable def Rep (K:FG) (Z:ZG):PV->V->Prop
 | .non,v=>v=.non
 | .bl b,v=>v=.bl b
 | .int i,v=>v=.int i
 | .str x,v=>v=.str x
 | .tup ps,v=>∃ a vs,v=.ref a/\cB K Z.z a vs/\aF K Z ps vs
 | .lst ps,v=>∃ a vs,v=.ref a/\bK K Z.z a vs/\aF K Z ps vs
 | .dk ks ps,v=>∃ a kvs,v=.ref a/\Z.z a=some (.dK kvs)/\kvs.map (·.1)=ks/\aF K Z ps (kvs.map (·.2))
 | .dt ks ps,v=>∃ a kvs,v=.ref a/\Z.z a=some (.dT kvs)/\kvs.map (·.1)=ks/\aF K Z ps (kvs.map (·.2))
 | .obj C ks ps,v=>∃ a c dx fs,v=.ref a/\CN K C c/\Z.z a=some (.ins c dx fs)/\fs.map (·.1)=ks/\aF K Z ps (fs.map (·.2))
 | .df ks ps,v=>∃ a o kvs,v=.ref a/\Z.z a=some (.frz o (.dK kvs))/\kvs.map (·.1)=ks/\aF K Z ps (kvs.map (·.2))
 | .dtf ks ps,v=>∃ a o kvs,v=.ref a/\Z.z a=some (.frz o (.dT kvs))/\kvs.map (·.1)=ks/\aF K Z ps (kvs.map (·.2))
 | .dx hk ks ps,v=>∃ a xs,v=.ref a/\Z.z a=some (.ext (qC hk a xs))/\xs.map (·.1)=ks/\(∀ x∈xs,cB K Z.z x.2.1 (x.1.map pO))/\aF K Z ps (xs.map (·.2.2))
 | .ptr n,v=>∃ a,v=.ref a/\Z.g[n]?=some a
noncomputable def aF (K:FG) (Z:ZG):List PV->List V->Prop
 | [],vs=>vs=[]
 | p::ps,vs=>∃ v r,vs=v::r/\Rep K Z p v/\aF K Z ps r
end
theorem bK.same {K:FG} {Z Z':Hp} {a:Addr} {vs:List V} (s:dC Z Z') (h:bK K Z a vs):bK K Z' a vs:=s.seq h
theorem cB.same {K:FG} {Z Z':Hp} {a:Addr} {vs:List V} (s:dC Z Z') (h:cB K Z a vs):cB K Z' a vs:=by
 rcases h with (h | ⟨o,h⟩) | h
 . exact .inl (.inl (s _ _ h))
 . exact .inl (.inr ⟨o,s _ _ h⟩)
 . exact .inr h
mutual
theorem Rep.mono {K:FG} {Z Z':ZG} (s:gA Z Z'):∀ {p:PV} {v:V},Rep K Z p v->Rep K Z' p v
 | .non,v,h=>h
 | .bl _,v,h=>h
 | .int _,v,h=>h
 | .str _,v,h=>h
 | .tup ps,v,h=>by
  unfold Rep at h ⊢
  obtain ⟨a,vs,e,h1,h2⟩:=h
  exact ⟨a,vs,e,cB.same s.1 h1,aF.mono s h2⟩
 | .lst ps,v,h=>by
  unfold Rep at h ⊢
  obtain ⟨a,vs,e,h1,h2⟩:=h
  exact ⟨a,vs,e,bK.same s.1 h1,aF.mono s h2⟩
 | .dk ks ps,v,h=>by
  unfold Rep at h ⊢
  obtain ⟨a,kvs,e,h1,h2,h3⟩:=h
  exact ⟨a,kvs,e,s.1 _ _ h1,h2,aF.mono s h3⟩
 | .dt ks ps,v,h=>by
  unfold Rep at h ⊢
  obtain ⟨a,kvs,e,h1,h2,h3⟩:=h
  exact ⟨a,kvs,e,s.1 _ _ h1,h2,aF.mono s h3⟩
 | .obj C ks ps,v,h=>by
  unfold Rep at h ⊢
  obtain ⟨a,c,dx,fs,e,cn,h1,h2,h3⟩:=h
  exact ⟨a,c,dx,fs,e,cn,s.1 _ _ h1,h2,aF.mono s h3⟩
 | .df ks ps,v,h=>by
  unfold Rep at h ⊢
  obtain ⟨a,o,kvs,e,h1,h2,h3⟩:=h
  exact ⟨a,o,kvs,e,s.1 _ _ h1,h2,aF.mono s h3⟩
 | .dtf ks ps,v,h=>by
  unfold Rep at h ⊢
  obtain ⟨a,o,kvs,e,h1,h2,h3⟩:=h
  exact ⟨a,o,kvs,e,s.1 _ _ h1,h2,aF.mono s h3⟩
 | .dx hk ks ps,v,h=>by
  unfold Rep at h ⊢
  obtain ⟨a,xs,e,h1,h2,h4,h3⟩:=h
  exact ⟨a,xs,e,s.1 _ _ h1,h2,fun x hx=>cB.same s.1 (h4 x hx),aF.mono s h3⟩
 | .ptr n,v,h=>by
  unfold Rep at h ⊢
  obtain ⟨a,e,h1⟩:=h
  exact ⟨a,e,Px s.2 h1⟩
theorem aF.mono {K:FG} {Z Z':ZG} (s:gA Z Z'):∀ {ps:List PV} {vs:List V},aF K Z ps vs->aF K Z' ps vs
 | [],vs,h=>by unfold aF at h ⊢; exact h
 | p::ps,vs,h=>by
  unfold aF at h ⊢
  obtain ⟨v,r,e,h1,h2⟩:=h
  exact ⟨v,r,e,Rep.mono s h1,aF.mono s h2⟩
end
section
variable {K:FG} {Z:ZG}
theorem aF.length:∀ {ps:List PV} {vs:List V},aF K Z ps vs->vs.length=ps.length
 | [],vs,h=>by unfold aF at h; subst h; rfl
 | p::ps,vs,h=>by
  unfold aF at h
  obtain ⟨v,r,rfl,_,h2⟩:=h
  simp [aF.length h2]
theorem aF.nil:aF K Z [] []:=by unfold aF; rfl
theorem aF.cons {p:PV} {ps:List PV} {v:V} {vs:List V} (h:Rep K Z p v) (t:aF K Z ps vs):aF K Z (p::ps) (v::vs):=by unfold aF; exact ⟨v,vs,rfl,h,t⟩
theorem aF.inv {p:PV} {ps:List PV} {vs:List V} (h:aF K Z (p::ps) vs):∃ v r,vs=v::r/\Rep K Z p v/\aF K Z ps r:=by unfold aF at h; exact h
theorem aF.inv0 {vs:List V} (h:aF K Z [] vs):vs=[]:=by unfold aF at h; exact h
theorem aF.append:∀ {ps qs:List PV} {vs ws:List V},aF K Z ps vs->aF K Z qs ws->aF K Z (ps++qs) (vs++ws)
 | [],qs,vs,ws,h,g=>by have:=h.inv0; subst this; exact g
 | p::ps,qs,vs,ws,h,g=>by
  obtain ⟨v,r,rfl,h1,h2⟩:=h.inv
  exact aF.cons h1 (aF.append h2 g)
theorem aF.get:∀ {ps:List PV} {vs:List V} {i:Nat} {p:PV},aF K Z ps vs->ps[i]?=some p->∃ v,vs[i]?=some v/\Rep K Z p v
 | [],vs,i,p,h,e=>by simp at e
 | q::ps,vs,0,p,h,e=>by
  obtain ⟨v,r,rfl,h1,h2⟩:=h.inv
  simp at e; subst e
  exact ⟨v,rfl,h1⟩
 | q::ps,vs,i+1,p,h,e=>by
  obtain ⟨v,r,rfl,h1,h2⟩:=h.inv
  obtain ⟨u,h3,h4⟩:=aF.get (i:=i) (p:=p) h2 (by simpa using e)
  exact ⟨u,by simpa using h3,h4⟩
theorem aF.getV {ps:List PV} {vs:List V} {i:Nat} {v:V} (h:aF K Z ps vs) (e:vs[i]?=some v):∃ p,ps[i]?=some p/\Rep K Z p v:=by
 have hi:i<ps.length:=by rw [← h.length]; exact (List.getElem?_eq_some_iff.mp e).1
 obtain ⟨u,h1,h2⟩:=h.get (i:=i) (p:=ps[i]) (List.getElem?_eq_getElem hi)
 rw [e] at h1; cases h1
 exact ⟨_,List.getElem?_eq_getElem hi,h2⟩
theorem aF.set {q:PV} {u:V} (hq:Rep K Z q u):∀ {ps:List PV} {vs:List V} (i:Nat),aF K Z ps vs->aF K Z (ps.set i q) (vs.set i u)
 | [],vs,i,h=>by have:=h.inv0; subst this; exact h
 | p::ps,vs,0,h=>by
  obtain ⟨v,r,rfl,h1,h2⟩:=h.inv
  exact aF.cons hq h2
 | p::ps,vs,i+1,h=>by
  obtain ⟨v,r,rfl,h1,h2⟩:=h.inv
  exact aF.cons h1 (aF.set hq i h2)
theorem aF.take:∀ {ps:List PV} {vs:List V} (n:Nat),aF K Z ps vs->aF K Z (ps.take n) (vs.take n)
 | [],vs,n,h=>by have:=h.inv0; subst this; simp; exact .nil
 | p::ps,vs,0,h=>by simp; exact .nil
 | p::ps,vs,n+1,h=>by
  obtain ⟨v,r,rfl,h1,h2⟩:=h.inv
  exact aF.cons h1 (aF.take n h2)
theorem aF.drop:∀ {ps:List PV} {vs:List V} (n:Nat),aF K Z ps vs->aF K Z (ps.drop n) (vs.drop n)
 | [],vs,n,h=>by have:=h.inv0; subst this; simp; exact .nil
 | p::ps,vs,0,h=>h
 | p::ps,vs,n+1,h=>by
  obtain ⟨v,r,rfl,h1,h2⟩:=h.inv
  exact aF.drop n h2
end
inductive Lc where
 | sh (p:PV)
 | own (p:PV)
noncomputable def Lc.pv:Lc->PV
 | .sh p=>p
 | .own p=>p
noncomputable abbrev Mu:=List (Option PV)
structure Ev where
 vs:List (Option Lc)
 mu:Mu
noncomputable abbrev Pd:=List (V×Lc)
noncomputable def oV (K:FG) (Z:ZG) (H:Hp) (a:Addr):PV->Prop
 | .lst ps=>∃ vs,H a=some (.lst vs)/\aF K Z ps vs
 | .dk ks ps=>∃ kvs,H a=some (.dK kvs)/\kvs.map (·.1)=ks/\aF K Z ps (kvs.map (·.2))
 | .dt ks ps=>∃ kvs,H a=some (.dT kvs)/\kvs.map (·.1)=ks/\aF K Z ps (kvs.map (·.2))
 | .dx hk ks ps=>∃ xs,H a=some (.ext (qC hk a xs))/\xs.map (·.1)=ks/\(∀ x∈xs,cB K Z.z x.2.1 (x.1.map pO))/\aF K Z ps (xs.map (·.2.2))
 | .obj C ks ps=>∃ c dx fs,CN K C c/\H a=some (.ins c dx fs)/\fs.map (·.1)=ks/\aF K Z ps (fs.map (·.2))
 | _=>False
noncomputable def VR (K:FG) (H0:Hp) (Z:ZG) (H:Hp) (v:Option V):Option Lc->Prop
 | none=>True
 | some (.sh p)=>∃ x,v=some x/\Rep K Z p x
 | some (.own p)=>∃ a,v=some (.ref a)/\oV K Z H a p/\Z.z a=none/\H0 a=none
noncomputable def jN:Option V×Option Lc->Option Addr
 | (some (.ref a),some (.own _))=>some a
 | _=>none
noncomputable abbrev Sl:=List (Option V×Option Lc)
noncomputable def Slots (K:FG) (H0:Hp) (Z:ZG) (H:Hp) (L:Sl):Prop:=(∀ e∈L,VR K H0 Z H e.1 e.2)/\(L.filterMap jN).Nodup
noncomputable def dg (g:List Addr) (mu:Mu):Sl:=(g.map fun a=>some (V.ref a)).zip (mu.map fun o=>o.map Lc.own)
noncomputable def oW (g:List Addr) (mu:Mu):List Addr:=(dg g mu).filterMap jN
noncomputable def sl (g:List Addr) (σ:L2.St) (ρ:Ev) (pd:Pd):Sl:=dg g ρ.mu++(σ.zip ρ.vs++pd.map fun e=>(some e.1,some e.2))
noncomputable def zV:HO->Prop
 | .tup _=>True
 | .frz _ _=>True
 | _=>False
structure iW (H0:Hp) (Z0 Z:ZG) (H:Hp):Prop where
 zh:dC Z.z H
 h0:dC H0 H
 z0:gA Z0 Z
 new:∀ b o,Z.z b=some o->Z0.z b=some o\/H0 b=none\/zV o
noncomputable def SR (K:FG) (H0:Hp) (Z0:ZG) (σ:L2.St) (H:Hp) (ρ:Ev) (pd:Pd):Prop:=σ.length=ρ.vs.length/\∃ Z,ρ.mu.length=Z.g.length/\iW H0 Z0 Z H/\Slots K H0 Z H (sl Z.g σ ρ pd)
section
variable {K:FG} {H0 H H':Hp} {Z0 Z Z':ZG} {L L':Sl} {σ:L2.St} {ρ:Ev} {pd:Pd}
theorem Slots.sub (h:Slots K H0 Z H L) (s:List.Sublist L' L):Slots K H0 Z H L':=⟨fun e he=>h.1 e (s.subset he),h.2.sublist (s.filterMap jN)⟩
theorem Slots.perm (h:Slots K H0 Z H L) (s:List.Perm L' L):Slots K H0 Z H L':=⟨fun e he=>h.1 e (s.subset he),(s.filterMap jN).nodup_iff.mpr h.2⟩
theorem oV.keep {a:Addr} {p:PV} (h:oV K Z H a p) (z:gA Z Z') (e:H' a=H a):oV K Z' H' a p:=by
 cases p with
 | lst ps=>obtain ⟨vs,h1,h2⟩:=h; exact ⟨vs,by rw [e]; exact h1,h2.mono z⟩
 | dk ks ps=>obtain ⟨vs,h1,h2,h3⟩:=h; exact ⟨vs,by rw [e]; exact h1,h2,h3.mono z⟩
 | dt ks ps=>obtain ⟨vs,h1,h2,h3⟩:=h; exact ⟨vs,by rw [e]; exact h1,h2,h3.mono z⟩
 | dx hk ks ps=>obtain ⟨vs,h1,h2,h4,h3⟩:=h; exact ⟨vs,by rw [e]; exact h1,h2,fun x hx=>cB.same z.1 (h4 x hx),h3.mono z⟩
 | obj C ks ps=>obtain ⟨c,dx,fs,cn,h1,h2,h3⟩:=h; exact ⟨c,dx,fs,cn,by rw [e]; exact h1,h2,h3.mono z⟩
 | _=>exact h
theorem oV.some {a:Addr} {p:PV} (h:oV K Z H a p):∃ o,H a=some o/\¬ zV o:=by
 cases p with
 | lst ps=>obtain ⟨vs,h1,h2⟩:=h; exact ⟨_,h1,fun z=>z⟩
 | dk ks ps=>obtain ⟨vs,h1,h2,h3⟩:=h; exact ⟨_,h1,fun z=>z⟩
 | dt ks ps=>obtain ⟨vs,h1,h2,h3⟩:=h; exact ⟨_,h1,fun z=>z⟩
 | dx hk ks ps=>obtain ⟨vs,h1,h2,h3⟩:=h; exact ⟨_,h1,fun z=>z⟩
 | obj C ks ps=>obtain ⟨c,dx,fs,cn,h1,h2,h3⟩:=h; exact ⟨_,h1,fun z=>z⟩
 | _=>exact h.elim
theorem oV.rep {a:Addr} {p:PV} (h:oV K Z H a p) (z:gA Z Z') (e:Z'.z a=H a):Rep K Z' p (.ref a):=by
 cases p with
 | lst ps=>obtain ⟨vs,h1,h2⟩:=h; unfold Rep; exact ⟨a,vs,rfl,bK.of (by rw [e]; exact h1),h2.mono z⟩
 | dk ks ps=>obtain ⟨vs,h1,h2,h3⟩:=h; unfold Rep; exact ⟨a,vs,rfl,by rw [e]; exact h1,h2,h3.mono z⟩
 | dt ks ps=>obtain ⟨vs,h1,h2,h3⟩:=h; unfold Rep; exact ⟨a,vs,rfl,by rw [e]; exact h1,h2,h3.mono z⟩
 | dx hk ks ps=>obtain ⟨vs,h1,h2,h4,h3⟩:=h; unfold Rep; exact ⟨a,vs,rfl,by rw [e]; exact h1,h2,fun x hx=>cB.same z.1 (h4 x hx),h3.mono z⟩
 | obj C ks ps=>obtain ⟨c,dx,fs,cn,h1,h2,h3⟩:=h; unfold Rep; exact ⟨a,c,dx,fs,rfl,cn,by rw [e]; exact h1,h2,h3.mono z⟩
 | _=>exact h.elim
theorem Slots.step (h:Slots K H0 Z H L) (z:gA Z Z') (hk:∀ e∈L,∀ a,jN e=some a->H' a=H a/\Z'.z a=none):Slots K H0 Z' H' L:=by
 refine ⟨fun e he=>?_,h.2⟩
 have q:=h.1 e he
 obtain ⟨v,l⟩:=e
 cases l with
 | none=>trivial
 | some l=>
  cases l with
  | sh p=>obtain ⟨x,e1,e2⟩:=q; exact ⟨x,e1,e2.mono z⟩
  | own p=>
   obtain ⟨a,e1,e2,e3,e4⟩:=q
   have e1':v=some (.ref a):=e1
   subst e1'
   obtain ⟨k1,k2⟩:=hk _ he a rfl
   exact ⟨a,rfl,e2.keep z k1,k2,e4⟩
theorem ir (h:Slots K H0 Z H L) {e:Option V×Option Lc} (he:e∈L) {a:Addr} (ha:jN e=some a):Z.z a=none/\H0 a=none/\∃ o,H a=some o/\¬ zV o:=by
 obtain ⟨v,l⟩:=e
 have q:=h.1 _ he
 cases l with
 | none=>cases v with
  | none=>cases ha
  | some x=>cases x<;>cases ha
 | some l=>
  cases l with
  | sh p=>cases v with
   | none=>cases ha
   | some x=>cases x<;>cases ha
  | own p=>
   obtain ⟨b,e1,e2,e3,e4⟩:=q
   have e1':v=some (.ref b):=e1
   subst e1'
   cases ha
   exact ⟨e3,e4,e2.some⟩
theorem Slots.new (h:Slots K H0 Z H L) (zo:iW H0 Z0 Z H) {a:Addr} {o:HO} {p:PV} (ha:H a=none) (hp:oV K Z (upd H a o) a p):iW H0 Z0 Z (upd H a o)/\Slots K H0 Z (upd H a o) ((some (.ref a),some (.own p))::L):=by
 have hz:Z.z a=none:=zo.zh.free ha
 have h0:H0 a=none:=zo.h0.free ha
 refine ⟨⟨fun b u e=>by rw [bV (dD e hz)]; exact zo.zh b u e,fun b u e=>by rw [bV (dD e h0)]; exact zo.h0 b u e,zo.z0,zo.new⟩,?_⟩
 have hne:∀ e∈L,∀ b,jN e=some b->b≠a:=fun e he b hb=>by
  obtain ⟨_,_,o',h3,_⟩:=ir h he hb
  exact dD h3 ha
 have st:=h.step (Z':=Z) (H':=upd H a o) (gA.refl Z) fun e he b hb=>⟨bV (hne e he b hb),(ir h he hb).1⟩
 refine ⟨fun e he=>?_,?_⟩
 . rcases List.mem_cons.mp he with rfl | he
   . exact ⟨a,rfl,hp,hz,h0⟩
   . exact st.1 e he
 . show (a::L.filterMap jN).Nodup
   refine List.nodup_cons.mpr ⟨fun hm=>?_,st.2⟩
   obtain ⟨e,he,hb⟩:=List.mem_filterMap.mp hm
   exact hne e he a hb rfl
noncomputable abbrev ZG.put (Z:ZG) (a:Addr) (o:HO):ZG:=⟨upd Z.z a o,Z.g⟩
theorem Slots.newF (h:Slots K H0 Z H L) (zo:iW H0 Z0 Z H) {a:Addr} {o:HO} (ha:H a=none):iW H0 Z0 (Z.put a o) (upd H a o)/\gA Z (Z.put a o)/\Slots K H0 (Z.put a o) (upd H a o) L:=by
 have hz:Z.z a=none:=zo.zh.free ha
 have h0:H0 a=none:=zo.h0.free ha
 have sz:dC Z.z (upd Z.z a o):=fun b u e=>by rw [bV (dD e hz)]; exact e
 have lz:gA Z (Z.put a o):=⟨sz,List.prefix_refl _⟩
 refine ⟨⟨fun b u e=>?_,fun b u e=>by rw [bV (dD e h0)]; exact zo.h0 b u e,zo.z0.trans lz,fun b u e=>?_⟩,lz,?_⟩
 . have e:upd Z.z a o b=some u:=e
   unfold upd at e ⊢
   split
   . rename_i q; rw [if_pos q] at e; exact e
   . rename_i q; rw [if_neg q] at e; exact zo.zh b u e
 . have e:upd Z.z a o b=some u:=e
   unfold upd at e
   split at e
   . rename_i q; rw [q]; exact .inr (.inl h0)
   . exact zo.new b u e
 . refine h.step lz fun e he b hb=>?_
   obtain ⟨h1,h2,o',h3,_⟩:=ir h he hb
   have hba:=dD h3 ha
   exact ⟨bV hba,by show upd Z.z a o b=none; rw [bV hba]; exact h1⟩
theorem Slots.freeze {v:Option V} {p:PV} (h:Slots K H0 Z H ((v,some (.own p))::L)) (zo:iW H0 Z0 Z H):∃ Z',gA Z Z'/\Z'.g=Z.g/\iW H0 Z0 Z' H/\Slots K H0 Z' H ((v,some (.sh p))::L):=by
 obtain ⟨a,e1,e2,e3,e4⟩:=h.1 _ List.mem_cons_self
 have e1':v=some (.ref a):=e1
 subst e1'
 obtain ⟨o,ho,_⟩:=e2.some
 have sz:dC Z.z (upd Z.z a o):=fun b u e=>by rw [bV (dD e e3)]; exact e
 have lz:gA Z (Z.put a o):=⟨sz,List.prefix_refl _⟩
 have nd:(a::L.filterMap jN).Nodup:=h.2
 have hL:Slots K H0 Z H L:=h.sub (List.sublist_cons_self _ _)
 refine ⟨Z.put a o,lz,rfl,⟨fun b u e=>?_,zo.h0,zo.z0.trans lz,fun b u e=>?_⟩,fun e he=>?_,(List.nodup_cons.mp nd).2⟩
 . have e:upd Z.z a o b=some u:=e
   unfold upd at e
   split at e
   . rename_i q; cases e; rw [q]; exact ho
   . exact zo.zh b u e
 . have e:upd Z.z a o b=some u:=e
   unfold upd at e
   split at e
   . rename_i q; rw [q]; exact .inr (.inl e4)
   . exact zo.new b u e
 . rcases List.mem_cons.mp he with rfl | he
   . exact ⟨.ref a,rfl,e2.rep lz (by show upd Z.z a o a=_; rw [bJ,ho])⟩
   . refine (hL.step (Z':=Z.put a o) (H':=H) lz fun e' he' b hb=>⟨rfl,?_⟩).1 e he
     have:b≠a:=fun q=>by
      rw [q] at hb
      exact (List.nodup_cons.mp nd).1 (List.mem_filterMap.mpr ⟨e',he',hb⟩)
     show upd Z.z a o b=none
     rw [bV this]
     exact (ir hL he' hb).1
theorem Slots.write {a:Addr} {p q:PV} {o:HO} (h:Slots K H0 Z H ((some (.ref a),some (.own p))::L)) (zo:iW H0 Z0 Z H) (hq:oV K Z (upd H a o) a q):iW H0 Z0 Z (upd H a o)/\Slots K H0 Z (upd H a o) ((some (.ref a),some (.own q))::L):=by
 obtain ⟨b,e1,e2,e3,e4⟩:=h.1 _ List.mem_cons_self
 cases e1
 have nd:(a::L.filterMap jN).Nodup:=h.2
 have hL:Slots K H0 Z H L:=h.sub (List.sublist_cons_self _ _)
 refine ⟨⟨fun b u e=>by rw [bV (dD e e3)]; exact zo.zh b u e,fun b u e=>by rw [bV (dD e e4)]; exact zo.h0 b u e,zo.z0,zo.new⟩,fun e he=>?_,nd⟩
 rcases List.mem_cons.mp he with rfl | he
 . exact ⟨a,rfl,hq,e3,e4⟩
 . refine (hL.step (Z':=Z) (H':=upd H a o) (gA.refl Z) fun e' he' b hb=>⟨bV fun q=>?_,(ir hL he' hb).1⟩).1 e he
   rw [q] at hb
   exact (List.nodup_cons.mp nd).1 (List.mem_filterMap.mpr ⟨e',he',hb⟩)
end
variable {K:FG} {H0 H:Hp} {Z0:ZG} {σ:L2.St} {ρ:Ev} {pd:Pd}
theorem tE {α:Type}:∀ {l:List α} {i:Nat} {a:α},l[i]?=some a->∃ R,List.Perm l (a::R)/\∀ b,List.Perm (l.set i b) (b::R)
 | [],i,a,h=>by simp at h
 | x::r,0,a,h=>by
  simp at h; subst h
  exact ⟨r,List.Perm.refl _,fun b=>List.Perm.refl _⟩
 | x::r,i+1,a,h=>by
  obtain ⟨R,h1,h2⟩:=tE (l:=r) (i:=i) (a:=a) (by simpa using h)
  refine ⟨x::R,(h1.cons x).trans (List.Perm.swap _ _ _),fun b=>?_⟩
  simp only [List.set_cons_succ]
  exact ((h2 b).cons x).trans (List.Perm.swap _ _ _)
theorem xN {α β:Type}:∀ (l:List α) (r:List β) (i:Nat) (a:α) (b:β),(l.set i a).zip (r.set i b)=(l.zip r).set i (a,b)
 | [],r,i,a,b=>by simp
 | x::l,[],i,a,b=>by simp
 | x::l,y::r,0,a,b=>by simp
 | x::l,y::r,i+1,a,b=>by simp [xN l r i a b]
theorem zip_get {α β:Type}:∀ {l:List α} {r:List β} {i:Nat} {a:α} {b:β},l[i]?=some a->r[i]?=some b->(l.zip r)[i]?=some (a,b)
 | [],r,i,a,b,h,g=>by simp at h
 | x::l,[],i,a,b,h,g=>by simp at g
 | x::l,y::r,0,a,b,h,g=>by simp at h g; simp [h,g]
 | x::l,y::r,i+1,a,b,h,g=>by
  have:=zip_get (l:=l) (r:=r) (i:=i) (by simpa using h) (by simpa using g)
  simpa using this
theorem set_same {α:Type}:∀ {l:List α} {i:Nat} {a:α},l[i]?=some a->l.set i a=l
 | [],i,a,h=>by simp at h
 | x::r,0,a,h=>by simp at h; subst h; simp
 | x::r,i+1,a,h=>by simp [set_same (l:=r) (i:=i) (a:=a) (by simpa using h)]
noncomputable def Ev.set (ρ:Ev) (i:Nat) (x:Option Lc):Ev:=⟨ρ.vs.set i x,ρ.mu⟩
section
variable {K:FG} {H0 H H':Hp} {Z0 Z:ZG} {σ:L2.St} {ρ:Ev} {pd pd':Pd} {v w:V} {l:Lc} {p:PV} {L:Sl} {g:List Addr}
theorem cN:List.Perm (sl g σ ρ ((v,l)::pd)) ((some v,some l)::sl g σ ρ pd):=by
 unfold sl
 exact (List.perm_middle.append_left _).trans List.perm_middle
theorem SR.top (h:SR K H0 Z0 σ H ρ ((v,l)::pd)):σ.length=ρ.vs.length/\∃ Z,ρ.mu.length=Z.g.length/\iW H0 Z0 Z H/\Slots K H0 Z H ((some v,some l)::sl Z.g σ ρ pd):=
 let ⟨e,Z,hg,z,s⟩:=h
 ⟨e,Z,hg,z,s.perm cN.symm⟩
theorem SR.mk (e:σ.length=ρ.vs.length) (hg:ρ.mu.length=Z.g.length) (z:iW H0 Z0 Z H) (s:Slots K H0 Z H ((some v,some l)::sl Z.g σ ρ pd)):SR K H0 Z0 σ H ρ ((v,l)::pd):=⟨e,Z,hg,z,s.perm cN⟩
theorem SR.pop (h:SR K H0 Z0 σ H ρ ((v,l)::pd)):SR K H0 Z0 σ H ρ pd:=
 let ⟨e,Z,hg,z,s⟩:=h.top
 ⟨e,Z,hg,z,s.sub (List.sublist_cons_self _ _)⟩
theorem SR.perm (h:SR K H0 Z0 σ H ρ pd) (q:List.Perm pd' pd):SR K H0 Z0 σ H ρ pd':=
 let ⟨e,Z,hg,z,s⟩:=h
 ⟨e,Z,hg,z,s.perm (((q.map _).append_left _).append_left _)⟩
theorem SR.swap {l2:Lc} (h:SR K H0 Z0 σ H ρ ((v,l)::(w,l2)::pd)):SR K H0 Z0 σ H ρ ((w,l2)::(v,l)::pd):=h.perm (List.Perm.swap _ _ _)
theorem SR.freeze (h:SR K H0 Z0 σ H ρ ((v,l)::pd)):SR K H0 Z0 σ H ρ ((v,.sh l.pv)::pd):=by
 cases l with
 | sh p=>exact h
 | own p=>
  obtain ⟨e,Z,hg,z,s⟩:=h.top
  obtain ⟨Z',_,eg,z',s'⟩:=s.freeze z
  refine .mk (Z:=Z') e (by rw [eg]; exact hg) z' ?_
  rw [eg]; exact s'
theorem SR.sh (h:SR K H0 Z0 σ H ρ ((v,.sh p)::pd)):σ.length=ρ.vs.length/\∃ Z,ρ.mu.length=Z.g.length/\iW H0 Z0 Z H/\Rep K Z p v/\Slots K H0 Z H (sl Z.g σ ρ pd):=by
 obtain ⟨e,Z,hg,z,s⟩:=h.top
 obtain ⟨x,e1,e2⟩:=s.1 _ List.mem_cons_self
 cases e1
 exact ⟨e,Z,hg,z,e2,s.sub (List.sublist_cons_self _ _)⟩
theorem SR.rep (h:SR K H0 Z0 σ H ρ ((v,.sh p)::pd)):∃ Z:ZG,dC Z.z H/\Rep K Z p v:=let ⟨_,Z,_,z,r,_⟩:=h.sh; ⟨Z,z.zh,r⟩
theorem SR.repH (h:SR K H0 Z0 σ H ρ ((v,.sh p)::pd)):∃ g,Rep K ⟨H,g⟩ p v:=let ⟨_,Z,_,z,r,_⟩:=h.sh; ⟨Z.g,r.mono (Z':=⟨H,Z.g⟩) ⟨z.zh,List.prefix_refl _⟩⟩
theorem Slots.consS (s:Slots K H0 Z H L) (r:Rep K Z p v):Slots K H0 Z H ((some v,some (.sh p))::L):=by
 refine ⟨fun e he=>?_,?_⟩
 . rcases List.mem_cons.mp he with rfl | he
   . exact ⟨v,rfl,r⟩
   . exact s.1 e he
 . have:jN (some v,some (Lc.sh p))=none:=by cases v<;>rfl
   rw [List.filterMap_cons_none this]
   exact s.2
theorem SR.scal (h:SR K H0 Z0 σ H ρ pd) (r:∀ Z,Rep K Z p v):SR K H0 Z0 σ H ρ ((v,.sh p)::pd):=
 let ⟨e,Z,hg,z,s⟩:=h
 .mk e hg z (s.consS (r Z))
theorem Bg {i:Nat} {o:Option Lc} (el:σ.length=ρ.vs.length) (e:ρ.vs[i]?=some o):∃ R:Sl,∃ x,σ[i]?=some x/\(∀ g pd,List.Perm (sl g σ ρ pd) ((x,o)::(dg g ρ.mu++(R++pd.map fun e=>(some e.1,some e.2)))))/\
 ∀ g pd y o',List.Perm (sl g (σ.set i y) (ρ.set i o') pd) ((y,o')::(dg g ρ.mu++(R++pd.map fun e=>(some e.1,some e.2)))):=by
 have hi:i<σ.length:=by rw [el]; exact (List.getElem?_eq_some_iff.mp e).1
 have hσ:σ[i]?=some σ[i]:=List.getElem?_eq_getElem hi
 obtain ⟨R,h1,h2⟩:=tE (zip_get hσ e)
 refine ⟨R,σ[i],hσ,fun g pd=>?_,fun g pd y o'=>?_⟩
 . unfold sl
   exact ((h1.append_right _).append_left _).trans List.perm_middle
 . unfold sl
   show List.Perm (dg g ρ.mu++((σ.set i y).zip (ρ.vs.set i o')++_)) _
   rw [xN]
   exact (((h2 _).append_right _).append_left _).trans List.perm_middle
theorem Ev.set_mu {i:Nat} {x:Option Lc}:(ρ.set i x).mu=ρ.mu:=rfl
theorem Ev.set_len {i:Nat} {x:Option Lc}:(ρ.set i x).vs.length=ρ.vs.length:=by show (ρ.vs.set i x).length=_; rw [List.length_set]
theorem SR.var {i:Nat} (h:SR K H0 Z0 σ H ρ pd) (e:ρ.vs[i]?=some (some l)):∃ v,σ[i]?=some (some v)/\SR K H0 Z0 σ H (ρ.set i (some (.sh l.pv))) ((v,.sh l.pv)::pd):=by
 obtain ⟨el,Z,hg,z,s⟩:=h
 obtain ⟨R,x,hσ,h1,h2⟩:=Bg el e
 have s1:=s.perm (h1 Z.g pd).symm
 have el':σ.length=(ρ.set i (some (.sh l.pv))).vs.length:=by rw [Ev.set_len]; exact el
 have fin:∀ {Z':ZG} {v:V},Z'.g=Z.g->iW H0 Z0 Z' H->x=some v->Slots K H0 Z' H ((x,some (.sh l.pv))::(dg Z.g ρ.mu++(R++pd.map fun e=>(some e.1,some e.2))))->Rep K Z' l.pv v->SR K H0 Z0 σ H (ρ.set i (some (.sh l.pv))) ((v,.sh l.pv)::pd):=
  fun {Z' v} eg z ev s2 r=>by
   have p2:=h2 Z.g pd x (some (.sh l.pv))
   rw [set_same hσ] at p2
   refine .mk (Z:=Z') el' (by rw [eg,Ev.set_mu]; exact hg) z ?_
   rw [eg]
   exact (s2.perm p2).consS r
 cases l with
 | sh p=>
  obtain ⟨v,e1,e2⟩:=s1.1 _ List.mem_cons_self
  exact ⟨v,hσ.trans (congrArg some e1),fin rfl z e1 s1 e2⟩
 | own p=>
  obtain ⟨Z',sz,eg,z',s'⟩:=s1.freeze z
  obtain ⟨v,e1,e2⟩:=s'.1 _ List.mem_cons_self
  exact ⟨v,hσ.trans (congrArg some e1),fin eg z' e1 s' e2⟩
theorem SR.store {i:Nat} (h:SR K H0 Z0 σ H ρ ((v,l)::pd)) (hi:i<ρ.vs.length):SR K H0 Z0 (σ.set i (some v)) H (ρ.set i (some l)) pd:=by
 obtain ⟨el,Z,hg,z,s⟩:=h.top
 have hρ:ρ.vs[i]?=some ρ.vs[i]:=List.getElem?_eq_getElem hi
 obtain ⟨R,x,hσ,h1,h2⟩:=Bg el hρ
 refine ⟨by rw [List.length_set,Ev.set_len]; exact el,Z,hg,z,?_⟩
 refine (Slots.sub (L:=(some v,some l)::((x,ρ.vs[i])::(dg Z.g ρ.mu++(R++pd.map fun e=>(some e.1,some e.2))))) (s.perm ((h1 Z.g pd).symm.cons _)) ?_).perm (h2 Z.g pd (some v) (some l))
 exact (List.sublist_cons_self _ _).cons_cons _
theorem SR.take {i:Nat} (h:SR K H0 Z0 σ H ρ pd) (e:ρ.vs[i]?=some (some l)):∃ v,σ[i]?=some (some v)/\SR K H0 Z0 σ H (ρ.set i none) ((v,l)::pd):=by
 obtain ⟨el,Z,hg,z,s⟩:=h
 obtain ⟨R,x,hσ,h1,h2⟩:=Bg el e
 have s1:=s.perm (h1 Z.g pd).symm
 obtain ⟨v,hv⟩:∃ v,x=some v:=by
  have q:=s1.1 _ List.mem_cons_self
  cases l with
  | sh p=>obtain ⟨x,e1,_⟩:=q; exact ⟨x,e1⟩
  | own p=>obtain ⟨a,e1,_⟩:=q; exact ⟨_,e1⟩
 subst hv
 refine ⟨v,hσ,.mk (Z:=Z) (by rw [Ev.set_len]; exact el) hg z ?_⟩
 have p2:=h2 Z.g pd (some v) none
 rw [set_same hσ] at p2
 refine Slots.perm ?_ (p2.cons _)
 have ht:Slots K H0 Z H ((some v,none)::(some v,some l)::(dg Z.g ρ.mu++(R++pd.map fun e=>(some e.1,some e.2)))):=by
  refine ⟨fun e he=>?_,?_⟩
  . rcases List.mem_cons.mp he with rfl | he
    . trivial
    . exact s1.1 e he
  . have:jN (some v,none)=none:=by cases v<;>rfl
    rw [List.filterMap_cons_none this]
    exact s1.2
 exact ht.perm (List.Perm.swap _ _ _)
theorem SR.put {i:Nat} (h:SR K H0 Z0 σ H ρ ((v,l)::pd)) (e:σ[i]?=some (some v)):SR K H0 Z0 σ H (ρ.set i (some l)) pd:=by
 have hi:i<ρ.vs.length:=by rw [← h.1]; exact (List.getElem?_eq_some_iff.mp e).1
 have:=h.store hi
 rw [set_same e] at this
 exact this
end
noncomputable abbrev EF:=Ev->Option (Lc×Ev)
noncomputable abbrev TF:=Ev->Option (Bool×Ev)
noncomputable abbrev AF:=Ev->Option (List Lc×Ev)
inductive Fl where
 | nx (ρ:Ev)
 | rt (r:Lc) (ρ:Ev)
 | bk (ρ:Ev)
 | ct (ρ:Ev)
noncomputable abbrev SF:=Ev->Option Fl
noncomputable def tP (K:FG) (f:EF):TE:=fun σ H Q=>∃ H0 Z0 ρ pd r ρ',SR K H0 Z0 σ H ρ pd/\f ρ=some (r,ρ')/\∀ v H',SR K H0 Z0 σ H' ρ' ((v,r)::pd)->Q v H'
noncomputable def iM (K:FG) (f:TF):TT:=fun σ H Q=>∃ H0 Z0 ρ pd b ρ',SR K H0 Z0 σ H ρ pd/\f ρ=some (b,ρ')/\∀ H',SR K H0 Z0 σ H' ρ' pd->Q b H'
noncomputable def jJ (K:FG) (f:AF):TA:=fun σ H Q=>∃ H0 Z0 ρ pd ls ρ',SR K H0 Z0 σ H ρ pd/\f ρ=some (ls,ρ')/\∀ vs H',vs.length=ls.length->SR K H0 Z0 σ H' ρ' (vs.zip ls++pd)->Q vs H'
noncomputable def Bh (K:FG) (H0:Hp) (Z0:ZG) (pd:Pd) (D:Ends):Fl->Prop
 | .nx ρ'=>∀ σ' H',SR K H0 Z0 σ' H' ρ' pd->D.nx σ' H'
 | .rt r ρ'=>∀ v σ' H',SR K H0 Z0 σ' H' ρ' ((v,r)::pd)->D.rt v H'
 | .bk ρ'=>∀ σ' H',SR K H0 Z0 σ' H' ρ' pd->D.bk σ' H'
 | .ct ρ'=>∀ σ' H',SR K H0 Z0 σ' H' ρ' pd->D.ct σ' H'
noncomputable def gB (K:FG) (g:SF):TS:=fun D σ H=>∃ H0 Z0 ρ pd fl,SR K H0 Z0 σ H ρ pd/\g ρ=some fl/\Bh K H0 Z0 pd D fl
section
variable {X:Cx} {e:Expr} {es:List Expr} {st:Stmt} {sts:List Stmt}
theorem PE.imp {t t':TE} (h:PE X e t) (i:∀ σ H Q,t' σ H Q->t σ H Q):PE X e t':=fun pins s σ H Q I q=>h pins s σ H Q I (i σ H Q q)
theorem PT.imp {t t':TT} (h:PT X e t) (i:∀ σ H Q,t' σ H Q->t σ H Q):PT X e t':=fun pins s σ H Q I q=>h pins s σ H Q I (i σ H Q q)
theorem PW.imp {t t':TT} (h:PW X e t) (i:∀ σ H Q,t' σ H Q->t σ H Q):PW X e t':=fun wh pins s σ H Q I q=>h wh pins s σ H Q I (i σ H Q q)
theorem PA.imp {t t':TA} (h:PA X es t) (i:∀ σ H Q,t' σ H Q->t σ H Q):PA X es t':=fun pos pins s σ H Q I q=>h pos pins s σ H Q I (i σ H Q q)
theorem PS.imp {t t':TS} (h:PS X st t) (i:∀ D σ H,t' D σ H->t D σ H):PS X st t':=fun pins s σ H D I q=>h pins s σ H D I (i D σ H q)
theorem iV.imp {t t':TS} (h:iV X sts t) (i:∀ D σ H,t' D σ H->t D σ H):iV X sts t':=fun pins s σ H D I q=>h pins s σ H D I (i D σ H q)
noncomputable def aa (i:Nat):EF:=fun ρ=>match ρ.vs[i]? with
 | some (some l)=>some (.sh l.pv,ρ.set i (some (.sh l.pv)))
 | _=>none
noncomputable def eC (p:PV):EF:=fun ρ=>some (.sh p,ρ)
theorem qv {i:Nat} (h:PE X e (oO i)):PE X e (tP X.K (aa i)):=PE.imp h fun σ H Q q=>by
 obtain ⟨H0,Z0,ρ,pd,r,ρ',s,f,k⟩:=q
 unfold aa at f
 split at f
 . rename_i l e1
   cases f
   obtain ⟨v,h1,h2⟩:=s.var e1
   exact ⟨v,h1,k v H h2⟩
 . cases f
theorem qc {p:PV} {v:V} (h:PE X e (tC v)) (r:∀ Z,Rep X.K Z p v):PE X e (tP X.K (eC p)):=PE.imp h fun σ H Q q=>by
 obtain ⟨H0,Z0,ρ,pd,l,ρ',s,f,k⟩:=q
 cases f
 exact k v H (s.scal r)
theorem fU {i:Int}:∀ Z,Rep K Z (.int i) (.int i):=fun Z=>by unfold Rep; rfl
theorem lG {i:Str}:∀ Z,Rep K Z (.str i) (.str i):=fun Z=>by unfold Rep; rfl
theorem ju {i:Bool}:∀ Z,Rep K Z (.bl i) (.bl i):=fun Z=>by unfold Rep; rfl
theorem ur:∀ Z,Rep K Z .non .non:=fun Z=>by unfold Rep; rfl
noncomputable def lR (K:FG) (r:R2) (g:PV->PV->Option Lc):Prop:=∀ H0 Z0 σ ρ pd H v w x y l Q,SR K H0 Z0 σ H ρ ((w,.sh y)::(v,.sh x)::pd)->g x y=some l->(∀ u H',SR K H0 Z0 σ H' ρ ((u,l)::pd)->Q u H')->r v w H Q
noncomputable def aq (g:PV->PV->Option Lc) (fa fb:EF):EF:=fun ρ=>(fa ρ).bind fun x=>(fb x.2).bind fun y=>(g x.1.pv y.1.pv).map fun l=>(l,y.2)
theorem Ld {g:PV->PV->Option Lc} {fa fb:EF} {ρ ρ':Ev} {l:Lc} (h:aq g fa fb ρ=some (l,ρ')):∃ x ρ1 y,fa ρ=some (x,ρ1)/\fb ρ1=some (y,ρ')/\g x.pv y.pv=some l:=by
 unfold aq at h
 cases h1:fa ρ with
 | none=>rw [h1] at h; cases h
 | some x=>
  rw [h1,Option.bind_some] at h
  cases h2:fb x.2 with
  | none=>rw [h2] at h; cases h
  | some y=>
   rw [h2,Option.bind_some] at h
   cases h3:g x.1.pv y.1.pv with
   | none=>rw [h3] at h; cases h
   | some z=>
    rw [h3] at h
    cases h
    exact ⟨x.1,x.2,y.1,rfl,h2,h3⟩
theorem Bj {r:R2} {g:PV->PV->Option Lc} (hs:lR X.K r g) {fa fb:EF}:∀ σ H Q,tP X.K (aq g fa fb) σ H Q->HD r (tP X.K fa) (tP X.K fb) σ H Q:=fun σ H Q q=>by
 obtain ⟨H0,Z0,ρ,pd,l,ρ',s,f,k⟩:=q
 obtain ⟨x,ρ1,y,h1,h2,h3⟩:=Ld f
 refine ⟨H0,Z0,ρ,pd,x,ρ1,s,h1,fun v H1 s1=>⟨H0,Z0,ρ1,_,y,ρ',s1,h2,fun w H2 s2=>?_⟩⟩
 exact hs H0 Z0 σ ρ' pd H2 v w x.pv y.pv l Q (s2.freeze.swap.freeze.swap) h3 fun u H' s3=>k u H' s3
theorem aR {op:Operator} {a b:Expr} {pos:Pos} {r:R2} {g:PV->PV->Option Lc} {fa fb:EF} (ho:iJ X (binaryOp op) r) (hs:lR X.K r g) (ha:PE X a (tP X.K fa)) (hb:PE X b (tP X.K fb)):PE X (.BinOp a op b pos) (tP X.K (aq g fa fb)):=
 PE.imp (Uh ho ha hb) (Bj hs)
theorem R0 {op:CmpOp} {a b:Expr} {pos:Pos} {r:R2} {g:PV->PV->Option Lc} {fa fb:EF} (ho:iJ X (compareOp op) r) (hs:lR X.K r g) (ha:PE X a (tP X.K fa)) (hb:PE X b (tP X.K fb)) (hm:behindInMarks op b=false):PE X (.Compare a [op] [b] pos) (tP X.K (aq g fa fb)):=
 PE.imp (Ot ho ha hb hm) (Bj hs)
noncomputable def uY (C:Int->Int->Bool) (g:Int->Int->PV):PV->PV->Option Lc
 | .int i,.int j=>if C i j=true then some (.sh (g i j)) else none
 | _,_=>none
theorem Bk {C:Int->Int->Bool} {g:Int->Int->PV} {x y:PV} {l:Lc} (h:uY C g x y=some l):∃ i j,x=.int i/\y=.int j/\C i j=true/\l=.sh (g i j):=by
 cases x with
 | int i=>
  cases y with
  | int j=>
   have h':(if C i j=true then some (Lc.sh (g i j)) else none)=some l:=h
   split at h'
   . rename_i c; cases h'; exact ⟨i,j,rfl,rfl,c,rfl⟩
   . cases h'
  | _=>cases h
 | _=>cases h
theorem bG {Z:ZG} {i:Int} {v:V} (h:Rep K Z (.int i) v):v=.int i:=by unfold Rep at h; exact h
theorem cG {Z:ZG} {i:Str} {v:V} (h:Rep K Z (.str i) v):v=.str i:=by unfold Rep at h; exact h
theorem ji {Z:ZG} {i:Bool} {v:V} (h:Rep K Z (.bl i) v):v=.bl i:=by unfold Rep at h; exact h
theorem jy {Z:ZG} {v:V} (h:Rep K Z .non v):v=.non:=by unfold Rep at h; exact h
theorem zW {C':Int->Int->Prop} {C:Int->Int->Bool} {gV:Int->Int->V} {g:Int->Int->PV} (hc:∀ i j,C i j=true->C' i j) (hg:∀ i j Z,Rep K Z (g i j) (gV i j)):lR K (rI C' gV) (uY C g):=by
 intro H0 Z0 σ ρ pd H v w x y l Q s e k
 obtain ⟨i,j,rfl,rfl,c,rfl⟩:=Bk e
 obtain ⟨_,rw'⟩:=s.repH
 obtain ⟨_,rv'⟩:=s.pop.repH
 have hw:=bG rw'
 have hv:=bG rv'
 exact ⟨i,j,hv,hw,hc i j c,k _ H (s.pop.pop.scal (hg i j))⟩
theorem Bl {gV:Int->Int->V} {g:Int->Int->PV} (hg:∀ i j Z,Rep K Z (g i j) (gV i j)):lR K (sV gV) (uY (fun _ _=>true) g):=by
 intro H0 Z0 σ ρ pd H v w x y l Q s e k
 obtain ⟨i,j,rfl,rfl,c,rfl⟩:=Bk e
 obtain ⟨_,rw'⟩:=s.repH
 obtain ⟨_,rv'⟩:=s.pop.repH
 exact ⟨i,j,bG rv',bG rw',k _ H (s.pop.pop.scal (hg i j))⟩
end
section
variable {X:Cx}
section
variable {K:FG} {H0 H H':Hp} {Z0 Z:ZG} {σ:L2.St} {ρ:Ev} {pd pd':Pd} {v w:V} {l:Lc} {p:PV} {g:List Addr}
theorem SR.newO (h:SR K H0 Z0 σ H ρ pd) {a:Addr} {o:HO} (ha:H a=none) (hp:∀ Z,iW H0 Z0 Z H->Slots K H0 Z H (sl Z.g σ ρ pd)->oV K Z (upd H a o) a p):SR K H0 Z0 σ (upd H a o) ρ ((.ref a,.own p)::pd):=by
 obtain ⟨e,Z,hg,z,s⟩:=h
 obtain ⟨z',s'⟩:=s.new z ha (hp Z z s)
 exact .mk e hg z' s'
theorem zX {α:Type} (A B C:List α):List.Perm (A++(B++C)) (B++(A++C)):=by
 rw [← List.append_assoc A B C,← List.append_assoc B A C]
 exact List.perm_append_comm.append_right _
theorem IK {pe:Pd}:List.Perm (sl g σ ρ (pe++pd)) (pe.map (fun e=>((some e.1:Option V),(some e.2:Option Lc)))++sl g σ ρ pd):=by
 unfold sl
 rw [List.map_append]
 exact ((zX _ _ _).append_left _).trans (zX _ _ _)
theorem SR.freezeAll:∀ {vs:List V} {ls:List Lc} {pd:Pd},SR K H0 Z0 σ H ρ (vs.zip ls++pd)->SR K H0 Z0 σ H ρ (vs.zip (ls.map fun l=>.sh l.pv)++pd)
 | [],ls,pd,h=>by simpa using h
 | v::vs,[],pd,h=>by simpa using h
 | v::vs,l::ls,pd,h=>by
  have h1:SR K H0 Z0 σ H ρ ((v,l)::(vs.zip ls++pd)):=h
  have h2:=h1.freeze.perm (pd':=vs.zip ls++((v,.sh l.pv)::pd)) List.perm_middle
  have h3:=SR.freezeAll h2
  exact h3.perm (pd':=(v,.sh l.pv)::(vs.zip (ls.map fun l=>.sh l.pv)++pd)) List.perm_middle.symm
theorem Slots.repl {L:Sl}:∀ {vs:List V} {ps:List PV},vs.length=ps.length->Slots K H0 Z H ((vs.zip (ps.map fun p=>Lc.sh p)).map (fun e=>(some e.1,some e.2))++L)->aF K Z ps vs
 | [],[],_,_=>.nil
 | v::vs,p::ps,e,h=>by
  have h1:Slots K H0 Z H ((some v,some (.sh p))::((vs.zip (ps.map fun p=>Lc.sh p)).map (fun e=>(some e.1,some e.2))++L)):=h
  obtain ⟨x,e1,e2⟩:=h1.1 _ List.mem_cons_self
  cases e1
  exact aF.cons e2 (Slots.repl (by simpa using e) (h1.sub (List.sublist_cons_self _ _)))
 | [],p::ps,e,_=>by simp at e
 | v::vs,[],e,_=>by simp at e
theorem SR.repl {vs:List V} {ls:List Lc} (h:SR K H0 Z0 σ H ρ (vs.zip ls++pd)) (e:vs.length=ls.length):σ.length=ρ.vs.length/\∃ Z,ρ.mu.length=Z.g.length/\iW H0 Z0 Z H/\aF K Z (ls.map Lc.pv) vs/\Slots K H0 Z H (sl Z.g σ ρ pd):=by
 obtain ⟨el,Z,hg,z,s⟩:=h.freezeAll
 have hm:(ls.map fun l=>Lc.sh l.pv)=(ls.map Lc.pv).map fun p=>Lc.sh p:=by rw [List.map_map]; rfl
 rw [hm] at s
 have pm:List.Perm (sl Z.g σ ρ (vs.zip ((ls.map Lc.pv).map fun p=>Lc.sh p)++pd)) ((vs.zip ((ls.map Lc.pv).map fun p=>Lc.sh p)).map (fun e=>(some e.1,some e.2))++sl Z.g σ ρ pd):=IK
 have s':=s.perm pm.symm
 exact ⟨el,Z,hg,z,Slots.repl (by simpa using e) s',s'.sub (List.sublist_append_right _ _)⟩
end
theorem mH {α:Type} {l:List α} (h:l.length=1):∃ a,l=[a]:=List.length_eq_one_iff.mp h
theorem ln2 {α:Type} {l:List α} (h:l.length=2):∃ a b,l=[a,b]:=by
 cases l with
 | nil=>cases h
 | cons a l=>obtain ⟨b,rfl⟩:=mH (Nat.succ.inj h); exact ⟨a,b,rfl⟩
theorem Nq {α:Type} {l:List α} (h:l.length=3):∃ a b c,l=[a,b,c]:=by
 cases l with
 | nil=>cases h
 | cons a l=>obtain ⟨b,c,rfl⟩:=ln2 (Nat.succ.inj h); exact ⟨a,b,c,rfl⟩
theorem V7 {α:Type} {l:List α} (h:l.length=4):∃ a b c d,l=[a,b,c,d]:=by
 cases l with
 | nil=>cases h
 | cons a l=>obtain ⟨b,c,d,rfl⟩:=Nq (Nat.succ.inj h); exact ⟨a,b,c,d,rfl⟩
theorem R1 {α:Type} {l:List α} (h:l.length=5):∃ a b c d e,l=[a,b,c,d,e]:=by
 cases l with
 | nil=>cases h
 | cons a l=>obtain ⟨b,c,d,e,rfl⟩:=V7 (Nat.succ.inj h); exact ⟨a,b,c,d,e,rfl⟩
noncomputable def ao:AF:=fun ρ=>some ([],ρ)
noncomputable def aj (f:EF) (g:AF):AF:=fun ρ=>(f ρ).bind fun x=>(g x.2).map fun y=>(x.1::y.1,y.2)
theorem au:PA X [] (jJ X.K ao):=PA.imp vU fun σ H Q q=>by
 obtain ⟨H0,Z0,ρ,pd,l,ρ',s,f,k⟩:=q
 cases f
 exact k [] H rfl s
theorem ak {e:Expr} {es:List Expr} {f:EF} {g:AF} (ha:PE X e (tP X.K f)) (hr:PA X es (jJ X.K g)) (hs:starEach (e::es) X.env=(false,eval e X.env)::starEach es X.env:=by rfl):PA X (e::es) (jJ X.K (aj f g)):=PA.imp (qy ha hr hs) fun σ H Q q=>by
 obtain ⟨H0,Z0,ρ,pd,l,ρ',s,h,k⟩:=q
 unfold aj at h
 cases h1:f ρ with
 | none=>rw [h1] at h; cases h
 | some x=>
  rw [h1,Option.bind_some] at h
  cases h2:g x.2 with
  | none=>rw [h2] at h; cases h
  | some y=>
   rw [h2] at h
   cases h
   refine ⟨H0,Z0,ρ,pd,x.1,x.2,s,h1,fun v H1 s1=>⟨H0,Z0,x.2,_,y.1,y.2,s1,h2,fun vs H2 e2 s2=>?_⟩⟩
   refine k (v::vs) H2 (by simp [e2]) (s2.perm (pd':=(v,x.1)::(vs.zip y.1++pd)) List.perm_middle.symm)
noncomputable def cU (g:AF):EF:=fun ρ=>(g ρ).bind fun y=>if y.1.length<=1000 then some (.own (.lst (y.1.map Lc.pv)),y.2) else none
noncomputable def bc (g:AF):EF:=fun ρ=>(g ρ).bind fun y=>if y.1.length<=1000 then some (.sh (.tup (y.1.map Lc.pv)),y.2) else none
theorem small {n:Nat} (h:n<=100000):n<=sizeLine:=by rw [sizeLine_eq]; omega
theorem gh {es:List Expr} {g:AF} {pos:Pos} (h:PA X es (jJ X.K g)):PE X (.List es pos) (tP X.K (cU g)):=PE.imp (Rt h) fun σ H Q q=>by
 obtain ⟨H0,Z0,ρ,pd,l,ρ',s,f,k⟩:=q
 unfold cU at f
 cases h2:g ρ with
 | none=>rw [h2] at f; cases f
 | some y=>
  rw [h2,Option.bind_some] at f
  split at f
  . rename_i hl
    cases f
    refine ⟨H0,Z0,ρ,pd,y.1,y.2,s,h2,fun vs H2 e2 s2=>⟨small (by omega),fun p hp=>k _ _ ?_⟩⟩
    obtain ⟨el,Z,hg,z,r,sl'⟩:=s2.repl e2
    obtain ⟨z',s'⟩:=sl'.new (o:=.lst vs) (p:=.lst (y.1.map Lc.pv)) z hp ⟨vs,bJ,r⟩
    exact .mk el hg z' s'
  . cases f
theorem dN {es:List Expr} {g:AF} {x1} {pos:Pos} (h:PA X es (jJ X.K g)):PE X (.Tuple es x1 pos) (tP X.K (bc g)):=PE.imp (Rr h) fun σ H Q q=>by
 obtain ⟨H0,Z0,ρ,pd,l,ρ',s,f,k⟩:=q
 unfold bc at f
 cases h2:g ρ with
 | none=>rw [h2] at f; cases f
 | some y=>
  rw [h2,Option.bind_some] at f
  split at f
  . rename_i hl
    cases f
    refine ⟨H0,Z0,ρ,pd,y.1,y.2,s,h2,fun vs H2 e2 s2=>⟨small (by omega),fun p hp=>k _ _ ?_⟩⟩
    obtain ⟨el,Z,hg,z,r,sl'⟩:=s2.repl e2
    obtain ⟨z',sz,s'⟩:=sl'.newF (o:=.tup vs) z hp
    refine .mk (Z:=Z.put p (.tup vs)) el hg z' (s'.consS ?_)
    unfold Rep
    exact ⟨p,vs,rfl,cB.of bJ,r.mono sz⟩
  . cases f
noncomputable def tT (f:EF) (tr:PV->Option Bool):TF:=fun ρ=>(f ρ).bind fun x=>(tr x.1.pv).map fun b=>(b,x.2)
noncomputable def oX:PV->Option Bool
 | .non=>some false
 | .bl b=>some b
 | .int i=>some (i != 0)
 | .str x=>if x.length<=100000 then some ((x.length:Int) != 0) else none
 | .tup ps=>some (!ps.isEmpty)
 | .lst ps=>some (!ps.isEmpty)
 | .dk ks ps=>some (!ps.isEmpty)
 | _=>none
theorem VG {H:Hp} {g:List Addr} {p:PV} {v:V} {b:Bool} (r:Rep K ⟨H,g⟩ p v) (h:oX p=some b):Ku K v H b:=by
 cases p with
 | non=>have:=jy r; subst this; cases h; exact rfl
 | bl c=>have:=ji r; subst this; cases h; exact rfl
 | int i=>have:=bG r; subst this; cases h; exact rfl
 | str x=>
  have:=cG r; subst this
  have h:(if x.length<=100000 then some ((x.length:Int) != 0) else none)=some b:=h
  split at h
  . rename_i hl; cases h; exact ⟨small hl,rfl⟩
  . cases h
 | tup ps=>
  unfold Rep at r
  obtain ⟨a,vs,rfl,h1,h2⟩:=r
  cases h
  refine .inr (.inl ⟨vs,h1,?_⟩)
  have:=h2.length
  cases ps<;>cases vs<;>simp at this<;>rfl
 | lst ps=>
  unfold Rep at r
  obtain ⟨a,vs,rfl,h1,h2⟩:=r
  cases h
  refine .inl ⟨vs,h1,?_⟩
  have:=h2.length
  cases ps<;>cases vs<;>simp at this<;>rfl
 | dk ks ps=>
  unfold Rep at r
  obtain ⟨a,kvs,rfl,h1,h3,h2⟩:=r
  cases h
  refine .inr (.inr ⟨kvs,h1,?_⟩)
  have:=h2.length
  cases ps<;>cases kvs<;>simp at this<;>rfl
 | _=>cases h
theorem Es {f:EF} {tr:PV->Option Bool} {ρ ρ':Ev} {b:Bool} (h:tT f tr ρ=some (b,ρ')):∃ x,f ρ=some (x,ρ')/\tr x.pv=some b:=by
 unfold tT at h
 cases h1:f ρ with
 | none=>rw [h1] at h; cases h
 | some x=>
  rw [h1,Option.bind_some] at h
  cases h2:tr x.1.pv with
  | none=>rw [h2] at h; cases h
  | some y=>rw [h2] at h; cases h; exact ⟨x.1,rfl,h2⟩
theorem Bm {a:Expr} {f:EF} (ha:PE X a (tP X.K f)) (he:∀ whole,isTrue a X.env whole=(do let v ← whole; standAt a.pos; holding [v] (truthy v))):PT X a (iM X.K (tT f oX)):=PT.imp (Kv ha he) fun σ H Q q=>by
 obtain ⟨H0,Z0,ρ,pd,b,ρ',s,f',k⟩:=q
 obtain ⟨x,h1,h2⟩:=Es f'
 refine ⟨H0,Z0,ρ,pd,x,ρ',s,h1,fun v H1 s1=>⟨b,VG s1.freeze.repH.choose_spec h2,k H1 s1.pop⟩⟩
noncomputable def aU:PV->Option Bool
 | .bl b=>some b
 | _=>none
theorem Ut {a:Expr} {f:EF} (ha:PT X a (M9 (tP X.K f))):PT X a (iM X.K (tT f aU)):=PT.imp ha fun σ H Q q=>by
 obtain ⟨H0,Z0,ρ,pd,b,ρ',s,f',k⟩:=q
 obtain ⟨x,h1,h2⟩:=Es f'
 refine ⟨H0,Z0,ρ,pd,x,ρ',s,h1,fun v H1 s1=>⟨b,?_,k H1 s1.pop⟩⟩
 obtain ⟨_,r⟩:=s1.freeze.repH
 cases e:x.pv with
 | bl c=>rw [e] at h2 r; cases h2; exact ji r
 | _=>rw [e] at h2; cases h2
theorem bW {op:CmpOp} {a b:Expr} {pos:Pos} {r:R2} {g:PV->PV->Option Lc} {fa fb:EF} (ho:iJ X (compareOp op) r) (hs:lR X.K r g) (ha:PE X a (tP X.K fa)) (hb:PE X b (tP X.K fb)) (hm:behindInMarks op b=false):PT X (.Compare a [op] [b] pos) (iM X.K (tT (aq g fa fb) aU)):=
 Ut (PT.imp (Ou ho ha hb hm) fun σ H Q q=>Bj hs σ H _ q)
noncomputable def cC (f g:TF):TF:=fun ρ=>(f ρ).bind fun x=>if x.1=true then g x.2 else some (false,x.2)
noncomputable def qm (f g:TF):TF:=fun ρ=>(f ρ).bind fun x=>if x.1=true then some (true,x.2) else g x.2
noncomputable def ut (f:TF):TF:=fun ρ=>(f ρ).map fun x=>(!x.1,x.2)
theorem Py {f g:TF}:∀ σ H Q,iM X.K (cC f g) σ H Q->Q0 (iM X.K f) (iM X.K g) σ H Q:=fun σ H Q q=>by
 obtain ⟨H0,Z0,ρ,pd,b,ρ',s,h,k⟩:=q
 unfold cC at h
 cases h1:f ρ with
 | none=>rw [h1] at h; cases h
 | some x=>
  rw [h1,Option.bind_some] at h
  refine ⟨H0,Z0,ρ,pd,x.1,x.2,s,h1,fun H1 s1=>?_⟩
  dsimp only
  split
  . rename_i c; rw [if_pos c] at h; exact ⟨H0,Z0,x.2,pd,b,ρ',s1,h,k⟩
  . rename_i c; rw [if_neg c] at h; cases h; exact k H1 s1
theorem R3 {f g:TF}:∀ σ H Q,iM X.K (qm f g) σ H Q->Vb (iM X.K f) (iM X.K g) σ H Q:=fun σ H Q q=>by
 obtain ⟨H0,Z0,ρ,pd,b,ρ',s,h,k⟩:=q
 unfold qm at h
 cases h1:f ρ with
 | none=>rw [h1] at h; cases h
 | some x=>
  rw [h1,Option.bind_some] at h
  refine ⟨H0,Z0,ρ,pd,x.1,x.2,s,h1,fun H1 s1=>?_⟩
  dsimp only
  split
  . rename_i c; rw [if_pos c] at h; cases h; exact k H1 s1
  . rename_i c; rw [if_neg c] at h; exact ⟨H0,Z0,x.2,pd,b,ρ',s1,h,k⟩
theorem jz {a:Expr} {f:TF} {pos:Pos} (ha:PT X a (iM X.K f)):PW X (.BoolOp .And [a] pos) (iM X.K f):=Ol ha
theorem IV {a:Expr} {f:TF} {pos:Pos} (ha:PT X a (iM X.K f)):PW X (.BoolOp .Or [a] pos) (iM X.K f):=Q4 ha
theorem kj {a b:Expr} {rest:List Expr} {f g:TF} {pos:Pos} (ha:PT X a (iM X.K f)) (hb:PW X (.BoolOp .And (b::rest) pos) (iM X.K g)):PW X (.BoolOp .And (a::b::rest) pos) (iM X.K (cC f g)):=PW.imp (Q5 ha hb) Py
theorem Nr {a b:Expr} {rest:List Expr} {f g:TF} {pos:Pos} (ha:PT X a (iM X.K f)) (hb:PW X (.BoolOp .Or (b::rest) pos) (iM X.K g)):PW X (.BoolOp .Or (a::b::rest) pos) (iM X.K (qm f g)):=PW.imp (Uc ha hb) R3
theorem R4 {a:Expr} {f:TF} {pos:Pos} (ha:PT X a (iM X.K f)):PT X (.UnaryOp .Not a pos) (iM X.K (ut f)):=PT.imp (Q6 ha) fun σ H Q q=>by
 obtain ⟨H0,Z0,ρ,pd,b,ρ',s,h,k⟩:=q
 unfold ut at h
 cases h1:f ρ with
 | none=>rw [h1] at h; cases h
 | some x=>
  rw [h1] at h
  cases h
  exact ⟨H0,Z0,ρ,pd,x.1,x.2,s,h1,fun H1 s1=>k H1 s1⟩
noncomputable def b8:SF:=fun ρ=>some (.nx ρ)
noncomputable def aG (f g:SF):SF:=fun ρ=>(f ρ).bind fun x=>match x with
 | .nx ρ'=>g ρ'
 | y=>some y
theorem bY:iV X [] (gB X.K b8):=iV.imp Om fun D σ H q=>by
 obtain ⟨H0,Z0,ρ,pd,fl,s,h,k⟩:=q
 cases h
 exact k σ H s
theorem az {st:Stmt} {rest:List Stmt} {f g:SF} (h1:PS X st (gB X.K f)) (h2:iV X rest (gB X.K g)):iV X (st::rest) (gB X.K (aG f g)):=iV.imp (Km h1 h2) fun D σ H q=>by
 obtain ⟨H0,Z0,ρ,pd,fl,s,h,k⟩:=q
 unfold aG at h
 cases e:f ρ with
 | none=>rw [e] at h; cases h
 | some x=>
  rw [e,Option.bind_some] at h
  refine ⟨H0,Z0,ρ,pd,x,s,e,?_⟩
  cases x with
  | nx ρ'=>exact fun σ' H' s'=>⟨H0,Z0,ρ',pd,fl,s',h,k⟩
  | rt r ρ'=>cases h; exact k
  | bk ρ'=>cases h; exact k
  | ct ρ'=>cases h; exact k
theorem aH {st:Stmt} {f:SF} (h1:PS X st (gB X.K f)):iV X [st] (gB X.K f):=Oo h1
noncomputable def nq (f:EF):SF:=fun ρ=>(f ρ).map fun x=>.nx x.2
theorem map_some {α β:Type} {o:Option α} {f:α->β} {b:β} (h:o.map f=some b):∃ a,o=some a/\f a=b:=by
 cases o with
 | none=>cases h
 | some a=>exact ⟨a,rfl,Option.some.inj h⟩
theorem bind_some {α β:Type} {o:Option α} {f:α->Option β} {b:β} (h:o.bind f=some b):∃ a,o=some a/\f a=some b:=by
 cases o with
 | none=>cases h
 | some a=>exact ⟨a,rfl,h⟩
theorem xO {e:Expr} {pos:Pos} {f:EF} (he:PE X e (tP X.K f)) (hs:swapsWith e none pos.line X.env=pure false:=by rfl):PS X (.Expr e pos) (gB X.K (nq f)):=PS.imp (mK he hs) fun D σ H q=>by
 obtain ⟨H0,Z0,ρ,pd,fl,s,h,k⟩:=q
 obtain ⟨x,h1,rfl⟩:=map_some h
 exact ⟨H0,Z0,ρ,pd,x.1,x.2,s,h1,fun v H' s'=>k σ H' s'.pop⟩
noncomputable def dM (f:EF):SF:=fun ρ=>(f ρ).map fun x=>.rt x.1 x.2
theorem cP {e:Expr} {pos:Pos} {f:EF} (he:PE X e (tP X.K f)):PS X (.Return (some e) pos) (gB X.K (dM f)):=PS.imp (Hw he) fun D σ H q=>by
 obtain ⟨H0,Z0,ρ,pd,fl,s,h,k⟩:=q
 obtain ⟨x,h1,rfl⟩:=map_some h
 exact ⟨H0,Z0,ρ,pd,x.1,x.2,s,h1,fun v H' s'=>k v σ H' s'⟩
noncomputable def iY (i:Nat):SF:=fun ρ=>match ρ.vs[i]? with
 | some (some l)=>some (.rt l (ρ.set i none))
 | _=>none
theorem iI {i:Nat} {e:Expr} {pos:Pos} (he:PE X e (oO i)):PS X (.Return (some e) pos) (gB X.K (iY i)):=PS.imp (Hw he) fun D σ H q=>by
 obtain ⟨H0,Z0,ρ,pd,fl,s,h,k⟩:=q
 unfold iY at h
 split at h
 . rename_i l e1
   cases h
   obtain ⟨v,h1,h2⟩:=s.take e1
   exact ⟨v,h1,k v σ H h2⟩
 . cases h
noncomputable def cJ (c:TF) (f g:SF):SF:=fun ρ=>(c ρ).bind fun x=>if x.1=true then f x.2 else g x.2
theorem cR {c:Expr} {a b:List Stmt} {fc:TF} {f g:SF} {pos:Pos} (hc:PT X c (iM X.K fc)) (ha:iV X a (gB X.K f)) (hb:iV X b (gB X.K g)):PS X (.If c a b pos) (gB X.K (cJ fc f g)):=PS.imp (Ue hc ha hb) fun D σ H q=>by
 obtain ⟨H0,Z0,ρ,pd,fl,s,h,k⟩:=q
 obtain ⟨x,h1,h2⟩:=bind_some h
 refine ⟨H0,Z0,ρ,pd,x.1,x.2,s,h1,fun H1 s1=>?_⟩
 dsimp only
 split
 . rename_i c; rw [if_pos c] at h2; exact ⟨H0,Z0,x.2,pd,fl,s1,h2,k⟩
 . rename_i c; rw [if_neg c] at h2; exact ⟨H0,Z0,x.2,pd,fl,s1,h2,k⟩
noncomputable def aL (i:Nat) (f:EF):SF:=fun ρ=>(f ρ).bind fun x=>if i<x.2.vs.length then some (.nx (x.2.set i (some x.1))) else none
theorem Et {i:Nat} {f:EF} {t:TS} (h:∀ D σ H,(tP X.K f σ H fun v H1=>D.nx (σ.set i (some v)) H1)->t D σ H):∀ D σ H,gB X.K (aL i f) D σ H->t D σ H:=fun D σ H q=>by
 obtain ⟨H0,Z0,ρ,pd,fl,s,h',k⟩:=q
 obtain ⟨x,h1,h2⟩:=bind_some h'
 split at h2
 . rename_i hl
   cases h2
   exact h D σ H ⟨H0,Z0,ρ,pd,x.1,x.2,s,h1,fun v H1 s1=>k _ _ (s1.store hl)⟩
 . cases h2
theorem v6 {i:Nat} {x:Str} {e:Expr} {pos pos':Pos} {f:EF} (hN:X.N.Nodup) (hi:X.N[i]?=some x) (hx:L2.Loc X.env.scope x) (he:PE X e (tP X.K f)) (hs:swapsWith e (some (.Name x pos')) pos.line X.env=pure false:=by rfl) (hf:X.fn x=true\/X.env.scope.names.lookup x=some .local:=by first | exact .inl rfl | exact .inr rfl | assumption):
 PS X (.Assign [.Name x pos'] e pos) (gB X.K (aL i f)):=PS.imp (Q9 hN hi hx he hs hf) (Et fun D σ H q=>q)
noncomputable abbrev GF:=List PV->Mu->Option (Lc×Mu)
noncomputable def jO (H:Hp) (g:List Addr):Hp:=fun b=>if b∈g then none else H b
theorem Pz {H:Hp} {g:List Addr} {b:Addr} {o:HO} (h:jO H g b=some o):H b=some o/\b∉g:=by
 unfold jO at h
 split at h
 . cases h
 . rename_i q; exact ⟨h,q⟩
theorem Le {H:Hp} {g:List Addr} {b:Addr} (h:b∈g):jO H g b=none:=by unfold jO; rw [if_pos h]
theorem Bo {H:Hp} {g:List Addr} {b:Addr} (h:b∉g):jO H g b=H b:=by unfold jO; rw [if_neg h]
noncomputable def R5 (K:FG) (H:Hp) (Z:ZG) (g:List Addr) (H':Hp) (mu':Mu) (v:V) (r:Lc):Prop:=∃ Z',mu'.length=Z'.g.length/\iW (jO H g) Z Z' H'/\Slots K (jO H g) Z' H' ((some v,some r)::dg Z'.g mu')
noncomputable def bF (K:FG) (n:Nat) (g:GF):Sp:=fun vs H Q _=>∃ (Z:ZG) (ps:List PV) (mu:Mu) (r:Lc) (mu':Mu),vs.length=n/\mu.length=Z.g.length/\dC Z.z H/\aF K Z ps vs/\Slots K (jO H (oW Z.g mu)) Z H (dg Z.g mu)/\g ps mu=some (r,mu')/\∀ v H',R5 K H Z (oW Z.g mu) H' mu' v r->Q v H'
noncomputable def aN (g:GF) (a:AF):EF:=fun ρ=>(a ρ).bind fun y=>(g (y.1.map Lc.pv) y.2.mu).map fun r=>(r.1,⟨y.2.vs,r.2⟩)
theorem PB {g:List Addr} {mu:Mu} {e:Option V×Option Lc} (he:e∈dg g mu):∃ a,e.1=some (.ref a)/\(e.2=none\/∃ p,e.2=some (.own p)):=by
 unfold dg at he
 obtain ⟨v,l⟩:=e
 obtain ⟨h1,h2⟩:=List.of_mem_zip he
 obtain ⟨a,_,e1⟩:=List.mem_map.mp h1
 obtain ⟨o,_,e2⟩:=List.mem_map.mp h2
 refine ⟨a,e1.symm,?_⟩
 cases o with
 | none=>exact .inl e2.symm
 | some p=>exact .inr ⟨p,e2.symm⟩
theorem Slots.cells {Z:ZG} (hg:ρ.mu.length=Z.g.length) (s:Slots K H0 Z H (sl Z.g σ ρ pd)):Slots K (jO H (oW Z.g ρ.mu)) Z H (dg Z.g ρ.mu):=by
 have s1:Slots K H0 Z H (dg Z.g ρ.mu):=s.sub (List.sublist_append_left _ _)
 refine ⟨fun e he=>?_,s1.2⟩
 obtain ⟨a,h1,h2⟩:=PB he
 obtain ⟨v,l⟩:=e
 have h1':v=some (.ref a):=h1
 subst h1'
 rcases h2 with h2 | ⟨p,h2⟩
 . have h2':l=none:=h2
   subst h2'; trivial
 . have h2':l=some (.own p):=h2
   subst h2'
   obtain ⟨b,e1,e2,e3,e4⟩:=s1.1 _ he
   cases e1
   exact ⟨a,rfl,e2,e3,Le (List.mem_filterMap.mpr ⟨_,he,rfl⟩)⟩
theorem SR.called {H0 H H':Hp} {Z0 Z:ZG} {v:V} {r:Lc} {mu':Mu} (el:σ.length=ρ.vs.length) (hg:ρ.mu.length=Z.g.length) (z:iW H0 Z0 Z H) (s:Slots K H0 Z H (sl Z.g σ ρ pd)) (h:R5 K H Z (oW Z.g ρ.mu) H' mu' v r):SR K H0 Z0 σ H' ⟨ρ.vs,mu'⟩ ((v,r)::pd):=by
 obtain ⟨Z',hg',z',q⟩:=h
 have s1:Slots K H0 Z H (dg Z.g ρ.mu):=s.sub (List.sublist_append_left _ _)
 have s0:Slots K H0 Z H (σ.zip ρ.vs++pd.map fun e=>(some e.1,some e.2)):=s.sub (List.sublist_append_right _ _)
 have nd:(oW Z.g ρ.mu++(σ.zip ρ.vs++pd.map fun e=>(some e.1,some e.2)).filterMap jN).Nodup:=by
  have:=s.2
  unfold sl at this
  rw [List.filterMap_append] at this
  exact this
 have hc0:∀ a∈oW Z.g ρ.mu,H0 a=none:=fun a ha=>by
  obtain ⟨e,he,hb⟩:=List.mem_filterMap.mp ha
  exact (ir s1 he hb).2.1
 have h0:dC H0 (jO H (oW Z.g ρ.mu)):=fun b o e=>by
  rw [Bo fun hm=>by rw [hc0 b hm] at e; cases e]
  exact z.h0 b o e
 have z2:iW H0 Z0 Z' H':=⟨z'.zh,h0.trans z'.h0,z.z0.trans z'.z0,fun b o e=>by
  rcases z'.new b o e with e | e | e
  . exact z.new b o e
  . exact .inr (.inl (h0.free e))
  . exact .inr (.inr e)⟩
 have nog:∀ e∈(σ.zip ρ.vs++pd.map fun e=>((some e.1:Option V),(some e.2:Option Lc))),∀ a,jN e=some a->a∉oW Z.g ρ.mu/\jO H (oW Z.g ρ.mu) a=H a:=fun e he a ha=>by
  have hn:a∉oW Z.g ρ.mu:=fun hm=>(List.nodup_append.mp nd).2.2 a hm a (List.mem_filterMap.mpr ⟨e,he,ha⟩) rfl
  exact ⟨hn,Bo hn⟩
 have hk:∀ e∈(σ.zip ρ.vs++pd.map fun e=>((some e.1:Option V),(some e.2:Option Lc))),∀ a,jN e=some a->H' a=H a/\Z'.z a=none:=fun e he a ha=>by
  obtain ⟨h1,h2,o,h3,h4⟩:=ir s0 he ha
  obtain ⟨hn,ho⟩:=nog e he a ha
  have h5:=z'.h0 a o (by rw [ho]; exact h3)
  refine ⟨by rw [h3]; exact h5,?_⟩
  cases q:Z'.z a with
  | none=>rfl
  | some u=>
   rcases z'.new a u q with e | e | e
   . rw [h1] at e; cases e
   . rw [ho,h3] at e; cases e
   . have:=z'.zh a u q
     rw [h5] at this; cases this
     exact (h4 e).elim
 have s2:=s0.step z'.z0 hk
 have q':Slots K H0 Z' H' ((some v,some r)::dg Z'.g mu'):=by
  refine ⟨fun e he=>?_,q.2⟩
  have:=q.1 e he
  obtain ⟨w,l⟩:=e
  cases l with
  | none=>trivial
  | some l=>
   cases l with
   | sh p=>exact this
   | own p=>obtain ⟨a,e1,e2,e3,e4⟩:=this; exact ⟨a,e1,e2,e3,h0.free e4⟩
 have dis:∀ e∈((some v,some r)::dg Z'.g mu'),∀ a,jN e=some a->∀ e'∈(σ.zip ρ.vs++pd.map fun e=>((some e.1:Option V),(some e.2:Option Lc))),jN e'≠some a:=fun e he a ha e' he' ha'=>by
  obtain ⟨_,h2,_⟩:=ir q he ha
  obtain ⟨_,_,o,h3,_⟩:=ir s0 he' ha'
  rw [(nog e' he' a ha').2,h3] at h2; cases h2
 refine .mk (Z:=Z') el hg' z2 ?_
 refine ⟨fun e he=>?_,?_⟩
 . rcases List.mem_cons.mp he with rfl | he
   . exact q'.1 _ List.mem_cons_self
   . rcases List.mem_append.mp he with he | he
     . exact q'.1 _ (List.mem_cons_of_mem _ he)
     . exact s2.1 e he
 . show (((some v,some r)::(dg Z'.g mu'++(σ.zip ρ.vs++pd.map fun e=>(some e.1,some e.2)))).filterMap jN).Nodup
   rw [← List.cons_append,List.filterMap_append]
   refine List.nodup_append.mpr ⟨q'.2,s2.2,fun a ha b hb e=>?_⟩
   subst e
   obtain ⟨e1,he1,h1⟩:=List.mem_filterMap.mp ha
   obtain ⟨e2,he2,h2⟩:=List.mem_filterMap.mp hb
   exact dis e1 he1 a h1 e2 he2 h2
theorem Lf {n:Nat} {g:GF} {a:AF} {E:XK}:∀ σ H Q,(∃ H0 Z0 ρ pd r ρ',SR X.K H0 Z0 σ H ρ pd/\aN g a ρ=some (r,ρ')/\(∀ ls ρ1,a ρ=some (ls,ρ1)->ls.length=n)/\∀ v H',SR X.K H0 Z0 σ H' ρ' ((v,r)::pd)->Q v H')->Nb (bF X.K n g) [] E (jJ X.K a) σ H Q:=fun σ H Q q=>by
 obtain ⟨H0,Z0,ρ,pd,r,ρ',s,h,hn,k⟩:=q
 obtain ⟨y,h1,h2⟩:=bind_some h
 obtain ⟨r',h3,h4⟩:=map_some h2
 cases h4
 refine ⟨H0,Z0,ρ,pd,y.1,y.2,s,h1,fun vs H2 e2 s2=>?_⟩
 obtain ⟨el,Z,hg,z,rl,sl'⟩:=s2.repl e2
 refine ⟨Z,y.1.map Lc.pv,y.2.mu,_,_,?_,hg,z.zh,?_,sl'.cells hg,h3,fun v H' rr=>k v H' (SR.called el hg z sl' rr)⟩
 . rw [List.append_nil,e2]; exact hn _ _ h1
 . rw [List.append_nil]; exact rl
end
section
variable {P:Program} {w:World} {K:FG} {mg:Str->Option Value} {base:Heap}
noncomputable def bw (K:FG) (mg:Str->Option Value) (x:Str) (st:Stmt) (ps:List Str):Prop:=∃ f fd,pK K x x st f fd/\mg x=some (.ref f)/\Binds K fd ps []
noncomputable def aW (P:Program) (w:World) (K:FG) (mg:Str->Option Value) (base:Heap) (x:Str) (k:Nat) (ps:List Str) (sp:Sp):Prop:=∃ f fd,iC P w K mg base mG k f fd ps sp/\mg x=some (.ref f)/\W.keepIn K (.ref f)=true/\Binds K fd ps []
noncomputable def env0 (n:Nat) (ps:List PV) (mu:Mu):Ev:=⟨ps.map (fun p=>some (Lc.sh p))++List.replicate (n-ps.length) none,mu⟩
noncomputable def dY (n:Nat) (g:SF):GF:=fun ps mu=>(g (env0 n ps mu)).bind fun x=>match x with
 | .rt r ρ=>some (r,ρ.mu)
 | .nx ρ=>some (.sh .non,ρ.mu)
 | _=>none
theorem Eu {Z:ZG} {L:Sl} (s:Slots K H0 Z H L):∀ {ps:List PV} {vs:List V},aF K Z ps vs->Slots K H0 Z H ((vs.map some).zip (ps.map fun p=>some (Lc.sh p))++L)
 | [],vs,h=>by have:=h.inv0; subst this; simpa using s
 | p::ps,vs,h=>by
  obtain ⟨v,r,rfl,h1,h2⟩:=h.inv
  exact (Eu s h2).consS h1
theorem nones {Z:ZG} {L:Sl} (s:Slots K H0 Z H L):∀ n:Nat,Slots K H0 Z H ((List.replicate n (none:Option V)).zip (List.replicate n (none:Option Lc))++L)
 | 0=>s
 | n+1=>by
  rw [List.replicate_succ,List.replicate_succ,List.zip_cons_cons,List.cons_append]
  have ih:=nones s n
  refine ⟨fun e he=>?_,?_⟩
  . rcases List.mem_cons.mp he with rfl | he
    . trivial
    . exact ih.1 e he
  . rw [List.filterMap_cons_none rfl]; exact ih.2
theorem vq {H:Hp} {Z:ZG} {ps:List PV} {mu:Mu} {vs:List V} {N:List Str} (hg:mu.length=Z.g.length) (z:dC Z.z H) (r:aF K Z ps vs) (c:Slots K (jO H (oW Z.g mu)) Z H (dg Z.g mu)):SR K (jO H (oW Z.g mu)) Z (L2.start N vs) H (env0 N.length ps mu) []:=by
 have hl:=r.length
 refine ⟨by simp [L2.start,env0,hl],Z,hg,⟨z,fun b o e=>(Pz e).1,gA.refl _,fun b o e=>.inl e⟩,?_⟩
 unfold sl L2.start env0
 rw [List.zip_append (by simp [hl]),List.map_nil,List.append_nil,hl]
 exact (Eu (nones c _) r).perm ((List.perm_append_comm).trans (by rw [List.append_assoc]))
theorem bw.ok {x:Str} {st:Stmt} {N ps:List Str} {k:Nat} {g:GF} (F:bw K mg x st ps) (S:bL N ps (aA st))
 (h:∀ (f:Addr) (cdv:Value) (A:Around) (outer:List PySem.Env) (s:Shared) (H:Hp) (E:XK),dW k (A.deeper (envOfC x (aA st) s.heap.objs.size f cdv))->
   ∃ g':SF,(∀ a mu,g a mu=dY N.length g' a mu)/\iV (qg mG P w K mg base N x (aA st) f cdv A outer s H E).nox (bz st) (gB K g')):aW P w K mg base x (k+1) ps (bF K ps.length g):=by
 obtain ⟨f,fd,F,hm,hb⟩:=F
 refine ⟨f,fd,F.ok S (fun vs H Q E q=>?_) (fun cdv A outer s H vs Q E hr q=>?_),hm,F.kp,hb⟩
 . obtain ⟨Z,qs,mu,r,mu',e,_⟩:=q; exact e
 . obtain ⟨g',eg,b⟩:=h f cdv A outer s H E hr
   obtain ⟨Z,qs,mu,r,mu',e,hg,z,rl,c,hr',kk⟩:=q
   rw [eg] at hr'
   obtain ⟨fl,h1,h2⟩:=bind_some hr'
   refine ⟨_,b,jO H (oW Z.g mu),Z,_,[],fl,vq hg z rl c,h1,?_⟩
   cases fl with
   | rt r' ρ'=>
    cases h2
    intro v σ' H' s'
    obtain ⟨el,Z',hg',z',s''⟩:=s'.top
    refine kk v H' ⟨Z',hg',z',s''.sub ?_⟩
    exact (List.sublist_append_left _ _).cons_cons _
   | nx ρ'=>
    cases h2
    intro σ' H' s'
    obtain ⟨el,Z',hg',z',s''⟩:=s'
    exact kk .non H' ⟨Z',hg',z',(s''.sub (List.sublist_append_left _ _)).consS (ur _)⟩
   | bk ρ'=>cases h2
   | ct ρ'=>cases h2
end
section
variable {X:Cx}
theorem bZ {x:Str} {k:Nat} {ps:List Str} {g:GF} {e:Expr} {es:List Expr} {a:AF} {p pos:Pos} (D:aW X.prog X.w X.K X.mg X.base x k ps (bF X.K ps.length g)) (hr:dW k X.A) (hg:Gl X x)
 (ha:PA X (e::es) (jJ X.K a)) (hn:∀ ρ ls ρ1,a ρ=some (ls,ρ1)->ls.length=ps.length) (hdb:(x==("__debug__" : Str))=false:=by decide) (he:starEach (e::es) X.env=(false,eval e X.env)::starEach es X.env:=by rfl) (hpl:(backTo pos (starEach es X.env)).any (·.1)=false:=by rfl):PE X (.Call (.Name x p) (e::es) [] pos) (tP X.K (aN g a)):=by
 obtain ⟨f,fd,F,hm,hk,hb⟩:=D
 refine PE.imp (Oz (E:=E0) F hr hg hm hk hb .nil GX ha hdb he hpl) fun σ H Q q=>?_
 obtain ⟨H0,Z0,ρ,pd,r,ρ',s,h,kk⟩:=q
 exact Lf σ H Q ⟨H0,Z0,ρ,pd,r,ρ',s,h,fun ls ρ1 e=>hn ρ ls ρ1 e,kk⟩
section
variable {K:FG} {H0 H H':Hp} {Z0 Z:ZG} {σ:L2.St} {ρ:Ev} {pd pd':Pd} {v w:V} {l:Lc} {p:PV}
theorem SR.sub (h:SR K H0 Z0 σ H ρ pd') (q:List.Sublist pd pd'):SR K H0 Z0 σ H ρ pd:=
 let ⟨e,Z,hg,z,s⟩:=h
 ⟨e,Z,hg,z,s.sub ((List.Sublist.refl _).append ((List.Sublist.refl _).append (q.map _)))⟩
theorem SR.part {u:V} {q:PV} (h:SR K H0 Z0 σ H ρ ((v,.sh p)::pd)) (k:∀ Z:ZG,dC Z.z H->Rep K Z p v->Rep K Z q u):SR K H0 Z0 σ H ρ ((u,.sh q)::(v,.sh p)::pd):=by
 obtain ⟨e,Z,hg,z,s⟩:=h.top
 obtain ⟨x,e1,e2⟩:=s.1 _ List.mem_cons_self
 cases e1
 exact .mk e hg z ((s.perm cN).consS (k Z z.zh e2))
end
noncomputable abbrev BF:=PV->Ev->Option Ev
noncomputable def GS (K:FG) (g:TG) (b:BF):Prop:=∀ H0 Z0 σ H ρ pd v p ρ' Q,SR K H0 Z0 σ H ρ ((v,.sh p)::pd)->b p ρ=some ρ'->(∀ σ',SR K H0 Z0 σ' H ρ' pd->Q σ' H)->g v σ H Q
noncomputable abbrev Bp:=List PV->Ev->Option Ev
noncomputable def Nt (K:FG) (g:sE) (b:Bp):Prop:=∀ H0 Z0 σ H ρ pd vs ps ρ' Q,vs.length=ps.length->SR K H0 Z0 σ H ρ (vs.zip (ps.map Lc.sh)++pd)->b ps ρ=some ρ'->(∀ σ',SR K H0 Z0 σ' H ρ' pd->Q σ' H)->g vs σ H Q
noncomputable def aD (i:Nat):BF:=fun p ρ=>if i<ρ.vs.length then some (ρ.set i (some (.sh p))) else none
theorem aQ {i:Nat}:GS K (zR i) (aD i):=by
 intro H0 Z0 σ H ρ pd v p ρ' Q s h k
 unfold aD at h
 split at h
 . rename_i hl; cases h; exact k _ (s.store hl)
 . cases h
noncomputable def iD:Bp:=fun ps ρ=>match ps with
 | []=>some ρ
 | _=>none
noncomputable def bh (b:BF) (bs:Bp):Bp:=fun ps ρ=>match ps with
 | p::r=>(b p ρ).bind fun ρ1=>bs r ρ1
 | []=>none
theorem km:Nt K Q7 iD:=by
 intro H0 Z0 σ H ρ pd vs ps ρ' Q e s h k
 cases ps with
 | nil=>
  cases h
  have:vs=[]:=List.eq_nil_of_length_eq_zero (by simpa using e)
  subst this
  exact ⟨rfl,k σ s⟩
 | cons p r=>cases h
theorem cF {t:TG} {u:sE} {b:BF} {bs:Bp} (h1:GS K t b) (h2:Nt K u bs):Nt K (M3 t u) (bh b bs):=by
 intro H0 Z0 σ H ρ pd vs ps ρ' Q e s h k
 cases ps with
 | nil=>cases h
 | cons p r=>
  cases vs with
  | nil=>simp at e
  | cons v ws=>
   obtain ⟨ρ1,e1,e2⟩:=bind_some h
   refine ⟨v,ws,rfl,h1 H0 Z0 σ H ρ _ v p ρ1 _ s e1 fun σ' s'=>?_⟩
   exact h2 H0 Z0 σ' H ρ1 pd ws r ρ' Q (by simpa using e) s' e2 k
theorem IW {Z:ZG} {L:Sl} (s:Slots K H0 Z H L):∀ {ps:List PV} {vs:List V},aF K Z ps vs->Slots K H0 Z H ((vs.zip (ps.map Lc.sh)).map (fun e=>(some e.1,some e.2))++L)
 | [],vs,h=>by have:=h.inv0; subst this; simpa using s
 | p::ps,vs,h=>by
  obtain ⟨v,r,rfl,h1,h2⟩:=h.inv
  exact (IW s h2).consS h1
theorem SR.items {Z0 Z:ZG} {vs:List V} {ps:List PV} (e:σ.length=ρ.vs.length) (hg:ρ.mu.length=Z.g.length) (z:iW H0 Z0 Z H) (r:aF K Z ps vs) (s:Slots K H0 Z H (sl Z.g σ ρ pd)):SR K H0 Z0 σ H ρ (vs.zip (ps.map Lc.sh)++pd):=
 ⟨e,Z,hg,z,(IW s r).perm IK⟩
noncomputable def Lg (f:EF) (b:BF):SF:=fun ρ=>(f ρ).bind fun x=>(b x.1.pv x.2).map Fl.nx
theorem R6 {tg e:Expr} {f:EF} {g:TG} {b:BF} {pos:Pos} (he:PE X e (tP X.K f)) (hg:PG X tg g) (hb:GS X.K g b) (hs:swapsWithSole [tg] e pos.line X.env=pure false:=by rfl) (hw:swappedStores [tg] e X.env=pure none:=by rfl)
 (h1:(assignEach [tg] X.env).map (·.2)=[assign tg X.env]:=by rfl):PS X (.Assign [tg] e pos) (gB X.K (Lg f b)):=PS.imp (vP he hg hs hw h1) fun D σ H q=>by
 obtain ⟨H0,Z0,ρ,pd,fl,s,h,k⟩:=q
 obtain ⟨x,h1,h2⟩:=bind_some h
 obtain ⟨ρ',h3,rfl⟩:=map_some h2
 exact ⟨H0,Z0,ρ,pd,x.1,x.2,s,h1,fun v H1 s1=>hb H0 Z0 σ H1 x.2 pd v _ ρ' D.nx s1.freeze h3 fun σ' s'=>k σ' H1 s'⟩
noncomputable def Wj (i j:Nat) (a:AF):SF:=fun ρ=>(a ρ).bind fun y=>match y.1 with
 | [l,m]=>if i<y.2.vs.length/\j<y.2.vs.length then some (.nx ((y.2.set i (some l)).set j (some m))) else none
 | _=>none
noncomputable def nQ (K:FG) (H0:Hp) (Z0:ZG) (pd:Pd) (J:It) (xs:List PV):Prop:=∀ σ H ρ (i:Nat),SR K H0 Z0 σ H ρ pd->
 (∀ x,xs[i]?=some x->J.go i H/\∀ v H',J.yld i H v H'->SR K H0 Z0 σ H' ρ ((v,.sh x)::pd))/\(i=xs.length->J.stop i H)
noncomputable abbrev IF:=Ev->Option (List PV×Ev)
noncomputable def Bq (K:FG) (f:IF):TI:=fun σ H R=>∃ H0 Z0 ρ pd xs ρ',SR K H0 Z0 σ H ρ pd/\f ρ=some (xs,ρ')/\∀ J H' pd',SR K H0 Z0 σ H' ρ' pd'->nQ K H0 Z0 pd' J xs->List.Sublist pd pd'->R J H'
theorem PI.imp {tg iter:Expr} {t t':TI} (h:PI X tg iter t) (i:∀ σ H R,t' σ H R->t σ H R):PI X tg iter t':=fun pins s σ H R I q=>h pins s σ H R I (i σ H R q)
noncomputable def fK (f:EF) (g:PV->Option (List PV)):IF:=fun ρ=>(f ρ).bind fun x=>(g x.1.pv).map fun xs=>(xs,x.2)
theorem Ja {H0:Hp} {a:Addr} {ps:List PV}:nQ K H0 Z0 ((.ref a,.sh (.lst ps))::pd) (M4 K a) ps:=by
 intro σ H ρ i s
 obtain ⟨Z,z,r⟩:=s.rep
 unfold Rep at r
 obtain ⟨b,vs,e,h1,h2⟩:=r
 cases e
 have hq:=bK.same z h1
 refine ⟨fun x hx=>?_,fun hl=>⟨vs,hq,by rw [h2.length]; omega⟩⟩
 obtain ⟨v,hv,rv⟩:=h2.get hx
 refine ⟨⟨vs,v,hq,hv⟩,fun v' H' y=>?_⟩
 obtain ⟨e',y⟩:=y
 subst e'
 have:=y vs hq
 rw [hv] at this; cases this
 refine s.part fun Z' z' r'=>?_
 unfold Rep at r'
 obtain ⟨b',vs',e',h1',h2'⟩:=r'
 cases e'
 have:vs'[i]?=some v:=y vs' (bK.same z' h1')
 obtain ⟨p',hp',rp'⟩:=h2'.getV this
 rw [hx] at hp'; cases hp'
 exact rp'
theorem Lh {H0:Hp} {a:Addr} {ps:List PV}:nQ K H0 Z0 ((.ref a,.sh (.tup ps))::pd) (M5 K a) ps:=by
 intro σ H ρ i s
 obtain ⟨Z,z,r⟩:=s.rep
 unfold Rep at r
 obtain ⟨b,vs,e,h1,h2⟩:=r
 cases e
 have hq:=cB.same z h1
 refine ⟨fun x hx=>?_,fun hl=>⟨vs,hq,by rw [h2.length]; omega⟩⟩
 obtain ⟨v,hv,rv⟩:=h2.get hx
 refine ⟨⟨vs,v,hq,hv⟩,fun v' H' y=>?_⟩
 obtain ⟨e',y⟩:=y
 subst e'
 have:=y vs hq
 rw [hv] at this; cases this
 refine s.part fun Z' z' r'=>?_
 unfold Rep at r'
 obtain ⟨b',vs',e',h1',h2'⟩:=r'
 cases e'
 have:vs'[i]?=some v:=y vs' (cB.same z' h1')
 obtain ⟨p',hp',rp'⟩:=h2'.getV this
 rw [hx] at hp'; cases hp'
 exact rp'
noncomputable def iu (lo:Int) (n:Nat):List PV:=(List.range n).map fun i=>.int (lo+(i:Nat))
noncomputable def gJ (a:AF):IF:=fun ρ=>(a ρ).bind fun y=>match y.1.map Lc.pv with
 | [.int j]=>if -(2 ^ 62)<=j/\j<2 ^ 62 then some (iu 0 j.toNat,y.2) else none
 | _=>none
theorem Li {H0:Hp} {lo:Int} {n:Nat}:nQ K H0 Z0 pd (M6 lo n) (iu lo n):=by
 intro σ H ρ i s
 refine ⟨fun x hx=>?_,fun hl=>?_⟩
 . have hi:i<n:=by
    have:=(List.getElem?_eq_some_iff.mp hx).1
    simpa [iu] using this
   refine ⟨hi,fun v H' y=>?_⟩
   obtain ⟨rfl,rfl⟩:=y
   unfold iu at hx
   rw [List.getElem?_map,List.getElem?_range hi] at hx
   cases hx
   exact s.scal fU
 . show n<=i
   simp [iu] at hl
   omega
theorem SR.ints {vs:List V} {ls:List Lc} {ns:List Int} (s:SR K H0 Z0 σ H ρ (vs.zip ls++pd)) (e:vs.length=ls.length) (h:ls.map Lc.pv=ns.map PV.int):vs=ns.map V.int/\SR K H0 Z0 σ H ρ pd:=by
 obtain ⟨el,Z,hg,z,r,sl'⟩:=s.repl e
 refine ⟨?_,el,Z,hg,z,sl'⟩
 rw [h] at r
 clear h e s sl'
 induction ns generalizing vs with
 | nil=>exact r.inv0
 | cons n ns ih=>
  obtain ⟨v,w,rfl,h1,h2⟩:=r.inv
  rw [bG h1,ih h2]
  rfl
theorem jP {tg a:Expr} {f:AF} {p pos:Pos} (hg:Gl X "range") (hm:X.mg "range" = none) (ha:PA X [a] (jJ X.K f)) (hs:starEach [a] X.env=[(false,eval a X.env)]:=by rfl):PI X tg (.Call (.Name "range" p) [a] [] pos) (Bq X.K (gJ f)):=PI.imp (Hz hg hm ha hs) fun σ H R q=>by
 obtain ⟨H0,Z0,ρ,pd,xs,ρ',s,h,k⟩:=q
 obtain ⟨y,h1,h2⟩:=bind_some h
 refine ⟨H0,Z0,ρ,pd,y.1,y.2,s,h1,fun vs H1 e1 s1=>?_⟩
 split at h2
 . rename_i j e
   split at h2
   . rename_i hj
     cases h2
     obtain ⟨rfl,s2⟩:=s1.ints (ns:=[j]) e1 e
     exact ⟨j,rfl,hj.1,hj.2,k _ _ _ s2 Li (List.Sublist.refl _)⟩
   . cases h2
 . cases h2
noncomputable def dh (b:BF) (body:SF):List PV->SF
 | [],ρ=>some (.nx ρ)
 | x::xs,ρ=>(b x ρ).bind fun ρ1=>(body ρ1).bind fun fl=>match fl with
  | .nx ρ'=>dh b body xs ρ'
  | .ct ρ'=>dh b body xs ρ'
  | .bk ρ'=>some (.nx ρ')
  | .rt r ρ'=>some (.rt r ρ')
noncomputable def fJ (f:IF) (b:BF) (body:SF):SF:=fun ρ=>(f ρ).bind fun y=>dh b body y.1 y.2
theorem xP {P:Prop} (h:∀ G:Prop,(P->G)->G):P:=h P id
noncomputable def FW (K:FG) (H0:Hp) (Z0:ZG) (pd:Pd) (b:BF) (fb:SF) (xs:List PV) (fl:Fl) (i m:Nat) (σ:L2.St) (H:Hp):Prop:=m=xs.length-i/\i<=xs.length/\∃ ρ,SR K H0 Z0 σ H ρ pd/\dh b fb (xs.drop i) ρ=some fl
theorem Lj {g:TG} {b:BF} {fb:SF} (hb:GS K g b) {J:It} {xs:List PV} {fl:Fl} {D:Ends} (it:nQ K H0 Z0 pd J xs) (k:Bh K H0 Z0 pd D fl) (s:SR K H0 Z0 σ H ρ pd) (h:dh b fb xs ρ=some fl):
 ∃ W:Nat->Nat->L2.St->Hp->Prop,(∃ m,W 0 m σ H)/\∀ i m σ H,W i m σ H->
  (J.stop i H/\D.nx σ H)\/(J.go i H/\∃ N:L2.St->Hp->Prop,(∀ σ' H',N σ' H'->∃ m',m'<m/\W (i+1) m' σ' H')/\∀ x H',J.yld i H x H'->g x σ H' fun σ2 H2=>gB K fb { D with nx:=N,ct:=N,bk:=D.nx } σ2 H2):=by
 refine ⟨FW K H0 Z0 pd b fb xs fl,⟨_,rfl,Nat.zero_le _,ρ,s,h⟩,fun i m σ' H' w=>?_⟩
 refine xP fun G kG=>?_
 obtain ⟨rfl,hi,ρ',s',h'⟩:=w
 obtain ⟨i1,i2⟩:=it σ' H' ρ' i s'
 by_cases hlt:i<xs.length
 . obtain ⟨go,yl⟩:=i1 _ (List.getElem?_eq_getElem hlt)
   rw [List.drop_eq_getElem_cons hlt] at h'
   obtain ⟨ρ1,e1,e2⟩:=bind_some h'
   obtain ⟨fl1,e3,e4⟩:=bind_some e2
   refine kG (.inr ⟨go,fun σ'' H''=>FW K H0 Z0 pd b fb xs fl (i+1) (xs.length-(i+1)) σ'' H'',fun σ'' H'' w=>⟨_,by omega,w⟩,fun x H2 hy=>hb H0 Z0 σ' H2 ρ' pd x _ ρ1 _ (yl x H2 hy) e1 fun σ2 s2=>⟨H0,Z0,ρ1,pd,fl1,s2,e3,?_⟩⟩)
   cases fl1 with
   | nx ρ2=>exact fun σ3 H3 s3=>⟨rfl,hlt,ρ2,s3,e4⟩
   | ct ρ2=>exact fun σ3 H3 s3=>⟨rfl,hlt,ρ2,s3,e4⟩
   | bk ρ2=>cases e4; exact k
   | rt r ρ2=>cases e4; exact k
 . have e:i=xs.length:=Nat.le_antisymm hi (Nat.le_of_not_lt hlt)
   subst e
   rw [List.drop_length] at h'
   cases h'
   exact kG (.inl ⟨i2 rfl,k σ' H' s'⟩)
theorem Bh.imp {H0:Hp} {Z0 Z₁:ZG} {pd pd':Pd} {D:Ends} {fl:Fl} (k:Bh K H0 Z0 pd D fl) (w:∀ {τ:L2.St} {J:Hp} {q:Ev},SR K H0 Z₁ τ J q pd'->SR K H0 Z0 τ J q pd) (w':∀ {τ:L2.St} {J:Hp} {q:Ev} {e:V×Lc},SR K H0 Z₁ τ J q (e::pd')->SR K H0 Z0 τ J q (e::pd)):Bh K H0 Z₁ pd' D fl:=by
 cases fl with
 | rt r ρ=>exact fun v σ H s=>k v σ H (w' s)
 | _=>exact fun σ H s=>k σ H (w s)
theorem fu {tg iter:Expr} {body:List Stmt} {f:IF} {g:TG} {b:BF} {fb:SF} {pos:Pos} (hp:PassesOwn (model X.prog X.w) X.A X.env X.xe) (hc:X.calm=true) (hi:PI X tg iter (Bq X.K f)) (hg:PG X tg g) (hb':GS X.K g b) (hb:iV X body (gB X.K fb))
 (hs:∀ x,foldedSetIterable iter X.env x=pure x:=by intro _; rfl):PS X (.For tg iter body [] pos) (gB X.K (fJ f b fb)):=PS.imp (Ra hp hc hi hg hb hs) fun D σ H q=>by
 refine xP fun G kG=>?_
 obtain ⟨H0,Z0,ρ,pd,fl,s,h,k⟩:=q
 obtain ⟨y,h1,h2⟩:=bind_some h
 exact kG ⟨H0,Z0,ρ,pd,y.1,y.2,s,h1,fun J H1 pd' s1 it sub=>Lj hb' it (k.imp (fun s=>s.sub sub) fun s=>s.sub (sub.cons_cons _)) s1 h2⟩
end
section
variable {K:FG} {H0 H H':Hp} {Z0 Z:ZG} {σ:L2.St} {ρ:Ev} {pd pe:Pd} {v w:V} {l:Lc} {p:PV} {g:List Addr}
noncomputable def Ev.app (ρ:Ev) (pe:Pd):Ev:=⟨ρ.vs++pe.map (fun x=>some x.2),ρ.mu⟩
theorem Br (e:σ.length=ρ.vs.length):sl g (σ++pe.map fun x=>some x.1) (ρ.app pe) pd=sl g σ ρ (pe++pd):=by
 unfold sl Ev.app
 rw [List.zip_append e,List.map_append,List.append_assoc]
 congr 3
 induction pe with
 | nil=>rfl
 | cons a r ih=>simp [ih]
theorem SR.shift (h:SR K H0 Z0 σ H ρ (pe++pd)):SR K H0 Z0 (σ++pe.map fun x=>some x.1) H (ρ.app pe) pd:=by
 obtain ⟨e,Z,hg,z,s⟩:=h
 refine ⟨by simp [Ev.app,e],Z,hg,z,?_⟩
 rw [Br e]
 exact s
theorem SR.unshift (e:σ.length=ρ.vs.length) (h:SR K H0 Z0 (σ++pe.map fun x=>some x.1) H (ρ.app pe) pd):SR K H0 Z0 σ H ρ (pe++pd):=by
 obtain ⟨_,Z,hg,z,s⟩:=h
 refine ⟨e,Z,hg,z,?_⟩
 rw [Br e] at s
 exact s
theorem nQ.more {J:It} {xs:List PV} (h:nQ K H0 Z0 pd J xs):nQ K H0 Z0 (pe++pd) J xs:=by
 intro σ H ρ i s
 obtain ⟨h1,h2⟩:=h _ H _ i s.shift
 refine ⟨fun x hx=>?_,h2⟩
 obtain ⟨g,y⟩:=h1 x hx
 refine ⟨g,fun v H' q=>?_⟩
 have s':=y v H' q
 have e:σ.length=ρ.vs.length:=s.1
 have s2:SR K H0 Z0 (σ++pe.map fun x=>some x.1) H' (ρ.app pe) ((v,.sh x)::pd):=s'
 exact (SR.unshift e s2).perm (pd':=(v,.sh x)::(pe++pd)) List.perm_middle.symm
noncomputable def nR (σ:L2.St) (ρ:Ev):Pd:=(σ.zip ρ.vs).filterMap fun e=>match e with
 | (some v,some l)=>some (v,l)
 | _=>none
theorem rK:∀ {L:Sl},(∀ e∈L,e.2=none\/∃ v l,e=(some v,some l))->∀ {T:Sl},
 (Slots K H0 Z H (L++T) ↔ Slots K H0 Z H ((L.filterMap fun e=>match e with | (some v,some l)=>some (v,l) | _=>none).map (fun e=>((some e.1:Option V),(some e.2:Option Lc)))++T))
 | [],_,T=>by simp
 | (v,l)::L,h,T=>by
  have h':∀ e∈L,e.2=none\/∃ v l,e=(some v,some l):=fun e he=>h e (List.mem_cons_of_mem _ he)
  rcases h (v,l) List.mem_cons_self with e | ⟨v',l',e⟩
  . have e':l=none:=e
    subst e'
    have e1:((v,(none:Option Lc))::L).filterMap (fun e=>match e with | (some v,some l)=>some (v,l) | _=>none)=L.filterMap (fun e=>match e with | (some v,some l)=>some (v,l) | _=>none):=by
     rw [List.filterMap_cons_none]
     cases v<;>rfl
    rw [e1,← rK h' (T:=T)]
    have o1:jN (v,none)=none:=by
     cases v with
     | none=>rfl
     | some x=>cases x<;>rfl
    constructor
    . exact fun s=>s.sub (List.sublist_cons_self _ _)
    . intro s
      refine ⟨fun e he=>?_,?_⟩
      . rcases List.mem_cons.mp he with rfl | he
        . trivial
        . exact s.1 e he
      . rw [List.cons_append,List.filterMap_cons_none o1]
        exact s.2
  . cases e
    have e1:((some v',some l')::L).filterMap (fun e=>match e with | (some v,some l)=>some (v,l) | _=>none)=(v',l')::L.filterMap (fun e=>match e with | (some v,some l)=>some (v,l) | _=>none):=by
     rfl
    rw [e1]
    have ih1:=rK h' (T:=T++[(some v',some l')])
    have perm1:∀ A:Sl,List.Perm ((some v',some l')::(A++T)) (A++(T++[(some v',some l')])):=fun A=>by
     rw [← List.append_assoc]
     exact (List.perm_append_singleton _ _).symm
    constructor
    . intro s
      exact (ih1.mp (s.perm (perm1 L).symm)).perm (perm1 _)
    . intro s
      exact (ih1.mpr (s.perm (perm1 _).symm)).perm (perm1 L)
theorem SR.both (s:SR K H0 Z0 σ H ρ pd):∀ e∈σ.zip ρ.vs,e.2=none\/∃ v l,e=(some v,some l):=by
 obtain ⟨_,Z,_,z,s⟩:=s
 intro e he
 have q:=s.1 e (List.mem_append_right _ (List.mem_append_left _ he))
 obtain ⟨v,l⟩:=e
 cases l with
 | none=>exact .inl rfl
 | some l=>
  cases l with
  | sh p=>obtain ⟨x,e1,_⟩:=q; have e1':v=some x:=e1; subst e1'; exact .inr ⟨_,_,rfl⟩
  | own p=>obtain ⟨x,e1,_⟩:=q; have e1':v=some (.ref x):=e1; subst e1'; exact .inr ⟨_,_,rfl⟩
theorem yP (hb:∀ e∈σ.zip ρ.vs,e.2=none\/∃ v l,e=(some v,some l)):Slots K H0 Z H (sl g σ ρ pd) ↔ Slots K H0 Z H (dg g ρ.mu++(nR σ ρ++pd).map fun e=>(some e.1,some e.2)):=by
 have h1:=rK (K:=K) (H0:=H0) (Z:=Z) (H:=H) hb (T:=(pd.map fun e=>(some e.1,some e.2))++dg g ρ.mu)
 have c1:List.Perm (sl g σ ρ pd) (σ.zip ρ.vs++((pd.map fun e=>(some e.1,some e.2))++dg g ρ.mu)):=by
  unfold sl
  rw [← List.append_assoc (σ.zip ρ.vs)]
  exact List.perm_append_comm
 have c2:List.Perm (dg g ρ.mu++(nR σ ρ++pd).map fun e=>((some e.1:Option V),(some e.2:Option Lc))) ((nR σ ρ).map (fun e=>(some e.1,some e.2))++((pd.map fun e=>(some e.1,some e.2))++dg g ρ.mu)):=by
  rw [List.map_append,← List.append_assoc ((nR σ ρ).map _)]
  exact List.perm_append_comm
 exact ⟨fun s=>(h1.mp (s.perm c1.symm)).perm c2,fun s=>(h1.mpr (s.perm c2.symm)).perm c1⟩
theorem SR.back {σ':L2.St} {ρ':Ev} (el:σ.length=ρ.vs.length) (hb:∀ e∈σ.zip ρ.vs,e.2=none\/∃ v l,e=(some v,some l)) (s:SR K H0 Z0 σ' H ρ' (nR σ ρ++pd)):SR K H0 Z0 σ H ⟨ρ.vs,ρ'.mu⟩ pd:=by
 obtain ⟨_,Z,hg,z,s⟩:=s
 refine ⟨el,Z,hg,z,(yP (ρ:=⟨ρ.vs,ρ'.mu⟩) hb).mpr ?_⟩
 exact s.sub ((List.Sublist.refl _).append (List.sublist_append_right _ _))
noncomputable def iZ (ixs:List Nat) (ρ:Ev):Ev:=ixs.foldl (fun ρ i=>match ρ.vs[i]? with
 | some (some l)=>ρ.set i (some (.sh l.pv))
 | _=>ρ) ρ
theorem SR.frz:∀ {ixs:List Nat} {ρ:Ev},SR K H0 Z0 σ H ρ pd->SR K H0 Z0 σ H (iZ ixs ρ) pd
 | [],ρ,s=>s
 | i::r,ρ,s=>by
  unfold iZ
  rw [List.foldl_cons]
  refine SR.frz (ixs:=r) ?_
  split
  . rename_i l e
    obtain ⟨v,_,h2⟩:=s.var e
    exact h2.pop
  . exact s
noncomputable def vy:Option Lc->Bool
 | some (.own _)=>false
 | _=>true
theorem Bs {j:Nat}:∀ {ixs:List Nat} {ρ:Ev},vy (ρ.vs[j]?).join=true->vy ((iZ ixs ρ).vs[j]?).join=true
 | [],ρ,h=>h
 | i::r,ρ,h=>by
  unfold iZ
  rw [List.foldl_cons]
  refine Bs (ixs:=r) ?_
  split
  . rename_i l e
    by_cases hij:i=j
    . subst hij
      have hi:=(List.getElem?_eq_some_iff.mp e).1
      show vy ((ρ.vs.set i _)[i]?).join=true
      rw [List.getElem?_set_self hi]
      rfl
    . show vy ((ρ.vs.set i _)[j]?).join=true
      rw [List.getElem?_set_ne hij]; exact h
  . exact h
theorem Jb {j:Nat}:∀ {ixs:List Nat} {ρ:Ev},j∈ixs->vy ((iZ ixs ρ).vs[j]?).join=true
 | [],ρ,h=>by cases h
 | i::r,ρ,h=>by
  unfold iZ
  rw [List.foldl_cons]
  rcases List.mem_cons.mp h with e | h
  . subst e
    refine Bs (ixs:=r) ?_
    split
    . rename_i l e
      have hi:=(List.getElem?_eq_some_iff.mp e).1
      show vy ((ρ.vs.set j _)[j]?).join=true
      rw [List.getElem?_set_self hi]
      rfl
    . rename_i hn
      cases q:ρ.vs[j]? with
      | none=>rfl
      | some o=>
       cases o with
       | none=>rfl
       | some l=>exact (hn l q).elim
  . exact Jb h
noncomputable def oY (m:Nat) (ixs:List Nat) (ρ:Ev):Ev:=⟨List.replicate m none++ixs.map fun i=>(ρ.vs[i]?).join,ρ.mu⟩
theorem SR.block {m:Nat} {ixs:List Nat} (s:SR K H0 Z0 σ H ρ pd) (hs:∀ j∈ixs,vy (ρ.vs[j]?).join=true):SR K H0 Z0 (tu m ixs σ) H (oY m ixs ρ) (nR σ ρ++pd):=by
 have hb:=s.both
 obtain ⟨el,Z,hg,z,so⟩:=s
 refine ⟨by simp [tu,oY],Z,hg,z,?_⟩
 have s3:=(yP hb).mp so
 have fin:Slots K H0 Z H ((ixs.map fun i=>(σ[i]?).join).zip (ixs.map fun i=>(ρ.vs[i]?).join)++(dg Z.g ρ.mu++(nR σ ρ++pd).map fun e=>(some e.1,some e.2)))->Slots K H0 Z H (sl Z.g (tu m ixs σ) (oY m ixs ρ) (nR σ ρ++pd)):=fun h=>by
  unfold sl tu oY
  rw [List.zip_append (by simp),List.append_assoc]
  refine (nones h m).perm ?_
  exact (zX _ _ _).trans ((zX _ _ _).append_left _)
 refine fin ?_
 clear fin
 induction ixs with
 | nil=>simpa using s3
 | cons i r ih=>
  have ih':=ih fun j hj=>hs j (List.mem_cons_of_mem _ hj)
  rw [List.map_cons,List.map_cons,List.zip_cons_cons,List.cons_append]
  have h1:=hs i List.mem_cons_self
  cases q:ρ.vs[i]? with
  | none=>
   refine ⟨fun e he=>?_,?_⟩
   . rcases List.mem_cons.mp he with rfl | he
     . trivial
     . exact ih'.1 e he
   . rw [List.filterMap_cons_none]
     . exact ih'.2
     . cases (σ[i]?).join with
       | none=>rfl
       | some x=>cases x<;>rfl
  | some o=>
   cases o with
   | none=>
    refine ⟨fun e he=>?_,?_⟩
    . rcases List.mem_cons.mp he with rfl | he
      . trivial
      . exact ih'.1 e he
    . rw [List.filterMap_cons_none]
      . exact ih'.2
      . cases (σ[i]?).join with
        | none=>rfl
        | some x=>cases x<;>rfl
   | some l=>
    rw [q] at h1
    cases l with
    | own p=>cases h1
    | sh p=>
     have hi:i<σ.length:=by rw [el]; exact (List.getElem?_eq_some_iff.mp q).1
     have hσ:σ[i]?=some σ[i]:=List.getElem?_eq_getElem hi
     have hm:=List.mem_of_getElem? (zip_get hσ q)
     obtain ⟨x,e1,e2⟩:=so.1 _ (List.mem_append_right _ (List.mem_append_left _ hm))
     have e1':σ[i]=some x:=e1
     have ej:(σ[i]?).join=some x:=by rw [hσ,e1']; rfl
     rw [ej]
     exact ih'.consS e2
end
theorem SR.pushO {v:V} {l:Lc} {a:Addr} {ws:List PV} (s:SR K H0 Z0 σ H ρ ((v,l)::(.ref a,.own (.lst ws))::pd)):
 ∃ us,H a=some (.lst us)/\us.length=ws.length/\SR K H0 Z0 σ (upd H a (.lst (us++[v]))) ρ ((.ref a,.own (.lst (ws++[l.pv])))::pd):=by
 obtain ⟨el,Z,hg,z,r,so⟩:=s.freeze.sh
 have so2:=so.perm cN.symm
 obtain ⟨b,eb,⟨us,hu,hr⟩,_⟩:=so2.1 _ List.mem_cons_self
 cases eb
 refine ⟨us,hu,hr.length,?_⟩
 obtain ⟨z',s'⟩:=so2.write (o:=.lst (us++[v])) (q:=.lst (ws++[l.pv])) z ⟨us++[v],bJ,hr.append (aF.cons r .nil)⟩
 exact .mk el hg z' s'
noncomputable def cI (b:BF) (tc:TF) (te:EF):List PV->Ev->List PV->Option (List PV×Mu)
 | [],ρ,acc=>some (acc,ρ.mu)
 | x::xs,ρ,acc=>(b x ρ).bind fun ρ1=>(tc ρ1).bind fun c=>if c.1=true then (te c.2).bind fun v=>if acc.length<100000 then cI b tc te xs v.2 (acc++[v.1.pv]) else none else cI b tc te xs c.2 acc
noncomputable def du (f:IF) (m:Nat) (ixs:List Nat) (b:BF) (tc:TF) (te:EF):EF:=fun ρ=>(f ρ).bind fun y=>(cI b tc te y.1 (oY m ixs (iZ ixs y.2)) []).map fun ys=>(.own (.lst ys.1),⟨(iZ ixs y.2).vs,ys.2⟩)
noncomputable def CW (K:FG) (H0:Hp) (Z0:ZG) (b:BF) (tc:TF) (te:EF) (p:Addr) (PD:Pd) (xs:List PV) (zs:List PV×Mu) (i n:Nat) (σ':L2.St) (H':Hp):Prop:=
 n=xs.length-i/\i<=xs.length/\∃ ρi ws,SR K H0 Z0 σ' H' ρi ((.ref p,.own (.lst ws))::PD)/\cI b tc te (xs.drop i) ρi ws=some zs
theorem Jc {g:TG} {b:BF} {tc:TF} {te:EF} (hb:GS K g b) {H0:Hp} {p:Addr} {PD:Pd} {J:It} {xs:List PV} {zs:List PV×Mu} {Q:VK}
 (it:∀ ws,nQ K H0 Z0 ((.ref p,.own (.lst ws))::PD) J xs) (fin:∀ σ' H' ρi ws,SR K H0 Z0 σ' H' ρi ((.ref p,.own (.lst ws))::PD)->cI b tc te [] ρi ws=some zs->Q (.ref p) H') (i n:Nat) (σ':L2.St) (H':Hp) (w:CW K H0 Z0 b tc te p PD xs zs i n σ' H'):
 (J.stop i H'/\Q (.ref p) H')\/(J.go i H'/\∀ x H2,J.yld i H' x H2->g x σ' H2 fun σ3 H3=>iM K tc σ3 H3 fun b' H4=>
   if b'=true then tP K te σ3 H4 fun v H5=>∃ ys,H5 p=some (.lst ys)/\ys.length<sizeLine/\∃ n',n'<n/\CW K H0 Z0 b tc te p PD xs zs (i+1) n' σ3 (upd H5 p (.lst (ys++[v])))
   else ∃ n',n'<n/\CW K H0 Z0 b tc te p PD xs zs (i+1) n' σ3 H4):=by
 refine xP fun G kG=>?_
 obtain ⟨rfl,hi,ρi,ws,s',h'⟩:=w
 obtain ⟨i1,i2⟩:=it ws σ' H' ρi i s'
 by_cases hlt:i<xs.length
 . obtain ⟨go,yl⟩:=i1 _ (List.getElem?_eq_getElem hlt)
   rw [List.drop_eq_getElem_cons hlt] at h'
   obtain ⟨ρ1,e1,e2⟩:=bind_some h'
   obtain ⟨c,e3,e4⟩:=bind_some e2
   have hn:xs.length-(i+1)<xs.length-i:=by omega
   refine kG (.inr ⟨go,fun x H2 hy=>hb H0 Z0 σ' H2 ρi _ x _ ρ1 _ (yl x H2 hy) e1 fun σ2 s5=>⟨H0,Z0,ρ1,_,c.1,c.2,s5,e3,fun H4 s6=>?_⟩⟩)
   dsimp only
   split
   . rename_i hc
     refine xP fun G kG=>?_
     rw [if_pos hc] at e4
     obtain ⟨v,e5,e6⟩:=bind_some e4
     split at e6
     . rename_i hz
       refine kG ⟨H0,Z0,c.2,_,v.1,v.2,s6,e5,fun vv H5 s7=>?_⟩
       refine xP fun G kG=>?_
       obtain ⟨us,hu,hl,s8⟩:=s7.pushO
       exact kG ⟨us,hu,by rw [hl,sizeLine_eq]; omega,_,hn,rfl,hlt,v.2,_,s8,e6⟩
     . cases e6
   . rename_i hc
     rw [if_neg hc] at e4
     exact ⟨_,hn,rfl,hlt,c.2,ws,s6,e4⟩
 . have e:i=xs.length:=Nat.le_antisymm hi (Nat.le_of_not_lt hlt)
   subst e
   rw [List.drop_length] at h'
   exact kG (.inl ⟨i2 rfl,fin _ _ _ _ s' h'⟩)
theorem Bt {f:IF} {m:Nat} {ixs:List Nat} {g:TG} {b:BF} {tc:TF} {te:EF} (hb:GS K g b):∀ σ H Q,tP K (du f m ixs b tc te) σ H Q->G4 (Bq K f) m ixs g (iM K tc) (tP K te) σ H Q:=fun σ H Q q=>by
 refine xP fun G kG=>?_
 obtain ⟨H0,Z0,ρ,pd,r,ρ',s,h,k⟩:=q
 obtain ⟨y,h1,h2⟩:=bind_some h
 obtain ⟨zs,h3,h4⟩:=map_some h2
 cases h4
 refine kG ⟨H0,Z0,ρ,pd,y.1,y.2,s,h1,fun J H1 pd' s1 it sub p hp=>?_⟩
 have s2:SR K H0 Z0 σ H1 (iZ ixs y.2) pd':=s1.frz
 have s3:=s2.block (m:=m) (ixs:=ixs) fun j hj=>Jb hj
 have s4:SR K H0 Z0 (tu m ixs σ) (upd H1 p (.lst [])) (oY m ixs (iZ ixs y.2)) ((.ref p,.own (.lst []))::(nR σ (iZ ixs y.2)++pd')):=s3.newO hp fun Z _ _=>⟨[],bJ,.nil⟩
 refine ⟨CW K H0 Z0 b tc te p (nR σ (iZ ixs y.2)++pd') y.1 zs,⟨_,rfl,Nat.zero_le _,_,[],s4,h3⟩,Jc hb (fun ws=>nQ.more (pe:=(.ref p,.own (.lst ws))::nR σ (iZ ixs y.2)) it) fun σ' H' ρi ws s' h'=>?_⟩
 cases h'
 have s5:SR K H0 Z0 σ' H' ρi (nR σ (iZ ixs y.2)++((.ref p,.own (.lst ws))::pd')):=s'.perm List.perm_middle
 exact k _ _ ((SR.back s2.1 s2.both s5).sub (sub.cons_cons _))
section
variable {X:Cx}
theorem lU (M F:List Str) (ixs:List Nat) {sc:Scope} {tg iter elt:Expr} {ifs:List Expr} {f:IF} {g:TG} {b:BF} {tc:TF} {te:EF} {pos:Pos} (hcalm:X.calm=true) (c:jc X M F ixs sc) (hi:PI X tg iter (Bq X.K f))
 (hg:∀ C fp s H,PG (fj X M F sc C fp s H) tg g) (hb:GS X.K g b) (hc:∀ C fp s H,tB (fj X M F sc C fp s H) ifs (iM X.K tc)) (he:∀ C fp s H,PE (fj X M F sc C fp s H) elt (tP X.K te))
 (hs:∀ x,foldedSetIterable iter X.env x=pure x:=by intro _; rfl):PE X (.ListComp elt [⟨tg,iter,ifs,0⟩] sc pos) (tP X.K (du f M.length ixs b tc te)):=PE.imp (Ph M F ixs hcalm c hi hg hc he hs) (Bt hb)
theorem uv {i:Nat} (M F:List Str) (ixs:List Nat) {x:Str} {sc:Scope} {tg iter elt:Expr} {ifs:List Expr} {f:IF} {g:TG} {b:BF} {tc:TF} {te:EF} {pos pos' pos2:Pos} (hN:X.N.Nodup) (hix:X.N[i]?=some x) (hx:X.env.scope.names.lookup x=some .local)
 (hcalm:X.calm=true) (c:jc X M F ixs sc) (hi:PI X tg iter (Bq X.K f))
 (hg:∀ C fp s H,PG (fj X M F sc C fp s H) tg g) (hb:GS X.K g b) (hc:∀ C fp s H,tB (fj X M F sc C fp s H) ifs (iM X.K tc)) (he:∀ C fp s H,PE (fj X M F sc C fp s H) elt (tP X.K te))
 (hsw:swapsWith (.ListComp elt [⟨tg,iter,ifs,0⟩] sc pos) (some (.Name x pos')) pos2.line X.env=pure true:=by rfl)
 (hs:∀ x,foldedSetIterable iter X.env x=pure x:=by intro _; rfl):PS X (.Assign [.Name x pos'] (.ListComp elt [⟨tg,iter,ifs,0⟩] sc pos) pos2) (gB X.K (aL i (du f M.length ixs b tc te))):=
 PS.imp (Pj M F ixs hN hix hx hcalm c hi hg hc he hsw hs) (Et fun D σ H q=>Bt hb σ H _ q)
noncomputable def bH:TF:=fun ρ=>some (true,ρ)
theorem eX:tB X [] (iM X.K bH):=fun pins s σ H Q I q=>K5 pins s σ H Q I (by
 obtain ⟨H0,Z0,ρ,pd,b,ρ',s,h,k⟩:=q
 cases h
 exact k H s)
end
noncomputable def oZ (f:PV->PV->Option Bool):List PV->List PV->Option Bool
 | p::ps,q::qs=>(f p q).bind fun b=>(oZ f ps qs).map fun c=>b&&c
 | _,_=>some true
noncomputable def dF:Nat->PV->PV->Option Bool
 | 0,_,_=>none
 | n+1,p,q=>match p,q with
  | .tup ps,.tup qs=>(oZ (dF n) ps qs).map fun b=>b&&(ps.length==qs.length)
  | .lst ps,.lst qs=>if ps.length=qs.length then oZ (dF n) ps qs else some false
  | .non,.non=>some true
  | .bl a,.bl b=>some (a==b)
  | .int a,.int b=>some (a==b)
  | .str a,.str b=>some (a==b)
  | .bl a,.int b=>some ((if a then 1 else 0)==b)
  | .int a,.bl b=>some (a==(if b then 1 else 0))
  | .non,.bl _=>some false
  | .non,.int _=>some false
  | .non,.str _=>some false
  | .non,.tup _=>some false
  | .non,.lst _=>some false
  | .bl _,.non=>some false
  | .bl _,.str _=>some false
  | .bl _,.tup _=>some false
  | .bl _,.lst _=>some false
  | .int _,.non=>some false
  | .int _,.str _=>some false
  | .int _,.tup _=>some false
  | .int _,.lst _=>some false
  | .str _,.non=>some false
  | .str _,.bl _=>some false
  | .str _,.int _=>some false
  | .str _,.tup _=>some false
  | .str _,.lst _=>some false
  | .tup _,.non=>some false
  | .tup _,.bl _=>some false
  | .tup _,.int _=>some false
  | .tup _,.str _=>some false
  | .tup _,.lst _=>some false
  | .lst _,.non=>some false
  | .lst _,.bl _=>some false
  | .lst _,.int _=>some false
  | .lst _,.str _=>some false
  | .lst _,.tup _=>some false
  | _,_=>none
theorem uw {f:PV->PV->Option Bool}:∀ {ps qs:List PV} {b:Bool},oZ f ps qs=some b->(∀ (j:Nat) p q,ps[j]?=some p->qs[j]?=some q->f p q=some ((f (ps.getD j .non) (qs.getD j .non)).getD false))/\
 b=(List.range (min ps.length qs.length)).all fun j=>(f (ps.getD j .non) (qs.getD j .non)).getD false
 | [],qs,b,h=>by
  cases h
  exact ⟨fun j p q e=>by simp at e,by simp⟩
 | p::ps,[],b,h=>by
  cases h
  exact ⟨fun j p q _ e=>by simp at e,by simp⟩
 | p::ps,q::qs,b,h=>by
  obtain ⟨c,h1,h2⟩:=bind_some h
  obtain ⟨d,h3,rfl⟩:=map_some h2
  obtain ⟨i1,i2⟩:=uw h3
  refine ⟨fun j p' q' e1 e2=>?_,?_⟩
  . cases j with
    | zero=>
     simp at e1 e2
     subst e1 e2
     simp [h1]
    | succ j=>
     have:=i1 j p' q' (by simpa using e1) (by simpa using e2)
     simpa using this
  . have e:min (p::ps).length (q::qs).length=min ps.length qs.length+1:=by simp only [List.length_cons]; omega
    rw [e,List.range_succ_eq_map,List.all_cons,List.all_map]
    have e0:(f ((p::ps).getD 0 .non) ((q::qs).getD 0 .non)).getD false=c:=by simp [h1]
    rw [e0,i2]
    rfl
theorem elts {Z:ZG} {ps:List PV} {vs:List V} {its:List Value} (r:aF K Z ps vs) (rv:Vals vs its) {j:Nat} (h:j<its.length):∃ p v,ps[j]?=some p/\Rep K Z p v/\RelV v its[j]:=by
 have hl:=rv.length
 have hv:vs[j]?=some vs[j]:=List.getElem?_eq_getElem (by omega)
 obtain ⟨u,e1,e2⟩:=rv.get hv
 rw [List.getElem?_eq_getElem h] at e1
 cases e1
 obtain ⟨p,e3,e4⟩:=r.getV hv
 exact ⟨p,vs[j],e3,e4,e2⟩
section
open PySem.SeqAt
variable {X:Cx} {pins:List (Addr×Obj)} {σ:L2.St} {H:Hp} {s:Shared} {g:List Addr}
theorem tG (I:Inv X pins σ H s) {ps:List PV} {v:V} {u:Value} (r:Rep X.K ⟨H,g⟩ (.tup ps) v) (ru:RelV v u):∃ a vs its,u=.ref a/\cB X.K H a vs/\aF X.K ⟨H,g⟩ ps vs/\Vals vs its/\s.heap.IsTuple a its.toArray:=by
 unfold Rep at r
 obtain ⟨a,vs,rfl,h1,h2⟩:=r
 obtain ⟨its,r1,t1,_⟩:=I.tuple h1
 exact ⟨a,vs,its,ru,h1,h2,r1,t1⟩
theorem tH (I:Inv X pins σ H s) {ps:List PV} {v:V} {u:Value} (r:Rep X.K ⟨H,g⟩ (.lst ps) v) (ru:RelV v u):∃ a vs its,u=.ref a/\bK X.K H a vs/\aF X.K ⟨H,g⟩ ps vs/\Vals vs its/\s.heap.IsList a its.toArray:=by
 unfold Rep at r
 obtain ⟨a,vs,rfl,h1,h2⟩:=r
 obtain ⟨its,r1,t1,_⟩:=I.list h1
 exact ⟨a,vs,its,ru,h1,h2,r1,t1.isList⟩
noncomputable def kn:PV->Nat
 | .non=>0 | .bl _=>1 | .int _=>2 | .str _=>3 | .tup _=>4 | .lst _=>5 | _=>6
theorem Vd {p:PV} (h:kn p=4):∃ ps,p=.tup ps:=by cases p<;>first | exact ⟨_,rfl⟩ | cases h
theorem Ve {p:PV} (h:kn p=5):∃ ps,p=.lst ps:=by cases p<;>first | exact ⟨_,rfl⟩ | cases h
theorem v7 {n:Nat} {p q:PV} {b:Bool} (h:dF (n+1) p q=some b):kn p<6:=by
 cases p<;>first | cases h; done | exact Nat.le.step (Nat.le.step (Nat.le.step (Nat.le.step (Nat.le.step .refl)))) | exact Nat.le.step (Nat.le.step (Nat.le.step (Nat.le.step .refl))) | exact Nat.le.step (Nat.le.step (Nat.le.step .refl)) | exact Nat.le.step (Nat.le.step .refl) | exact Nat.le.step .refl | exact Nat.le.refl
theorem Nu {n:Nat} {p q:PV} {b:Bool} (h:dF (n+1) p q=some b):kn q<6:=by
 have no:dF (n+1) p q=none->kn q<6:=fun e=>absurd (h.symm.trans e) (Option.some_ne_none b)
 cases q with
 | dk _ _=>exact no (by cases p<;>rfl)
 | dt _ _=>exact no (by cases p<;>rfl)
 | obj _ _ _=>exact no (by cases p<;>rfl)
 | df _ _=>exact no (by cases p<;>rfl)
 | dtf _ _=>exact no (by cases p<;>rfl)
 | dx _ _ _=>exact no (by cases p<;>rfl)
 | ptr _=>exact no (by cases p<;>rfl)
 | _=>first | exact Nat.le.step (Nat.le.step (Nat.le.step (Nat.le.step (Nat.le.step .refl)))) | exact Nat.le.step (Nat.le.step (Nat.le.step (Nat.le.step .refl))) | exact Nat.le.step (Nat.le.step (Nat.le.step .refl)) | exact Nat.le.step (Nat.le.step .refl) | exact Nat.le.step .refl | exact Nat.le.refl
noncomputable def back:V->Option PV
 | .non=>some .non | .bl b=>some (.bl b) | .int i=>some (.int i) | .str x=>some (.str x) | _=>none
inductive Sh (K:FG) (Z:ZG) (v:V):PV->Prop
 | at {p:PV}:back v=some p->Sh K Z v p
 | tup {a:Addr} {ps:List PV} {vs:List V}:v=.ref a->cB K Z.z a vs->aF K Z ps vs->Sh K Z v (.tup ps)
 | lst {a:Addr} {ps:List PV} {vs:List V}:v=.ref a->bK K Z.z a vs->aF K Z ps vs->Sh K Z v (.lst ps)
theorem zY {Z:ZG} {v:V} {p:PV} (r:Rep K Z p v) (h:kn p<6):Sh K Z v p:=by
 cases p with
 | non=>exact .at (congrArg back (jy r))
 | bl b=>exact .at (congrArg back (ji r))
 | int b=>exact .at (congrArg back (bG r))
 | str b=>exact .at (congrArg back (cG r))
 | tup ps=>unfold Rep at r; obtain ⟨a,vs,e,h1,h2⟩:=r; exact .tup e h1 h2
 | lst ps=>unfold Rep at r; obtain ⟨a,vs,e,h1,h2⟩:=r; exact .lst e h1 h2
 | _=>exact absurd h (Nat.lt_irrefl 6)
inductive Tw (K:FG) (Z:ZG):PV->PV->Prop
 | at {v:V} {p:PV}:back v=some p->Tw K Z p p
 | tup {ps qs:List PV} {vs:List V}:aF K Z ps vs->aF K Z qs vs->Tw K Z (.tup ps) (.tup qs)
 | lst {ps qs:List PV} {vs:List V}:aF K Z ps vs->aF K Z qs vs->Tw K Z (.lst ps) (.lst qs)
theorem Nv (I:Inv X pins σ H s) {a:Addr} {vs ws:List V} (h1:cB X.K H a vs) (h3:bK X.K H a ws):False:=by
 obtain ⟨its,r1,⟨o1,n1,g1,c1,_⟩,_⟩:=I.list h3
 obtain ⟨its2,r2,⟨o2,g2,c2,_⟩,_⟩:=I.tuple h1
 rw [g1] at g2
 cases g2
 rw [c1] at c2
 exact absurd c2 (by decide)
theorem rM {v:V} {a:Addr} {p:PV} (e:v=.ref a) (h:back v=some p):False:=by subst e; cases h
theorem Sh.two (I:Inv X pins σ H s) {p q:PV} {v:V} (h1:Sh X.K ⟨H,g⟩ v p) (h2:Sh X.K ⟨H,g⟩ v q):Tw X.K ⟨H,g⟩ p q:=by
 cases h1 with
 | «at» e=>
  cases h2 with
  | «at» e'=>exact (Option.some.inj (e.symm.trans e'))▸.at e
  | tup e'=>exact (rM e' e).elim
  | lst e'=>exact (rM e' e).elim
 | tup e k1 k2=>
  cases h2 with
  | «at» e'=>exact (rM e e').elim
  | tup e' m1 m2=>exact .tup k2 (I.tuple_inj k1 (V.ref.inj (e'.symm.trans e)▸m1)▸m2)
  | lst e' m1=>exact (Nv I k1 (V.ref.inj (e'.symm.trans e)▸m1)).elim
 | lst e k1 k2=>
  cases h2 with
  | «at» e'=>exact (rM e e').elim
  | tup e' m1=>exact (Nv I m1 (V.ref.inj (e.symm.trans e')▸k1)).elim
  | lst e' m1 m2=>exact .lst k2 (I.list_inj k1 (V.ref.inj (e'.symm.trans e)▸m1)▸m2)
theorem R7 {n:Nat} {v:V} {p:PV} {b:Bool} (e:back v=some p) (h:dF (n+1) p p=some b):b=true:=by
 cases v with
 | non=>cases e; cases h; rfl
 | bl z=>cases e; cases h; exact beq_self_eq_true z
 | int z=>cases e; cases h; exact beq_self_eq_true z
 | str z=>cases e; cases h; exact beq_self_eq_true z
 | _=>cases e
theorem tK {f:PV->PV->Option Bool} {Z:ZG} (ih:∀ (p q:PV) (v:V) (b:Bool),Rep K Z p v->Rep K Z q v->f p q=some b->b=true):∀ {ps qs:List PV} {vs:List V} {c:Bool},aF K Z ps vs->aF K Z qs vs->oZ f ps qs=some c->c=true
 | [],qs,vs,c,a,b,h=>by cases h; rfl
 | p::ps,[],vs,c,a,b,h=>by cases h; rfl
 | p::ps,q::qs,vs,c,a,b,h=>by
  obtain ⟨w1,r1,e1,e2,e3⟩:=a.inv
  obtain ⟨w2,r2,f1,f2,f3⟩:=b.inv
  obtain ⟨g1,g2⟩:=List.cons.inj (e1.symm.trans f1)
  subst g1 g2
  obtain ⟨c,h1,h2⟩:=bind_some h
  obtain ⟨d,h3,rfl⟩:=map_some h2
  rw [ih _ _ _ _ e2 f2 h1,tK ih e3 f3 h3]
  rfl
theorem rN {f:PV->PV->Option Bool} {Z:ZG} (ih:∀ (p q r:PV) (v:V) (b c:Bool),Rep K Z p v->Rep K Z q v->f p r=some b->f q r=some c->b=c):∀ {ps qs rs:List PV} {vs:List V} {b c:Bool},aF K Z ps vs->aF K Z qs vs->oZ f ps rs=some b->oZ f qs rs=some c->b=c
 | [],[],rs,vs,b,c,_,_,h,k=>Option.some.inj (h.symm.trans k)
 | [],q::qs,rs,vs,b,c,a,b',h,k=>by
  obtain ⟨_,_,e,_⟩:=b'.inv
  exact absurd (a.inv0.symm.trans e) (by simp)
 | p::ps,[],rs,vs,b,c,a,b',h,k=>by
  obtain ⟨_,_,e,_⟩:=a.inv
  exact absurd (b'.inv0.symm.trans e) (by simp)
 | p::ps,q::qs,[],vs,b,c,a,b',h,k=>Option.some.inj (h.symm.trans k)
 | p::ps,q::qs,r::rs,vs,b,c,a,b',h,k=>by
  obtain ⟨w1,r1,e1,e2,e3⟩:=a.inv
  obtain ⟨w2,r2,f1,f2,f3⟩:=b'.inv
  obtain ⟨g1,g2⟩:=List.cons.inj (e1.symm.trans f1)
  subst g1 g2
  obtain ⟨x1,h1,h2⟩:=bind_some h
  obtain ⟨d1,h3,rfl⟩:=map_some h2
  obtain ⟨x2,k1,k2⟩:=bind_some k
  obtain ⟨d2,k3,rfl⟩:=map_some k2
  rw [ih _ _ _ _ _ _ e2 f2 h1 k1,rN ih e3 f3 h3 k3]
theorem eq_self (I:Inv X pins σ H s):∀ (n:Nat) {p q:PV} {v:V} {b:Bool},Rep X.K ⟨H,g⟩ p v->Rep X.K ⟨H,g⟩ q v->dF n p q=some b->b=true
 | 0,p,q,v,b,_,_,h=>by cases h
 | n+1,p,q,v,b,rp,rq,h=>by
  cases Sh.two I (zY rp (v7 h)) (zY rq (Nu h)) with
  | «at» e=>exact R7 e h
  | tup h2 h4=>
   obtain ⟨c,h5,rfl⟩:=map_some h
   rw [tK (fun _ _ _ _=>eq_self I n) h2 h4 h5,h2.length.symm.trans h4.length,beq_self_eq_true]
   rfl
  | lst h2 h4=>exact tK (fun _ _ _ _=>eq_self I n) h2 h4 ((if_pos (h2.length.symm.trans h4.length)).symm.trans h)
inductive U (s:Shared):PV->Value->Prop
 | non:U s .non .none
 | bl {b:Bool}:U s (.bl b) (.bool b)
 | int {i:Int} {t}:U s (.int i) (.int i t)
 | str {x:Str} {t}:U s (.str x) (.str x t)
 | tup {ps:List PV} {a:Addr} {its}:s.heap.IsTuple a its->U s (.tup ps) (.ref a)
 | lst {ps:List PV} {a:Addr} {its}:s.heap.IsList a its->U s (.lst ps) (.ref a)
theorem R8 (I:Inv X pins σ H s) {p:PV} {v:V} {u:Value} (r:Rep X.K ⟨H,g⟩ p v) (ru:RelV v u) (h:kn p<6):U s p u:=by
 cases p with
 | non=>cases jy r; cases ru; exact .non
 | bl b=>cases ji r; cases ru; exact .bl
 | int b=>cases bG r; obtain ⟨t,rfl⟩:=ru; exact .int
 | str b=>cases cG r; obtain ⟨t,rfl⟩:=ru; exact .str
 | tup ps=>obtain ⟨a,vs,its,rfl,_,_,_,x⟩:=tG I r ru; exact .tup x
 | lst ps=>obtain ⟨a,vs,its,rfl,_,_,_,x⟩:=tH I r ru; exact .lst x
 | _=>exact absurd h (Nat.lt_irrefl 6)
noncomputable def E3 (A:Around) (s:Shared) (x y:Value) (b:Bool):Prop:=EqAt A s x y b/\RcAt A s x y b/\RcNeAt A s x y (!b)
theorem E3.of {A:Around} {s:Shared} {x y:Value} {b c:Bool} (h:some c=some b) (e:EqAt A s x y c) (r:RcAt A s x y c) (q:RcNeAt A s x y (!c)):E3 A s x y b:=Option.some.inj h▸⟨e,r,q⟩
noncomputable def two (p q:PV):Bool:=kn p==kn q&&Nat.ble 4 (kn p)
theorem PJ {A:Around} {p q:PV} {u1 u2:Value} {n:Nat} {b:Bool} (hu:A.units<cLine) (h1:U s p u1) (h2:U s q u2) (e:two p q=false) (h:dF (n+1) p q=some b):E3 A s u1 u2 b:=by
 cases h1 with
 | non=>
  cases h2 with
  | non=>exact E3.of h (EqAt.same .none) RcAt.none_none RcNeAt.none_none
  | bl=>exact E3.of h (EqAt.none_bool _) (RcAt.none_bool _) (RcNeAt.none_bool _)
  | int=>exact E3.of h (EqAt.none_int _ _) (RcAt.none_int _ _) (RcNeAt.none_int _ _)
  | str=>exact E3.of h (EqAt.none_str _ _) (RcAt.none_str _ _) (RcNeAt.none_str _ _)
  | tup x2=>exact E3.of h (EqAt.none_tuple x2 hu) (RcAt.none_tuple x2 hu) (RcNeAt.none_tuple x2 hu)
  | lst x2=>exact E3.of h (EqAt.none_list x2 hu) (RcAt.none_list x2 hu) (RcNeAt.none_list x2 hu)
 | bl=>
  cases h2 with
  | non=>exact E3.of h (EqAt.bool_none _) (RcAt.bool_none _) (RcNeAt.bool_none _)
  | bl=>exact E3.of h (EqAt.bool_bool _ _) (RcAt.bool_bool _ _) (RcNeAt.bool_bool _ _)
  | int=>exact E3.of h (EqAt.bool_int _ _ _) (RcAt.bool_int _ _ _) (RcNeAt.bool_int _ _ _)
  | str=>exact E3.of h (EqAt.bool_str _ _ _) (RcAt.bool_str _ _ _) (RcNeAt.bool_str _ _ _)
  | tup x2=>exact E3.of h (EqAt.bool_tuple _ x2 hu) (RcAt.bool_tuple _ x2 hu) (RcNeAt.bool_tuple _ x2 hu)
  | lst x2=>exact E3.of h (EqAt.bool_list _ x2 hu) (RcAt.bool_list _ x2 hu) (RcNeAt.bool_list _ x2 hu)
 | int=>
  cases h2 with
  | non=>exact E3.of h (EqAt.int_none _ _) (RcAt.int_none _ _) (RcNeAt.int_none _ _)
  | bl=>exact E3.of h (EqAt.int_bool _ _ _) (RcAt.int_bool _ _ _) (RcNeAt.int_bool _ _ _)
  | int=>exact E3.of h (EqAt.int_int _ _ _ _) (RcAt.int_int _ _ _ _) (RcNeAt.int_int _ _ _ _)
  | str=>exact E3.of h (EqAt.int_str _ _ _ _) (RcAt.int_str _ _ _ _) (RcNeAt.int_str _ _ _ _)
  | tup x2=>exact E3.of h (EqAt.int_tuple _ _ x2 hu) (RcAt.int_tuple _ _ x2 hu) (RcNeAt.int_tuple _ _ x2 hu)
  | lst x2=>exact E3.of h (EqAt.int_list _ _ x2 hu) (RcAt.int_list _ _ x2 hu) (RcNeAt.int_list _ _ x2 hu)
 | str=>
  cases h2 with
  | non=>exact E3.of h (EqAt.str_none _ _) (RcAt.str_none _ _) (RcNeAt.str_none _ _)
  | bl=>exact E3.of h (EqAt.str_bool _ _ _) (RcAt.str_bool _ _ _) (RcNeAt.str_bool _ _ _)
  | int=>exact E3.of h (EqAt.str_int _ _ _ _) (RcAt.str_int _ _ _ _) (RcNeAt.str_int _ _ _ _)
  | str=>exact E3.of h (EqAt.str_str _ _ _ _) (RcAt.str_str _ _ _ _) (RcNeAt.str_str _ _ _ _)
  | tup x2=>exact E3.of h (EqAt.str_tuple _ _ x2 hu) (RcAt.str_tuple _ _ x2 hu) (RcNeAt.str_tuple _ _ x2 hu)
  | lst x2=>exact E3.of h (EqAt.str_list _ _ x2 hu) (RcAt.str_list _ _ x2 hu) (RcNeAt.str_list _ _ x2 hu)
 | tup x1=>
  cases h2 with
  | non=>exact E3.of h (EqAt.tuple_none x1 hu) (RcAt.tuple_none x1 hu) (RcNeAt.tuple_none x1 hu)
  | bl=>exact E3.of h (EqAt.tuple_bool _ x1 hu) (RcAt.tuple_bool _ x1 hu) (RcNeAt.tuple_bool _ x1 hu)
  | int=>exact E3.of h (EqAt.tuple_int _ _ x1 hu) (RcAt.tuple_int _ _ x1 hu) (RcNeAt.tuple_int _ _ x1 hu)
  | str=>exact E3.of h (EqAt.tuple_str _ _ x1 hu) (RcAt.tuple_str _ _ x1 hu) (RcNeAt.tuple_str _ _ x1 hu)
  | tup x2=>cases e
  | lst x2=>exact E3.of h (EqAt.tuple_list x1 x2 hu) (RcAt.tuple_list x1 x2 hu) (RcNeAt.tuple_list x1 x2 hu)
 | lst x1=>
  cases h2 with
  | non=>exact E3.of h (EqAt.list_none x1 hu) (RcAt.list_none x1 hu) (RcNeAt.list_none x1 hu)
  | bl=>exact E3.of h (EqAt.list_bool _ x1 hu) (RcAt.list_bool _ x1 hu) (RcNeAt.list_bool _ x1 hu)
  | int=>exact E3.of h (EqAt.list_int _ _ x1 hu) (RcAt.list_int _ _ x1 hu) (RcNeAt.list_int _ _ x1 hu)
  | str=>exact E3.of h (EqAt.list_str _ _ x1 hu) (RcAt.list_str _ _ x1 hu) (RcNeAt.list_str _ _ x1 hu)
  | tup x2=>exact E3.of h (EqAt.list_tuple x1 x2 hu) (RcAt.list_tuple x1 x2 hu) (RcNeAt.list_tuple x1 x2 hu)
  | lst x2=>cases e
theorem rO {v:V} {a:Addr} (r:RelV v (.ref a)):v=.ref a:=by
 cases v with
 | ref b=>cases r; rfl
 | non=>cases r
 | bl _=>cases r
 | ty _=>cases r
 | _=>obtain ⟨t,e⟩:=r; cases e
theorem Bu (I:Inv X pins σ H s) {n:Nat} {p q:PV} {a1 a2:Addr} {b:Bool} {A:Around} (rp:Rep X.K ⟨H,g⟩ p (.ref a1)) (rq:Rep X.K ⟨H,g⟩ q (.ref a2)) (h:dF n p q=some b) (rc:RcAt A s (.ref a1) (.ref a2) b):EqAt A s (.ref a1) (.ref a2) b:=by
 by_cases ea:a1=a2
 . subst ea
   exact eq_self I n rp rq h▸EqAt.same _
 . exact EqAt.of_refs ea rc
theorem zZ (I:Inv X pins σ H s):∀ (n:Nat) {p q:PV} {v w:V} {u1 u2:Value} {b:Bool},Rep X.K ⟨H,g⟩ p v->Rep X.K ⟨H,g⟩ q w->RelV v u1->RelV w u2->dF n p q=some b->∀ A:Around,A.units+n<cLine->
 EqAt A s u1 u2 b/\RcAt A s u1 u2 b/\RcNeAt A s u1 u2 (!b)
 | 0,p,q,v,w,u1,u2,b,_,_,_,_,h,_,_=>by cases h
 | n+1,p,q,v,w,u1,u2,b,rp,rq,r1,r2,h,A,hA=>by
  have hu:A.units<cLine:=Nat.lt_of_le_of_lt (Nat.le_add_right _ _) hA
  have hin:A.in1.units+n<cLine:=by show A.units+1+n<cLine; omega
  have item:∀ {ps qs:List PV} {vs ws:List V} {its its2:List Value} {c:Bool},aF X.K ⟨H,g⟩ ps vs->Vals vs its->aF X.K ⟨H,g⟩ qs ws->Vals ws its2->oZ (dF n) ps qs=some c->
   ∀ j (h1:j<its.toArray.size) (h2:j<its2.toArray.size),EqAt A.in1 s its.toArray[j] its2.toArray[j] ((dF n (ps.getD j .non) (qs.getD j .non)).getD false):=fun {ps qs vs ws its its2 c} a b c' d e j h1 h2=>by
   obtain ⟨p,v,e1,e2,e3⟩:=elts a b (j:=j) (by simpa using h1)
   obtain ⟨q,w,f1,f2,f3⟩:=elts c' d (j:=j) (by simpa using h2)
   have:=(uw e).1 j p q e1 f1
   exact (zZ I n e2 f2 e3 f3 this A.in1 hin).1
  cases e:two p q with
  | false=>exact PJ hu (R8 I rp r1 (v7 h)) (R8 I rq r2 (Nu h)) e h
  | true=>
   have e':kn p=kn q/\4<=kn p:=by unfold two at e; simpa using e
   have hk:=v7 h
   rcases (by omega:kn p=4\/kn p=5) with hp | hp
   . obtain ⟨ps,rfl⟩:=Vd hp
     obtain ⟨qs,rfl⟩:=Vd (e'.1.symm.trans hp)
     clear e e' hk hp
     obtain ⟨a1,vs1,its1,rfl,q1,l1,rv1,x1⟩:=tG I rp r1
     obtain ⟨a2,vs2,its2,rfl,q2,l2,rv2,x2⟩:=tG I rq r2
     have e1:=rO r1
     have e2:=rO r2
     subst e1 e2
     obtain ⟨c,h5,rfl⟩:=map_some h
     have it:=item l1 rv1 l2 rv2 h5
     have z1:its1.toArray.size=ps.length:=by rw [List.size_toArray,← rv1.length,l1.length]
     have z2:its2.toArray.size=qs.length:=by rw [List.size_toArray,← rv2.length,l2.length]
     have rc:=RcAt.tuples x1 x2 hu it
     have rn:=RcNeAt.tuples x1 x2 hu it
     rw [z1,z2,← (uw h5).2] at rc rn
     exact ⟨Bu I rp rq h rc,rc,rn⟩
   . obtain ⟨ps,rfl⟩:=Ve hp
     obtain ⟨qs,rfl⟩:=Ve (e'.1.symm.trans hp)
     clear e e' hk hp
     obtain ⟨a1,vs1,its1,rfl,q1,l1,rv1,x1⟩:=tH I rp r1
     obtain ⟨a2,vs2,its2,rfl,q2,l2,rv2,x2⟩:=tH I rq r2
     have e1:=rO r1
     have e2:=rO r2
     subst e1 e2
     have z1:its1.toArray.size=ps.length:=by rw [List.size_toArray,← rv1.length,l1.length]
     have z2:its2.toArray.size=qs.length:=by rw [List.size_toArray,← rv2.length,l2.length]
     by_cases hl:ps.length=qs.length
     . have h':=(if_pos hl).symm.trans h
       have it:=item l1 rv1 l2 rv2 h'
       have hz:=(z1.trans hl).trans z2.symm
       have rc:=RcAt.lists x1 x2 hz hu it
       have rn:=RcNeAt.lists x1 x2 hz hu it
       rw [z1,← (show min ps.length qs.length=ps.length by rw [← hl,Nat.min_self]),← (uw h').2] at rc rn
       exact ⟨Bu I rp rq h rc,rc,rn⟩
     . have h':=Option.some.inj ((if_neg hl).symm.trans h)
       subst h'
       have hz:(its1.toArray.size != its2.toArray.size)=true:=by rw [z1,z2]; exact bne_iff_ne.mpr hl
       have rc:=RcAt.lists_lengths x1 x2 hz hu
       exact ⟨Bu I rp rq h rc,rc,RcNeAt.lists_lengths x1 x2 hz hu⟩
end
section
open PySem.SeqAt
variable {X:Cx} {pins:List (Addr×Obj)} {σ:L2.St} {H:Hp} {s:Shared} {g:List Addr}
theorem Ew {n:Nat} {ps:List PV} {r:PV} {b:Bool} (h:dF (n+1) (.tup ps) r=some b):b=false\/∃ rs,r=.tup rs:=by
 cases r with
 | tup rs=>exact .inr ⟨rs,rfl⟩
 | _=>cases h<;>exact .inl rfl
theorem Ex {n:Nat} {ps:List PV} {r:PV} {b:Bool} (h:dF (n+1) (.lst ps) r=some b):b=false\/∃ rs,r=.lst rs:=by
 cases r with
 | lst rs=>exact .inr ⟨rs,rfl⟩
 | _=>cases h<;>exact .inl rfl
theorem wg (I:Inv X pins σ H s):∀ (n:Nat) {p q r:PV} {v:V} {b c:Bool},Rep X.K ⟨H,g⟩ p v->Rep X.K ⟨H,g⟩ q v->dF n p r=some b->dF n q r=some c->b=c
 | 0,p,q,r,v,b,c,_,_,h,_=>by cases h
 | n+1,p,q,r,v,b,c,rp,rq,h,k=>by
  cases Sh.two I (zY rp (v7 h)) (zY rq (v7 k)) with
  | «at» e=>exact Option.some.inj (h.symm.trans k)
  | @tup ps qs _ h2 h4=>
   have el:ps.length=qs.length:=h2.length.symm.trans h4.length
   rcases Ew h with rfl | ⟨rs,rfl⟩
   . rcases Ew k with rfl | ⟨rs,rfl⟩
     . rfl
     . obtain ⟨c1,h5,e1⟩:=map_some h
       obtain ⟨c2,k5,rfl⟩:=map_some k
       rw [← rN (f:=dF n) (fun _ _ _ _ _ _=>wg I n) h2 h4 h5 k5,← el,e1]
   . obtain ⟨c1,h5,rfl⟩:=map_some h
     obtain ⟨c2,k5,rfl⟩:=map_some k
     rw [rN (f:=dF n) (fun _ _ _ _ _ _=>wg I n) h2 h4 h5 k5,el]
  | @lst ps qs _ h2 h4=>
   have el:ps.length=qs.length:=h2.length.symm.trans h4.length
   have main:∀ rs,r=.lst rs->b=c:=fun rs e=>by
    subst e
    by_cases hl:qs.length=rs.length
    . exact rN (f:=dF n) (fun _ _ _ _ _ _=>wg I n) h2 h4 ((if_pos (el.trans hl)).symm.trans h) ((if_pos hl).symm.trans k)
    . exact Option.some.inj ((((if_neg fun e=>hl (el.symm.trans e)).symm.trans h).symm.trans ((if_neg hl).symm.trans k)))
   rcases Ex h with e1 | ⟨rs,e⟩
   . rcases Ex k with e2 | ⟨rs,e⟩
     . exact e1.trans e2.symm
     . exact main rs e
   . exact main rs e
noncomputable def xQ (f:PV->PV->Option Bool) (x:PV):List PV->Option Bool
 | []=>some false
 | q::qs=>(f q x).bind fun b=>(xQ f x qs).map fun c=>b||c
theorem Ey {f:PV->PV->Option Bool} {x:PV}:∀ {qs:List PV} {b:Bool},xQ f x qs=some b->(∀ q∈qs,∃ c,f q x=some c)/\b=qs.any fun q=>(f q x).getD false
 | [],b,h=>by cases h; exact ⟨fun q hq=>by simp at hq,rfl⟩
 | q::qs,b,h=>by
  obtain ⟨c,h1,h2⟩:=bind_some h
  obtain ⟨d,h3,rfl⟩:=map_some h2
  obtain ⟨i1,i2⟩:=Ey h3
  refine ⟨fun q' hq=>?_,?_⟩
  . rcases List.mem_cons.mp hq with rfl | hq
    . exact ⟨c,h1⟩
    . exact i1 q' hq
  . rw [List.any_cons,h1,Option.getD_some,← i2]
open Classical in
noncomputable def worth (K:FG) (Z:ZG) (x:PV) (qs:List PV) (vs:List V) (its:List Value) (u:Value):Bool:=
 if h:∃ (j:Nat) (q:PV),qs[j]?=some q/\its[j]?=some u then (dF 150 h.choose_spec.choose x).getD false else false
theorem Bv (I:Inv X pins σ H s) {x:PV} {xv:V} {xu:Value} {qs:List PV} {vs:List V} {its:List Value} (r:aF X.K ⟨H,g⟩ qs vs) (rv:Vals vs its) (hx:∀ q∈qs,∃ c,dF 150 q x=some c) {j:Nat} {q:PV} {u:Value} (e1:qs[j]?=some q) (e2:its[j]?=some u):
 worth X.K ⟨H,g⟩ x qs vs its u=(dF 150 q x).getD false:=by
 have h:∃ (j:Nat) (q:PV),qs[j]?=some q/\its[j]?=some u:=⟨j,q,e1,e2⟩
 unfold worth
 rw [dif_pos h]
 obtain ⟨f1,f2⟩:=h.choose_spec.choose_spec
 generalize h.choose_spec.choose=q' at f1 f2
 generalize h.choose=j' at f1 f2
 obtain ⟨v1,g1,g2⟩:=r.get e1
 obtain ⟨v2,k1,k2⟩:=r.get f1
 obtain ⟨u1,m1,m2⟩:=rv.get g1
 obtain ⟨u2,n1,n2⟩:=rv.get k1
 rw [e2] at m1; cases m1
 rw [f2] at n1; cases n1
 have ev:=RelV.inj m2 n2
 subst ev
 obtain ⟨c1,h1⟩:=hx q (List.mem_of_getElem? e1)
 obtain ⟨c2,h2⟩:=hx q' (List.mem_of_getElem? f1)
 rw [h1,h2,wg I 150 k2 g2 h2 h1]
theorem Bw (I:Inv X pins σ H s) {x:PV} {xv:V} {xu:Value} {qs:List PV} {vs:List V} {its:List Value} (rx:Rep X.K ⟨H,g⟩ x xv) (ru:RelV xv xu) (r:aF X.K ⟨H,g⟩ qs vs) (rv:Vals vs its) (hx:∀ q∈qs,∃ c,dF 150 q x=some c) {A:Around} (hA:A.units+150<cLine):
 ∀ u,u∈its.toArray->EqAt A s u xu (worth X.K ⟨H,g⟩ x qs vs its u):=fun u hu=>by
 have hu':u∈its:=by simpa using hu
 obtain ⟨j,hj,e⟩:=List.getElem_of_mem hu'
 have e2:its[j]?=some u:=by rw [List.getElem?_eq_getElem hj,e]
 have hl:=rv.length
 have hlr:=r.length
 have e1:qs[j]?=some (qs[j]'(by omega)):=List.getElem?_eq_getElem _
 rw [Bv (xv:=xv) (xu:=xu) I r rv hx e1 e2]
 obtain ⟨v1,g1,g2⟩:=r.get e1
 obtain ⟨u1,m1,m2⟩:=rv.get g1
 rw [e2] at m1; cases m1
 obtain ⟨c1,h1⟩:=hx _ (List.mem_of_getElem? e1)
 rw [h1]
 exact (zZ I 150 g2 rx m2 ru h1 A hA).1
theorem yQ (I:Inv X pins σ H s) {x:PV} {xv:V} {xu:Value} {qs:List PV} {vs:List V} {its:List Value} (r:aF X.K ⟨H,g⟩ qs vs) (rv:Vals vs its) (hx:∀ q∈qs,∃ c,dF 150 q x=some c):
 its.toArray.any (worth X.K ⟨H,g⟩ x qs vs its)=qs.any fun q=>(dF 150 q x).getD false:=by
 have hl:its.length=qs.length:=by rw [← rv.length,r.length]
 have key:its.map (worth X.K ⟨H,g⟩ x qs vs its)=qs.map fun q=>(dF 150 q x).getD false:=by
  apply List.ext_getElem?
  intro j
  rw [List.getElem?_map,List.getElem?_map]
  by_cases hj:j<its.length
  . have e2:=List.getElem?_eq_getElem hj
    have e1:qs[j]?=some (qs[j]'(by omega)):=List.getElem?_eq_getElem _
    rw [e2,e1,Option.map_some,Option.map_some,Bv (xv:=xv) (xu:=xu) I r rv hx e1 e2]
  . rw [List.getElem?_eq_none (by omega),List.getElem?_eq_none (by omega)]
    rfl
 rw [show its.toArray.any (worth X.K ⟨H,g⟩ x qs vs its)=its.any (worth X.K ⟨H,g⟩ x qs vs its) by simp]
 have a1:its.any (worth X.K ⟨H,g⟩ x qs vs its)=(its.map (worth X.K ⟨H,g⟩ x qs vs its)).any id:=by simp [List.any_map]
 have a2:(qs.any fun q=>(dF 150 q x).getD false)=(qs.map fun q=>(dF 150 q x).getD false).any id:=by simp [List.any_map]
 rw [a1,a2,key]
end
section
variable {X:Cx}
theorem SR.rep2 {v w:V} {p q:PV} (h:SR K H0 Z0 σ H ρ ((w,.sh q)::(v,.sh p)::pd)):∃ Z:ZG,dC Z.z H/\Rep K Z p v/\Rep K Z q w:=by
 obtain ⟨_,Z,_,z,r,s⟩:=h.sh
 obtain ⟨x,e1,e2⟩:=(s.perm cN.symm).1 _ List.mem_cons_self
 cases e1
 exact ⟨Z,z.zh,e2,r⟩
theorem SR.rep2H {v w:V} {p q:PV} (h:SR K H0 Z0 σ H ρ ((w,.sh q)::(v,.sh p)::pd)):∃ g,Rep K ⟨H,g⟩ p v/\Rep K ⟨H,g⟩ q w:=by
 obtain ⟨Z,z,a,b⟩:=h.rep2
 exact ⟨Z.g,a.mono (Z':=⟨H,Z.g⟩) ⟨z,List.prefix_refl _⟩,b.mono (Z':=⟨H,Z.g⟩) ⟨z,List.prefix_refl _⟩⟩
noncomputable def Ha (K:FG) (neg:Bool):R2:=fun x y H Q=>∃ g p q b,Rep K ⟨H,g⟩ p x/\Rep K ⟨H,g⟩ q y/\dF 150 p q=some b/\Q (.bl (if neg then !b else b)) H
theorem eF {k:Nat} (hr:dW k X.A):iJ X (compareOp .Eq) (Ha X.K false):=by
 intro pins s σ H x y v u Q I rx ry h
 obtain ⟨g,p,q,b,rp,rq,e,k'⟩:=h
 have hA:X.A.units+150<cLine:=by have:=hr.un; omega
 obtain ⟨_,rc,_⟩:=zZ I 150 rp rq rx ry e X.A hA
 exact rc _ _ _ _ ⟨.bl b,H,I,rfl,k'⟩
theorem Bx {k:Nat} (hr:dW k X.A):iJ X (compareOp .NotEq) (Ha X.K true):=by
 intro pins s σ H x y v u Q I rx ry h
 obtain ⟨g,p,q,b,rp,rq,e,k'⟩:=h
 have hA:X.A.units+150<cLine:=by have:=hr.un; omega
 obtain ⟨_,_,rn⟩:=zZ I 150 rp rq rx ry e X.A hA
 exact rn _ _ _ _ ⟨.bl (!b),H,I,rfl,k'⟩
noncomputable def eqP (p q:PV):Option Lc:=(dF 150 p q).map fun b=>.sh (.bl b)
noncomputable def wj (p q:PV):Option Lc:=(dF 150 p q).map fun b=>.sh (.bl (!b))
theorem eG:lR K (Ha K false) eqP:=by
 intro H0 Z0 σ ρ pd H v w x y l Q s e k
 obtain ⟨b,e1,rfl⟩:=map_some e
 obtain ⟨g,r1,r2⟩:=s.rep2H
 exact ⟨g,x,y,b,r1,r2,e1,k _ H (s.pop.pop.scal ju)⟩
theorem By:lR K (Ha K true) wj:=by
 intro H0 Z0 σ ρ pd H v w x y l Q s e k
 obtain ⟨b,e1,rfl⟩:=map_some e
 obtain ⟨g,r1,r2⟩:=s.rep2H
 exact ⟨g,x,y,b,r1,r2,e1,k _ H (s.pop.pop.scal ju)⟩
noncomputable def Lk (K:FG) (neg:Bool):R2:=fun x y H Q=>(∃ g p qs b,Rep K ⟨H,g⟩ p x/\(Rep K ⟨H,g⟩ (.lst qs) y\/Rep K ⟨H,g⟩ (.tup qs) y)/\xQ (dF 150) p qs=some b/\Q (.bl (if neg then !b else b)) H)\/
 ∃ i j,x=.str i/\y=.str j/\Q (.bl (if neg then (Builtin.Str.occurrences j i 0 j.length 1).isEmpty else !(Builtin.Str.occurrences j i 0 j.length 1).isEmpty)) H
theorem ph {k:Nat} (hr:dW k X.A):iJ X (compareOp .In) (Lk X.K false):=by
 intro pins s σ H x y v u Q I rx ry h
 have hA:X.A.in1.units+150<cLine:=by have:=hr.un; show X.A.units+1+150<cLine; omega
 rcases h with ⟨g,p,qs,b,rp,rq,e,k'⟩ | ⟨i,j,rfl,rfl,k'⟩
 . obtain ⟨i1,i2⟩:=Ey e
   rcases rq with rq | rq
   . obtain ⟨a,vs,its,rfl,q1,l1,rv1,t1⟩:=tH I rq ry
     refine SeqAt.in_listAt (worth X.K ⟨H,g⟩ p qs vs its) t1 (Bw I rp rx l1 rv1 i1 hA) ⟨.bl b,H,I,?_,k'⟩
     rw [yQ (xv:=x) (xu:=v) I l1 rv1 i1,← i2]
     rfl
   . obtain ⟨a,vs,its,rfl,q1,l1,rv1,t1⟩:=tG I rq ry
     refine SeqAt.in_tupleAt (worth X.K ⟨H,g⟩ p qs vs its) t1 (Bw I rp rx l1 rv1 i1 hA) ⟨.bl b,H,I,?_,k'⟩
     rw [yQ (xv:=x) (xu:=v) I l1 rv1 i1,← i2]
     rfl
 . exact HF pins s σ H (.str i) (.str j) v u Q I rx ry ⟨i,j,rfl,rfl,k'⟩
noncomputable def isIn (x y:PV):Option Bool:=match y with
 | .lst qs=>xQ (dF 150) x qs
 | .tup qs=>xQ (dF 150) x qs
 | .str j=>match x with
  | .str i=>some (!(Builtin.Str.occurrences j i 0 j.length 1).isEmpty)
  | _=>none
 | _=>none
noncomputable def lH (p q:PV):Option Lc:=(isIn p q).map fun b=>.sh (.bl b)
theorem R9 {neg:Bool}:lR K (Lk K neg) (fun p q=>(isIn p q).map fun b=>.sh (.bl (if neg then !b else b))):=by
 intro H0 Z0 σ ρ pd H v w x y l Q s e k
 obtain ⟨b,e1,rfl⟩:=map_some e
 obtain ⟨g,r1,r2⟩:=s.rep2H
 cases y with
 | lst qs=>exact .inl ⟨g,x,qs,b,r1,.inl r2,e1,k _ H (s.pop.pop.scal ju)⟩
 | tup qs=>exact .inl ⟨g,x,qs,b,r1,.inr r2,e1,k _ H (s.pop.pop.scal ju)⟩
 | str j=>
  cases x with
  | str i=>
   have e1':=Option.some.inj e1
   subst e1'
   refine .inr ⟨i,j,cG r1,cG r2,?_⟩
   have:=k (.bl (if neg then (Builtin.Str.occurrences j i 0 j.length 1).isEmpty else !(Builtin.Str.occurrences j i 0 j.length 1).isEmpty)) H
   refine this (s.pop.pop.scal fun Z=>?_)
   cases neg<;>simp [Rep]
  | _=>cases e1
 | _=>cases e1
theorem mO:lR K (Lk K false) lH:=R9
noncomputable def BJ:=uY (fun _ _=>true) fun i j=>.bl (decide (i<j))
noncomputable def iw:=uY (fun _ _=>true) fun i j=>.bl (decide (j<i))
theorem Jd:lR K (sV fun i j=>.bl (decide (i<j))) BJ:=Bl fun _ _ _=>ju _
theorem kE:lR K (sV fun i j=>.bl (decide (j<i))) iw:=Bl fun _ _ _=>ju _
noncomputable def Ln:=uY (fun _ _=>true) fun i j=>.int (i-j)
noncomputable def aO:=uY (fun _ j=>decide (0<j)) fun i j=>.int (i%j)
noncomputable def aZ:=uY (fun _ j=>decide (0<j/\j<1073741824)) fun i j=>.int (i/j)
noncomputable def fL:=uY (fun i j=>decide ((-(2 ^ 64)<i/\i<2 ^ 64)\/(-(2 ^ 64)<j/\j<2 ^ 64))) fun i j=>.int (i*j)
noncomputable def Lp:=uY (fun i j=>decide (0<=j/\j<=1000000/\i.natAbs<2 ^ 64)) fun i j=>.int (i ^ j.toNat)
theorem PK:lR K (sV fun i j=>.int (i-j)) Ln:=Bl fun _ _ _=>fU _
theorem aX:lR K (rI (fun _ j=>0<j) fun i j=>.int (i%j)) aO:=zW (fun _ _ h=>of_decide_eq_true h) fun _ _ _=>fU _
theorem cg:lR K (rI Rg fun i j=>.int (i/j)) aZ:=zW (fun i j h=>(of_decide_eq_true h:0<j/\j<1073741824)) fun _ _ _=>fU _
theorem jA:lR K (rI Gw fun i j=>.int (i*j)) fL:=zW (fun i j h=>(of_decide_eq_true h:(-(2 ^ 64)<i/\i<2 ^ 64)\/(-(2 ^ 64)<j/\j<2 ^ 64))) fun _ _ _=>fU _
theorem PN:lR K (rI Rh fun i j=>.int (i ^ j.toNat)) Lp:=zW (fun i j h=>(of_decide_eq_true h:0<=j/\j<=1000000/\i.natAbs<2 ^ 64)) fun _ _ _=>fU _
noncomputable def KC (K:FG):R2:=fun x y H Q=>sV (fun i j=>.int (i+j)) x y H Q\/(∃ i j,x=.str i/\y=.str j/\i.length+j.length<=sizeLine/\Q (.str (i++j)) H)\/
 (∃ a b xs ys,x=.ref a/\y=.ref b/\bK K H a xs/\bK K H b ys/\xs.length+ys.length<=sizeLine/\∀ p,H p=none->Q (.ref p) (upd H p (.lst (xs++ys))))\/Nh K x y H Q
theorem bN:iJ X (binaryOp .Add) (KC X.K):=Ri.or (Gy.or (Pk.or O7))
noncomputable def aY:PV->PV->Option Lc
 | .int i,.int j=>some (.sh (.int (i+j)))
 | .str i,.str j=>if i.length+j.length<=100000 then some (.sh (.str (i++j))) else none
 | .lst ps,.lst qs=>if ps.length+qs.length<=100000 then some (.own (.lst (ps++qs))) else none
 | .tup (p::ps),.tup qs=>if ps.length+qs.length<=10000 then some (.sh (.tup (p::ps++qs))) else none
 | _,_=>none
theorem mQ {α:Type} {c:Prop} [Decidable c] {a b:α} (e:(if c then some a else none)=some b):c/\a=b:=by
 split at e
 . rename_i h
   exact ⟨h,Option.some.inj e⟩
 . cases e
theorem PP {x y:PV} {l:Lc} (e:aY x y=some l):(∃ i j,x=.int i/\y=.int j/\l=.sh (.int (i+j)))\/(∃ i j,x=.str i/\y=.str j/\i.length+j.length<=100000/\l=.sh (.str (i++j)))
 \/ (∃ ps qs,x=.lst ps/\y=.lst qs/\ps.length+qs.length<=100000/\l=.own (.lst (ps++qs)))\/∃ p ps qs,x=.tup (p::ps)/\y=.tup qs/\ps.length+qs.length<=10000/\l=.sh (.tup (p::ps++qs)):=by
 unfold aY at e
 split at e
 . cases e
   exact .inl ⟨_,_,rfl,rfl,rfl⟩
 . obtain ⟨h,e⟩:=mQ e
   exact .inr (.inl ⟨_,_,rfl,rfl,h,e.symm⟩)
 . obtain ⟨h,e⟩:=mQ e
   exact .inr (.inr (.inl ⟨_,_,rfl,rfl,h,e.symm⟩))
 . obtain ⟨h,e⟩:=mQ e
   exact .inr (.inr (.inr ⟨_,_,_,rfl,rfl,h,e.symm⟩))
 . cases e
theorem bO:lR K (KC K) aY:=by
 intro H0 Z0 σ ρ pd H v w x y l Q s e k
 obtain ⟨g,r1,r2⟩:=s.rep2H
 rcases PP e with ⟨i,j,rfl,rfl,rfl⟩ | ⟨i,j,rfl,rfl,hl,rfl⟩ | ⟨ps,qs,rfl,rfl,hl,rfl⟩ | ⟨p,ps,qs,rfl,rfl,hl,rfl⟩
 . exact .inl ⟨i,j,bG r1,bG r2,k _ H (s.pop.pop.scal fU)⟩
 . exact .inr (.inl ⟨i,j,cG r1,cG r2,small hl,k _ H (s.pop.pop.scal lG)⟩)
 . obtain ⟨el,Z,hg,z,rq,s1⟩:=s.sh
   have s2:=s1.perm cN.symm
   obtain ⟨_,e1,rp⟩:=s2.1 _ List.mem_cons_self
   cases e1
   unfold Rep at rp rq
   obtain ⟨a,xs,rfl,h1,h2⟩:=rp
   obtain ⟨b,ys,rfl,h3,h4⟩:=rq
   refine .inr (.inr (.inl ⟨a,b,xs,ys,rfl,rfl,bK.same z.zh h1,bK.same z.zh h3,by rw [h2.length,h4.length]; exact small hl,fun p hp=>k _ _ ?_⟩))
   obtain ⟨z',s'⟩:=(s2.sub (List.sublist_cons_self _ _)).new (o:=.lst (xs++ys)) (p:=.lst (ps++qs)) z hp ⟨xs++ys,bJ,h2.append h4⟩
   exact .mk el hg z' s'
 . obtain ⟨el,Z,hg,z,rq,s1⟩:=s.sh
   have s2:=s1.perm cN.symm
   obtain ⟨_,e1,rp⟩:=s2.1 _ List.mem_cons_self
   cases e1
   unfold Rep at rp rq
   obtain ⟨a,xs,rfl,h1,h2⟩:=rp
   obtain ⟨b,ys,rfl,h3,h4⟩:=rq
   have hx:xs≠[]:=fun h=>by have:=h2.length; rw [h] at this; simp at this
   have hz:=h2.length
   have hz':=h4.length
   rw [List.length_cons] at hz
   refine .inr (.inr (.inr ⟨a,b,xs,ys,rfl,rfl,cB.same z.zh h1,cB.same z.zh h3,hx,small (by omega),fun h=>?_,fun h q hq=>?_⟩))
   . subst h
     have:qs=[]:=List.eq_nil_of_length_eq_zero hz'.symm
     subst this
     rw [List.append_nil] at k
     exact k _ H s.pop
   . have s3:=s2.sub (List.sublist_cons_self _ _)
     obtain ⟨z',sz,s'⟩:=s3.newF (o:=.tup (xs++ys)) z hq
     refine k _ _ (.mk (Z:=Z.put q (.tup (xs++ys))) el hg z' (s'.consS ?_))
     unfold Rep
     exact ⟨q,xs++ys,rfl,cB.of bJ,(h2.append h4).mono sz⟩
noncomputable def nM:PV->PV->Option Lc
 | .lst ps,.int i=>(fW ps i).map .sh
 | .tup ps,.int i=>(fW ps i).map .sh
 | .str x,.int i=>if x.length<=100000 then (fW x.cps.toList i).map fun c=>.sh (.str ⟨#[c]⟩) else none
 | _,_=>none
theorem xR {α β:Type} {l:List α} {r:List β} {i:Int} {x:α} (h:fW l i=some x) (e:r.length=l.length):∃ (j:Nat),l[j]?=some x/\∀ y,r[j]?=some y->fW r i=some y:=by
 unfold fW at h
 obtain ⟨j,h1,h2⟩:=bind_some h
 refine ⟨j,h2,fun y hy=>?_⟩
 unfold fW
 rw [e,h1]
 exact hy
theorem Sd {x y:PV} {l:Lc} (e:nM x y=some l):∃ i,y=.int i/\((∃ ps,(x=.lst ps\/x=.tup ps)/\(fW ps i).map Lc.sh=some l)\/∃ t c,x=.str t/\t.length<=100000/\fW t.cps.toList i=some c/\l=.sh (.str ⟨#[c]⟩)):=by
 unfold nM at e
 split at e
 . exact ⟨_,rfl,.inl ⟨_,.inl rfl,e⟩⟩
 . exact ⟨_,rfl,.inl ⟨_,.inr rfl,e⟩⟩
 . split at e
   . rename_i h
     obtain ⟨c,h1,rfl⟩:=map_some e
     exact ⟨_,rfl,.inr ⟨_,c,rfl,h,h1,rfl⟩⟩
   . cases e
 . cases e
theorem Sg:lR K (Vc K) nM:=by
 intro H0 Z0 σ ρ pd H v w x y l Q s e k
 obtain ⟨i,rfl,hx⟩:=Sd e
 obtain ⟨el,Z,hg,z,r2,s1⟩:=s.sh
 have s2:=s1.perm cN.symm
 obtain ⟨_,e1,r1⟩:=s2.1 _ List.mem_cons_self
 cases e1
 have s3:=s2.sub (List.sublist_cons_self _ _)
 have ew:=bG r2
 rcases hx with ⟨ps,hx,h0⟩ | ⟨x,c,rfl,hl,h1,rfl⟩
 . obtain ⟨p,h1,rfl⟩:=map_some h0
   rcases hx with rfl | rfl
   . unfold Rep at r1
     obtain ⟨a,vs,rfl,h2,h3⟩:=r1
     obtain ⟨j,e1,e2⟩:=xR h1 h3.length
     obtain ⟨u,e3,e4⟩:=h3.get e1
     exact .inl ⟨a,vs,i,u,rfl,ew,bK.same z.zh h2,e2 u e3,k _ H (.mk el hg z (s3.consS e4))⟩
   . unfold Rep at r1
     obtain ⟨a,vs,rfl,h2,h3⟩:=r1
     obtain ⟨j,e1,e2⟩:=xR h1 h3.length
     obtain ⟨u,e3,e4⟩:=h3.get e1
     exact .inr (.inl ⟨a,vs,i,u,rfl,ew,cB.same z.zh h2,e2 u e3,k _ H (.mk el hg z (s3.consS e4))⟩)
 . exact .inr (.inr ⟨x,i,c,cG r1,ew,small hl,h1,k _ H (s.pop.pop.scal lG)⟩)
noncomputable def nT (ps:List PV) (lo hi:Option Int):List PV:=(ps.drop (HT.sIx ps.length 0 lo)).take (HT.sIx ps.length ps.length hi-HT.sIx ps.length 0 lo)
noncomputable abbrev OF:=Ev->Option (Option Int×Ev)
noncomputable def wk (K:FG) (f:OF):TO:=fun σ H Q=>∃ H0 Z0 ρ pd r ρ',SR K H0 Z0 σ H ρ pd/\f ρ=some (r,ρ')/\∀ H',SR K H0 Z0 σ H' ρ' pd->Q r H'
theorem PO.imp {e:Option Expr} {t t':TO} (h:PO X e t) (i:∀ σ H Q,t' σ H Q->t σ H Q):PO X e t':=fun pins s σ H Q I q=>h pins s σ H Q I (i σ H Q q)
noncomputable def fH:OF:=fun ρ=>some (none,ρ)
noncomputable def bU (f:EF):OF:=fun ρ=>(f ρ).bind fun x=>match x.1.pv with
 | .int i=>some (some i,x.2)
 | _=>none
theorem jX:PO X none (wk X.K fH):=PO.imp O2 fun σ H Q q=>by
 obtain ⟨H0,Z0,ρ,pd,r,ρ',s,h,k⟩:=q
 cases h
 exact k H s
theorem dZ {e:Expr} {f:EF} (h:PE X e (tP X.K f)):PO X (some e) (wk X.K (bU f)):=PO.imp (O3 h) fun σ H Q q=>by
 obtain ⟨H0,Z0,ρ,pd,r,ρ',s,h,k⟩:=q
 obtain ⟨x,h1,h2⟩:=bind_some h
 refine ⟨H0,Z0,ρ,pd,x.1,x.2,s,h1,fun v H1 s1=>?_⟩
 obtain ⟨_,r1⟩:=s1.freeze.repH
 cases e:x.1.pv with
 | int i=>
  rw [e] at h2 r1
  cases h2
  exact ⟨i,bG r1,k H1 s1.pop⟩
 | _=>rw [e] at h2; cases h2
theorem aF.cut {Z:ZG} {ps:List PV} {vs:List V} {lo hi:Option Int} (h:aF K Z ps vs):aF K Z (nT ps lo hi) (oU vs lo hi):=by
 unfold nT oU
 rw [h.length]
 exact (h.drop _).take _
noncomputable def jK (K:FG) (r:List V->Hp->VK->Prop) (g:List PV->Option Lc):Prop:=∀ H0 Z0 σ ρ pd H vs ps l Q,vs.length=ps.length->SR K H0 Z0 σ H ρ (vs.zip (ps.map Lc.sh)++pd)->g ps=some l->(∀ u H',SR K H0 Z0 σ H' ρ ((u,l)::pd)->Q u H')->r vs H Q
noncomputable def eB (g:List PV->Option Lc) (a:AF):EF:=fun ρ=>(a ρ).bind fun y=>(g (y.1.map Lc.pv)).map fun l=>(l,y.2)
theorem wu {r:List V->Hp->VK->Prop} {g:List PV->Option Lc} (hs:jK X.K r g) {a:AF}:∀ σ H Q,tP X.K (eB g a) σ H Q->yD r (jJ X.K a) σ H Q:=fun σ H Q q=>by
 obtain ⟨H0,Z0,ρ,pd,l,ρ',s,f,k⟩:=q
 obtain ⟨y,h1,h2⟩:=bind_some f
 obtain ⟨l',h3,h4⟩:=map_some h2
 cases h4
 refine ⟨H0,Z0,ρ,pd,y.1,y.2,s,h1,fun vs H2 e2 s2=>?_⟩
 have s3:=s2.freezeAll
 have hm:(y.1.map fun l=>Lc.sh l.pv)=(y.1.map Lc.pv).map Lc.sh:=by rw [List.map_map]; rfl
 rw [hm] at s3
 exact hs H0 Z0 σ y.2 pd H2 vs (y.1.map Lc.pv) _ Q (by simpa using e2) s3 h3 k
theorem qD {x:Str} {id:String} {r:List V->Hp->VK->Prop} {g:List PV->Option Lc} {e:Expr} {es:List Expr} {a:AF} {p pos:Pos} (hc:lO X (.builtin id) r) (hs:jK X.K r g) (h:PE X (.Call (.Name x p) (e::es) [] pos) (yD r (jJ X.K a))):PE X (.Call (.Name x p) (e::es) [] pos) (tP X.K (eB g a)):=PE.imp h (wu hs)
theorem jK.one {r:List V->Hp->VK->Prop} {g:PV->Option Lc} (h:∀ H0 Z0 σ ρ pd H v p l Q,SR K H0 Z0 σ H ρ ((v,.sh p)::pd)->g p=some l->(∀ u H',SR K H0 Z0 σ H' ρ ((u,l)::pd)->Q u H')->r [v] H Q):
 jK K r (fun ps=>match ps with | [p]=>g p | _=>none):=by
 intro H0 Z0 σ ρ pd H vs ps l Q e s hg k
 match ps,vs,e,s,hg with
 | [p],[v],_,s,hg=>exact h H0 Z0 σ ρ pd H v p l Q s hg k
 | [p],[],e,_,_=>simp at e
 | [p],_::_::_,e,_,_=>simp at e
 | [],_,_,_,hg=>cases hg
 | _::_::_,_,_,_,hg=>cases hg
noncomputable def Sq:PV->Option Lc
 | .str x=>if x.length<=100000 then some (.sh (.int x.length)) else none
 | .lst ps=>some (.sh (.int ps.length))
 | .tup ps=>some (.sh (.int ps.length))
 | _=>none
noncomputable abbrev bC:List PV->Option Lc:=fun ps=>match ps with | [p]=>Sq p | _=>none
theorem Je:jK K (fun xs H Q=>∃ x n,xs=[x]/\Kw K x H n/\Q (.int n) H) bC:=jK.one fun H0 Z0 σ ρ pd H v p l Q s e k=>by
 obtain ⟨_,r⟩:=s.repH
 cases p with
 | str x=>
  have e':(if x.length<=100000 then some (Lc.sh (.int x.length)) else none)=some l:=e
  split at e'
  . rename_i hl
    cases e'
    have:=cG r
    subst this
    exact ⟨_,x.length,rfl,⟨small hl,rfl⟩,k _ H (s.pop.scal fU)⟩
  . cases e'
 | lst ps=>
  cases e
  unfold Rep at r
  obtain ⟨a,vs,rfl,h1,h2⟩:=r
  exact ⟨_,ps.length,rfl,.inl ⟨vs,h1,h2.length.symm⟩,k _ H (s.pop.scal fU)⟩
 | tup ps=>
  cases e
  unfold Rep at r
  obtain ⟨a,vs,rfl,h1,h2⟩:=r
  exact ⟨_,ps.length,rfl,.inr ⟨vs,h1,h2.length.symm⟩,k _ H (s.pop.scal fU)⟩
 | _=>cases e
noncomputable def Uu:PV->Option Lc
 | .lst ps=>some (.own (.lst ps))
 | .tup ps=>some (.own (.lst ps))
 | _=>none
noncomputable abbrev list1:List PV->Option Lc:=fun ps=>match ps with | [p]=>Uu p | _=>none
theorem Ez:jK K (fun xs H Q=>∃ p ys,xs=[.ref p]/\(bK K H p ys\/cB K H p ys)/\∀ l,H l=none->Q (.ref l) (upd H l (.lst ys))) list1:=jK.one fun H0 Z0 σ ρ pd H v p l Q s e k=>by
 obtain ⟨el,Z,hg,z,r,s1⟩:=s.sh
 cases p with
 | lst ps=>
  cases e
  unfold Rep at r
  obtain ⟨a,vs,rfl,h1,h2⟩:=r
  refine ⟨a,vs,rfl,.inl (bK.same z.zh h1),fun q hq=>k _ _ ?_⟩
  obtain ⟨z',s'⟩:=s1.new (o:=.lst vs) (p:=.lst ps) z hq ⟨_,bJ,h2⟩
  exact .mk el hg z' s'
 | tup ps=>
  cases e
  unfold Rep at r
  obtain ⟨a,vs,rfl,h1,h2⟩:=r
  refine ⟨a,vs,rfl,.inr (cB.same z.zh h1),fun q hq=>k _ _ ?_⟩
  obtain ⟨z',s'⟩:=s1.new (o:=.lst vs) (p:=.lst ps) z hq ⟨_,bJ,h2⟩
  exact .mk el hg z' s'
 | _=>cases e
theorem Ev.set_set {i:Nat} {x y:Option Lc}:(ρ.set i x).set i y=ρ.set i y:=by
 show Ev.mk ((ρ.vs.set i x).set i y) ρ.mu=_
 rw [List.set_set]
 rfl
theorem SR.takeO {i:Nat} {ws:List PV} (s:SR K H0 Z0 σ H ρ pd) (e:ρ.vs[i]?=some (some (.own (.lst ws)))):
 ∃ a,σ[i]?=some (some (.ref a))/\(∃ us,H a=some (.lst us))/\SR K H0 Z0 σ H (ρ.set i none) ((.ref a,.own (.lst ws))::pd):=by
 obtain ⟨v,e1,s1⟩:=s.take e
 obtain ⟨_,Z,_,z,so⟩:=s1.top
 obtain ⟨a,ea,⟨us,hu,_⟩,_⟩:=so.1 _ List.mem_cons_self
 have ea':v=.ref a:=Option.some.inj ea
 subst ea'
 exact ⟨a,e1,⟨us,hu⟩,s1⟩
noncomputable def iR (i:Nat) (f:EF):SF:=fun ρ=>match ρ.vs[i]? with
 | some (some (.own (.lst _)))=>(f ρ).bind fun y=>match y.2.vs[i]? with
  | some (some (.own (.lst ws)))=>if ws.length<100000 then some (.nx (y.2.set i (some (.own (.lst (ws++[y.1.pv])))))) else none
  | _=>none
 | _=>none
theorem Ss {i:Nat} {o e:Expr} {f:EF} {apos cpos pos:Pos} (h:PS X (.Expr (.Call (.Attribute o "append" apos) [e] [] cpos) pos) (zQ (Ej X.K "list" xG (oO i) (jJ X.K (aj f ao))))):
 PS X (.Expr (.Call (.Attribute o "append" apos) [e] [] cpos) pos) (gB X.K (iR i f)):=PS.imp h fun D σ H q=>by
 obtain ⟨H0,Z0,ρ,pd,fl,s,h,k⟩:=q
 unfold iR at h
 split at h
 . rename_i ws0 e0
   obtain ⟨y,h1,h2⟩:=bind_some h
   obtain ⟨a,ea,⟨us,hu⟩,_⟩:=s.takeO e0
   refine ⟨.ref a,ea,.inl ⟨rfl,us,bK.of hu⟩,H0,Z0,ρ,pd,[y.1],y.2,s,?_,fun vs H2 e2 s2=>?_⟩
   . unfold aj ao
     rw [h1]
     rfl
   . obtain ⟨v1,rfl⟩:=mH e2
     split at h2
     . rename_i ws e3
       split at h2
       . rename_i hz
         cases h2
         obtain ⟨a',ea',_,s3⟩:=SR.takeO s2 e3
         rw [ea] at ea'; cases ea'
         have s4:SR X.K H0 Z0 σ H2 (y.2.set i none) ((v1,y.1)::(.ref a,.own (.lst ws))::pd):=s3.swap
         obtain ⟨us2,hu2,hl,s5⟩:=s4.pushO
         refine ⟨a,us2,v1,rfl,rfl,hu2,by rw [hl,sizeLine_eq]; omega,k σ _ ?_⟩
         have s6:=s5.put ea
         rw [Ev.set_set] at s6
         exact s6
       . cases h2
     . cases h2
 . cases h
theorem SR.extO {v:V} {ps:List PV} {a:Addr} {ws:List PV} (s:SR K H0 Z0 σ H ρ ((v,.sh (.lst ps))::(.ref a,.own (.lst ws))::pd)):
 ∃ b us zs,v=.ref b/\bK K H b zs/\H a=some (.lst us)/\us.length=ws.length/\zs.length=ps.length/\SR K H0 Z0 σ (upd H a (.lst (us++zs))) ρ ((.ref a,.own (.lst (ws++ps)))::pd):=by
 obtain ⟨el,Z,hg,z,r,so⟩:=s.sh
 unfold Rep at r
 obtain ⟨b,zs,rfl,h1,h2⟩:=r
 have so2:=so.perm cN.symm
 obtain ⟨_,eb,⟨us,hu,hr⟩,_⟩:=so2.1 _ List.mem_cons_self
 cases eb
 refine ⟨b,us,zs,rfl,bK.same z.zh h1,hu,hr.length,h2.length,?_⟩
 obtain ⟨z',s'⟩:=so2.write (o:=.lst (us++zs)) (q:=.lst (ws++ps)) z ⟨us++zs,bJ,hr.append h2⟩
 exact .mk el hg z' s'
noncomputable def mR (i:Nat) (f:EF):SF:=fun ρ=>match ρ.vs[i]? with
 | some (some (.own (.lst _)))=>(f ρ).bind fun y=>match y.1.pv,y.2.vs[i]? with
  | .lst ps,some (some (.own (.lst ws)))=>if ws.length+ps.length<=100000 then some (.nx (y.2.set i (some (.own (.lst (ws++ps)))))) else none
  | _,_=>none
 | _=>none
theorem Su {i:Nat} {o e:Expr} {f:EF} {apos cpos pos:Pos} (h:PS X (.Expr (.Call (.Attribute o "extend" apos) [e] [] cpos) pos) (zQ (Ej X.K "list" (Av X.K) (oO i) (jJ X.K (aj f ao))))):
 PS X (.Expr (.Call (.Attribute o "extend" apos) [e] [] cpos) pos) (gB X.K (mR i f)):=PS.imp h fun D σ H q=>by
 obtain ⟨H0,Z0,ρ,pd,fl,s,h,k⟩:=q
 unfold mR at h
 split at h
 . rename_i ws0 e0
   obtain ⟨y,h1,h2⟩:=bind_some h
   obtain ⟨a,ea,⟨us,hu⟩,_⟩:=s.takeO e0
   refine ⟨.ref a,ea,.inl ⟨rfl,us,bK.of hu⟩,H0,Z0,ρ,pd,[y.1],y.2,s,?_,fun vs H2 e2 s2=>?_⟩
   . unfold aj ao
     rw [h1]
     rfl
   . obtain ⟨v1,rfl⟩:=mH e2
     split at h2
     . rename_i ps ws ep e3
       split at h2
       . rename_i hz
         cases h2
         obtain ⟨a',ea',_,s3⟩:=SR.takeO s2 e3
         rw [ea] at ea'; cases ea'
         have s4:SR X.K H0 Z0 σ H2 (y.2.set i none) ((v1,.sh y.1.pv)::(.ref a,.own (.lst ws))::pd):=s3.swap.freeze
         rw [ep] at s4
         obtain ⟨b,us2,zs,rfl,hb,hu2,hl,hl2,s5⟩:=s4.extO
         refine ⟨a,b,us2,zs,rfl,rfl,hu2,hb,by rw [hl,hl2]; exact small hz,k σ _ ?_⟩
         have s6:=s5.put ea
         rw [Ev.set_set] at s6
         exact s6
       . cases h2
     . cases h2
 . cases h
theorem SR.setO {v:V} {p:PV} {a:Addr} {ws:List PV} {j:Nat} (s:SR K H0 Z0 σ H ρ ((v,.sh p)::(.ref a,.own (.lst ws))::pd)):
 ∃ us,H a=some (.lst us)/\us.length=ws.length/\SR K H0 Z0 σ (upd H a (.lst (us.set j v))) ρ ((.ref a,.own (.lst (ws.set j p)))::pd):=by
 obtain ⟨el,Z,hg,z,r,so⟩:=s.sh
 have so2:=so.perm cN.symm
 obtain ⟨_,eb,⟨us,hu,hr⟩,_⟩:=so2.1 _ List.mem_cons_self
 cases eb
 refine ⟨us,hu,hr.length,?_⟩
 obtain ⟨z',s'⟩:=so2.write (o:=.lst (us.set j v)) (q:=.lst (ws.set j p)) z ⟨us.set j v,bJ,hr.set r j⟩
 exact .mk el hg z' s'
noncomputable def pP (i:Nat) (fi fv:EF):SF:=fun ρ=>(fv ρ).bind fun x=>match x.2.vs[i]? with
 | some (some (.own (.lst _)))=>(fi x.2).bind fun y=>match y.1.pv,y.2.vs[i]? with
  | .int k,some (some (.own (.lst ws)))=>(nY ws.length k).map fun j=>.nx (y.2.set i (some (.own (.lst (ws.set j x.1.pv)))))
  | _,_=>none
 | _=>none
theorem EY {i:Nat} {o ix e:Expr} {fi fv:EF} {tpos pos:Pos} (h:PS X (.Assign [.Subscript o ix tpos] e pos) (Gr (tP X.K fv) (Kq (oO i) (tP X.K fi) Ni))):PS X (.Assign [.Subscript o ix tpos] e pos) (gB X.K (pP i fi fv)):=PS.imp h fun D σ H q=>by
 obtain ⟨H0,Z0,ρ,pd,fl,s,h,k⟩:=q
 obtain ⟨x,h1,h2⟩:=bind_some h
 refine ⟨H0,Z0,ρ,pd,x.1,x.2,s,h1,fun v H1 s1=>?_⟩
 split at h2
 . rename_i ws0 e0
   obtain ⟨y,h3,h4⟩:=bind_some h2
   obtain ⟨a,ea,_,_⟩:=s1.takeO e0
   refine ⟨.ref a,ea,H0,Z0,x.2,_,y.1,y.2,s1.freeze,h3,fun w H2 s2=>?_⟩
   split at h4
   . rename_i kk ws ek e3
     obtain ⟨j,h5,rfl⟩:=map_some h4
     obtain ⟨_,rw'⟩:=s2.freeze.repH
     rw [ek] at rw'
     have ew:=bG rw'
     obtain ⟨a',ea',_,s3⟩:=s2.pop.takeO e3
     rw [ea] at ea'; cases ea'
     obtain ⟨us,hu,hl,s4⟩:=s3.swap.setO (j:=j)
     refine ⟨a,us,kk,j,rfl,ew,hu,by rw [hl]; exact h5,k σ _ ?_⟩
     have s5:=s4.put ea
     rw [Ev.set_set] at s5
     exact s5
   . cases h4
 . cases h2
theorem tL {g:List Addr} {mu:Mu} {n:Nat} {a:Addr} {o:Option PV} (hg:g[n]?=some a) (hm:mu[n]?=some o):∃ R:Sl,List.Perm (dg g mu) ((some (.ref a),o.map Lc.own)::R)/\∀ o',List.Perm (dg g (mu.set n o')) ((some (.ref a),o'.map Lc.own)::R):=by
 have h1:(g.map fun a=>some (V.ref a))[n]?=some (some (.ref a)):=by rw [List.getElem?_map,hg]; rfl
 have h2:(mu.map fun o=>o.map Lc.own)[n]?=some (o.map Lc.own):=by rw [List.getElem?_map,hm]; rfl
 obtain ⟨R,p1,p2⟩:=tE (zip_get h1 h2)
 refine ⟨R,p1,fun o'=>?_⟩
 have:=p2 (some (.ref a),o'.map Lc.own)
 rw [← xN,set_same h1] at this
 unfold dg
 rw [List.map_set]
 exact this
theorem SR.cellO {v:V} {n:Nat} {p:PV} (s:SR K H0 Z0 σ H ρ ((v,.sh (.ptr n))::pd)) (hm:ρ.mu[n]?=some (some p)):
 ∃ a,v=.ref a/\SR K H0 Z0 σ H ⟨ρ.vs,ρ.mu.set n none⟩ ((.ref a,.own p)::(.ref a,.sh (.ptr n))::pd):=by
 obtain ⟨el,Z,hg,z,r,so⟩:=s.sh
 have r0:=r
 unfold Rep at r
 obtain ⟨a,rfl,ha⟩:=r
 obtain ⟨R,p1,p2⟩:=tL ha hm
 refine ⟨a,rfl,.mk (Z:=Z) el (by simpa using hg) z ?_⟩
 have so2:Slots K H0 Z H ((some (.ref a),some (.own p))::(R++(σ.zip ρ.vs++pd.map fun e=>(some e.1,some e.2)))):=so.perm (p1.append_right _).symm
 have so3:Slots K H0 Z H ((some (.ref a),none)::(some (.ref a),some (.own p))::(R++(σ.zip ρ.vs++pd.map fun e=>(some e.1,some e.2)))):=by
  refine ⟨fun e he=>?_,?_⟩
  . rcases List.mem_cons.mp he with rfl | he
    . trivial
    . exact so2.1 e he
  . rw [List.filterMap_cons_none rfl]; exact so2.2
 have so4:Slots K H0 Z H ((some (.ref a),some (.own p))::sl Z.g σ ⟨ρ.vs,ρ.mu.set n none⟩ pd):=(so3.perm (List.Perm.swap _ _ _)).perm (List.Perm.cons _ ((p2 none).append_right _))
 exact ((so4.consS r0).perm (List.Perm.swap _ _ _)).perm (List.Perm.cons _ cN)
theorem SR.cellP {a:Addr} {n:Nat} {q:PV} (s:SR K H0 Z0 σ H ρ ((.ref a,.own q)::(.ref a,.sh (.ptr n))::pd)) (hm:ρ.mu[n]?=some none):SR K H0 Z0 σ H ⟨ρ.vs,ρ.mu.set n (some q)⟩ pd:=by
 obtain ⟨el,Z,hg,z,r,so⟩:=s.swap.sh
 unfold Rep at r
 obtain ⟨b,eb,ha⟩:=r
 cases eb
 obtain ⟨R,p1,p2⟩:=tL ha hm
 have so2:=so.perm cN.symm
 refine ⟨el,Z,by simpa using hg,z,?_⟩
 have p3:List.Perm (sl Z.g σ ρ pd) ((some (.ref a),none)::(R++(σ.zip ρ.vs++pd.map fun e=>(some e.1,some e.2)))):=p1.append_right _
 have so3:=so2.perm (p3.symm.cons _)
 have so4:=so3.sub (L':=(some (.ref a),some (.own q))::(R++(σ.zip ρ.vs++pd.map fun e=>(some e.1,some e.2)))) ((List.sublist_cons_self _ _).cons_cons _)
 exact so4.perm ((p2 (some q)).append_right _)
noncomputable def Wg (fo fi fv:EF):SF:=fun ρ=>(fv ρ).bind fun x=>(fo x.2).bind fun o=>(fi o.2).bind fun y=>match o.1.pv,y.1.pv with
 | .ptr n,.int k=>match y.2.mu[n]? with
  | some (some (.lst ws))=>(nY ws.length k).map fun j=>.nx ⟨y.2.vs,y.2.mu.set n (some (.lst (ws.set j x.1.pv)))⟩
  | _=>none
 | _,_=>none
noncomputable def aM (fa fb:EF):EF:=fun ρ=>(fa ρ).bind fun x=>(fb x.2).bind fun y=>match x.1.pv,y.1.pv with
 | .ptr n,.int k=>match y.2.mu[n]? with
  | some (some (.lst ws))=>(fW ws k).map fun p=>(.sh p,y.2)
  | _=>none
 | p,q=>(nM p q).map fun l=>(l,y.2)
theorem gj {a b:Expr} {pos:Pos} {fa fb:EF} (ha:PE X a (tP X.K fa)) (hb:PE X b (tP X.K fb)) (hm:Ei b):PE X (.Subscript a b pos) (tP X.K (aM fa fb)):=PE.imp (Ul RB ha hb hm) fun σ H Q q=>by
 obtain ⟨H0,Z0,ρ,pd,l,ρ',s,f,k⟩:=q
 obtain ⟨x,h1,h2⟩:=bind_some f
 obtain ⟨y,h3,h4⟩:=bind_some h2
 refine ⟨H0,Z0,ρ,pd,x.1,x.2,s,h1,fun v H1 s1=>⟨H0,Z0,x.2,_,y.1,y.2,s1,h3,fun w H2 s2=>?_⟩⟩
 have s3:=s2.freeze.swap.freeze.swap
 split at h4
 . rename_i n kk en ek
   split at h4
   . rename_i ws em
     obtain ⟨p,h5,h6⟩:=map_some h4
     cases h6
     rw [en,ek] at s3
     obtain ⟨_,rw'⟩:=s3.repH
     have ew:=bG rw'
     obtain ⟨a,rfl,s5⟩:=s3.pop.cellO em
     obtain ⟨el,Z,hg,z,so⟩:=s5.top
     obtain ⟨_,ea,⟨us,hu,hr⟩,_⟩:=so.1 _ List.mem_cons_self
     cases ea
     obtain ⟨j,e1,e2⟩:=xR h5 hr.length
     obtain ⟨u,e3,e4⟩:=hr.get e1
     refine .inl ⟨a,us,kk,u,rfl,ew,bK.of hu,e2 u e3,k u H2 ?_⟩
     have s6:SR X.K H0 Z0 σ H2 ⟨y.2.vs,y.2.mu.set n none⟩ ((u,.sh p)::(.ref a,.own (.lst ws))::(.ref a,.sh (.ptr n))::pd):=.mk (Z:=Z) el hg z ((so.perm cN).consS e4)
     have hn:n<y.2.mu.length:=(List.getElem?_eq_some_iff.mp em).1
     have s7:SR X.K H0 Z0 σ H2 ⟨y.2.vs,y.2.mu.set n none⟩ ((.ref a,.own (.lst ws))::(.ref a,.sh (.ptr n))::(u,.sh p)::pd):=s6.perm (((List.Perm.swap _ _ _).cons _).trans (List.Perm.swap _ _ _))
     have s8:=s7.cellP (by show (y.2.mu.set n none)[n]?=_; rw [List.getElem?_set_self hn])
     have e8:(y.2.mu.set n none).set n (some (.lst ws))=y.2.mu:=by rw [List.set_set]; exact set_same em
     have s9:SR X.K H0 Z0 σ H2 ⟨y.2.vs,(y.2.mu.set n none).set n (some (.lst ws))⟩ ((u,.sh p)::pd):=s8
     rw [e8] at s9
     exact s9
   . cases h4
 . obtain ⟨l',h5,h6⟩:=map_some h4
   cases h6
   exact Sg H0 Z0 σ y.2 pd H2 v w x.1.pv y.1.pv _ Q s3 h5 k
noncomputable def Hb (g:AF):EF:=fun ρ=>(cU g ρ).bind fun x=>match x.1 with
 | .own p=>some (.sh (.ptr x.2.mu.length),⟨x.2.vs,x.2.mu++[some p]⟩)
 | _=>none
theorem Jf {es:List Expr} {g:AF} {pos:Pos} (h:PE X (.List es pos) (tP X.K (cU g))):PE X (.List es pos) (tP X.K (Hb g)):=PE.imp h fun σ H Q q=>by
 obtain ⟨H0,Z0,ρ,pd,l,ρ',s,f,k⟩:=q
 obtain ⟨x,h1,h2⟩:=bind_some f
 refine ⟨H0,Z0,ρ,pd,x.1,x.2,s,h1,fun v H1 s1=>?_⟩
 split at h2
 . rename_i p ep
   cases h2
   rw [ep] at s1
   obtain ⟨el,Z,hg,z,so⟩:=s1.top
   obtain ⟨a,ea,ra,za,ha0⟩:=so.1 _ List.mem_cons_self
   have ea':v=.ref a:=Option.some.inj ea
   subst ea'
   have lz:gA Z ⟨Z.z,Z.g++[a]⟩:=⟨dC.refl _,List.prefix_append _ _⟩
   have so2:=so.step (Z':=⟨Z.z,Z.g++[a]⟩) (H':=H1) lz fun e he b hb=>⟨rfl,(ir so he hb).1⟩
   refine k _ H1 (.mk (Z:=⟨Z.z,Z.g++[a]⟩) el (by simp [hg]) ⟨z.zh,z.h0,z.z0.trans lz,z.new⟩ (Slots.consS ?_ ?_))
   . refine so2.perm ?_
     have ec:dg (Z.g++[a]) (x.2.mu++[some p])=dg Z.g x.2.mu++[(some (.ref a),some (.own p))]:=by
      unfold dg
      rw [List.map_append,List.map_append,List.zip_append (by simp [hg])]
      rfl
     unfold sl
     show List.Perm (dg (Z.g++[a]) (x.2.mu++[some p])++_) _
     rw [ec,List.append_assoc]
     exact List.perm_middle
   . unfold Rep
     exact ⟨a,rfl,by show (Z.g++[a])[x.2.mu.length]?=some a; rw [hg,List.getElem?_append_right (Nat.le_refl _)]; simp⟩
 . cases h2
mutual
noncomputable def bD:PV->Bool
 | .non=>true
 | .bl _=>true
 | .int _=>true
 | .str _=>true
 | .tup ps=>fM ps
 | _=>false
noncomputable def fM:List PV->Bool
 | []=>true
 | p::ps=>bD p&&fM ps
end
noncomputable def Hc:Lc->Bool
 | .sh p=>bD p
 | .own (.lst ps)=>fM ps
 | _=>false
noncomputable def Nx:Option Lc->Option Lc
 | some l=>some (.sh l.pv)
 | none=>none
noncomputable def Ev.peek (ρ:Ev):Ev:=⟨ρ.vs.map Nx,ρ.mu.map fun _=>none⟩
noncomputable def pQ (f:EF):EF:=fun ρ=>(f ρ.peek).bind fun x=>if Hc x.1=true then some (x.1,ρ) else none
noncomputable def ux (f:TF):TF:=fun ρ=>(f ρ.peek).map fun x=>(x.1,ρ)
noncomputable def zb:Option HO->Option HO->Option HO->Option HO
 | some (.tup vs),_,_=>some (.tup vs)
 | some (.frz o u),_,_=>some (.frz o u)
 | some _,z,_=>z
 | none,_,z=>z
noncomputable def ou (H:Hp) (Z Z':ZG):ZG:=⟨fun b=>zb (H b) (Z.z b) (Z'.z b),Z.g⟩
theorem Jg {H H':Hp} {Z Z':ZG} (hh:dC H H') (zh:dC Z'.z H') {a:Addr} {vs:List V} (h:cB K Z'.z a vs):cB K (ou H Z Z').z a vs:=by
 rcases h with (h | ⟨o,h⟩) | h
 . refine .inl (.inl ?_)
   show zb (H a) (Z.z a) (Z'.z a)=_
   cases q:H a with
   | none=>exact h
   | some o=>
    have e1:=hh a o q
    rw [zh a _ h] at e1
    cases e1
    rfl
 . refine .inl (.inr ⟨o,?_⟩)
   show zb (H a) (Z.z a) (Z'.z a)=_
   cases q:H a with
   | none=>exact h
   | some o'=>
    have e1:=hh a o' q
    rw [zh a _ h] at e1
    cases e1
    rfl
 . exact .inr h
mutual
theorem BK {H H':Hp} {Z Z':ZG} (hh:dC H H') (zh:dC Z'.z H'):∀ {p:PV} {v:V},bD p=true->Rep K Z' p v->Rep K (ou H Z Z') p v
 | .non,v,_,h=>by unfold Rep at h ⊢; exact h
 | .bl _,v,_,h=>by unfold Rep at h ⊢; exact h
 | .int _,v,_,h=>by unfold Rep at h ⊢; exact h
 | .str _,v,_,h=>by unfold Rep at h ⊢; exact h
 | .tup ps,v,f,h=>by
  unfold Rep at h ⊢
  obtain ⟨a,vs,e,h1,h2⟩:=h
  unfold bD at f
  exact ⟨a,vs,e,Jg hh zh h1,tM hh zh f h2⟩
 | .lst _,v,f,_=>by unfold bD at f; cases f
 | .dk _ _,v,f,_=>by unfold bD at f; cases f
 | .dt _ _,v,f,_=>by unfold bD at f; cases f
 | .obj _ _ _,v,f,_=>by unfold bD at f; cases f
 | .df _ _,v,f,_=>by unfold bD at f; cases f
 | .dtf _ _,v,f,_=>by unfold bD at f; cases f
 | .dx _ _ _,v,f,_=>by unfold bD at f; cases f
 | .ptr _,v,f,_=>by unfold bD at f; cases f
theorem tM {H H':Hp} {Z Z':ZG} (hh:dC H H') (zh:dC Z'.z H'):∀ {ps:List PV} {vs:List V},fM ps=true->aF K Z' ps vs->aF K (ou H Z Z') ps vs
 | [],vs,_,h=>by unfold aF at h ⊢; exact h
 | p::ps,vs,f,h=>by
  obtain ⟨v,r,rfl,h1,h2⟩:=h.inv
  unfold fM at f
  rw [Bool.and_eq_true] at f
  exact aF.cons (BK hh zh f.1 h1) (tM hh zh f.2 h2)
end
theorem SR.lookB (s:SR K H0 Z0 σ H ρ pd):
 ∃ Z,(σ.length=ρ.vs.length/\ρ.mu.length=Z.g.length/\gA Z ⟨H,Z.g⟩/\Slots K H0 Z H (sl Z.g σ ρ pd))/\(∀ H' v r ρ1,SR K H ⟨H,Z.g⟩ σ H' ρ1 [(v,r)]->Hc r=true->SR K H0 Z0 σ H' ρ ((v,r)::pd))/\∀ H' ρ1,SR K H ⟨H,Z.g⟩ σ H' ρ1 []->SR K H0 Z0 σ H' ρ pd:=by
 obtain ⟨el,Z,hg,z,so⟩:=s
 have lz:gA Z ⟨H,Z.g⟩:=⟨z.zh,List.prefix_refl _⟩
 have back:∀ {H':Hp} {Z':ZG},iW H ⟨H,Z.g⟩ Z' H'->iW H0 Z0 (ou H Z Z') H'/\Slots K H0 (ou H Z Z') H' (sl Z.g σ ρ pd):=fun {H' Z'} z'=>by
  have zz:gA Z (ou H Z Z'):=⟨fun b o e=>by
   show zb (H b) (Z.z b) (Z'.z b)=_
   have hb:=z.zh b o e
   rw [hb]
   cases o<;>first | rfl | exact e,List.prefix_refl _⟩
  have cas:∀ b o,(ou H Z Z').z b=some o->(∃ u,H b=some u/\((zV u/\o=u)\/Z.z b=some o))\/(H b=none/\Z'.z b=some o):=fun b o e=>by
   have e:zb (H b) (Z.z b) (Z'.z b)=some o:=e
   cases q:H b with
   | none=>rw [q] at e; exact .inr ⟨rfl,e⟩
   | some u=>
    rw [q] at e
    refine .inl ⟨u,rfl,?_⟩
    cases u with
    | tup vs=>cases e; exact .inl ⟨trivial,rfl⟩
    | frz o' u=>cases e; exact .inl ⟨trivial,rfl⟩
    | _=>exact .inr e
  refine ⟨⟨fun b o e=>?_,z.h0.trans z'.h0,z.z0.trans zz,fun b o e=>?_⟩,?_⟩
  . rcases cas b o e with ⟨u,hu,⟨_,rfl⟩ | hz⟩ | ⟨_,hz⟩
    . exact z'.h0 b _ hu
    . exact z'.h0 b o (z.zh b o hz)
    . exact z'.zh b o hz
  . rcases cas b o e with ⟨u,hu,⟨hi,rfl⟩ | hz⟩ | ⟨hn,hz⟩
    . exact .inr (.inr hi)
    . exact z.new b o hz
    . exact .inr (.inl (z.h0.free hn))
  . refine so.step zz fun e he a ha=>?_
    obtain ⟨h1,h2,o,h3,h4⟩:=ir so he ha
    refine ⟨by rw [h3]; exact z'.h0 a o h3,?_⟩
    show zb (H a) (Z.z a) (Z'.z a)=_
    rw [h3]
    cases o with
    | tup vs=>exact (h4 trivial).elim
    | frz o u=>exact (h4 trivial).elim
    | _=>exact h1
 refine ⟨Z,⟨el,hg,lz,so⟩,fun H' v r ρ1 s1 hf=>?_,fun H' ρ1 s1=>?_⟩
 . obtain ⟨_,Z',hg',z',s2⟩:=s1.top
   obtain ⟨zo,ss⟩:=back z'
   have q:=s2.1 _ List.mem_cons_self
   refine .mk (Z:=ou H Z Z') el hg zo ?_
   cases r with
   | sh p=>
    obtain ⟨x,e1,e2⟩:=q
    cases e1
    exact ss.consS (BK z'.h0 z'.zh hf e2)
   | own p=>
    obtain ⟨a,e1,e2,e3,e4⟩:=q
    have e1':v=.ref a:=Option.some.inj e1
    subst e1'
    cases p with
    | lst ps=>
     obtain ⟨vs,g1,g2⟩:=e2
     refine ⟨fun e he=>?_,?_⟩
     . rcases List.mem_cons.mp he with rfl | he
       . refine ⟨a,rfl,⟨vs,g1,tM z'.h0 z'.zh hf g2⟩,?_,z.h0.free e4⟩
         show zb (H a) (Z.z a) (Z'.z a)=_
         rw [e4]
         exact e3
       . exact ss.1 e he
     . show (a::(sl Z.g σ ρ pd).filterMap jN).Nodup
       refine List.nodup_cons.mpr ⟨fun hm=>?_,ss.2⟩
       obtain ⟨e,he,hb⟩:=List.mem_filterMap.mp hm
       obtain ⟨_,_,o,h3,_⟩:=ir so he hb
       rw [h3] at e4; cases e4
    | _=>cases hf
 . obtain ⟨_,Z',hg',z',s2⟩:=s1
   obtain ⟨zo,ss⟩:=back z'
   exact ⟨el,ou H Z Z',hg,zo,ss⟩
theorem SR.peeked {H:Hp} {Z:ZG} {pk:Option Lc->Option Lc} (el:σ.length=ρ.vs.length) (hg:ρ.mu.length=Z.g.length)
 (hs:∀ v o,(v,o)∈σ.zip ρ.vs->pk o=none\/∃ x p,pk o=some (.sh p)/\v=some x/\Rep K ⟨H,Z.g⟩ p x):SR K H ⟨H,Z.g⟩ σ H ⟨ρ.vs.map pk,ρ.mu.map fun _=>none⟩ []:=by
 have key:∀ v l,(v,l)∈sl Z.g σ ⟨ρ.vs.map pk,ρ.mu.map fun _=>none⟩ []->l=none\/∃ x p,l=some (.sh p)/\v=some x/\Rep K ⟨H,Z.g⟩ p x:=fun v l he=>by
  rcases List.mem_append.mp he with he | he
  . obtain ⟨_,h2⟩:=List.of_mem_zip he
    obtain ⟨o,ho,e2⟩:=List.mem_map.mp h2
    obtain ⟨o',_,e3⟩:=List.mem_map.mp ho
    subst e3
    exact .inl e2.symm
  . rw [List.map_nil,List.append_nil] at he
    have he:(v,l)∈σ.zip (ρ.vs.map pk):=he
    rw [List.zip_map_right] at he
    obtain ⟨e,he2,e1⟩:=List.mem_map.mp he
    cases e1
    exact hs _ _ he2
 refine ⟨by simp [el],⟨H,Z.g⟩,by simp [hg],⟨dC.refl _,dC.refl _,gA.refl _,fun b o e=>.inl e⟩,fun e he=>?_,?_⟩
 . obtain ⟨v,l⟩:=e
   rcases key v l he with rfl | ⟨x,p,rfl,rfl,r⟩
   . trivial
   . exact ⟨x,rfl,r⟩
 . have:(sl Z.g σ ⟨ρ.vs.map pk,ρ.mu.map fun _=>none⟩ []).filterMap jN=[]:=by
    rw [List.filterMap_eq_nil_iff]
    intro e he
    obtain ⟨v,l⟩:=e
    rcases key v l he with rfl | ⟨x,p,rfl,rfl,_⟩
    . cases v with
      | none=>rfl
      | some x=>cases x<;>rfl
    . cases x<;>rfl
   show ((sl Z.g σ ⟨ρ.vs.map pk,ρ.mu.map fun _=>none⟩ []).filterMap jN).Nodup
   rw [this]
   exact List.nodup_nil
theorem SR.look (s:SR K H0 Z0 σ H ρ pd):
 ∃ Zt,SR K H Zt σ H ρ.peek []/\(∀ H' v r ρ1,SR K H Zt σ H' ρ1 [(v,r)]->Hc r=true->SR K H0 Z0 σ H' ρ ((v,r)::pd))/\∀ H' ρ1,SR K H Zt σ H' ρ1 []->SR K H0 Z0 σ H' ρ pd:=by
 obtain ⟨Z,⟨el,hg,lz,so⟩,b1,b2⟩:=s.lookB
 refine ⟨_,SR.peeked (pk:=Nx) el hg fun v o he=>?_,b1,b2⟩
 have q:=so.1 _ (List.mem_append_right _ (List.mem_append_left _ he))
 match o,q with
 | none,_=>exact .inl rfl
 | some (.sh p),⟨x,e1,e2⟩=>exact .inr ⟨x,p,rfl,e1,e2.mono lz⟩
 | some (.own p),⟨a,e1,e2,_,_⟩=>exact .inr ⟨.ref a,p,rfl,e1,e2.rep lz rfl⟩
noncomputable def VH (mu:Mu):PV->PV
 | .ptr n=>match mu[n]? with
  | some (some p)=>p
  | _=>.ptr n
 | p=>p
noncomputable def peekC (mu:Mu):Option Lc->Option Lc
 | some l=>some (.sh (VH mu l.pv))
 | none=>none
noncomputable def Ev.peekC (ρ:Ev):Ev:=⟨ρ.vs.map (PL.peekC ρ.mu),ρ.mu.map fun _=>none⟩
theorem Lq {f:EF}:∀ σ H Q,tP K (pQ f) σ H Q->tP K f σ H Q:=fun σ H Q q=>by
 obtain ⟨H0,Z0,ρ,pd,r,ρ',s,h,k⟩:=q
 obtain ⟨x,h1,h2⟩:=bind_some h
 obtain ⟨Zt,s1,b1,_⟩:=s.look
 split at h2
 . rename_i hf
   cases h2
   exact ⟨H,Zt,ρ.peek,[],x.1,x.2,s1,h1,fun v H' s2=>k v H' (b1 H' v x.1 x.2 s2 hf)⟩
 . cases h2
theorem Aa {e:Expr} {f:EF} (h:PE X e (tP X.K f)):PE X e (tP X.K (pQ f)):=PE.imp h Lq
theorem Sv {e:Expr} {f:TF} (h:PT X e (iM X.K f)):PT X e (iM X.K (ux f)):=PT.imp h fun σ H Q q=>by
 obtain ⟨H0,Z0,ρ,pd,r,ρ',s,h,k⟩:=q
 obtain ⟨x,h1,h2⟩:=map_some h
 cases h2
 obtain ⟨Zt,s1,_,b2⟩:=s.look
 exact ⟨H,Zt,ρ.peek,[],x.1,x.2,s1,h1,fun H' s2=>k H' (b2 H' x.2 s2)⟩
end
noncomputable def rP (x:Str):It:=⟨fun i _=>i<x.cps.size,fun i H v H'=>H'=H/\∃ c,x.cps[i]?=some c/\v=.str ⟨#[c]⟩,fun i _=>i=x.cps.size⟩
theorem BP {P:Program} {w:World} {tg:Expr} (it:Addr) (x:Str) {St:Nat->Heap->Prop} (W:∀ A':Around,A'.handled=none->Walks P w A' it [it] [it] x.cps.size (SignAt x) St)
 (hob:∀ i h,St i h->∃ o,h.get? it=some o/\∀ v,o.data≠.cell v) (slf:∀ (A:Around) (i:Nat) (s:Shared) (Q:Value->Shared->Prop) (E:Value->Shared->Prop),St i s.heap->Q (.ref it) s->wpAny (model P w) A (pyIter (.ref it)) Q E s):Turn P w K tg (rP x) [it] it St where
 mem:=by simp
 obj:=fun i h st b hb=>by
  have e:b=it:=by simpa using hb
  subst e
  exact hob i h st
 keep:=fun i h h' st k=>(W {} rfl).frame i h h' st k
 item:=by
  intro X hP hw hK hc i pins s σ H E I hf st hg
  subst hP hw hK
  obtain ⟨f0,f1,f2,f3,f4,f5⟩:=hf it (by simp)
  refine (W X.A (I.ok.hd hc)).item i s _ E hg st fun v h' tk hv st' hk=>?_
  obtain ⟨c,u,e1,rfl⟩:=hv
  have I1:Inv X pins σ H { s with heap:=h',toks:=tk }:=I.turned (fun b o hb e=>hk b o (by simpa using hb) e) f0 f1 f3 f4 f5
  refine ⟨_,rfl,?_⟩
  have fin:∃ x_1 H',Inv X pins σ H' { s with heap:=h',toks:=tk }/\RelV x_1 (.str ⟨#[c]⟩ u)/\(rP x).yld i H x_1 H'/\St (i+1) h'/\∀ b∈[it],H' b=none:=⟨.str ⟨#[c]⟩,H,I1,⟨u,rfl⟩,⟨rfl,c,e1,rfl⟩,st',fun b hb=>(hf b hb).1⟩
  unfold letOwnedTupleGo
  cases tg<;>exact wpAny_pure fin
 done:=by
  intro X hP hw hK hc i pins s σ H E I hf st hg
  subst hP hw hK
  obtain ⟨f0,f1,f2,f3,f4,f5⟩:=hf it (by simp)
  have hg:i=x.cps.size:=hg
  subst hg
  exact (W X.A (I.ok.hd hc)).done s _ E st fun h' tk hk=>⟨rfl,I.turned (fun b o hb e=>hk b o (by simpa using hb) e) f0 f1 f3 f4 f5⟩
 self:=fun A i s Q E st h=>slf A i s Q E st h
section
variable {X:Cx}
noncomputable def signs (x:Str):List PV:=x.cps.toList.map fun c=>.str ⟨#[c]⟩
noncomputable def Wk:PV->Option (List PV)
 | .str x=>some (signs x)
 | _=>none
theorem Lr {H0:Hp} {x:Str}:nQ K H0 Z0 pd (rP x) (signs x):=by
 intro σ H ρ i s
 refine ⟨fun p hp=>?_,fun hl=>?_⟩
 . unfold signs at hp
   rw [List.getElem?_map] at hp
   obtain ⟨c,hc,rfl⟩:=map_some hp
   have hi:=(List.getElem?_eq_some_iff.mp hc).1
   refine ⟨(show i<x.cps.size by simpa using hi),fun v H' y=>?_⟩
   obtain ⟨rfl,c',hc',rfl⟩:=y
   have:c'=c:=by
    rw [Array.getElem?_toList] at hc
    rw [hc] at hc'
    exact (Option.some.inj hc').symm
   subst this
   exact s.scal lG
 . show i=x.cps.size
   simpa [signs] using hl
theorem Du {P:Program} {w:World} {A:Around} {ys:List V} {its:List Value} {bs:List Bool} (rv:Vals ys its) (e:ys=bs.map V.bl):TruthOf P w A (fun i v=>its.toArray[i]?=some v) (fun i=>bs.getD i false):=by
 intro i v s Q E hv q
 have hv':its[i]?=some v:=by simpa using hv
 have hi:=(List.getElem?_eq_some_iff.mp hv').1
 have hl:=rv.length
 have hb:i<bs.length:=by rw [e,List.length_map] at hl; omega
 obtain ⟨u,h1,h2⟩:=rv.get (i:=i) (x:=.bl bs[i]) (by rw [e,List.getElem?_map,List.getElem?_eq_getElem hb]; rfl)
 rw [hv'] at h1; cases h1
 cases h2
 have:bs.getD i false=bs[i]:=by simp [hb]
 have q':Q (bs.getD i false) s:=q
 rw [this] at q'
 exact wpAny_truthy_bool q'
theorem range_any {bs:List Bool}:((List.range bs.length).any fun i=>bs.getD i false)=bs.any id:=by
 induction bs with
 | nil=>rfl
 | cons b r ih=>
  rw [List.length_cons,List.range_succ_eq_map,List.any_cons,List.any_map,List.any_cons]
  have:((List.range r.length).any ((fun i=>(b::r).getD i false) ∘ Nat.succ))=(List.range r.length).any fun i=>r.getD i false:=rfl
  rw [this,ih]
  rfl
theorem jQ (hc:X.calm=true):lO X (.builtin "any") (fun xs H Q=>∃ (p:Addr) (bs:List Bool),xs=[.ref p]/\bK X.K H p (bs.map V.bl)/\Q (.bl (bs.any id)) H):=by
 intro pins s σ H xs us Q I r h
 obtain ⟨p,bs,rfl,hq,q⟩:=h
 obtain ⟨u,rfl,ru⟩:=vals1 r
 cases ru
 obtain ⟨its,rv,pl,_⟩:=I.list hq
 have hlt:p<s.heap.objs.size:=by obtain ⟨o,n,g1,_⟩:=pl; exact Heap.lt_size g1
 refine call_any_walk (wpAny_pyIter_list pl.isList ?_)
 have old:∀ b o,s.heap.get? b=some o->(s.heap.push { cls:=.type "list_iterator",data:=.fields #[.ref p,.int 0 0] }).get? b=some o:=fun b o e=>Heap.get?_push_of_some _ e
 have hl:its.toArray.size=bs.length:=by rw [List.size_toArray,← rv.length,List.length_map]
 refine ⟨s.heap.objs.size,_,_,_,_,_,fun i=>bs.getD i false,rfl,Walks.list (A:=X.A.in1) (show X.A.in1.handled=none from I.ok.hd hc) _ p (Nat.ne_of_lt hlt) its.toArray,⟨⟨_,Heap.get?_push_size _ rfl,rfl,rfl⟩,?_⟩,Du rv rfl,fun h' tk hk=>?_⟩
 . obtain ⟨o,g1,g2⟩:=pl.isList
   exact ⟨o,old _ _ g1,g2⟩
 . rw [hl,range_any]
   refine ⟨.bl _,H,I.kept (t':=tk) fun b o e=>hk b o ?_ (old b o e),rfl,q⟩
   have:=Heap.lt_size e
   simp
   exact Nat.ne_of_lt this
noncomputable def boolsOf:List PV->Option (List Bool)
 | []=>some []
 | .bl b::r=>(boolsOf r).map (b::·)
 | _=>none
theorem yR {Z:ZG}:∀ {ps:List PV} {bs:List Bool} {vs:List V},boolsOf ps=some bs->aF K Z ps vs->vs=bs.map V.bl
 | [],bs,vs,h,r=>by cases h; exact r.inv0
 | p::ps,bs,vs,h,r=>by
  cases p with
  | bl b=>
   obtain ⟨cs,h1,rfl⟩:=map_some h
   obtain ⟨v,w,rfl,r1,r2⟩:=r.inv
   rw [ji r1,yR h1 r2]
   rfl
  | _=>cases h
noncomputable def VJ:PV->Option Lc
 | .lst ps=>(boolsOf ps).map fun bs=>.sh (.bl (bs.all id))
 | _=>none
noncomputable def VL:PV->Option Lc
 | .lst ps=>(boolsOf ps).map fun bs=>.sh (.bl (bs.any id))
 | _=>none
noncomputable abbrev all1:List PV->Option Lc:=fun ps=>match ps with | [p]=>VJ p | _=>none
noncomputable abbrev tO:List PV->Option Lc:=fun ps=>match ps with | [p]=>VL p | _=>none
theorem ww:jK K (fun xs H Q=>∃ (p:Addr) (bs:List Bool),xs=[.ref p]/\bK K H p (bs.map V.bl)/\Q (.bl (bs.any id)) H) tO:=jK.one fun H0 Z0 σ ρ pd H v p l Q s e k=>by
 obtain ⟨_,r⟩:=s.repH
 cases p with
 | lst ps=>
  obtain ⟨bs,h1,rfl⟩:=map_some (show (boolsOf ps).map (fun bs=>Lc.sh (.bl (bs.any id)))=some l from e)
  unfold Rep at r
  obtain ⟨a,vs,rfl,h2,h3⟩:=r
  have:=yR h1 h3
  subst this
  exact ⟨a,bs,rfl,h2,k _ H (s.pop.scal ju)⟩
 | _=>cases e
noncomputable def Vf:PV->Option String
 | .non=>some "NoneType"
 | .bl _=>some "bool"
 | .int _=>some "int"
 | .str _=>some "str"
 | .tup _=>some "tuple"
 | .lst _=>some "list"
 | _=>none
noncomputable def xT (p:PV) (C:String):Option Bool:=(Vf p).bind fun T=>if (Value.type T==Value.type C)=true then some true else if W.kitMeta C=true then (fastBuiltinMro T).map fun x=>x.contains (.type C) else none
theorem mU {p:PV} {T C:String} {b:Bool} (h1:Vf p=some T) (h:xT p C=some b):W.kitOne K (.type T) (.type C)=some b:=by
 unfold xT at h
 rw [h1,Option.bind_some] at h
 exact h
theorem Dv:lO X (.builtin "isinstance") (fun xs H Q=>∃ x C g p b,xs=[x,.ty C]/\Rep X.K ⟨H,g⟩ p x/\xT p C=some b/\Q (.bl b) H):=by
 intro pins s σ H xs us Q I r h
 obtain ⟨x,C,g,p,b,rfl,rp,e,q⟩:=h
 obtain ⟨u,w',rfl,ru,rw'⟩:=vals2 r
 cases rw'
 have fin:∀ tk,EP X pins σ Q (.bool b) { s with toks:=tk }:=fun tk=>⟨.bl b,H,I.tok tk,rfl,q⟩
 cases p with
 | non=>have:=jy rp; subst this; cases ru; exact W.kia_one W.kitx_none I.kIn trivial (mU rfl e) (by intro z; cases z) fin
 | bl c=>have:=ji rp; subst this; cases ru; exact W.kia_one W.kitx_bool I.kIn trivial (mU rfl e) (by intro z; cases z) fin
 | int i=>have:=bG rp; subst this; obtain ⟨t,rfl⟩:=ru; exact W.kia_one W.kitx_int I.kIn trivial (mU rfl e) (by intro z; cases z) fin
 | str i=>have:=cG rp; subst this; obtain ⟨t,rfl⟩:=ru; exact W.kia_one W.kitx_str I.kIn trivial (mU rfl e) (by intro z; cases z) fin
 | tup ps=>
  obtain ⟨a,vs,its,rfl,_,_,_,o,t1,t2,_⟩:=tG I rp ru
  exact W.kia_one (t:=.type "tuple") W.kitx_tuple I.kIn ⟨o,t1,t2⟩ (mU rfl e) (by intro z; cases z) fin
 | lst ps=>
  obtain ⟨a,vs,its,rfl,_,_,_,o,t1,t2,_⟩:=tH I rp ru
  exact W.kia_one (t:=.type "list") W.kitx_list I.kIn ⟨o,t1,t2⟩ (mU rfl e) (by intro z; cases z) fin
 | _=>cases e
noncomputable def Jh (C:String) (f:EF):EF:=fun ρ=>(f ρ).bind fun x=>(xT x.1.pv C).map fun b=>(.sh (.bl b),x.2)
theorem V8 {C:String} {f:EF} {e c:Expr} {pp pos:Pos} (h:PE X (.Call (.Name "isinstance" pp) [e,c] [] pos) (yD (fun xs H Q=>∃ x C g p b,xs=[x,.ty C]/\Rep X.K ⟨H,g⟩ p x/\xT p C=some b/\Q (.bl b) H) (zU (tP X.K f) (zU (tC (.ty C)) KH)))):
 PE X (.Call (.Name "isinstance" pp) [e,c] [] pos) (tP X.K (Jh C f)):=PE.imp h fun σ H Q q=>by
 obtain ⟨H0,Z0,ρ,pd,r,ρ',s,h,k⟩:=q
 obtain ⟨x,h1,h2⟩:=bind_some h
 obtain ⟨b,h3,h4⟩:=map_some h2
 cases h4
 refine ⟨H0,Z0,ρ,pd,x.1,x.2,s,h1,fun v H1 s1=>?_⟩
 obtain ⟨g,r1⟩:=s1.freeze.repH
 exact ⟨v,C,g,_,b,rfl,r1,h3,k _ H1 (s1.pop.scal ju)⟩
noncomputable def strsOf:List PV->Option (List Str)
 | []=>some []
 | .str x::r=>(strsOf r).map (x::·)
 | _=>none
theorem BR {Z:ZG}:∀ {ps:List PV} {xs:List Str} {vs:List V},strsOf ps=some xs->aF K Z ps vs->vs=xs.map V.str
 | [],xs,vs,h,r=>by cases h; exact r.inv0
 | p::ps,xs,vs,h,r=>by
  cases p with
  | str b=>
   obtain ⟨cs,h1,rfl⟩:=map_some h
   obtain ⟨v,w,rfl,r1,r2⟩:=r.inv
   rw [cG r1,BR h1 r2]
   rfl
  | _=>cases h
theorem wy:∀ {xs:List Str} {its:List Value},Vals (xs.map V.str) its->StrsAre its xs
 | [],_,.nil=>.nil
 | x::xs,_,.cons r t=>by
  obtain ⟨tk,rfl⟩:=r
  exact .cons _ _ (wy t)
theorem Fb:HW X "str.join" (fun x xs H Q=>∃ (z:Str) (p:Addr) (ys:List Str),x=.str z/\xs=[.ref p]/\bK X.K H p (ys.map V.str)/\(ys.map (·.length)).sum+ys.length*z.length<=16777216/\Q (.str (Txt.join z ys)) H):=by
 intro pins s σ H x vs v us Q I rx rv h
 obtain ⟨z,p,ys,rfl,rfl,hq,hz,q⟩:=h
 obtain ⟨t,rfl⟩:=rx
 obtain ⟨u,rfl,ru⟩:=rv.one
 cases ru
 obtain ⟨its,rvs,pl,_⟩:=I.list hq
 exact join_list pl.isList (by simpa using wy rvs) hz fun t' k=>⟨.str _,H,I.tok k,⟨t',rfl⟩,q⟩
noncomputable def nu (f:EF) (a:AF):EF:=fun ρ=>(f ρ).bind fun x=>(a x.2).bind fun y=>match x.1.pv,y.1.map Lc.pv with
 | .str z,[.lst ps]=>(strsOf ps).bind fun xs=>if (xs.map (·.length)).sum+xs.length*z.length<=100000 then some (.sh (.str (Txt.join z xs)),y.2) else none
 | _,_=>none
theorem Ny {o e:Expr} {f:EF} {a:AF} {apos cpos:Pos} (h:PE X (.Call (.Attribute o "join" apos) [e] [] cpos) (Ej X.K "str" (fun x xs H Q=>∃ (z:Str) (p:Addr) (ys:List Str),x=.str z/\xs=[.ref p]/\bK X.K H p (ys.map V.str)/\(ys.map (·.length)).sum+ys.length*z.length<=16777216/\Q (.str (Txt.join z ys)) H) (tP X.K f) (jJ X.K a))):
 PE X (.Call (.Attribute o "join" apos) [e] [] cpos) (tP X.K (nu f a)):=PE.imp h fun σ H Q q=>by
 obtain ⟨H0,Z0,ρ,pd,r,ρ',s,h,k⟩:=q
 obtain ⟨x,h1,h2⟩:=bind_some h
 obtain ⟨y,h3,h4⟩:=bind_some h2
 refine ⟨H0,Z0,ρ,pd,x.1,x.2,s,h1,fun v H1 s1=>?_⟩
 split at h4
 . rename_i z ps ez ep
   obtain ⟨xs,h5,h6⟩:=bind_some h4
   split at h6
   . rename_i hz
     cases h6
     obtain ⟨_,rz⟩:=s1.freeze.repH
     rw [ez] at rz
     have:=cG rz
     subst this
     refine ⟨rfl,H0,Z0,x.2,pd,y.1,y.2,s1.pop,h3,fun vs H2 e2 s2=>?_⟩
     obtain ⟨el,Z,hg,zz,rl,ss⟩:=s2.repl e2
     rw [ep] at rl
     obtain ⟨w,rr,rfl,r1,r2⟩:=rl.inv
     have:=r2.inv0
     subst this
     unfold Rep at r1
     obtain ⟨b,ws,rfl,g1,g2⟩:=r1
     have:=BR h5 g2
     subst this
     exact ⟨z,b,xs,rfl,rfl,bK.same zz.zh g1,by omega,k _ H2 (.mk (Z:=Z) el hg zz (ss.consS (lG _)))⟩
   . cases h6
 . cases h4
noncomputable def VM:PV->Option Lc
 | .int i=>if i.natAbs.log2<1920 then some (.sh (.str (toString i))) else none
 | _=>none
noncomputable abbrev str1:List PV->Option Lc:=fun ps=>match ps with | [p]=>VM p | _=>none
theorem Sw:jK K (fun xs H Q=>∃ i,xs=[.int i]/\i.natAbs.log2<1920/\Q (.str (toString i)) H) str1:=jK.one fun H0 Z0 σ ρ pd H v p l Q s e k=>by
 obtain ⟨_,r⟩:=s.repH
 cases p with
 | int i=>
  have e':(if i.natAbs.log2<1920 then some (Lc.sh (.str (toString i))) else none)=some l:=e
  split at e'
  . rename_i hl
    cases e'
    have:=bG r
    subst this
    exact ⟨i,rfl,hl,k _ H (s.pop.scal lG)⟩
  . cases e'
 | _=>cases e
end
section
variable {prog:Program} {w:World} {A:Around} {E:Value->Shared->Prop} {s:Shared}
theorem yS {it t:Addr} {items:Array Value} (hne:t≠it):∀ (n i:Nat) (s:Shared) (Q:List Value->Shared->Prop),s.heap.IsListIter it t i->s.heap.IsList t items->i+n<=items.size->
 (∀ h',h'.IsListIter it t (i+n)->Heap.SameBut it s.heap h'->Q ((items.toList.drop i).take n) { s with heap:=h' })->wpAny (model prog w) A (draw (.ref it) n) Q E s
 | 0,i,s,Q,hit,_,_,hQ=>by
  show wpAny _ _ (pure []) Q E s
  exact wpAny_pure (by simpa using hQ s.heap hit (Heap.SameBut.refl ..))
 | n+1,i,s,Q,hit,ht,hle,hQ=>by
  have hlt:i<items.size:=by omega
  show wpAny _ _ (pyNext (.ref it) >>= _) Q E s
  refine wpAny_bind (wpAny_pyNext_list_item hit ht (x:=items[i]) (by simp [hlt]) fun h₁ hit₁ hs₁=>?_)
  refine wpAny_bind (wpAny_holding (yS hne n (i+1) _ _ hit₁ (ht.extBut hs₁.extBut hne) (by omega) fun h₂ hit₂ hs₂=>wpAny_pure ?_))
  have hd:items.toList.drop i=items[i]::items.toList.drop (i+1):=by simp [List.drop_eq_getElem_cons,hlt]
  have:=hQ h₂ (by rw [show i+(n+1)=i+1+n by omega]; exact hit₂) (hs₁.trans hs₂)
  rw [hd,List.take_succ_cons] at this
  exact this
theorem vz {t:Addr} {items:Array Value} {Q:List Value->Shared->Prop} (hh:A.handled=none) (ht:s.heap.IsList t items)
 (hQ:∀ h',Heap.ExtBut s.heap.objs.size s.heap h'->Q items.toList { s with heap:=h' }):wpAny (model prog w) A (unpackItems (.ref t) items.size none) Q E s:=by
 have hlt:t≠s.heap.objs.size:=by obtain ⟨o,ho,_⟩:=ht; exact Nat.ne_of_lt (Heap.lt_size ho)
 unfold unpackItems
 refine wpAny_bind ?_
 . unfold notIterableAtAll
   refine wpAny_bind (wpAny_specialOf ht.typeIs slot_list_iter.lookup ?_)
   refine wpAny_pure ?_
   simp only [Bool.false_eq_true,if_false]
   refine wpAny_bind (wpAny_holding (wpAny_pyIter_list ht ?_))
   refine wpAny_bind (wpAny_holding (yS hlt items.size 0 _ _ ⟨_,Heap.get?_push_size _ rfl,rfl,rfl⟩ (by obtain ⟨o,g1,g2⟩:=ht; exact ⟨o,Heap.get?_push_of_some _ g1,g2⟩) (by omega) fun h₁ hit₁ hs₁=>?_))
   have hall:List.take items.size (List.drop 0 items.toList)=items.toList:=by
    rw [List.drop_zero]; exact List.take_of_length_le (by simp)
   rw [hall]
   rw [if_neg (by simp)]
   have ht₁:h₁.IsList t items:=Heap.IsList.extBut (by obtain ⟨o,g1,g2⟩:=ht; exact ⟨o,Heap.get?_push_of_some _ g1,g2⟩) hs₁.extBut hlt
   refine wpAny_bind (wpAny_holding (wpAny_pyNext_list_end hh hit₁ ht₁ (by simp) fun h₂ he₂=>?_))
   simp only [Option.isSome_none,Bool.false_eq_true,if_false]
   refine wpAny_pure (hQ h₂ fun b o hb e=>he₂ b o hb (hs₁.extBut b o hb (Heap.get?_push_of_some _ e)))
end
section
variable {X:Cx} {pos:Pos}
noncomputable def Sx (K:FG) (n:Nat) (t:sE):TG:=fun v σ H Q=>∃ a xs,v=.ref a/\(cB K H a xs\/bK K H a xs)/\xs.length=n/\t xs σ H Q
theorem kI {es:List Expr} {k:Nat} {t:sE} {n:Nat} (hc:X.calm=true) (h:Hx X es t)
 (hn:(assignEach es X.env).length=n:=by rfl) (hst:(assignEach es X.env).findIdx? (·.1)=none:=by rfl):PG X (.Tuple es k pos) (Sx X.K n t):=by
 intro pins s σ H v u Q I r hw
 obtain ⟨a,xs,e1,hq,hl,hw⟩:=hw
 rcases hq with hq | hq
 . exact Q8 hc h hn hst pins s σ H v u Q I r ⟨a,xs,e1,hq,hl,hw⟩
 . subst e1
   cases r
   obtain ⟨its,rv,ht,hz⟩:=I.list hq
   rw [assign_Tuple]
   refine wpAny_bind (wpAny_standAt ?_)
   unfold unpack
   have hsz:(assignEach es X.env).length=its.toArray.size:=by simp [hn,← hl,rv.length]
   rw [hsz,hst]
   refine wpAny_bind (wpAny_holding (vz (I.ok.hd hc) ht.isList fun h' hx=>?_))
   have I1:Inv X pins σ H { s with heap:=h' }:=I.kept (t':=s.toks) fun b o e=>hx b o (Nat.ne_of_lt (Heap.lt_size e)) e
   exact h pins _ σ H xs _ Q I1 (by simpa using rv) hw
noncomputable def iG (n:Nat) (bs:Bp):BF:=fun p ρ=>match p with
 | .tup ps=>if ps.length=n then bs ps ρ else none
 | .lst ps=>if ps.length=n then bs ps ρ else none
 | _=>none
theorem kJ {n:Nat} {t:sE} {bs:Bp} (h1:Nt K t bs):GS K (Sx K n t) (iG n bs):=by
 intro H0 Z0 σ H ρ pd v p ρ' Q s h k
 cases p with
 | tup ps=>
  have h':(if ps.length=n then bs ps ρ else none)=some ρ':=h
  split at h'
  . rename_i hn
    obtain ⟨e,Z,hg,z,r,sl'⟩:=s.sh
    unfold Rep at r
    obtain ⟨a,vs,rfl,h2,h3⟩:=r
    exact ⟨a,vs,rfl,.inl (cB.same z.zh h2),by rw [h3.length]; exact hn,h1 H0 Z0 σ H ρ pd vs ps ρ' Q h3.length (SR.items e hg z h3 sl') h' k⟩
  . cases h'
 | lst ps=>
  have h':(if ps.length=n then bs ps ρ else none)=some ρ':=h
  split at h'
  . rename_i hn
    obtain ⟨e,Z,hg,z,r,sl'⟩:=s.sh
    unfold Rep at r
    obtain ⟨a,vs,rfl,h2,h3⟩:=r
    exact ⟨a,vs,rfl,.inr (bK.same z.zh h2),by rw [h3.length]; exact hn,h1 H0 Z0 σ H ρ pd vs ps ρ' Q h3.length (SR.items e hg z h3 sl') h' k⟩
  . cases h'
 | _=>cases h
noncomputable def VN (K:FG) (tl:TE):TI:=fun σ H R=>tl σ H fun x H1=>(∃ a,x=.ref a/\(∃ xs,bK K H1 a xs)/\R (M4 K a) H1)\/(∃ a,x=.ref a/\(∃ xs,cB K H1 a xs)/\R (M5 K a) H1)\/∃ z,x=.str z/\R (rP z) H1
theorem Sy {tg l:Expr} {tl:TE} (hl:PE X l tl):PI X tg l (VN X.K tl):=by
 intro pins s σ H R I h
 have at':∀ (v:Value) (s1:Shared) (x:V) (H1:Hp),Inv X pins σ H1 s1->RelV x v->((∃ a,x=.ref a/\(∃ xs,bK X.K H1 a xs)/\R (M4 X.K a) H1)\/(∃ a,x=.ref a/\(∃ xs,cB X.K H1 a xs)/\R (M5 X.K a) H1)\/∃ z,x=.str z/\R (rP z) H1)->
  wpAny (model X.prog X.w) X.A (pyIter v) (PIE X pins σ tg R) X.xe s1:=fun v s1 x H1 I1 r1 q=>by
  have fp:∀ b,b∈[s1.heap.objs.size]->lN X pins H1 b:=fun b hb=>by
   have e:b=s1.heap.objs.size:=by simpa using hb
   subst e
   exact I1.fpOk (Nat.le_refl _) (I1.hok.fresh (Nat.le_refl _))
  rcases q with ⟨a,rfl,⟨xs,hq⟩,q⟩ | ⟨a,rfl,⟨xs,hq⟩,q⟩ | ⟨z,rfl,q⟩
  . cases r1
    obtain ⟨its,rv,p,hz⟩:=I1.list hq
    exact wpAny_pyIter_list p.isList ⟨s1.heap.objs.size,[s1.heap.objs.size],_,_,H1,rfl,I1.kept (t':=s1.toks) fun b o e=>Heap.get?_push_of_some _ e,Hy a _,⟨_,Heap.get?_push_size _ rfl,rfl,rfl⟩,fp,q⟩
  . cases r1
    obtain ⟨its,rv,p,hz⟩:=I1.tuple hq
    exact wpAny_pyIter_tuple p ⟨s1.heap.objs.size,[s1.heap.objs.size],_,_,H1,rfl,I1.kept (t':=s1.toks) fun b o e=>Heap.get?_push_of_some _ e,Gu a _,⟨_,Heap.get?_push_size _ rfl,rfl,rfl⟩,fp,q⟩
  . obtain ⟨t,rfl⟩:=r1
    have kp:∀ (o:Obj),Inv X pins σ H1 { s1 with heap:=s1.heap.push o }:=fun o=>I1.kept (t':=s1.toks) fun b u e=>Heap.get?_push_of_some _ e
    have ob:∀ {n:String} (i:Nat) (h:Heap),h.IsStrIter s1.heap.objs.size n z t i->∃ o,h.get? s1.heap.objs.size=some o/\∀ v,o.data≠.cell v:=fun i h st=>by
     obtain ⟨o,ho,_,hd⟩:=st
     exact ⟨o,ho,fun v e=>by rw [hd] at e; cases e⟩
    cases ha:z.cps.all (·<128)
    . exact wpAny_pyIter_wide ha ⟨s1.heap.objs.size,[s1.heap.objs.size],_,rP z,H1,rfl,kp _,BP _ z (fun A' hA=>Walks.strWide hA _ z t) ob (fun A i s Q E st h=>wpAny_pyIter_striter_wide st h),⟨_,Heap.get?_push_size _ rfl,rfl,rfl⟩,fp,q⟩
    . exact wpAny_pyIter_ascii ha ⟨s1.heap.objs.size,[s1.heap.objs.size],_,rP z,H1,rfl,kp _,BP _ z (fun A' hA=>Walks.strAscii hA _ z t) ob (fun A i s Q E st h=>wpAny_pyIter_striter_ascii st h),⟨_,Heap.get?_push_size _ rfl,rfl,rfl⟩,fp,q⟩
 exact cu (hl pins s σ H _ I h) fun v s1 ⟨x,H1,I1,r1,q⟩=>at' v s1 x H1 I1 r1 q
noncomputable def cD:PV->Option (List PV)
 | .lst ps=>some ps
 | .tup ps=>some ps
 | .str x=>some (signs x)
 | _=>none
theorem dG {tg l:Expr} {f:EF} (hl:PE X l (tP X.K f)):PI X tg l (Bq X.K (fK f cD)):=PI.imp (Sy hl) fun σ H R q=>by
 obtain ⟨H0,Z0,ρ,pd,xs,ρ',s,h,k⟩:=q
 obtain ⟨x,h1,h2⟩:=bind_some h
 obtain ⟨ys,h3,h4⟩:=map_some h2
 cases h4
 refine ⟨H0,Z0,ρ,pd,x.1,x.2,s,h1,fun v H1 s1=>?_⟩
 have s2:=s1.freeze
 cases e:x.1.pv with
 | lst ps=>
  rw [e] at h3 s2
  cases h3
  obtain ⟨Z,z,r⟩:=s2.rep
  unfold Rep at r
  obtain ⟨b,vs,rfl,h1',h2'⟩:=r
  exact .inl ⟨b,rfl,⟨vs,bK.same z h1'⟩,k _ _ _ s2 Ja (List.sublist_cons_self _ _)⟩
 | tup ps=>
  rw [e] at h3 s2
  cases h3
  obtain ⟨Z,z,r⟩:=s2.rep
  unfold Rep at r
  obtain ⟨b,vs,rfl,h1',h2'⟩:=r
  exact .inr (.inl ⟨b,rfl,⟨vs,cB.same z h1'⟩,k _ _ _ s2 Lh (List.sublist_cons_self _ _)⟩)
 | str z=>
  rw [e] at h3 s2
  cases h3
  obtain ⟨_,r⟩:=s2.repH
  exact .inr (.inr ⟨z,cG r,k _ _ _ s2.pop Lr (List.Sublist.refl _)⟩)
 | _=>rw [e] at h3; cases h3
end
section
variable {P:Program} {w:World} {K:FG} {mg:Str->Option Value} {base:Heap}
noncomputable def SJ (mg:Str->Option Value) (L:List Str):Prop:=∀ x∈L,mg x=none
theorem jY {x:Str} {st:Stmt} {ps:List Str} {k:Nat} (F:bw K mg x st ps):aW P w K mg base x k ps (bF K ps.length fun _ _=>none):=by
 obtain ⟨f,fd,F,hm,hb⟩:=F
 have no:∀ vs H Q E,¬ bF K ps.length (fun _ _=>none) vs H Q E:=fun vs H Q E h=>by
  obtain ⟨_,_,_,_,_,_,_,_,_,_,h,_⟩:=h
  cases h
 exact ⟨f,fd,⟨fun vs H Q E h=>absurd h (no vs H Q E),fun A outer s H args us vs Q E _ _ _ _ h=>absurd h (no vs H Q E)⟩,hm,F.kp,hb⟩
noncomputable def Ab (K:FG):Sp:=fun vs H Q _=>∃ (a:Addr) (ns:List Int),vs=[.ref a]/\bK K H a (ns.map V.int)/\ns.length<=63/\∀ H',Q (.bl true) H'
theorem SM {f:Addr} {fd:FuncData} {k:Nat} {g:GF} (F:iC P w K mg base mG k f fd ["_law_script"] (bF K 1 g)) (h:∀ ns:List Int,ns.length<=63->∃ mu',g [.lst (ns.map PV.int)] []=some (.sh (.bl true),mu')):iC P w K mg base mG k f fd ["_law_script"] (Ab K):=
 F.imp fun vs H Q E q=>by
  obtain ⟨a,ns,rfl,hs,hl,k⟩:=q
  obtain ⟨mu',e⟩:=h ns hl
  refine ⟨⟨H,[]⟩,[.lst (ns.map PV.int)],[],_,mu',rfl,rfl,dC.refl _,aF.cons ?_ .nil,⟨fun e he=>(by cases he),List.nodup_nil⟩,e,fun v H' r=>?_⟩
  . unfold Rep
    refine ⟨a,ns.map V.int,rfl,hs,?_⟩
    clear hs e hl
    induction ns with
    | nil=>exact .nil
    | cons n r ih=>exact aF.cons (fU _) ih
  . obtain ⟨Z',_,_,s⟩:=r
    obtain ⟨x,e1,e2⟩:=s.1 _ List.mem_cons_self
    cases e1
    rw [ji e2]
    exact k H'
end
theorem bf:∀ ρ ls ρ1,ao ρ=some (ls,ρ1)->ls.length=0:=fun ρ ls ρ1 h=>by cases h; rfl
theorem aB {f:EF} {g:AF} {n:Nat} (h:∀ ρ ls ρ1,g ρ=some (ls,ρ1)->ls.length=n):∀ ρ ls ρ1,aj f g ρ=some (ls,ρ1)->ls.length=n+1:=fun ρ ls ρ1 e=>by
 obtain ⟨x,h1,h2⟩:=bind_some e
 obtain ⟨y,h3,h4⟩:=map_some h2
 cases h4
 rw [List.length_cons,h _ _ _ h3]
theorem Uv {X:Cx} {M F:List Str} {ixs:List Nat} {sc:Scope} (S:Scope) (hS:X.env.scope=S) (kind:sc.kind=.function) (locs:∀ y∈sc.names,y.2=.local->sc.names.lookup y.1=some .local) (nocell:∀ y∈sc.names,y.2≠.cell)
 (own:∀ p∈sc.names,p.2=.free->S.names.lookup p.1=some .cell\/S.names.lookup p.1=some .free) (frs:∀ x∈F,sc.names.lookup x=some .free) (ix:ixs.map (fun i=>X.N[i]?)=F.map some) (visM:∀ x∈M,sc.names.lookup x=some .local):jc X M F ixs sc:=by
 refine ⟨kind,locs,nocell,fun p hp e=>by rw [hS]; exact own p hp e,frs,?_,fun j i h=>?_,visM⟩
 . have:=congrArg List.length ix
   simpa using this
 . have h2:(ixs.map (fun i=>X.N[i]?))[j]?=some X.N[i]?:=by rw [List.getElem?_map,h]; rfl
   rw [ix,List.getElem?_map] at h2
   cases q:F[j]? with
   | none=>rw [q] at h2; cases h2
   | some x=>rw [q] at h2; exact (Option.some.inj h2).symm
section
variable {P:Program} {w:World} {K:FG} {mg:Str->Option Value} {base:Heap}
theorem pK.okP {x:Str} {st:Stmt} {N ps:List Str} {k:Nat} {g:GF} {f:Addr} {fd:FuncData} (F:pK K x x st f fd) (S:bL N ps (aA st))
 (h:∀ (cdv:Value) (A:Around) (outer:List PySem.Env) (s:Shared) (H:Hp) (E:XK),dW k (A.deeper (envOfC x (aA st) s.heap.objs.size f cdv))->
   ∃ g':SF,(∀ a mu,g a mu=dY N.length g' a mu)/\iV (qg mG P w K mg base N x (aA st) f cdv A outer s H E).nox (bz st) (gB K g')):iC P w K mg base mG (k+1) f fd ps (bF K ps.length g):=by
 refine F.ok S (fun vs H Q E q=>?_) (fun cdv A outer s H vs Q E hr q=>?_)
 . obtain ⟨Z,qs,mu,r,mu',e,_⟩:=q; exact e
 . obtain ⟨g',eg,b⟩:=h cdv A outer s H E hr
   obtain ⟨Z,qs,mu,r,mu',e,hg,z,rl,c,hr',kk⟩:=q
   rw [eg] at hr'
   obtain ⟨fl,h1,h2⟩:=bind_some hr'
   refine ⟨_,b,jO H (oW Z.g mu),Z,_,[],fl,vq hg z rl c,h1,?_⟩
   cases fl with
   | rt r' ρ'=>
    cases h2
    intro v σ' H' s'
    obtain ⟨el,Z',hg',z',s''⟩:=s'.top
    refine kk v H' ⟨Z',hg',z',s''.sub ?_⟩
    exact (List.sublist_append_left _ _).cons_cons _
   | nx ρ'=>
    cases h2
    intro σ' H' s'
    obtain ⟨el,Z',hg',z',s''⟩:=s'
    exact kk .non H' ⟨Z',hg',z',(s''.sub (List.sublist_append_left _ _)).consS (ur _)⟩
   | bk ρ'=>cases h2
   | ct ρ'=>cases h2
end
section
variable {X:Cx}
noncomputable def VP:PV->Option PV
 | .int i=>some (.int (-i))
 | _=>none
noncomputable def lw (f:EF):EF:=fun ρ=>(f ρ).bind fun x=>(VP x.1.pv).map fun p=>(.sh p,x.2)
theorem xU {a:Expr} {f:EF} {pos:Pos} (ha:PE X a (tP X.K f)):PE X (.UnaryOp .USub a pos) (tP X.K (lw f)):=PE.imp (Ui Rm ha) fun σ H Q q=>by
 obtain ⟨H0,Z0,ρ,pd,r,ρ',s,h,k⟩:=q
 obtain ⟨x,h1,h2⟩:=bind_some h
 obtain ⟨p,h3,h4⟩:=map_some h2
 cases h4
 refine ⟨H0,Z0,ρ,pd,x.1,x.2,s,h1,fun v H1 s1=>?_⟩
 obtain ⟨_,r1⟩:=s1.freeze.repH
 cases e:x.1.pv with
 | int i=>
  rw [e] at h3 r1
  cases h3
  exact ⟨i,bG r1,k _ H1 (s1.pop.scal fU)⟩
 | _=>rw [e] at h3; cases h3
end
theorem Fd {b:BF} {body:SF} {xs:List PV} (I:Nat->Ev->Prop) (h0:I 0 ρ) (hs:∀ (i:Nat) x ρ,xs[i]?=some x->I i ρ->∃ ρ1,b x ρ=some ρ1/\∃ ρ2,(body ρ1=some (.nx ρ2)\/body ρ1=some (.ct ρ2))/\I (i+1) ρ2):∃ ρ',dh b body xs ρ=some (.nx ρ')/\I xs.length ρ':=by
 induction xs generalizing ρ I with
 | nil=>exact ⟨ρ,rfl,h0⟩
 | cons x xs ih=>
  obtain ⟨ρ1,e1,ρ2,e2,h2⟩:=hs 0 x ρ rfl h0
  obtain ⟨ρ',e3,h3⟩:=ih (ρ:=ρ2) (fun i ρ=>I (i+1) ρ) h2 (fun i y ρ h=>hs (i+1) y ρ (by simpa using h))
  refine ⟨ρ',?_,h3⟩
  show (b x ρ).bind _=_
  rw [e1,Option.bind_some]
  rcases e2 with e2 | e2<;>rw [e2,Option.bind_some]<;>exact e3
theorem vA {b:BF} {tc:TF} {te:EF} {mu:Mu} (J:Ev->Prop) (hJ:∀ ρ,J ρ->ρ.mu=mu) (c:PV->Bool) (f:PV->PV):∀ {xs:List PV} {ρ:Ev} {acc:List PV},J ρ->acc.length+xs.length<=100000->
 (∀ x∈xs,∀ ρ,J ρ->∃ ρ1,b x ρ=some ρ1/\∃ ρ2,tc ρ1=some (c x,ρ2)/\J ρ2/\(c x=true->∃ l ρ3,te ρ2=some (l,ρ3)/\l.pv=f x/\J ρ3))->cI b tc te xs ρ acc=some (acc++(xs.filter c).map f,mu)
 | [],ρ,acc,h,_,_=>by
  show some (acc,ρ.mu)=_
  rw [hJ ρ h]
  simp
 | x::xs,ρ,acc,h,hl,hs=>by
  obtain ⟨ρ1,e1,ρ2,e2,h2,h3⟩:=hs x List.mem_cons_self ρ h
  have hs':∀ y∈xs,∀ ρ,J ρ->∃ ρ1,b y ρ=some ρ1/\∃ ρ2,tc ρ1=some (c y,ρ2)/\J ρ2/\(c y=true->∃ l ρ3,te ρ2=some (l,ρ3)/\l.pv=f y/\J ρ3):=fun y hy=>hs y (List.mem_cons_of_mem _ hy)
  rw [List.length_cons] at hl
  show (b x ρ).bind _=_
  rw [e1,Option.bind_some,e2,Option.bind_some]
  cases hc:c x with
  | false=>
   simp only [Bool.false_eq_true,if_false]
   rw [vA J hJ c f h2 (by omega) hs',List.filter_cons_of_neg (by simp [hc])]
  | true=>
   obtain ⟨l,ρ3,e3,ef,h4⟩:=h3 hc
   simp only [if_true]
   rw [e3,Option.bind_some,if_pos (by omega),vA J hJ c f h4 (by rw [List.length_append,List.length_singleton]; omega) hs',List.filter_cons_of_pos (by simp [hc]),ef]
   simp
theorem yU {b:BF} {te:EF} {mu:Mu} (J:Ev->Prop) (hJ:∀ ρ,J ρ->ρ.mu=mu) (f:PV->PV) {xs:List PV} (h:J ρ) (hl:xs.length<=100000)
 (hs:∀ x∈xs,∀ ρ,J ρ->∃ ρ1,b x ρ=some ρ1/\∃ l ρ3,te ρ1=some (l,ρ3)/\l.pv=f x/\J ρ3) (hb:∀ x∈xs,∀ ρ ρ1,J ρ->b x ρ=some ρ1->J ρ1):cI b bH te xs ρ []=some (xs.map f,mu):=by
 rw [vA J hJ (fun _=>true) f h (by simpa using hl) fun x hx ρ hρ=>?_]
 . rw [List.nil_append,List.filter_eq_self.mpr (fun _ _=>rfl)]
 . obtain ⟨ρ1,e1,l,ρ3,e3⟩:=hs x hx ρ hρ
   exact ⟨ρ1,e1,ρ1,rfl,hb x hx ρ ρ1 hρ e1,fun _=>⟨l,ρ3,e3⟩⟩
theorem cz {a b:Int} (h:0<b):aO (.int a) (.int b)=some (.sh (.int (a%b))):=by
 show (if decide (0<b)=true then _ else _)=_
 rw [if_pos (decide_eq_true h)]
theorem fX {a b:Int} (h:0<b) (h2:b<1073741824):aZ (.int a) (.int b)=some (.sh (.int (a/b))):=by
 show (if decide (0<b/\b<1073741824)=true then _ else _)=_
 rw [if_pos (decide_eq_true ⟨h,h2⟩)]
theorem BV {a b:Int} (h:-18446744073709551616<a) (h2:a<18446744073709551616):fL (.int a) (.int b)=some (.sh (.int (a*b))):=by
 show (if decide ((-(2 ^ 64)<a/\a<2 ^ 64)\/(-(2 ^ 64)<b/\b<2 ^ 64))=true then _ else _)=_
 rw [if_pos (decide_eq_true (.inl ⟨by omega,by omega⟩))]
theorem qF {a b:Int} (h:-18446744073709551616<b) (h2:b<18446744073709551616):fL (.int a) (.int b)=some (.sh (.int (a*b))):=by
 show (if decide ((-(2 ^ 64)<a/\a<2 ^ 64)\/(-(2 ^ 64)<b/\b<2 ^ 64))=true then _ else _)=_
 rw [if_pos (decide_eq_true (.inr ⟨by omega,by omega⟩))]
theorem aP {g:PV->PV->Option Lc} {fa fb:EF} {ρ ρ1 ρ2:Ev} {x y l:Lc} (h1:fa ρ=some (x,ρ1)) (h2:fb ρ1=some (y,ρ2)) (h3:g x.pv y.pv=some l):aq g fa fb ρ=some (l,ρ2):=by
 unfold aq
 rw [h1,Option.bind_some,h2,Option.bind_some,h3]
 rfl
theorem rQ {α:Type} {l:List α} {i:Int} (h0:0<=i) (h1:i<l.length):∃ x,fW l i=some x/\l[i.toNat]?=some x:=by
 have hi:i.toNat<l.length:=by omega
 refine ⟨l[i.toNat],?_,List.getElem?_eq_getElem hi⟩
 unfold fW nY
 rw [if_pos h0,if_pos h1,Option.bind_some,List.getElem?_eq_getElem hi]
theorem qG {lo:Int} {n:Nat}:(iu lo n).length=n:=by simp [iu]
theorem PQ {lo:Int} {n:Nat} {p:PV} (h:p∈iu lo n):∃ i:Nat,i<n/\p=.int (lo+i):=by
 unfold iu at h
 obtain ⟨i,hi,rfl⟩:=List.mem_map.mp h
 exact ⟨i,List.mem_range.mp hi,rfl⟩
theorem xV {f g:SF} {ρ ρ':Ev} (h:f ρ=some (.nx ρ')):aG f g ρ=g ρ':=by unfold aG; rw [h,Option.bind_some]
theorem xW {f g:SF} {ρ ρ':Ev} {r:Lc} (h:f ρ=some (.rt r ρ')):aG f g ρ=some (.rt r ρ'):=by unfold aG; rw [h,Option.bind_some]
theorem PX {i:Nat} {f:EF} {ρ ρ1:Ev} {l:Lc} (h:f ρ=some (l,ρ1)) (hi:i<ρ1.vs.length):aL i f ρ=some (.nx (ρ1.set i (some l))):=by unfold aL; rw [h,Option.bind_some,if_pos hi]
theorem jZ {c:TF} {f g:SF} {ρ ρ1:Ev} (h:c ρ=some (true,ρ1)):cJ c f g ρ=f ρ1:=by unfold cJ; rw [h,Option.bind_some,if_pos rfl]
theorem jj {c:TF} {f g:SF} {ρ ρ1:Ev} (h:c ρ=some (false,ρ1)):cJ c f g ρ=g ρ1:=by unfold cJ; rw [h,Option.bind_some,if_neg Bool.false_ne_true]
theorem P0 {f:EF} {ρ ρ1:Ev} {l:Lc} (h:f ρ=some (l,ρ1)):dM f ρ=some (.rt l ρ1):=by unfold dM; rw [h]; rfl
theorem Qd {f:IF} {b:BF} {body:SF} {ρ ρ1:Ev} {xs:List PV} (h:f ρ=some (xs,ρ1)):fJ f b body ρ=dh b body xs ρ1:=by unfold fJ; rw [h,Option.bind_some]
theorem bj {n:Nat} {g:SF} {ps:List PV} {mu:Mu} {r:Lc} (h:g (env0 n ps mu)=some (.rt r ρ)):dY n g ps mu=some (r,ρ.mu):=by unfold dY; rw [h,Option.bind_some]
theorem Qe {n:Nat} {g:SF} {ps:List PV} {mu:Mu} (h:g (env0 n ps mu)=some (.nx ρ)):dY n g ps mu=some (.sh .non,ρ.mu):=by unfold dY; rw [h,Option.bind_some]
theorem Ls {g:GF} {a:AF} {ρ ρ1:Ev} {ls:List Lc} {r:Lc} {mu:Mu} (h:a ρ=some (ls,ρ1)) (h2:g (ls.map Lc.pv) ρ1.mu=some (r,mu)):aN g a ρ=some (r,⟨ρ1.vs,mu⟩):=by unfold aN; rw [h,Option.bind_some,h2]; rfl
theorem Lw {f:EF} {a:AF} {ρ ρ1 ρ2:Ev} {l:Lc} {ls:List Lc} (h:f ρ=some (l,ρ1)) (h2:a ρ1=some (ls,ρ2)):aj f a ρ=some (l::ls,ρ2):=by unfold aj; rw [h,Option.bind_some,h2]; rfl
theorem Uw {g:List PV->Option Lc} {a:AF} {ρ ρ1:Ev} {ls:List Lc} {r:Lc} (h:a ρ=some (ls,ρ1)) (h2:g (ls.map Lc.pv)=some r):eB g a ρ=some (r,ρ1):=by unfold eB; rw [h,Option.bind_some,h2]; rfl
theorem eY {f:IF} {m:Nat} {ixs:List Nat} {b:BF} {tc:TF} {te:EF} {ρ ρ1:Ev} {xs ys:List PV} {mu:Mu} (h:f ρ=some (xs,ρ1)) (h2:cI b tc te xs (oY m ixs (iZ ixs ρ1)) []=some (ys,mu)):du f m ixs b tc te ρ=some (.own (.lst ys),⟨(iZ ixs ρ1).vs,mu⟩):=by unfold du; rw [h,Option.bind_some,h2]; rfl
theorem di {f:EF} {g:PV->Option (List PV)} {ρ ρ1:Ev} {l:Lc} {xs:List PV} (h:f ρ=some (l,ρ1)) (h2:g l.pv=some xs):fK f g ρ=some (xs,ρ1):=by unfold fK; rw [h,Option.bind_some,h2]; rfl
theorem j0 {a:AF} {ρ ρ1:Ev} {l:Lc} {n:Int} (h:a ρ=some ([l],ρ1)) (hl:l.pv=.int n) (h1:-4611686018427387904<=n) (h2:n<4611686018427387904):gJ a ρ=some (iu 0 n.toNat,ρ1):=by
 unfold gJ
 rw [h,Option.bind_some]
 show (match [l.pv] with | [.int j]=>_ | _=>_)=_
 rw [hl]
 show (if -(2 ^ 62)<=n/\n<2 ^ 62 then _ else _)=_
 rw [if_pos ⟨by omega,by omega⟩]
theorem Lx {f:TF} {ρ ρ1:Ev} {b:Bool} (h:f ρ.peek=some (b,ρ1)):ux f ρ=some (b,ρ):=by unfold ux; rw [h]; rfl
theorem gR {f:EF} {tr:PV->Option Bool} {ρ ρ1:Ev} {l:Lc} {b:Bool} (h:f ρ=some (l,ρ1)) (h2:tr l.pv=some b):tT f tr ρ=some (b,ρ1):=by unfold tT; rw [h,Option.bind_some,h2]; rfl
theorem Ly {f:EF} {a:AF} {ρ ρ1 ρ2:Ev} {l m:Lc} {z:Str} {ps:List PV} {xs:List Str} (h:f ρ=some (l,ρ1)) (h2:a ρ1=some ([m],ρ2)) (hl:l.pv=.str z) (hm:m.pv=.lst ps) (hx:strsOf ps=some xs) (hs:(xs.map (·.length)).sum+xs.length*z.length<=100000):nu f a ρ=some (.sh (.str (Txt.join z xs)),ρ2):=by
 unfold nu
 rw [h,Option.bind_some,h2,Option.bind_some,hl]
 show (match PV.str z,[m.pv] with | .str z,[.lst ps]=>_ | _,_=>_)=_
 rw [hm]
 show (strsOf ps).bind _=_
 rw [hx,Option.bind_some,if_pos hs]
section
variable {f g:SF} {ρ ρ1 ρ2 ρ':Ev} {R:Option Fl} {l m r:Lc} {fa fb fc:EF} {c d:TF} {a:AF} {b:Bool}
theorem aJ (h:f ρ=some (.nx ρ')) (h2:g ρ'=R):aG f g ρ=R:=(xV h).trans h2
theorem bu {i:Nat} (h:fa ρ=some (l,ρ1)) (hi:Nat.blt i ρ1.vs.length=true) (e:ρ1.set i (some l)=ρ'):aL i fa ρ=some (.nx ρ'):=by
 rw [PX h (by simpa using hi),e]
theorem gn (h:fa ρ=some (l,ρ1)):dM fa ρ=some (.rt l ρ1):=P0 h
theorem gk {o:PV->PV->Option Lc} {p q:PV} (h1:fa ρ=some (l,ρ1)) (hx:l.pv=p) (h2:fb ρ1=some (m,ρ2)) (hy:m.pv=q) (h3:o p q=some r):aq o fa fb ρ=some (r,ρ2):=aP h1 h2 (by rw [hx,hy]; exact h3)
theorem aV {G:GF} {ls:List Lc} {ps:List PV} {mu:Mu} {v:List (Option Lc)} {mu1:Mu} (h:a ρ=some (ls,ρ1)) (hp:ls.map Lc.pv=ps) (hv:ρ1.vs=v) (hm:ρ1.mu=mu1) (h2:G ps mu1=some (r,mu)):aN G a ρ=some (r,⟨v,mu⟩):=by
 subst hp hv hm
 exact Ls h h2
theorem j8 {G:List PV->Option Lc} {ls:List Lc} {ps:List PV} (h:a ρ=some (ls,ρ1)) (hp:ls.map Lc.pv=ps) (h2:G ps=some r):eB G a ρ=some (r,ρ1):=by
 subst hp
 exact Uw h h2
theorem aC {ls:List Lc} (h:fa ρ=some (l,ρ1)) (h2:a ρ1=some (ls,ρ2)):aj fa a ρ=some (l::ls,ρ2):=Lw h h2
theorem Ji (h:c ρ=some (b,ρ1)):ut c ρ=some (!b,ρ1):=by unfold ut; rw [h]; rfl
theorem kO {b2:Bool} (h:c ρ=some (b,ρ1)) (h2:d ρ1=some (b2,ρ1)):cC c d ρ=some (b&&b2,ρ1):=by
 unfold cC
 rw [h,Option.bind_some]
 cases b with
 | true=>rw [if_pos rfl,h2]; rfl
 | false=>rfl
theorem Hf {b2:Bool} (h:c ρ=some (b,ρ1)) (h2:d ρ1=some (b2,ρ1)):qm c d ρ=some (b||b2,ρ1):=by
 unfold qm
 rw [h,Option.bind_some]
 cases b with
 | true=>rfl
 | false=>rw [if_neg Bool.false_ne_true,h2]; rfl
theorem BW (h:c ρ.peek=some (b,ρ1)):ux c ρ=some (b,ρ):=Lx h
theorem wz {ls:List Lc} {ps:List PV} (h:a ρ=some (ls,ρ1)) (hl:Nat.ble ls.length 1000=true) (hp:ls.map Lc.pv=ps):cU a ρ=some (.own (.lst ps),ρ1):=by
 subst hp
 unfold cU
 rw [h,Option.bind_some,if_pos (by simpa using hl)]
theorem fB {ls:List Lc} {ps:List PV} (h:a ρ=some (ls,ρ1)) (hl:Nat.ble ls.length 1000=true) (hp:ls.map Lc.pv=ps):bc a ρ=some (.sh (.tup ps),ρ1):=by
 subst hp
 unfold bc
 rw [h,Option.bind_some,if_pos (by simpa using hl)]
theorem d9 {p q:PV} (h1:fa ρ=some (l,ρ1)) (hx:l.pv=p) (h2:fb ρ1=some (m,ρ2)) (hy:m.pv=q) (hn:∀ n,p≠.ptr n) (h3:nM p q=some r):aM fa fb ρ=some (r,ρ2):=by
 subst hx hy
 unfold aM
 rw [h1,Option.bind_some,h2,Option.bind_some]
 split
 . rename_i n k e1 e2
   exact (hn n e1).elim
 . rw [h3]; rfl
theorem Jj {n:Nat} {k:Int} {ws:List PV} {p:PV} (h1:fa ρ=some (l,ρ1)) (hx:l.pv=.ptr n) (h2:fb ρ1=some (m,ρ2)) (hy:m.pv=.int k) (hm:ρ2.mu[n]?=some (some (.lst ws))) (h3:fW ws k=some p):aM fa fb ρ=some (.sh p,ρ2):=by
 unfold aM
 rw [h1,Option.bind_some,h2,Option.bind_some,hx,hy]
 show (match ρ2.mu[n]? with | some (some (.lst ws))=>_ | _=>_)=_
 rw [hm]
 show (fW ws k).map _=_
 rw [h3]
 rfl
theorem lV {i:Nat} {ws0 ws:List PV} {p:PV} (h0:ρ.vs[i]?=some (some (.own (.lst ws0)))) (h:fa ρ=some (l,ρ1)) (hp:l.pv=p) (h1:ρ1.vs[i]?=some (some (.own (.lst ws)))) (hz:ws.length<100000) (e:ρ1.set i (some (.own (.lst (ws++[p]))))=ρ'):iR i fa ρ=some (.nx ρ'):=by
 subst hp
 unfold iR
 rw [h0]
 show (fa ρ).bind _=_
 rw [h,Option.bind_some]
 show (match ρ1.vs[i]? with | some (some (.own (.lst ws)))=>_ | _=>_)=_
 rw [h1]
 show (if ws.length<100000 then _ else _)=_
 rw [if_pos hz,e]
theorem tQ {i:Nat} {ws0 ws ps:List PV} (h0:ρ.vs[i]?=some (some (.own (.lst ws0)))) (h:fa ρ=some (l,ρ1)) (hp:l.pv=.lst ps) (h1:ρ1.vs[i]?=some (some (.own (.lst ws)))) (hz:ws.length+ps.length<=100000) (e:ρ1.set i (some (.own (.lst (ws++ps))))=ρ'):mR i fa ρ=some (.nx ρ'):=by
 unfold mR
 rw [h0]
 show (fa ρ).bind _=_
 rw [h,Option.bind_some,hp]
 show (match PV.lst ps,ρ1.vs[i]? with | .lst ps,some (some (.own (.lst ws)))=>_ | _,_=>_)=_
 rw [h1]
 show (if ws.length+ps.length<=100000 then _ else _)=_
 rw [if_pos hz,e]
theorem Fe {i:Nat} {fi fv:EF} {ws0 ws:List PV} {k:Int} {j:Nat} {x y:Lc} {p:PV} (h:fv ρ=some (x,ρ1)) (hxp:x.pv=p) (h0:ρ1.vs[i]?=some (some (.own (.lst ws0)))) (h2:fi ρ1=some (y,ρ2)) (hy:y.pv=.int k) (h1:ρ2.vs[i]?=some (some (.own (.lst ws)))) (hj:nY ws.length k=some j) (e:ρ2.set i (some (.own (.lst (ws.set j p))))=ρ'):pP i fi fv ρ=some (.nx ρ'):=by
 subst hxp
 unfold pP
 rw [h,Option.bind_some]
 show (match ρ1.vs[i]? with | some (some (.own (.lst _)))=>_ | _=>_)=_
 rw [h0]
 show (fi ρ1).bind _=_
 rw [h2,Option.bind_some,hy]
 show (match PV.int k,ρ2.vs[i]? with | .int k,some (some (.own (.lst ws)))=>_ | _,_=>_)=_
 rw [h1]
 show (nY ws.length k).map _=_
 rw [hj,Option.map_some,e]
theorem Nz {C:String} {p:PV} (h:fa ρ=some (l,ρ1)) (hp:l.pv=p) (h2:xT p C=some b):Jh C fa ρ=some (.sh (.bl b),ρ1):=by
 subst hp
 unfold Jh
 rw [h,Option.bind_some,h2]
 rfl
theorem eN {F:IF} {B:BF} {body:SF} {xs:List PV} (h:F ρ=some (xs,ρ1)) (h2:dh B body xs ρ1=R):fJ F B body ρ=R:=(Qd h).trans h2
theorem Jk {G:PV->Option (List PV)} {p:PV} {xs:List PV} (h:fa ρ=some (l,ρ1)) (hp:l.pv=p) (h2:G p=some xs):fK fa G ρ=some (xs,ρ1):=by
 subst hp
 exact di h h2
end
section
variable {X:Cx}
noncomputable def kZ (f:EF):EF:=fun ρ=>(f ρ).bind fun x=>match x.1 with
 | .own p=>some (.sh (.ptr x.2.mu.length),⟨x.2.vs,x.2.mu++[some p]⟩)
 | _=>none
theorem wA {e:Expr} {f:EF} (h:PE X e (tP X.K f)):PE X e (tP X.K (kZ f)):=PE.imp h fun σ H Q q=>by
 obtain ⟨H0,Z0,ρ,pd,l,ρ',s,f,k⟩:=q
 obtain ⟨x,h1,h2⟩:=bind_some f
 refine ⟨H0,Z0,ρ,pd,x.1,x.2,s,h1,fun v H1 s1=>?_⟩
 split at h2
 . rename_i p ep
   cases h2
   rw [ep] at s1
   obtain ⟨el,Z,hg,z,so⟩:=s1.top
   obtain ⟨a,ea,ra,za,ha0⟩:=so.1 _ List.mem_cons_self
   have ea':v=.ref a:=Option.some.inj ea
   subst ea'
   have lz:gA Z ⟨Z.z,Z.g++[a]⟩:=⟨dC.refl _,List.prefix_append _ _⟩
   have so2:=so.step (Z':=⟨Z.z,Z.g++[a]⟩) (H':=H1) lz fun e he b hb=>⟨rfl,(ir so he hb).1⟩
   refine k _ H1 (.mk (Z:=⟨Z.z,Z.g++[a]⟩) el (by simp [hg]) ⟨z.zh,z.h0,z.z0.trans lz,z.new⟩ (Slots.consS ?_ ?_))
   . refine so2.perm ?_
     have ec:dg (Z.g++[a]) (x.2.mu++[some p])=dg Z.g x.2.mu++[(some (.ref a),some (.own p))]:=by
      unfold dg
      rw [List.map_append,List.map_append,List.zip_append (by simp [hg])]
      rfl
     unfold sl
     show List.Perm (dg (Z.g++[a]) (x.2.mu++[some p])++_) _
     rw [ec,List.append_assoc]
     exact List.perm_middle
   . unfold Rep
     exact ⟨a,rfl,by show (Z.g++[a])[x.2.mu.length]?=some a; rw [hg,List.getElem?_append_right (Nat.le_refl _)]; simp⟩
 . cases h2
noncomputable def Wh (f:EF):EF:=fun ρ=>(f ρ).bind fun x=>match x.1 with
 | .sh (.ptr n)=>match x.2.mu[n]? with
  | some (some p)=>some (.own p,⟨x.2.vs,x.2.mu.set n none⟩)
  | _=>none
 | _=>none
noncomputable def openV (i:Nat) (ρ:Ev):Option Ev:=match ρ.vs[i]? with
 | some (some (.sh (.ptr n)))=>match ρ.mu[n]? with
  | some (some p)=>some ⟨ρ.vs.set i (some (.own p)),ρ.mu.set n none⟩
  | _=>none
 | _=>none
noncomputable def uy (i:Nat) (f:SF):SF:=fun ρ=>(f ρ).bind fun fl=>match fl with
 | .nx ρ'=>(openV i ρ').map .nx
 | _=>none
theorem SR.openV {ρ ρ':Ev} {i:Nat} (s:SR K H0 Z0 σ H ρ pd) (h:PL.openV i ρ=some ρ'):SR K H0 Z0 σ H ρ' pd:=by
 unfold PL.openV at h
 split at h
 . rename_i n en
   split at h
   . rename_i p em
     cases h
     obtain ⟨v,ev,s1⟩:=s.var en
     obtain ⟨a,rfl,s2⟩:=s1.cellO (p:=p) em
     have s3:=SR.sub s2 (pd:=(.ref a,.own p)::pd) ((List.sublist_cons_self _ _).cons_cons _)
     have hi:i<ρ.vs.length:=(List.getElem?_eq_some_iff.mp en).1
     have s4:=s3.store (i:=i) (by show i<(ρ.vs.set i _).length; rw [List.length_set]; exact hi)
     rw [set_same ev] at s4
     have e:(⟨(ρ.vs.set i (some (.sh (.ptr n)))).set i (some (.own p)),ρ.mu.set n none⟩:Ev)=⟨ρ.vs.set i (some (.own p)),ρ.mu.set n none⟩:=by rw [List.set_set]
     have s5:SR K H0 Z0 σ H ⟨(ρ.vs.set i (some (.sh (.ptr n)))).set i (some (.own p)),ρ.mu.set n none⟩ pd:=s4
     rw [e] at s5
     exact s5
   . cases h
 . cases h
theorem Ff {i:Nat} {st:Stmt} {f:SF} (h:PS X st (gB X.K f)):PS X st (gB X.K (uy i f)):=PS.imp h fun D σ H q=>by
 obtain ⟨H0,Z0,ρ,pd,fl,s,h,k⟩:=q
 obtain ⟨y,h1,h2⟩:=bind_some h
 cases y with
 | nx ρ'=>
  obtain ⟨ρ2,h3,rfl⟩:=map_some h2
  exact ⟨H0,Z0,ρ,pd,.nx ρ',s,h1,fun σ' H' s'=>k σ' H' (s'.openV h3)⟩
 | rt r ρ'=>cases h2
 | bk ρ'=>cases h2
 | ct ρ'=>cases h2
noncomputable def lW (f:EF) (lo hi:OF):EF:=fun ρ=>(f ρ).bind fun x=>(lo x.2).bind fun y=>(hi y.2).bind fun z=>match x.1.pv with
 | .lst ps=>some (.own (.lst (nT ps y.1 z.1)),z.2)
 | .str t=>if t.length<=100000 then some (.sh (.str (jM t y.1 z.1)),z.2) else none
 | _=>none
theorem oK {e:Expr} {lo hi:Option Expr} {p2 pos:Pos} {f:EF} {fl fh:OF} (he:PE X e (tP X.K f)) (hl:PO X lo (wk X.K fl)) (hu:PO X hi (wk X.K fh)):PE X (.Subscript e (.Slice lo hi none p2) pos) (tP X.K (lW f fl fh)):=PE.imp (An (Pa.or RP) he hl hu) fun σ H Q q=>by
 obtain ⟨H0,Z0,ρ,pd,r,ρ',s,h,k⟩:=q
 obtain ⟨x,h1,h2⟩:=bind_some h
 obtain ⟨y,h3,h4⟩:=bind_some h2
 obtain ⟨z,h5,h6⟩:=bind_some h4
 refine ⟨H0,Z0,ρ,pd,x.1,x.2,s,h1,fun v H1 s1=>⟨H0,Z0,x.2,_,y.1,y.2,s1.freeze,h3,fun H2 s2=>⟨H0,Z0,y.2,_,z.1,z.2,s2,h5,fun H3 s3=>?_⟩⟩⟩
 cases e:x.1.pv with
 | lst ps=>
  rw [e] at h6 s3
  cases h6
  obtain ⟨el,Z,hg,zz,r1,s4⟩:=s3.sh
  unfold Rep at r1
  obtain ⟨a,vs,rfl,g1,g2⟩:=r1
  refine .inl ⟨a,vs,rfl,bK.same zz.zh g1,fun p hp=>k _ _ ?_⟩
  obtain ⟨z',s'⟩:=s4.new (o:=.lst (oU vs y.1 z.1)) (p:=.lst (nT ps y.1 z.1)) zz hp ⟨_,bJ,g2.cut⟩
  exact .mk el hg z' s'
 | str t=>
  rw [e] at h6 s3
  have h6':(if t.length<=100000 then some (Lc.sh (.str (jM t y.1 z.1)),z.2) else none)=some (r,ρ'):=h6
  split at h6'
  . rename_i hz
    cases h6'
    obtain ⟨_,r1⟩:=s3.repH
    unfold Rep at r1
    exact .inr ⟨t,r1,small hz,k _ H3 (s3.pop.scal lG)⟩
  . cases h6'
 | _=>rw [e] at h6; cases h6
theorem SR.popO {a:Addr} {ws:List PV} {p:PV} (s:SR K H0 Z0 σ H ρ ((.ref a,.own (.lst ws))::pd)) (hp:ws[ws.length-1]?=some p):
 ∃ us y,H a=some (.lst us)/\us[us.length-1]?=some y/\SR K H0 Z0 σ (upd H a (.lst us.dropLast)) ρ ((.ref a,.own (.lst ws.dropLast))::(y,.sh p)::pd):=by
 obtain ⟨el,Z,hg,z,so⟩:=s.top
 obtain ⟨b,eb,⟨us,hu,hr⟩,_⟩:=so.1 _ List.mem_cons_self
 cases eb
 obtain ⟨y,hy,ry⟩:=hr.get hp
 have hl:=hr.length
 refine ⟨us,y,hu,by rw [hl]; exact hy,?_⟩
 have hd:aF K Z ws.dropLast us.dropLast:=by
  rw [List.dropLast_eq_take,List.dropLast_eq_take,hl]
  exact hr.take _
 obtain ⟨z',s'⟩:=so.write (o:=.lst us.dropLast) (q:=.lst ws.dropLast) z ⟨us.dropLast,bJ,hd⟩
 have s2:=(s'.consS (v:=y) (p:=p) ry).perm (List.Perm.swap (some y,some (Lc.sh p)) (some (V.ref a),some (Lc.own (.lst ws.dropLast))) _)
 exact .mk (Z:=Z) el hg z' (s2.perm (cN.cons _))
noncomputable def oA (ps:List PV):List PV:=ps.zipIdx.map fun x=>.tup [.int (x.2:Nat),x.1]
theorem Jl {ps:List PV} {i:Nat}:(oA ps)[i]?=ps[i]?.map fun p=>.tup [.int (i:Nat),p]:=by
 unfold oA
 rw [List.getElem?_map,List.getElem?_zipIdx]
 cases ps[i]?<;>simp
theorem Jm {ps:List PV}:(oA ps).length=ps.length:=by unfold oA; simp
theorem Jo {H0:Hp} {a:Addr} {ps:List PV}:nQ K H0 Z0 ((.ref a,.sh (.lst ps))::pd) (RQ K a) (oA ps):=by
 intro σ H ρ i s
 obtain ⟨el,Z,hg,z,r,so⟩:=s.sh
 have r0:=r
 unfold Rep at r
 obtain ⟨b,vs,e,h1,h2⟩:=r
 cases e
 have hq:=bK.same z.zh h1
 refine ⟨fun x hx=>?_,fun hl=>⟨vs,hq,by rw [h2.length]; rw [Jm] at hl; omega⟩⟩
 rw [Jl] at hx
 obtain ⟨p,hp,rfl⟩:=map_some hx
 obtain ⟨v,hv,rv⟩:=h2.get hp
 refine ⟨⟨vs,v,hq,hv⟩,fun v' H' y=>?_⟩
 obtain ⟨T,y,hT,rfl,rfl,hy⟩:=y
 have e1:=hy vs hq
 rw [hv] at e1
 cases e1
 obtain ⟨z',lz,so'⟩:=(so.consS r0).newF z (a:=T) (o:=.tup [.int (i:Nat),v]) hT
 refine .mk (Z:=Z.put T (.tup [.int (i:Nat),v])) el hg z' (Slots.perm (Slots.consS so' ?_) (cN.cons _))
 unfold Rep
 exact ⟨T,[.int (i:Nat),v],rfl,.inl (.inl (by show upd Z.z T _ T=_; rw [bJ])),aF.cons (fU _) (aF.cons (rv.mono lz) .nil)⟩
noncomputable def pq (f:EF):IF:=fun ρ=>(f ρ).bind fun x=>match x.1.pv with
 | .lst ps=>some (oA ps,x.2)
 | _=>none
theorem uz {a:Expr} {f:EF} {p pos:Pos} {elts:List Expr} {x1} {tpos:Pos} (hg:Gl X "enumerate") (hm:X.mg "enumerate" = none) (ha:PA X [a] (jJ X.K (aj f ao))) (hs:starEach [a] X.env=[(false,eval a X.env)]:=by rfl):PI X (.Tuple elts x1 tpos) (.Call (.Name "enumerate" p) [a] [] pos) (Bq X.K (pq f)):=PI.imp (Pn hg hm ha hs) fun σ H R q=>by
 obtain ⟨H0,Z0,ρ,pd,xs,ρ',s,h,k⟩:=q
 obtain ⟨x,h1,h2⟩:=bind_some h
 refine ⟨H0,Z0,ρ,pd,[x.1],x.2,s,?_,fun vs H1 e1 s1=>?_⟩
 . unfold aj ao
   rw [h1]
   rfl
 . obtain ⟨v,rfl⟩:=mH e1
   have s2:SR X.K H0 Z0 σ H1 x.2 ((v,.sh x.1.pv)::pd):=SR.freeze s1
   cases e:x.1.pv with
   | lst ps=>
    rw [e] at h2 s2
    cases h2
    obtain ⟨Z,z,r⟩:=s2.rep
    unfold Rep at r
    obtain ⟨b,us,rfl,h1',h2'⟩:=r
    exact ⟨b,rfl,⟨us,bK.same z h1'⟩,k _ _ _ s2 Jo (List.sublist_cons_self _ _)⟩
   | _=>rw [e] at h2; cases h2
noncomputable abbrev PD:=List (Key×PV)
noncomputable def tR:PD->Key->Option PV
 | [],_=>none
 | kv::r,k=>if kv.1=k then some kv.2 else tR r k
noncomputable def wC (k:Key) (v:PV):PD->PD
 | []=>[]
 | kv::r=>(if kv.1=k then (kv.1,v) else kv)::wC k v r
noncomputable def rR (l:PD) (k:Key) (v:PV):PD:=match tR l k with
 | some _=>wC k v l
 | none=>l++[(k,v)]
noncomputable def Lz:PV->Option Key
 | .int i=>some (.inl i)
 | .str x=>some (.inr x)
 | _=>none
noncomputable def lX (l:PD):PV:=.dk (l.map (·.1)) (l.map (·.2))
noncomputable def iH (K:FG) (Z:ZG):PD->List (Key×V)->Prop:=Paired fun p q=>p.1=q.1/\Rep K Z p.2 q.2
section
variable {K:FG} {Z Z':ZG}
theorem Fg:∀ {kvs:List (Key×V)} {ks:List Key} {ps:List PV},kvs.map (·.1)=ks->aF K Z ps (kvs.map (·.2))->iH K Z (ks.zip ps) kvs
 | [],ks,ps,h1,h2=>by
  subst h1
  exact .nil
 | kv::r,ks,ps,h1,h2=>by
  subst h1
  cases ps with
  | nil=>have:=h2.inv0; simp at this
  | cons p ps=>
   obtain ⟨v,r',e,h3,h4⟩:=h2.inv
   rw [List.map_cons] at e
   injection e with e1 e2
   subst e1 e2
   rw [List.map_cons,List.zip_cons_cons]
   exact .cons ⟨rfl,h3⟩ (Fg rfl h4)
theorem iH.keys:∀ {l:PD} {kvs:List (Key×V)},iH K Z l kvs->kvs.map (·.1)=l.map (·.1)
 | _,_,.nil=>rfl
 | _,_,.cons h t=>by rw [List.map_cons,List.map_cons,h.1,iH.keys t]
theorem iH.vals:∀ {l:PD} {kvs:List (Key×V)},iH K Z l kvs->aF K Z (l.map (·.2)) (kvs.map (·.2))
 | _,_,.nil=>.nil
 | _,_,.cons h t=>aF.cons h.2 (iH.vals t)
theorem iH.val {k:Key}:∀ {l:PD} {kvs:List (Key×V)},iH K Z l kvs->(∀ p,tR l k=some p->∃ v,qi kvs k=some v/\Rep K Z p v)/\(tR l k=none->qi kvs k=none)
 | _,_,.nil=>⟨fun p h=>(by cases h),fun _=>rfl⟩
 | p::l,q::kvs,.cons h t=>by
  have ih:=iH.val (k:=k) t
  by_cases e:p.1=k
  . have e':q.1=k:=by rw [← h.1]; exact e
    refine ⟨fun x hx=>⟨q.2,vg e',?_⟩,fun hx=>?_⟩
    . unfold tR at hx; rw [if_pos e] at hx; cases hx; exact h.2
    . unfold tR at hx; rw [if_pos e] at hx; cases hx
  . have e':¬ q.1=k:=by rw [← h.1]; exact e
    rw [vh e']
    unfold tR
    rw [if_neg e]
    exact ih
theorem iH.repl {k:Key} {p:PV} {v:V} (r:Rep K Z p v):∀ {l:PD} {kvs:List (Key×V)},iH K Z l kvs->iH K Z (wC k p l) (kvs.map fun kv=>if kv.1=k then (kv.1,v) else kv)
 | _,_,.nil=>.nil
 | a::l,b::kvs,.cons h t=>by
  refine .cons ?_ (iH.repl r t)
  by_cases e:a.1=k
  . have e':b.1=k:=by rw [← h.1]; exact e
    rw [if_pos e]
    dsimp only
    rw [if_pos e']
    exact ⟨h.1,r⟩
  . have e':¬ b.1=k:=by rw [← h.1]; exact e
    rw [if_neg e]
    dsimp only
    rw [if_neg e']
    exact h
theorem iH.app:∀ {l l':PD} {kvs kvs':List (Key×V)},iH K Z l kvs->iH K Z l' kvs'->iH K Z (l++l') (kvs++kvs')
 | _,_,_,_,.nil,h=>h
 | _,_,_,_,.cons a t,h=>.cons a (iH.app t h)
theorem iH.put {k:Key} {p:PV} {v:V} {l:PD} {kvs:List (Key×V)} (h:iH K Z l kvs) (r:Rep K Z p v):iH K Z (rR l k p) (putK kvs k v):=by
 have hv:=h.val (k:=k)
 unfold rR
 cases e:tR l k with
 | none=>
  rw [KZ v (hv.2 e)]
  exact h.app (.cons ⟨rfl,r⟩ .nil)
 | some q=>
  obtain ⟨u,hu,_⟩:=hv.1 q e
  have e2:putK kvs k v=kvs.map fun kv=>if kv.1=k then (kv.1,v) else kv:=by
   unfold putK
   rw [rG,hu]
   rfl
  rw [e2]
  exact h.repl r
theorem Qf {p:PV} {k:Key} {v:V} (h:Lz p=some k) (r:Rep K Z p v):v=kV k:=by
 cases p with
 | int i=>cases h; exact bG r
 | str x=>cases h; exact cG r
 | _=>cases h
end
theorem SR.takeD {i:Nat} {ks:List Key} {ps:List PV} (s:SR K H0 Z0 σ H ρ pd) (e:ρ.vs[i]?=some (some (.own (.dk ks ps)))):
 ∃ a,σ[i]?=some (some (.ref a))/\SR K H0 Z0 σ H (ρ.set i none) ((.ref a,.own (.dk ks ps))::pd):=by
 obtain ⟨v,e1,s1⟩:=s.take e
 obtain ⟨_,Z,_,z,so⟩:=s1.top
 obtain ⟨a,ea,_⟩:=so.1 _ List.mem_cons_self
 have ea':v=.ref a:=Option.some.inj ea
 subst ea'
 exact ⟨a,e1,s1⟩
theorem SR.setD {v:V} {p:PV} {a:Addr} {ks:List Key} {ps:List PV} {k:Key} (s:SR K H0 Z0 σ H ρ ((v,.sh p)::(.ref a,.own (.dk ks ps))::pd)):
 ∃ kvs,H a=some (.dK kvs)/\kvs.length=ks.length/\SR K H0 Z0 σ (upd H a (.dK (putK kvs k v))) ρ ((.ref a,.own (lX (rR (ks.zip ps) k p)))::pd):=by
 obtain ⟨el,Z,hg,z,r,so⟩:=s.sh
 have so2:=so.perm cN.symm
 obtain ⟨_,eb,⟨kvs,hu,hk,hr⟩,_⟩:=so2.1 _ List.mem_cons_self
 cases eb
 refine ⟨kvs,hu,by rw [← hk,List.length_map],?_⟩
 have d:=(Fg hk hr).put (k:=k) r
 obtain ⟨z',s'⟩:=so2.write (o:=.dK (putK kvs k v)) (q:=lX (rR (ks.zip ps) k p)) z ⟨putK kvs k v,bJ,d.keys,d.vals⟩
 exact .mk el hg z' s'
noncomputable def wD (i:Nat) (fi fv:EF):SF:=fun ρ=>(fv ρ).bind fun x=>match x.2.vs[i]? with
 | some (some (.own (.dk _ _)))=>(fi x.2).bind fun y=>match Lz y.1.pv,y.2.vs[i]? with
  | some k,some (some (.own (.dk ks ps)))=>if ks.length<100000 then some (.nx (y.2.set i (some (.own (lX (rR (ks.zip ps) k x.1.pv)))))) else none
  | _,_=>none
 | _=>none
theorem Qg {i:Nat} {o ix e:Expr} {fi fv:EF} {tpos pos:Pos} (h:PS X (.Assign [.Subscript o ix tpos] e pos) (Gr (tP X.K fv) (Kq (oO i) (tP X.K fi) Nm))):PS X (.Assign [.Subscript o ix tpos] e pos) (gB X.K (wD i fi fv)):=PS.imp h fun D σ H q=>by
 obtain ⟨H0,Z0,ρ,pd,fl,s,h,k⟩:=q
 obtain ⟨x,h1,h2⟩:=bind_some h
 refine ⟨H0,Z0,ρ,pd,x.1,x.2,s,h1,fun v H1 s1=>?_⟩
 split at h2
 . rename_i ks0 ps0 e0
   obtain ⟨y,h3,h4⟩:=bind_some h2
   obtain ⟨a,ea,_⟩:=s1.takeD e0
   refine ⟨.ref a,ea,H0,Z0,x.2,_,y.1,y.2,s1.freeze,h3,fun w H2 s2=>?_⟩
   split at h4
   . rename_i kk ks ps ek e3
     split at h4
     . rename_i hlen
       cases h4
       obtain ⟨_,rw'⟩:=s2.freeze.repH
       have ew:=Qf ek rw'
       obtain ⟨a',ea',s3⟩:=s2.pop.takeD e3
       rw [ea] at ea'; cases ea'
       obtain ⟨kvs,hu,hl,s4⟩:=s3.swap.setD (k:=kk)
       refine ⟨a,_,rfl,.inl ⟨kvs,kk,hu,ew,by rw [hl,sizeLine_eq]; omega,rfl⟩,k σ _ ?_⟩
       have s5:=s4.put ea
       rw [Ev.set_set] at s5
       exact s5
     . cases h4
   . cases h4
 . cases h2
noncomputable def lg (fo fv:EF):SF:=fun ρ=>(fo ρ).bind fun o=>match o.1.pv with
 | .ptr n=>match o.2.mu[n]? with
  | some (some (.lst _))=>(fv o.2).bind fun y=>match y.2.mu[n]? with
   | some (some (.lst ws))=>if ws.length<100000 then some (.nx ⟨y.2.vs,y.2.mu.set n (some (.lst (ws++[y.1.pv])))⟩) else none
   | _=>none
  | _=>none
 | _=>none
theorem uA {o e:Expr} {fo fv:EF} {apos cpos pos:Pos} (h:PS X (.Expr (.Call (.Attribute o "append" apos) [e] [] cpos) pos) (zQ (Ej X.K "list" xG (tP X.K fo) (jJ X.K (aj fv ao))))):
 PS X (.Expr (.Call (.Attribute o "append" apos) [e] [] cpos) pos) (gB X.K (lg fo fv)):=PS.imp h fun D σ H q=>by
 obtain ⟨H0,Z0,ρ,pd,fl,s,h,k⟩:=q
 obtain ⟨o',h1,h2⟩:=bind_some h
 refine ⟨H0,Z0,ρ,pd,o'.1,o'.2,s,h1,fun v H1 s1=>?_⟩
 split at h2
 . rename_i n en
   split at h2
   . rename_i ws0 em0
     obtain ⟨y,h3,h4⟩:=bind_some h2
     have s2:=s1.freeze
     rw [en] at s2
     obtain ⟨a,rfl,s5⟩:=s2.cellO em0
     obtain ⟨_,Z,_,z,so⟩:=s5.top
     obtain ⟨_,ea,⟨us,hu,_⟩,_⟩:=so.1 _ List.mem_cons_self
     cases ea
     refine ⟨.inl ⟨rfl,us,bK.of hu⟩,H0,Z0,o'.2,_,[y.1],y.2,s2,?_,fun vs H2 e2 sv=>?_⟩
     . unfold aj ao
       rw [h3]
       rfl
     . obtain ⟨v1,rfl⟩:=mH e2
       split at h4
       . rename_i ws em
         split at h4
         . rename_i hz
           cases h4
           have s3:SR X.K H0 Z0 σ H2 y.2 ((v1,.sh y.1.pv)::(.ref a,.sh (.ptr n))::pd):=SR.freeze sv
           obtain ⟨a',ea',s6⟩:=s3.swap.cellO em
           cases ea'
           have s7:SR X.K H0 Z0 σ H2 ⟨y.2.vs,y.2.mu.set n none⟩ ((v1,.sh y.1.pv)::(.ref a,.own (.lst ws))::(.ref a,.sh (.ptr n))::pd):=s6.perm ((List.Perm.swap _ _ _).trans ((List.Perm.swap _ _ _).cons _))
           obtain ⟨us2,hu2,hl,s8⟩:=s7.pushO
           have hn:n<y.2.mu.length:=(List.getElem?_eq_some_iff.mp em).1
           have s9:=s8.cellP (by show (y.2.mu.set n none)[n]?=_; rw [List.getElem?_set_self hn])
           refine ⟨a,us2,v1,rfl,rfl,hu2,by rw [hl,sizeLine_eq]; omega,k σ _ ?_⟩
           have e8:(y.2.mu.set n none).set n (some (.lst (ws++[y.1.pv])))=y.2.mu.set n (some (.lst (ws++[y.1.pv]))):=List.set_set ..
           have s10:SR X.K H0 Z0 σ (upd H2 a (.lst (us2++[v1]))) ⟨y.2.vs,(y.2.mu.set n none).set n (some (.lst (ws++[y.1.pv])))⟩ pd:=s9
           rw [e8] at s10
           exact s10
         . cases h4
       . cases h4
   . cases h2
 . cases h2
noncomputable def Nj:List (V×V)->List V
 | []=>[]
 | p::r=>p.1::p.2::Nj r
noncomputable def keysOf:List (Lc×Lc)->Option PD
 | []=>some []
 | p::r=>(Lz p.1.pv).bind fun k=>(keysOf r).map fun l=>(k,p.2.pv)::l
noncomputable def Jp:EF:=fun ρ=>some (.own (.dk [] []),ρ)
theorem SN {pos:Pos}:PE X (.Dict [] [] pos) (tP X.K Jp):=PE.imp K3 fun σ H Q q=>by
 obtain ⟨H0,Z0,ρ,pd,l,ρ',s,f,k⟩:=q
 cases f
 exact fun p hp=>k _ _ (s.newO hp fun Z _ _=>⟨[],bJ,rfl,.nil⟩)
noncomputable def lA (f:EF):EF:=fun ρ=>(f ρ).bind fun x=>match x.1.pv with
 | .ptr n=>match x.2.mu[n]? with
  | some (some (.lst ws))=>some (.sh (.int (ws.length:Nat)),x.2)
  | _=>none
 | p=>(Sq p).map fun l=>(l,x.2)
theorem LC {x:Str} {e:Expr} {f:EF} {p pos:Pos} (h:PE X (.Call (.Name x p) [e] [] pos) (yD (fun xs H Q=>∃ x n,xs=[x]/\Kw X.K x H n/\Q (.int n) H) (jJ X.K (aj f ao)))):PE X (.Call (.Name x p) [e] [] pos) (tP X.K (lA f)):=PE.imp h fun σ H Q q=>by
 obtain ⟨H0,Z0,ρ,pd,l,ρ',s,ff,k⟩:=q
 obtain ⟨y,h1,h2⟩:=bind_some ff
 refine ⟨H0,Z0,ρ,pd,[y.1],y.2,s,?_,fun vs H1 e1 s1=>?_⟩
 . unfold aj ao
   rw [h1]
   rfl
 . obtain ⟨v,rfl⟩:=mH e1
   have s2:SR X.K H0 Z0 σ H1 y.2 ((v,.sh y.1.pv)::pd):=SR.freeze s1
   split at h2
   . rename_i n en
     split at h2
     . rename_i ws em
       cases h2
       rw [en] at s2
       obtain ⟨a,rfl,s5⟩:=s2.cellO em
       obtain ⟨_,Z,_,z,so⟩:=s5.top
       obtain ⟨_,ea,⟨us,hu,hr⟩,_⟩:=so.1 _ List.mem_cons_self
       cases ea
       exact ⟨.ref a,ws.length,rfl,.inl ⟨us,bK.of hu,hr.length.symm⟩,k _ H1 (s2.pop.scal fU)⟩
     . cases h2
   . obtain ⟨l',h3,h4⟩:=map_some h2
     cases h4
     exact Je H0 Z0 σ y.2 pd H1 [v] [y.1.pv] _ Q rfl s2 h3 k
end
open PySem.SeqAt
section
variable {X:Cx}
end
end PL
namespace L2
open PySem PySem.Spec PyProof.Rows
variable {pins:List (Addr×Obj)} {E:Value->Shared->Prop} {s:Shared} {A:Around} {w:World} {P:Program}
section
variable {X:Cx}
end
end L2
namespace PL
open PySem PySem.Spec PyProof.Rows L2
variable {K:FG} {H0 H:Hp} {Z0:ZG} {σ:L2.St} {ρ:Ev} {pd:Pd}
noncomputable def qH (a b:Str):Prop:=ltCps b.cps.toList a.cps.toList=false
theorem j4 {a b:Str}:qH a b ↔ a.cps.toList<=b.cps.toList:=by
 unfold qH
 rw [ltCps_eq,decide_eq_false_iff_not]
 exact Iff.rfl
theorem tU:∀ (p:Str) (l:List Str),risingS p l=true->(p::l).Pairwise qH
 | p,[],_=>by simp
 | p,x::r,h=>by
  have h':(!ltCps x.cps.toList p.cps.toList&&risingS x r)=true:=h
  simp only [Bool.and_eq_true,Bool.not_eq_true'] at h'
  have ih:=tU x r h'.2
  have hx:qH p x:=h'.1
  refine List.pairwise_cons.mpr ⟨fun y hy=>?_,ih⟩
  rcases List.mem_cons.mp hy with rfl | hy
  . exact hx
  . exact j4.mpr (List.le_trans (j4.mp hx) (j4.mp (List.rel_of_pairwise_cons ih hy)))
theorem Jq:∀ {l:List Str},sortedS l=true->l.Pairwise qH
 | [],_=>.nil
 | x::r,h=>tU x r h
theorem Qh {a b:Str} (h:a.cps.toList=b.cps.toList):a=b:=by
 obtain ⟨⟨a⟩⟩:=a
 obtain ⟨⟨b⟩⟩:=b
 cases h
 rfl
theorem Jr {a b:List Str} (p:a.Perm b) (ha:a.Pairwise qH) (hb:b.Pairwise qH):a=b:=
 List.Perm.eq_of_pairwise (le:=qH) (fun x y _ _ h1 h2=>Qh (List.le_antisymm (j4.mp h1) (j4.mp h2))) ha hb p
noncomputable def vB (x:Str):List Str->List Str
 | []=>[x]
 | y::l=>if ltCps x.cps.toList y.cps.toList then x::y::l else y::vB x l
noncomputable def oE:List Str->List Str
 | []=>[]
 | x::l=>vB x (oE l)
theorem tV {x:Str}:∀ {l:List Str},(vB x l).Perm (x::l)
 | []=>.rfl
 | y::l=>by
  unfold vB
  split
  . exact .rfl
  . exact (tV.cons y).trans (.swap _ _ _)
theorem Fi {x:Str}:∀ {l:List Str},l.Pairwise qH->(vB x l).Pairwise qH
 | [],_=>by simp [vB]
 | y::l,h=>by
  obtain ⟨h1,h2⟩:=List.pairwise_cons.mp h
  unfold vB
  split
  . rename_i g
    rw [ltCps_eq,decide_eq_true_eq] at g
    have xy:qH x y:=j4.mpr (List.le_of_lt g)
    refine List.pairwise_cons.mpr ⟨fun z hz=>?_,h⟩
    rcases List.mem_cons.mp hz with rfl | hz
    . exact xy
    . exact j4.mpr (List.le_trans (j4.mp xy) (j4.mp (h1 z hz)))
  . rename_i g
    refine List.pairwise_cons.mpr ⟨fun z hz=>?_,Fi h2⟩
    rcases List.mem_cons.mp (tV.mem_iff.mp hz) with rfl | hz
    . simpa [qH] using g
    . exact h1 z hz
theorem rT:∀ {l:List Str},(oE l).Perm l
 | []=>.rfl
 | x::l=>tV.trans (rT.cons x)
theorem BX:∀ {l:List Str},(oE l).Pairwise qH
 | []=>.nil
 | x::l=>Fi BX
theorem LK {t ss:List Str} (p:t.Perm ss) (h:sortedS t=true):t=oE ss:=Jr (p.trans rT.symm) (Jq h) BX
noncomputable def qJ:List Str->List Str
 | []=>[]
 | x::l=>if x∈l then qJ l else x::qJ l
theorem wF {y:Str}:∀ {l:List Str},y∈qJ l ↔ y∈l
 | []=>Iff.rfl
 | x::l=>by
  unfold qJ
  split
  . rename_i h
    rw [wF,List.mem_cons]
    exact ⟨.inr,fun q=>q.elim (fun e=>e▸h) id⟩
  . rw [List.mem_cons,List.mem_cons,wF]
theorem vC:∀ {l:List Str},(qJ l).Nodup
 | []=>.nil
 | x::l=>by
  unfold qJ
  split
  . exact vC
  . rename_i h
    exact List.nodup_cons.mpr ⟨fun q=>h (wF.mp q),vC⟩
theorem wH:∀ {a b:List Str},a.Nodup->b.Nodup->(∀ y,y∈a ↔ y∈b)->a.Perm b
 | [],b,_,_,h=>by
  have:b=[]:=List.eq_nil_iff_forall_not_mem.mpr fun y hy=>by have:=(h y).mpr hy; cases this
  rw [this]
 | x::a,b,ha,hb,h=>by
  obtain ⟨h1,h2⟩:=List.nodup_cons.mp ha
  have hx:x∈b:=(h x).mp List.mem_cons_self
  have p:=List.perm_cons_erase hx
  refine ((wH h2 (hb.erase x) fun y=>?_).cons x).trans p.symm
  rw [hb.mem_erase_iff]
  constructor
  . intro hy
    exact ⟨fun e=>h1 (e▸hy),(h y).mp (List.mem_cons_of_mem _ hy)⟩
  . rintro ⟨n,hy⟩
    rcases List.mem_cons.mp ((h y).mpr hy) with e | q
    . exact absurd e n
    . exact q
theorem LQ {t ss:List Str} (n:t.Nodup) (m:∀ y,y∈t ↔ y∈ss) (h:sortedS t=true):t=oE (qJ ss):=LK (wH n vC fun y=>(m y).trans wF.symm) h
noncomputable def uB:List PV->Option (List Str)
 | []=>some []
 | .str x::ps=>(uB ps).map (x::·)
 | _::_=>none
theorem yV {Z:ZG}:∀ {ps:List PV} {vs:List V} {ss:List Str},uB ps=some ss->aF K Z ps vs->vs=ss.map V.str
 | [],vs,ss,h,r=>by
  cases h
  exact r
 | p::ps,vs,ss,h,r=>by
  obtain ⟨v,r',rfl,h1,h2⟩:=r
  cases p with
  | str x=>
   obtain ⟨t,g1,g2⟩:=map_some h
   cases g2
   rw [yV g1 h2]
   unfold Rep at h1
   rw [h1]
   rfl
  | _=>cases h
theorem BZ {Z:ZG}:∀ {ss:List Str},aF K Z (ss.map PV.str) (ss.map V.str)
 | []=>by show _=_; rfl
 | x::ss=>⟨.str x,ss.map V.str,rfl,by unfold Rep; rfl,BZ⟩
section
variable {X:Cx}
noncomputable def mV (f:EF):EF:=fun ρ=>(f ρ).bind fun x=>match x.1.pv with
 | .lst ps=>(uB ps).bind fun ss=>if ss.length<64 then some (.own (.lst ((oE (qJ ss)).map PV.str)),x.2) else none
 | _=>none
theorem yW {e:Expr} {f:EF} {p p' pos pos':Pos} (h:PE X (.Call (.Name "sorted" p) [.Call (.Name "set" p') [e] [] pos'] [] pos) (yD (Ip X) (zU (yD (RW X) (jJ X.K (aj f ao))) KH))):PE X (.Call (.Name "sorted" p) [.Call (.Name "set" p') [e] [] pos'] [] pos) (tP X.K (mV f)):=PE.imp h fun σ H Q q=>by
 obtain ⟨H0,Z0,ρ,pd,l,ρ',s,h,k⟩:=q
 obtain ⟨x,h1,h2⟩:=bind_some h
 refine ⟨H0,Z0,ρ,pd,[x.1],x.2,s,?_,fun vs H1 e1 s1=>?_⟩
 . unfold aj ao
   rw [h1]
   rfl
 . obtain ⟨v,rfl⟩:=mH e1
   have s2:SR X.K H0 Z0 σ H1 x.2 ((v,.sh x.1.pv)::pd):=SR.freeze s1
   cases e:x.1.pv with
   | lst ps=>
    rw [e] at h2 s2
    obtain ⟨ss,g1,g2⟩:=bind_some h2
    split at g2
    . rename_i hl
      cases g2
      obtain ⟨el,Z,hg,z,r,so⟩:=s2.sh
      unfold Rep at r
      obtain ⟨a,us,rfl,r1,r2⟩:=r
      have eu:=yV g1 r2
      subst eu
      refine ⟨a,ss,rfl,bK.same z.zh r1,by omega,fun b hb=>?_⟩
      obtain ⟨z',lz,so'⟩:=so.newF z (a:=b) (o:=.ext (Bd X.prog X.w b ss)) hb
      refine ⟨b,ss,rfl,bJ,hl,fun c ss' hc n m so1=>k _ _ ?_⟩
      rw [LQ n m so1]
      obtain ⟨z2,s3⟩:=so'.new (o:=.lst ((oE (qJ ss)).map V.str)) (p:=.lst ((oE (qJ ss)).map PV.str)) z' hc ⟨_,bJ,BZ⟩
      exact .mk (Z:=Z.put b (.ext (Bd X.prog X.w b ss))) el hg z2 s3
    . cases g2
   | _=>rw [e] at h2; cases h2
noncomputable def wI:List PV->Option (List Int)
 | []=>some []
 | .int x::ps=>(wI ps).map (x::·)
 | _::_=>none
theorem yX {Z:ZG}:∀ {ps:List PV} {vs:List V} {ns:List Int},wI ps=some ns->aF K Z ps vs->vs=ns.map V.int
 | [],vs,ns,h,r=>by
  cases h
  exact r
 | p::ps,vs,ns,h,r=>by
  obtain ⟨v,r',rfl,h1,h2⟩:=r
  cases p with
  | int x=>
   obtain ⟨t,g1,g2⟩:=map_some h
   cases g2
   rw [yX g1 h2]
   unfold Rep at h1
   rw [h1]
   rfl
  | _=>cases h
noncomputable def LR:PV->Option Lc
 | .lst ps=>(wI ps).bind fun ns=>if (ns.all fun n=>decide (0<=n))&&decide (ns.sum<4611686018427387904) then some (.sh (.int ns.sum)) else none
 | _=>none
noncomputable abbrev vD:List PV->Option Lc:=fun ps=>match ps with | [p]=>LR p | _=>none
theorem SQ:jK K (fun xs H Q=>∃ (p:Addr) (ns:List Int),xs=[.ref p]/\bK K H p (ns.map V.int)/\(∀ n∈ns,0<=n)/\ns.sum<4611686018427387904/\Q (.int ns.sum) H) vD:=jK.one fun H0 Z0 σ ρ pd H v p l Q s e k=>by
 have s0:=s.pop
 obtain ⟨el,Z,hg,z,r,s1⟩:=s.sh
 cases p with
 | lst ps=>
  obtain ⟨ns,h1,h2⟩:=bind_some e
  split at h2
  . rename_i hc
    cases h2
    simp only [Bool.and_eq_true,List.all_eq_true,decide_eq_true_eq] at hc
    unfold Rep at r
    obtain ⟨a,vs,rfl,h3,h4⟩:=r
    have ev:=yX h1 h4
    subst ev
    exact ⟨a,ns,rfl,bK.same z.zh h3,hc.1,hc.2,k _ _ (s0.scal fun Z=>fU _)⟩
  . cases h2
 | _=>cases e
section
variable {K:FG} {Z Z':ZG}
end
theorem SR.ext {l:Addr} {o:HO} (s:SR K H0 Z0 σ H ρ pd) (hl:H l=none):SR K H0 Z0 σ (upd H l o) ρ pd:=by
 obtain ⟨el,Z,hg,z,so⟩:=s
 obtain ⟨z',lz,so'⟩:=so.newF z (o:=o) hl
 exact ⟨el,Z.put l o,hg,z',so'⟩
noncomputable abbrev FD:=List (Str×PV)
noncomputable def nA:FD->Str->Option PV
 | [],_=>none
 | kv::r,k=>if kv.1=k then some kv.2 else nA r k
noncomputable def nC (f:Str) (p:PV):FD->FD
 | []=>[(f,p)]
 | kv::r=>if kv.1=f then (kv.1,p)::r else kv::nC f p r
noncomputable def eO (C:Str) (l:FD):PV:=.obj C (l.map (·.1)) (l.map (·.2))
noncomputable def lY (K:FG) (Z:ZG):FD->List (Str×V)->Prop:=Paired fun p q=>p.1=q.1/\Rep K Z p.2 q.2
section
variable {K:FG} {Z Z':ZG}
theorem xX:∀ {kvs:List (Str×V)} {ks:List Str} {ps:List PV},kvs.map (·.1)=ks->aF K Z ps (kvs.map (·.2))->lY K Z (ks.zip ps) kvs
 | [],ks,ps,h1,h2=>by
  subst h1
  exact .nil
 | kv::r,ks,ps,h1,h2=>by
  subst h1
  cases ps with
  | nil=>have:=h2.inv0; simp at this
  | cons p ps=>
   obtain ⟨v,r',e,h3,h4⟩:=h2.inv
   rw [List.map_cons] at e
   injection e with e1 e2
   subst e1 e2
   rw [List.map_cons,List.zip_cons_cons]
   exact .cons ⟨rfl,h3⟩ (xX rfl h4)
theorem lY.keys:∀ {l:FD} {kvs:List (Str×V)},lY K Z l kvs->kvs.map (·.1)=l.map (·.1)
 | _,_,.nil=>rfl
 | _,_,.cons h t=>by rw [List.map_cons,List.map_cons,h.1,lY.keys t]
theorem lY.vals:∀ {l:FD} {kvs:List (Str×V)},lY K Z l kvs->aF K Z (l.map (·.2)) (kvs.map (·.2))
 | _,_,.nil=>.nil
 | _,_,.cons h t=>aF.cons h.2 (lY.vals t)
theorem lY.look {f:Str}:∀ {l:FD} {kvs:List (Str×V)},lY K Z l kvs->(∀ p,nA l f=some p->∃ v,kvs.lookup f=some v/\Rep K Z p v)/\(nA l f=none->kvs.lookup f=none)
 | _,_,.nil=>⟨fun p h=>(by cases h),fun _=>rfl⟩
 | p::l,q::kvs,.cons h t=>by
  have ih:=lY.look (f:=f) t
  have e0:(q::kvs).lookup f=if f=q.1 then some q.2 else kvs.lookup f:=by
   obtain ⟨q1,q2⟩:=q
   rw [List.lookup_cons]
   by_cases e:f=q1
   . subst e; simp
   . rw [if_neg e,show (f==q1)=false from beq_eq_false_iff_ne.mpr e]
  rw [e0]
  by_cases e:p.1=f
  . have e':f=q.1:=by rw [← h.1]; exact e.symm
    rw [if_pos e']
    refine ⟨fun x hx=>⟨q.2,rfl,?_⟩,fun hx=>?_⟩
    . unfold nA at hx; rw [if_pos e] at hx; cases hx; exact h.2
    . unfold nA at hx; rw [if_pos e] at hx; cases hx
  . have e':¬ f=q.1:=by rw [← h.1]; exact fun z=>e z.symm
    rw [if_neg e']
    unfold nA
    rw [if_neg e]
    exact ih
theorem lY.put {f:Str} {p:PV} {v:V} (r:Rep K Z p v):∀ {l:FD} {kvs:List (Str×V)},lY K Z l kvs->lY K Z (nC f p l) (iB f v kvs)
 | _,_,.nil=>.cons ⟨rfl,r⟩ .nil
 | a::l,b::kvs,.cons h t=>by
  obtain ⟨b1,b2⟩:=b
  unfold nC iB
  have h1:a.1=b1:=h.1
  by_cases e:a.1=f
  . rw [if_pos e,if_pos (by rw [← h1]; exact e)]
    exact .cons ⟨h1,r⟩ t
  . rw [if_neg e,if_neg (by rw [← h1]; exact e)]
    exact .cons h (lY.put r t)
end
structure tW (K:FG) (mg:Str->Option Value) (C:Str) (c:Addr):Prop where
 cn:CN K C c
 cl:uV K c
 mgC:mg C=some (.ref c)
theorem Hh {C:Str} {c d:Addr} (h:CN K C c) (g:CN K C d):c=d:=by
 have:(some (some (Value.ref c)))=some (some (.ref d)):=h.symm.trans g
 cases this
 rfl
noncomputable def qt (C f:Str) (fo:EF):EF:=fun ρ=>(fo ρ).bind fun x=>match x.1.pv with
 | .ptr n=>match x.2.mu[n]? with
  | some (some (.obj D ks ps))=>if D=C then (nA (ks.zip ps) f).map fun p=>(.sh p,x.2) else none
  | _=>none
 | _=>none
theorem SR.cellB {pd pe:Pd} {a:Addr} {n:Nat} {p:PV} (hm:ρ.mu[n]?=some (some p)) (s:SR K H0 Z0 σ H ⟨ρ.vs,ρ.mu.set n none⟩ ((.ref a,.own p)::(.ref a,.sh (.ptr n))::pd)):SR K H0 Z0 σ H ρ pd:=by
 have hn:n<ρ.mu.length:=(List.getElem?_eq_some_iff.mp hm).1
 have s8:=s.cellP (by show (ρ.mu.set n none)[n]?=_; rw [List.getElem?_set_self hn])
 have e8:(ρ.mu.set n none).set n (some p)=ρ.mu:=by rw [List.set_set]; exact set_same hm
 have s9:SR K H0 Z0 σ H ⟨ρ.vs,(ρ.mu.set n none).set n (some p)⟩ pd:=s8
 rw [e8] at s9
 exact s9
theorem SR.objAt {v:V} {n:Nat} {C:Str} {ks:List Str} {ps:List PV} (s:SR K H0 Z0 σ H ρ ((v,.sh (.ptr n))::pd)) (hm:ρ.mu[n]?=some (some (.obj C ks ps))):
 ∃ a c dx fs,v=.ref a/\CN K C c/\H a=some (.ins c dx fs)/\fs.map (·.1)=ks/\(∀ f p,nA (ks.zip ps) f=some p->∃ u,fs.lookup f=some u/\SR K H0 Z0 σ H ρ ((u,.sh p)::(v,.sh (.ptr n))::pd))/\∀ f,nA (ks.zip ps) f=none->fs.lookup f=none:=by
 have sdup:SR K H0 Z0 σ H ρ ((v,.sh (.ptr n))::(v,.sh (.ptr n))::pd):=s.part fun Z _ r=>r
 obtain ⟨a,rfl,s5⟩:=sdup.cellO hm
 obtain ⟨el,Z,hg,z,so⟩:=s5.top
 obtain ⟨_,ea,⟨c,dx,fs,cn,hu,hk,hr⟩,_⟩:=so.1 _ List.mem_cons_self
 cases ea
 have rf:=xX hk hr
 refine ⟨a,c,dx,fs,rfl,cn,hu,hk,fun f p hl=>?_,fun f hl=>rf.look.2 hl⟩
 obtain ⟨u,h1,h2⟩:=rf.look.1 p hl
 refine ⟨u,h1,?_⟩
 have s6:SR K H0 Z0 σ H ⟨ρ.vs,ρ.mu.set n none⟩ ((u,.sh p)::(.ref a,.own (.obj C ks ps))::(.ref a,.sh (.ptr n))::(.ref a,.sh (.ptr n))::pd):=.mk (Z:=Z) el hg z ((so.perm cN).consS h2)
 have s7:SR K H0 Z0 σ H ⟨ρ.vs,ρ.mu.set n none⟩ ((.ref a,.own (.obj C ks ps))::(.ref a,.sh (.ptr n))::(u,.sh p)::(.ref a,.sh (.ptr n))::pd):=s6.perm (((List.Perm.swap _ _ _).cons _).trans (List.Perm.swap _ _ _))
 exact SR.cellB (pe:=pd) hm s7
theorem Ma {C f:Str} {c:Addr} {o:Expr} {fo:EF} {pos:Pos} (T:tW X.K X.mg C c) (na:kh X.K c f) (ho:PE X o (tP X.K fo)) (hb:attributeBase o f X.env (eval o X.env)=eval o X.env:=by rfl):PE X (.Attribute o f pos) (tP X.K (qt C f fo)):=PE.imp (Rp ho hb) fun σ H Q q=>by
 obtain ⟨H0,Z0,ρ,pd,l,ρ',s,h,k⟩:=q
 obtain ⟨x,h1,h2⟩:=bind_some h
 refine ⟨H0,Z0,ρ,pd,x.1,x.2,s,h1,fun v H1 s1=>?_⟩
 split at h2
 . rename_i n en
   split at h2
   . rename_i D ks ps em
     split at h2
     . rename_i eD
       subst eD
       obtain ⟨p,h3,h4⟩:=map_some h2
       cases h4
       have s2:=s1.freeze
       rw [en] at s2
       obtain ⟨a,c',dx,fs,rfl,cn,hH,hk,hl,_⟩:=s2.objAt em
       have:=Hh T.cn cn
       subst this
       obtain ⟨u,h5,s6⟩:=hl f p h3
       exact ⟨a,c,dx,fs,u,rfl,hH,T.cl,na,h5,k u H1 (s6.sub ((List.sublist_cons_self _ _).cons_cons _))⟩
     . cases h2
   . cases h2
 . cases h2
noncomputable def uC (C f:Str) (fo fv:EF):SF:=fun ρ=>(fv ρ).bind fun y=>(fo y.2).bind fun x=>match x.1.pv with
 | .ptr n=>match x.2.mu[n]? with
  | some (some (.obj D ks ps))=>if D=C/\ks.length<1000 then some (.nx ⟨x.2.vs,x.2.mu.set n (some (eO C (nC f y.1.pv (ks.zip ps))))⟩) else none
  | _=>none
 | _=>none
theorem xY {C f:Str} {c:Addr} {o value:Expr} {fo fv:EF} {pos' pos:Pos} (T:tW X.K X.mg C c) (na:kh X.K c f) (ho:PE X o (tP X.K fo)) (hv:PE X value (tP X.K fv)) (hs:swapsWith value (some (.Attribute o f pos')) pos.line X.env=pure false:=by rfl):PS X (.Assign [.Attribute o f pos'] value pos) (gB X.K (uC C f fo fv)):=PS.imp (Rq ho hv hs) fun D σ H q=>by
 obtain ⟨H0,Z0,ρ,pd,fl,s,h,k⟩:=q
 obtain ⟨y,h1,h2⟩:=bind_some h
 obtain ⟨x,h3,h4⟩:=bind_some h2
 refine ⟨H0,Z0,ρ,pd,y.1,y.2,s,h1,fun v H1 s1=>⟨H0,Z0,y.2,_,x.1,x.2,s1.freeze,h3,fun w H2 s2=>?_⟩⟩
 split at h4
 . rename_i n en
   split at h4
   . rename_i D' ks ps em
     split at h4
     . rename_i eD
       obtain ⟨eD,hz⟩:=eD
       subst eD
       cases h4
       have s3:=s2.freeze
       rw [en] at s3
       obtain ⟨a,rfl,s5⟩:=s3.cellO em
       have s6:SR X.K H0 Z0 σ H2 ⟨x.2.vs,x.2.mu.set n none⟩ ((v,.sh y.1.pv)::(.ref a,.own (.obj D' ks ps))::(.ref a,.sh (.ptr n))::pd):=s5.perm ((List.Perm.swap _ _ _).trans ((List.Perm.swap _ _ _).cons _))
       obtain ⟨el,Z,hg,z,r,so⟩:=s6.sh
       have so2:=so.perm cN.symm
       obtain ⟨_,eb,⟨c',dx,fs,cn,hu,hk,hr⟩,_⟩:=so2.1 _ List.mem_cons_self
       cases eb
       have:=Hh T.cn cn
       subst this
       have rf:=xX hk hr
       have rp:=rf.put (f:=f) r
       have hlen:fs.length=ks.length:=by rw [← hk,List.length_map]
       refine ⟨a,c,dx,fs,rfl,hu,T.cl,na,by omega,k σ _ ?_⟩
       obtain ⟨z',s'⟩:=so2.write (o:=.ins c dx (iB f v fs)) (q:=eO D' (nC f y.1.pv (ks.zip ps))) z ⟨c,dx,iB f v fs,cn,bJ,rp.keys,rp.vals⟩
       have s7:SR X.K H0 Z0 σ (upd H2 a (.ins c dx (iB f v fs))) ⟨x.2.vs,x.2.mu.set n none⟩ ((.ref a,.own (eO D' (nC f y.1.pv (ks.zip ps))))::(.ref a,.sh (.ptr n))::pd):=.mk el hg z' s'
       have hn:n<x.2.mu.length:=(List.getElem?_eq_some_iff.mp em).1
       have s8:=s7.cellP (by show (x.2.mu.set n none)[n]?=_; rw [List.getElem?_set_self hn])
       have e8:(x.2.mu.set n none).set n (some (eO D' (nC f y.1.pv (ks.zip ps))))=x.2.mu.set n (some (eO D' (nC f y.1.pv (ks.zip ps)))):=List.set_set ..
       have s9:SR X.K H0 Z0 σ (upd H2 a (.ins c dx (iB f v fs))) ⟨x.2.vs,(x.2.mu.set n none).set n (some (eO D' (nC f y.1.pv (ks.zip ps))))⟩ pd:=s8
       rw [e8] at s9
       exact s9
     . cases h4
   . cases h4
 . cases h4
end
section
variable {P:Program} {w:World} {K:FG} {mg:Str->Option Value} {base:Heap}
noncomputable def uZ (K:FG) (c:Addr) (m qual:Str) (st:Stmt) (ps:List Str):Prop:=∃ f fd,pK K m qual st f fd/\W.findIn K (.ref c) m=some (some (.ref f))/\W.isFn K (.ref f)=true/\Binds K fd ps []
noncomputable def u0 (P:Program) (w:World) (K:FG) (mg:Str->Option Value) (base:Heap) (c:Addr) (m:Str) (k:Nat) (ps:List Str) (sp:Sp):Prop:=∃ f fd,iC P w K mg base mG k f fd ps sp/\Meth K c m f/\Binds K fd ps []
theorem pK.okQ {x qual:Str} {st:Stmt} {N ps:List Str} {k:Nat} {g:GF} {f:Addr} {fd:FuncData} (F:pK K x qual st f fd) (S:bL N ps (aA st))
 (h:∀ (cdv:Value) (A:Around) (outer:List PySem.Env) (s:Shared) (H:Hp) (E:XK),dW k (A.deeper (envOfC qual (aA st) s.heap.objs.size f cdv))->
   ∃ g':SF,(∀ a mu,g a mu=dY N.length g' a mu)/\iV (qg mG P w K mg base N qual (aA st) f cdv A outer s H E).nox (bz st) (gB K g')):iC P w K mg base mG (k+1) f fd ps (bF K ps.length g):=by
 refine F.ok S (fun vs H Q E q=>?_) (fun cdv A outer s H vs Q E hr q=>?_)
 . obtain ⟨Z,qs,mu,r,mu',e,_⟩:=q; exact e
 . obtain ⟨g',eg,b⟩:=h cdv A outer s H E hr
   obtain ⟨Z,qs,mu,r,mu',e,hg,z,rl,c,hr',kk⟩:=q
   rw [eg] at hr'
   obtain ⟨fl,h1,h2⟩:=bind_some hr'
   refine ⟨_,b,jO H (oW Z.g mu),Z,_,[],fl,vq hg z rl c,h1,?_⟩
   cases fl with
   | rt r' ρ'=>
    cases h2
    intro v σ' H' s'
    obtain ⟨el,Z',hg',z',s''⟩:=s'.top
    refine kk v H' ⟨Z',hg',z',s''.sub ?_⟩
    exact (List.sublist_append_left _ _).cons_cons _
   | nx ρ'=>
    cases h2
    intro σ' H' s'
    obtain ⟨el,Z',hg',z',s''⟩:=s'
    exact kk .non H' ⟨Z',hg',z',(s''.sub (List.sublist_append_left _ _)).consS (ur _)⟩
   | bk ρ'=>cases h2
   | ct ρ'=>cases h2
theorem uZ.ok {c:Addr} {m qual:Str} {st:Stmt} {N ps:List Str} {k:Nat} {g:GF} (F:uZ K c m qual st ps) (S:bL N ps (aA st))
 (h:∀ (f:Addr) (cdv:Value) (A:Around) (outer:List PySem.Env) (s:Shared) (H:Hp) (E:XK),dW k (A.deeper (envOfC qual (aA st) s.heap.objs.size f cdv))->
   ∃ g':SF,(∀ a mu,g a mu=dY N.length g' a mu)/\iV (qg mG P w K mg base N qual (aA st) f cdv A outer s H E).nox (bz st) (gB K g')):u0 P w K mg base c m (k+1) ps (bF K ps.length g):=by
 obtain ⟨f,fd,F,h1,h2,hb⟩:=F
 exact ⟨f,fd,pK.okQ F S (h f),⟨h1,h2,F.kp⟩,hb⟩
end
section
variable {X:Cx}
noncomputable def jk (C m:Str) (g:GF) (fo:EF) (a:AF):EF:=fun ρ=>(fo ρ).bind fun x=>match x.1.pv with
 | .ptr n=>match x.2.mu[n]? with
  | some (some (.obj D ks _))=>if D=C/\ks.contains m=false then (a x.2).bind fun y=>(g (.ptr n::y.1.map Lc.pv) y.2.mu).map fun r=>(r.1,⟨y.2.vs,r.2⟩) else none
  | _=>none
 | _=>none
theorem yZ {m:Str}:∀ {fs:List (Str×V)},(fs.map (·.1)).contains m=false->fs.lookup m=none
 | [],_=>rfl
 | (g,x)::r,h=>by
  rw [List.map_cons,List.contains_cons,Bool.or_eq_false_iff] at h
  rw [List.lookup_cons,h.1]
  exact yZ h.2
theorem Mf {C m:Str} {c:Addr} {g:GF} {fo:EF} {a:AF} {n':Nat} {E:XK} (T:tW X.K X.mg C c) (hn:∀ ρ ls ρ1,a ρ=some (ls,ρ1)->ls.length+1=n'):∀ σ H Q,tP X.K (jk C m g fo a) σ H Q->Nf c m (bF X.K n' g) [] E (tP X.K fo) (jJ X.K a) σ H Q:=fun σ H Q q=>by
 obtain ⟨H0,Z0,ρ,pd,l,ρ',s,h,k⟩:=q
 obtain ⟨x,h1,h2⟩:=bind_some h
 refine ⟨H0,Z0,ρ,pd,x.1,x.2,s,h1,fun v H1 s1=>?_⟩
 split at h2
 . rename_i n en
   split at h2
   . rename_i D ks ps em
     split at h2
     . rename_i eD
       obtain ⟨eD,hk⟩:=eD
       subst eD
       obtain ⟨y,h3,h4⟩:=bind_some h2
       obtain ⟨r,h5,h6⟩:=map_some h4
       cases h6
       have s2:=s1.freeze
       rw [en] at s2
       obtain ⟨a',c',dx,fs,rfl,cn,hH,hks,_,_⟩:=s2.objAt em
       have:=Hh T.cn cn
       subst this
       refine ⟨a',dx,fs,rfl,hH,yZ (by rw [hks]; exact hk),H0,Z0,x.2,_,y.1,y.2,s2,h3,fun vs H2 e2 s3=>?_⟩
       have s4:SR X.K H0 Z0 σ H2 y.2 ((V.ref a'::vs).zip (Lc.sh (.ptr n)::y.1)++pd):=s3.perm (by
        rw [List.zip_cons_cons,List.cons_append]
        exact List.perm_middle.symm)
       obtain ⟨el,Z,hg,z,rl,sl'⟩:=s4.repl (by rw [List.length_cons,List.length_cons,e2])
       refine ⟨Z,.ptr n::y.1.map Lc.pv,y.2.mu,r.1,r.2,?_,hg,z.zh,?_,sl'.cells hg,h5,fun v H' rr=>k v H' (SR.called el hg z sl' rr)⟩
       . rw [List.append_nil,List.length_cons,e2]; exact hn _ _ _ h3
       . rw [List.append_nil]; exact rl
     . cases h2
   . cases h2
 . cases h2
theorem wJ {C m:Str} {c:Addr} {k:Nat} {ps:List Str} {g:GF} {fo:EF} {e o:Expr} {es:List Expr} {a:AF} {apos pos:Pos} {pl:Sem Bool} (T:tW X.K X.mg C c) (M:u0 X.prog X.w X.K X.mg X.base c m k ps (bF X.K ps.length g)) (hr:dW k X.A) (ho:PE X o (tP X.K fo)) (ha:PA X (e::es) (jJ X.K a)) (hn:∀ ρ ls ρ1,a ρ=some (ls,ρ1)->ls.length+1=ps.length)
 (hst:starEach (e::es) X.env=(false,eval e X.env)::starEach es X.env:=by rfl) (hpl:(backTo pos (starEach es X.env)).any (·.1)=false:=by rfl)
 (ht:eval (.Call (.Attribute o m apos) (e::es) [] pos) X.env=(do
   let ov ← eval o X.env
   standAt apos.atName
   let (f,first) ← holding [ov] (getMethod ov m pl)
   callWith pos f first (backTo pos (starEach (e::es) X.env)) (backToKw pos (keywordEach [] X.env))):=by rfl):PE X (.Call (.Attribute o m apos) (e::es) [] pos) (tP X.K (jk C m g fo a)):=by
 obtain ⟨f,fd,F,hm,hb⟩:=M
 exact PE.imp (OD (pl:=pl) (E:=E0) ho T.cl hm F hr hb .nil GX ha hst hpl ht) (Mf T hn)
theorem SR.toCell {a:Addr} {p:PV} (s:SR K H0 Z0 σ H ρ ((.ref a,.own p)::pd)):SR K H0 Z0 σ H ⟨ρ.vs,ρ.mu++[some p]⟩ ((.ref a,.sh (.ptr ρ.mu.length))::pd):=by
 obtain ⟨el,Z,hg,z,so⟩:=s.top
 have lz:gA Z ⟨Z.z,Z.g++[a]⟩:=⟨dC.refl _,List.prefix_append _ _⟩
 have so2:=so.step (Z':=⟨Z.z,Z.g++[a]⟩) (H':=H) lz fun e he b hb=>⟨rfl,(ir so he hb).1⟩
 refine .mk (Z:=⟨Z.z,Z.g++[a]⟩) el (by simp [hg]) ⟨z.zh,z.h0,z.z0.trans lz,z.new⟩ (Slots.consS ?_ ?_)
 . refine so2.perm ?_
   have ec:dg (Z.g++[a]) (ρ.mu++[some p])=dg Z.g ρ.mu++[(some (.ref a),some (.own p))]:=by
    unfold dg
    rw [List.map_append,List.map_append,List.zip_append (by simp [hg])]
    rfl
   unfold sl
   show List.Perm (dg (Z.g++[a]) (ρ.mu++[some p])++_) _
   rw [ec,List.append_assoc]
   exact List.perm_middle
 . unfold Rep
   exact ⟨a,rfl,by show (Z.g++[a])[ρ.mu.length]?=some a; rw [hg,List.getElem?_append_right (Nat.le_refl _)]; simp⟩
noncomputable def wK (C:Str) (g:GF) (a:AF):EF:=fun ρ=>(a ρ).bind fun y=>(g (.ptr y.2.mu.length::y.1.map Lc.pv) (y.2.mu++[some (.obj C [] [])])).bind fun r=>match r.1 with
 | .sh .non=>some (.sh (.ptr y.2.mu.length),⟨y.2.vs,r.2⟩)
 | _=>none
noncomputable def Mg (P:Program) (w:World) (K:FG) (mg:Str->Option Value) (base:Heap) (c:Addr) (k:Nat) (ps:List Str) (sp:Sp):Prop:=∃ f fd,iC P w K mg base mG k f fd ps sp/\Mk K c f/\Binds K fd ps []
theorem Mh {C:Str} {c:Addr} {g:GF} {a:AF} {n':Nat} {E:XK} (T:tW X.K X.mg C c) (hn:∀ ρ ls ρ1,a ρ=some (ls,ρ1)->ls.length+1=n'):∀ σ H Q,tP X.K (wK C g a) σ H Q->Ng c (bF X.K n' g) [] E (jJ X.K a) σ H Q:=fun σ H Q q=>by
 obtain ⟨H0,Z0,ρ,pd,l,ρ',s,h,k⟩:=q
 obtain ⟨y,h1,h2⟩:=bind_some h
 obtain ⟨r,h3,h4⟩:=bind_some h2
 split at h4
 . rename_i er
   cases h4
   refine ⟨H0,Z0,ρ,pd,y.1,y.2,s,h1,fun vs H1 e1 s1 x dx hx hdx hne=>?_⟩
   have s2:SR X.K H0 Z0 σ (upd H1 dx (.own x)) y.2 (vs.zip y.1++pd):=s1.ext hdx
   have s3:SR X.K H0 Z0 σ (upd (upd H1 dx (.own x)) x (.ins c dx [])) y.2 ((.ref x,.own (.obj C [] []))::(vs.zip y.1++pd)):=s2.newO (by rw [bV hne.symm]; exact hx) fun Z _ _=>⟨c,dx,[],T.cn,bJ,rfl,.nil⟩
   have s4:=s3.toCell
   have s5:SR X.K H0 Z0 σ (upd (upd H1 dx (.own x)) x (.ins c dx [])) ⟨y.2.vs,y.2.mu++[some (.obj C [] [])]⟩ ((.ref x,.sh (.ptr y.2.mu.length))::(.ref x,.sh (.ptr y.2.mu.length))::(vs.zip y.1++pd)):=s4.part fun Z _ r=>r
   have s6:SR X.K H0 Z0 σ (upd (upd H1 dx (.own x)) x (.ins c dx [])) ⟨y.2.vs,y.2.mu++[some (.obj C [] [])]⟩ ((V.ref x::vs).zip (Lc.sh (.ptr y.2.mu.length)::y.1)++(.ref x,.sh (.ptr y.2.mu.length))::pd):=s5.perm (by
    rw [List.zip_cons_cons,List.cons_append]
    exact List.perm_middle.cons _)
   obtain ⟨el,Z,hg,z,rl,sl'⟩:=s6.repl (by rw [List.length_cons,List.length_cons,e1])
   refine ⟨Z,.ptr y.2.mu.length::y.1.map Lc.pv,y.2.mu++[some (.obj C [] [])],r.1,r.2,?_,hg,z.zh,?_,sl'.cells hg,h3,fun v H' rr=>?_⟩
   . rw [List.append_nil,List.length_cons,e1]; exact hn _ _ _ h1
   . rw [List.append_nil]; exact rl
   . have s7:=SR.called el hg z sl' rr
     rw [er] at s7
     obtain ⟨_,r0⟩:=s7.repH
     exact ⟨jy r0,k _ _ s7.pop⟩
 . cases h4
theorem Ux {C:Str} {c:Addr} {k:Nat} {ps:List Str} {g:GF} {e:Expr} {es:List Expr} {a:AF} {p pos:Pos} (T:tW X.K X.mg C c) (M:Mg X.prog X.w X.K X.mg X.base c k ps (bF X.K ps.length g)) (hr:dW (k+1) X.A) (hg:Gl X C) (ha:PA X (e::es) (jJ X.K a)) (hn:∀ ρ ls ρ1,a ρ=some (ls,ρ1)->ls.length+1=ps.length)
 (hdb:(C==("__debug__" : Str))=false:=by decide) (he:starEach (e::es) X.env=(false,eval e X.env)::starEach es X.env:=by rfl) (hpl:(backTo pos (starEach es X.env)).any (·.1)=false:=by rfl):PE X (.Call (.Name C p) (e::es) [] pos) (tP X.K (wK C g a)):=by
 obtain ⟨f,fd,F,hm,hb⟩:=M
 exact PE.imp (OJ (E:=E0) hm F hr hg T.mgC hb .nil GX ha hdb he hpl) (Mh T hn)
end
theorem qK {a:AF} {n m:Nat} (h:∀ ρ ls ρ1,a ρ=some (ls,ρ1)->ls.length=n) (e:n+1=m:=by rfl):∀ ρ ls ρ1,a ρ=some (ls,ρ1)->ls.length+1=m:=fun ρ ls ρ1 g=>by rw [h _ _ _ g,e]
theorem Uy {P:Program} {w:World} {mg:Str->Option Value} {base:Heap} {c:Addr} {k:Nat} {ps:List Str} {sp:Sp} (h:u0 P w K mg base c "__init__" k ps sp) (mk:W.makesIn K c=true) (kc:W.keepIn K (.ref c)=true):Mg P w K mg base c k ps sp:=by
 obtain ⟨f,fd,F,m,b⟩:=h
 exact ⟨f,fd,F,⟨mk,m.at_,m.fn,kc⟩,b⟩
end PL
namespace L2
open PySem PySem.Spec PyProof.Rows
variable {pins:List (Addr×Obj)} {E:Value->Shared->Prop} {s:Shared} {A:Around} {w:World} {P:Program}
section
variable {X:Cx}
end
end L2
namespace PL
open PySem PySem.Spec PyProof.Rows L2
variable {K:FG} {H0 H:Hp} {Z0:ZG} {σ:L2.St} {ρ:Ev} {pd:Pd}
section
variable {X:Cx}
end
end PL
namespace L2
open PySem PySem.Spec PyProof.Rows
variable {pins:List (Addr×Obj)} {E:Value->Shared->Prop} {s:Shared} {A:Around} {w:World} {P:Program}
section
variable {X:Cx}
noncomputable def pk {α:Type} (xs:List α) (lo hi st:Option Int):List α:=
 (sliceRange (sliceBounds lo hi st xs.length).1 (sliceBounds lo hi st xs.length).2.1 (sliceBounds lo hi st xs.length).2.2).filterMap fun i=>xs[i]?
theorem Ca {its:List Value} {lo hi st:Option Int}:slicePick its.toArray lo hi st=(pk its lo hi st).toArray:=by
 unfold slicePick pk
 simp
theorem Vals.pick {xs:List V} {its:List Value} (r:Vals xs its):∀ {l:List Nat},Vals (l.filterMap fun i=>xs[i]?) (l.filterMap fun i=>its[i]?)
 | []=>.nil
 | i::l=>by
  have hl:=r.length
  cases h:xs[i]? with
  | none=>
   have h':its[i]?=none:=by rw [List.getElem?_eq_none_iff] at h ⊢; omega
   rw [List.filterMap_cons_none h,List.filterMap_cons_none h']
   exact r.pick
  | some x=>
   obtain ⟨u,h',ru⟩:=r.get h
   rw [List.filterMap_cons_some h,List.filterMap_cons_some h']
   exact .cons ru r.pick
theorem Vals.pk {xs:List V} {its:List Value} {lo hi st:Option Int} (r:Vals xs its):Vals (pk xs lo hi st) (L2.pk its lo hi st):=by
 unfold L2.pk
 rw [r.length]
 exact r.pick
noncomputable def VV (K:FG) (te:TE) (tl th tt:TO):TE:=fun σ H Q=>te σ H fun x H1=>tl σ H1 fun l H2=>th σ H2 fun u H3=>tt σ H3 fun k H4=>∃ a xs,x=.ref a/\bK K H4 a xs/\k≠some 0/\∀ p,H4 p=none->Q (.ref p) (upd H4 p (.lst (pk xs l u k)))
theorem Js {e:Expr} {lo hi:Option Expr} {st:Expr} {p2 pos:Pos} {te:TE} {tl th tt:TO} (he:PE X e te) (hl:PO X lo tl) (hu:PO X hi th) (ht:PO X (some st) tt):PE X (.Subscript e (.Slice lo hi (some st) p2) pos) (VV X.K te tl th tt):=by
 intro pins s σ H Q I h
 refine Subscript_ (cu (he pins s σ H _ I h) fun v s1 ⟨x,H1,I1,r1,q1⟩=>?_)
 refine wpAny_Slice (cu (hl pins s1 σ H1 _ I1 q1) fun vl s2 ⟨l,H2,I2,pl,q2⟩=>cu (hu pins s2 σ H2 _ I2 q2) fun vu s3 ⟨u,H3,I3,pu,q3⟩=>cu (ht pins s3 σ H3 _ I3 q3) fun vs s4 ⟨k,H4,I4,pk',q4⟩=>?_)
 obtain ⟨a,xs,rfl,hx,hk,q⟩:=q4
 cases r1
 have I5:Inv X pins σ H4 { s4 with heap:=s4.heap.push { cls:=.type "slice",data:=.fields #[vl,vu,vs] } }:=I4.kept (t':=s4.toks) fun b ob q=>Heap.get?_push_of_some _ q
 obtain ⟨its,r,ht,hz⟩:=I5.list hx
 have hlen:=r.length
 have hg:wpAny (model X.prog X.w) X.A (getItem (.ref a) (.ref s4.heap.objs.size)) (EP X pins σ Q) X.xe { s4 with heap:=s4.heap.push { cls:=.type "slice",data:=.fields #[vl,vu,vs] } }:=by
  refine wpAny_getItem_list_slice ht.isList (Heap.IsSliceOf.new ..) pl pu pk' hk ?_ (by rw [List.size_toArray]<;>omega)
  have hsz:=slicePick_size_le its.toArray l u k
  rw [Ca] at hsz ⊢
  refine ⟨.ref (s4.heap.push { cls:=.type "slice",data:=.fields #[vl,vu,vs] }).objs.size,_,I5.laid (t':=s4.toks) (o:=.lst (pk xs l u k)) (fun b ob q=>Heap.get?_push_of_some _ q) (Nat.le_refl _) ?_,rfl,q _ (I5.hok.fresh (Nat.le_refl _))⟩
  refine ⟨?_,_,0,r.pk,Heap.get?_push_size _ rfl⟩
  have e:=(r.pk (lo:=l) (hi:=u) (st:=k)).length
  rw [List.size_toArray,List.size_toArray] at hsz
  omega
 show wpAny (model X.prog X.w) X.A (subscriptTail e (.Slice lo hi (some st) p2) (.ref a) (.ref s4.heap.objs.size)) (EP X pins σ Q) X.xe { s4 with heap:=s4.heap.push { cls:=.type "slice",data:=.fields #[vl,vu,vs] } }
 exact tail_any (ops:=[.ref a,.ref s4.heap.objs.size]) ht.isList.typeIs slot_list_getitem.lookup hg (by with_unfolding_all rfl)
end
end L2
namespace PL
open PySem PySem.Spec PyProof.Rows L2
variable {K:FG} {H0 H:Hp} {Z0:ZG} {σ:L2.St} {ρ:Ev} {pd:Pd}
section
variable {X:Cx}
theorem aF.pick {Z:ZG} {ps:List PV} {vs:List V} (r:aF K Z ps vs):∀ {l:List Nat},aF K Z (l.filterMap fun i=>ps[i]?) (l.filterMap fun i=>vs[i]?)
 | []=>aF.nil
 | i::l=>by
  have hl:=r.length
  cases h:ps[i]? with
  | none=>
   have h':vs[i]?=none:=by rw [List.getElem?_eq_none_iff] at h ⊢; omega
   rw [List.filterMap_cons_none h,List.filterMap_cons_none h']
   exact r.pick
  | some x=>
   obtain ⟨u,h',ru⟩:=r.get h
   rw [List.filterMap_cons_some h,List.filterMap_cons_some h']
   exact aF.cons ru r.pick
theorem aF.pk {Z:ZG} {ps:List PV} {vs:List V} {lo hi st:Option Int} (r:aF K Z ps vs):aF K Z (L2.pk ps lo hi st) (L2.pk vs lo hi st):=by
 unfold L2.pk
 rw [r.length]
 exact r.pick
noncomputable def vG (f:EF) (lo hi st:OF):EF:=fun ρ=>(f ρ).bind fun x=>(lo x.2).bind fun y=>(hi y.2).bind fun z=>(st z.2).bind fun t=>match x.1.pv with
 | .lst ps=>if t.1≠some 0 then some (.own (.lst (pk ps y.1 z.1 t.1)),t.2) else none
 | _=>none
theorem Fj {e:Expr} {lo hi:Option Expr} {st:Expr} {p2 pos:Pos} {f:EF} {fl fh fs:OF} (he:PE X e (tP X.K f)) (hl:PO X lo (wk X.K fl)) (hu:PO X hi (wk X.K fh)) (ht:PO X (some st) (wk X.K fs)):
 PE X (.Subscript e (.Slice lo hi (some st) p2) pos) (tP X.K (vG f fl fh fs)):=PE.imp (Js he hl hu ht) fun σ H Q q=>by
 obtain ⟨H0,Z0,ρ,pd,r,ρ',s,h,k⟩:=q
 obtain ⟨x,h1,h2⟩:=bind_some h
 obtain ⟨y,h3,h4⟩:=bind_some h2
 obtain ⟨z,h5,h6⟩:=bind_some h4
 obtain ⟨t,h7,h8⟩:=bind_some h6
 refine ⟨H0,Z0,ρ,pd,x.1,x.2,s,h1,fun v H1 s1=>⟨H0,Z0,x.2,_,y.1,y.2,s1.freeze,h3,fun H2 s2=>⟨H0,Z0,y.2,_,z.1,z.2,s2,h5,fun H3 s3=>⟨H0,Z0,z.2,_,t.1,t.2,s3,h7,fun H4 s4=>?_⟩⟩⟩⟩
 split at h8
 . rename_i ps e
   split at h8
   . rename_i hk
     cases h8
     rw [e] at s4
     obtain ⟨el,Z,hg,zz,r1,s5⟩:=s4.sh
     unfold Rep at r1
     obtain ⟨a,vs,rfl,g1,g2⟩:=r1
     refine ⟨a,vs,rfl,bK.same zz.zh g1,hk,fun p hp=>k _ _ ?_⟩
     obtain ⟨z',s'⟩:=s5.new (o:=.lst (pk vs y.1 z.1 t.1)) (p:=.lst (pk ps y.1 z.1 t.1)) zz hp ⟨_,bJ,g2.pk⟩
     exact .mk el hg z' s'
   . cases h8
 . cases h8
noncomputable def Holds (o:Option Nat) (ps:List PV) (ρ:Ev):Prop:=∀ n,o=some n->ρ.mu[n]?=some (some (.lst ps))
noncomputable abbrev V9:=Ev->Option (Option Nat×List PV×Ev)
noncomputable def Wi (f:EF):V9:=fun ρ=>(f ρ).bind fun x=>match x.1.pv with
 | .lst ps=>some (none,ps,x.2)
 | .ptr n=>match x.2.mu[n]? with
  | some (some (.lst ps))=>some (some n,ps,x.2)
  | _=>none
 | _=>none
noncomputable def sealV (i:Nat) (ρ:Ev):Option Ev:=match ρ.vs[i]? with
 | some (some (.own (.lst ws)))=>some ⟨ρ.vs.set i (some (.sh (.ptr ρ.mu.length))),ρ.mu++[some (.lst ws)]⟩
 | _=>none
noncomputable def qM (i:Nat) (f:SF):SF:=fun ρ=>(sealV i ρ).bind f
theorem SR.sealV {ρ ρ':Ev} {i:Nat} (s:SR K H0 Z0 σ H ρ pd) (h:PL.sealV i ρ=some ρ'):SR K H0 Z0 σ H ρ' pd:=by
 unfold PL.sealV at h
 split at h
 . rename_i ws e0
   cases h
   obtain ⟨a,ea,_,s1⟩:=s.takeO e0
   have s2:=s1.toCell.put ea
   have e:(ρ.vs.set i none).set i (some (Lc.sh (.ptr ρ.mu.length)))=ρ.vs.set i (some (.sh (.ptr ρ.mu.length))):=List.set_set _
   have s3:SR K H0 Z0 σ H ⟨(ρ.vs.set i none).set i (some (Lc.sh (.ptr ρ.mu.length))),ρ.mu++[some (.lst ws)]⟩ pd:=s2
   rw [e] at s3
   exact s3
 . cases h
theorem Fo {i:Nat} {st:Stmt} {f:SF} (h:PS X st (gB X.K f)):PS X st (gB X.K (qM i f)):=PS.imp h fun D σ H q=>by
 obtain ⟨H0,Z0,ρ,pd,fl,s,h,k⟩:=q
 obtain ⟨ρ1,h1,h2⟩:=bind_some h
 exact ⟨H0,Z0,ρ1,pd,fl,s.sealV h1,h2,k⟩
end
noncomputable def d8 (mu:Mu):Nat->PV->PV
 | 0,p=>p
 | k+1,.ptr n=>match mu[n]? with
  | some (some p)=>d8 mu k p
  | _=>.ptr n
 | k+1,.tup ps=>.tup (ps.map (d8 mu k))
 | k+1,.lst ps=>.lst (ps.map (d8 mu k))
 | _+1,p=>p
theorem vH {Z:ZG} {f:PV->PV} (hf:∀ p x,Rep K Z p x->Rep K Z (f p) x):∀ {ps:List PV} {vs:List V},aF K Z ps vs->aF K Z (ps.map f) vs
 | [],vs,h=>h
 | p::ps,vs,h=>by
  obtain ⟨v,r,rfl,h1,h2⟩:=h.inv
  exact aF.cons (hf p v h1) (vH hf h2)
noncomputable def peekD (mu:Mu):Option Lc->Option Lc
 | some l=>some (.sh (d8 mu 40 l.pv))
 | none=>none
noncomputable def Ev.peekD (ρ:Ev):Ev:=⟨ρ.vs.map (PL.peekD ρ.mu),ρ.mu.map fun _=>none⟩
section
variable {X:Cx}
noncomputable def wL (fo:EF):EF:=fun ρ=>(fo ρ).bind fun o=>match o.1.pv with
 | .ptr n=>match o.2.mu[n]? with
  | some (some (.lst ws))=>(ws[ws.length-1]?).map fun p=>(.sh p,⟨o.2.vs,o.2.mu.set n (some (.lst ws.dropLast))⟩)
  | _=>none
 | _=>none
theorem Uz {o:Expr} {fo:EF} {apos cpos:Pos} (h:PE X (.Call (.Attribute o "pop" apos) [] [] cpos) (RD X.K "list" RJ (tP X.K fo))):PE X (.Call (.Attribute o "pop" apos) [] [] cpos) (tP X.K (wL fo)):=PE.imp h fun σ H Q q=>by
 obtain ⟨H0,Z0,ρ,pd,r,ρ',s,h,k⟩:=q
 obtain ⟨o',h1,h2⟩:=bind_some h
 refine ⟨H0,Z0,ρ,pd,o'.1,o'.2,s,h1,fun v H1 s1=>?_⟩
 split at h2
 . rename_i n en
   split at h2
   . rename_i ws em
     obtain ⟨p,h3,h4⟩:=map_some h2
     cases h4
     have s2:=s1.freeze
     rw [en] at s2
     obtain ⟨a,rfl,s5⟩:=s2.cellO em
     obtain ⟨_,Z,_,z,so⟩:=s5.top
     obtain ⟨_,ea,⟨us,hu,_⟩,_⟩:=so.1 _ List.mem_cons_self
     cases ea
     obtain ⟨us2,y,hu2,hy,s6⟩:=s5.popO h3
     have hn:n<o'.2.mu.length:=(List.getElem?_eq_some_iff.mp em).1
     have s7:=(s6.perm (pd':=(.ref a,.own (.lst ws.dropLast))::(.ref a,.sh (.ptr n))::(y,.sh p)::pd) ((List.Perm.swap _ _ _).cons _)).cellP (by show (o'.2.mu.set n none)[n]?=_; rw [List.getElem?_set_self hn])
     refine ⟨.inl ⟨rfl,us,bK.of hu⟩,a,us2,y,rfl,rfl,hu2,hy,k _ _ ?_⟩
     have e8:(o'.2.mu.set n none).set n (some (.lst ws.dropLast))=o'.2.mu.set n (some (.lst ws.dropLast)):=List.set_set ..
     rw [show (⟨o'.2.vs,o'.2.mu.set n (some (.lst ws.dropLast))⟩:Ev)=⟨o'.2.vs,(o'.2.mu.set n none).set n (some (.lst ws.dropLast))⟩ by rw [e8]]
     exact s7
   . cases h2
 . cases h2
noncomputable def lB (f:EF) (fl fh:OF):EF:=fun ρ=>(f ρ).bind fun x=>(fl x.2).bind fun y=>(fh y.2).bind fun z=>match x.1.pv with
 | .tup ps=>if HT.sIx ps.length 0 y.1=0/\HT.sIx ps.length ps.length z.1=ps.length then none else some (.sh (.tup (nT ps y.1 z.1)),z.2)
 | _=>none
theorem qN {e:Expr} {lo hi:Option Expr} {p2 pos:Pos} {f:EF} {fl fh:OF} (he:PE X e (tP X.K f)) (hl:PO X lo (wk X.K fl)) (hu:PO X hi (wk X.K fh)):PE X (.Subscript e (.Slice lo hi none p2) pos) (tP X.K (lB f fl fh)):=PE.imp (An Ru he hl hu) fun σ H Q q=>by
 obtain ⟨H0,Z0,ρ,pd,r,ρ',s,h,k⟩:=q
 obtain ⟨x,h1,h2⟩:=bind_some h
 obtain ⟨y,h3,h4⟩:=bind_some h2
 obtain ⟨z,h5,h6⟩:=bind_some h4
 refine ⟨H0,Z0,ρ,pd,x.1,x.2,s,h1,fun v H1 s1=>⟨H0,Z0,x.2,_,y.1,y.2,s1.freeze,h3,fun H2 s2=>⟨H0,Z0,y.2,_,z.1,z.2,s2,h5,fun H3 s3=>?_⟩⟩⟩
 cases e:x.1.pv with
 | tup ps=>
  rw [e] at h6 s3
  have h6:(if HT.sIx ps.length 0 y.1=0/\HT.sIx ps.length ps.length z.1=ps.length then none else some (Lc.sh (.tup (nT ps y.1 z.1)),z.2))=some (r,ρ'):=h6
  split at h6
  . cases h6
  . rename_i hw
    cases h6
    obtain ⟨el,Z,hg,zz,r1,s4⟩:=s3.sh
    unfold Rep at r1
    obtain ⟨a,vs,rfl,g1,g2⟩:=r1
    refine ⟨a,vs,rfl,cB.same zz.zh g1,by rw [g2.length]; exact hw,fun p hp=>k _ _ ?_⟩
    obtain ⟨z',lz,s'⟩:=s4.newF zz (a:=p) (o:=.tup (oU vs y.1 z.1)) hp
    refine .mk (Z:=Z.put p (.tup (oU vs y.1 z.1))) el hg z' (s'.consS ?_)
    unfold Rep
    exact ⟨p,_,rfl,cB.of bJ,g2.cut.mono lz⟩
 | _=>rw [e] at h6; cases h6
theorem Mi {g:List Addr} {mu:Mu}:∀ e∈dg g (mu.map fun _=>none),e.2=none:=fun e he=>by
 obtain ⟨v,l⟩:=e
 obtain ⟨_,h2⟩:=List.of_mem_zip he
 obtain ⟨o,ho,e2⟩:=List.mem_map.mp h2
 obtain ⟨o',_,e3⟩:=List.mem_map.mp ho
 subst e3
 exact e2.symm
noncomputable def Mj:PV->Option Str
 | .str z=>if z.length<=100000 then some z else none
 | .int i=>if i.natAbs.log2<1920 then (if (toString i:Str).length<=100000 then some (toString i) else none) else none
 | _=>none
noncomputable def NB (c:Str) (f:EF):EF:=fun ρ=>(f ρ).bind fun x=>(Mj x.1.pv).bind fun z=>if c.length+z.length<=100000 then some (.sh (.str (c++z)),x.2) else none
theorem Wa {c:Str} {j:Nat} {e:Expr} {p1 p2 p3:Pos} {f:EF} (hc:c.length<=100000) (he:PE X e (tP X.K f)):PE X (.JoinedStr [.Constant (.str c) j p1,.FormattedValue e (-1) none p2] p3) (tP X.K (NB c f)):=PE.imp (Pr (Nat.le_trans hc (by decide)) he) fun σ H Q q=>by
 obtain ⟨H0,Z0,ρ,pd,r,ρ',s,h,k⟩:=q
 obtain ⟨x,h1,h2⟩:=bind_some h
 obtain ⟨z,h3,h4⟩:=bind_some h2
 obtain ⟨hl,h5⟩:=mQ h4
 cases h5
 refine ⟨H0,Z0,ρ,pd,x.1,x.2,s,h1,fun v H1 s1=>?_⟩
 have s2:=SR.freeze s1
 have hcz:(c++z).length<=sizeLine:=by rw [PySem.Str.length_append]; exact Nat.le_trans hl (by decide)
 have hz:z.length<=sizeLine:=Nat.le_trans (Nat.le_trans (Nat.le_add_left _ _) hl) (by decide)
 refine ⟨z,?_,hcz,hz,k _ H1 (s2.pop.scal lG)⟩
 obtain ⟨_,r⟩:=s2.repH
 cases e:x.1.pv with
 | str y=>
  rw [e] at h3 r
  obtain ⟨_,rfl⟩:=mQ h3
  have:=cG r
  subst this
  rfl
 | int i=>
  rw [e] at h3 r
  obtain ⟨hi,h4⟩:i.natAbs.log2<1920/\(if (toString i:Str).length<=100000 then some (toString i) else none:Option Str)=some z:=by
   have h3':(if i.natAbs.log2<1920 then (if (toString i:Str).length<=100000 then some (toString i) else none) else none:Option Str)=some z:=h3
   split at h3'
   . rename_i h
     exact ⟨h,h3'⟩
   . cases h3'
  obtain ⟨_,rfl⟩:=mQ h4
  have:=bG r
  subst this
  exact if_pos hi
 | _=>rw [e] at h3; cases h3
theorem UG {c:Str} {f:EF} {ρ ρ1:Ev} {l:Lc} {z:Str} (h:f ρ=some (l,ρ1)) (hp:Mj l.pv=some z) (hl:c.length+z.length<=100000):NB c f ρ=some (.sh (.str (c++z)),ρ1):=by
 unfold NB
 rw [h,Option.bind_some,hp,Option.bind_some,if_pos hl]
theorem SR.pop0O {a:Addr} {ws:List PV} {p:PV} (s:SR K H0 Z0 σ H ρ ((.ref a,.own (.lst (p::ws)))::pd)):
 ∃ us y,H a=some (.lst (y::us))/\SR K H0 Z0 σ (upd H a (.lst us)) ρ ((.ref a,.own (.lst ws))::(y,.sh p)::pd):=by
 obtain ⟨el,Z,hg,z,so⟩:=s.top
 obtain ⟨b,eb,⟨us,hu,hr⟩,_⟩:=so.1 _ List.mem_cons_self
 cases eb
 obtain ⟨y,us',rfl,ry,hd⟩:=aF.inv hr
 refine ⟨us',y,hu,?_⟩
 obtain ⟨z',s'⟩:=so.write (o:=.lst us') (q:=.lst ws) z ⟨us',bJ,hd⟩
 have s2:=(s'.consS (v:=y) (p:=p) ry).perm (List.Perm.swap (some y,some (Lc.sh p)) (some (V.ref a),some (Lc.own (.lst ws))) _)
 exact .mk (Z:=Z) el hg z' (s2.perm (cN.cons _))
noncomputable def tX (fo:EF):EF:=fun ρ=>(fo ρ).bind fun o=>match o.1.pv with
 | .ptr n=>match o.2.mu[n]? with
  | some (some (.lst (p::ws)))=>some (.sh p,⟨o.2.vs,o.2.mu.set n (some (.lst ws))⟩)
  | _=>none
 | _=>none
theorem SX {o z:Expr} {fo:EF} {apos cpos:Pos} (h:PE X (.Call (.Attribute o "pop" apos) [z] [] cpos) (Ej X.K "list" HX (tP X.K fo) (jJ X.K (aj (eC (.int 0)) ao)))):PE X (.Call (.Attribute o "pop" apos) [z] [] cpos) (tP X.K (tX fo)):=PE.imp h fun σ H Q q=>by
 obtain ⟨H0,Z0,ρ,pd,r,ρ',s,h,k⟩:=q
 obtain ⟨o',h1,h2⟩:=bind_some h
 refine ⟨H0,Z0,ρ,pd,o'.1,o'.2,s,h1,fun v H1 s1=>?_⟩
 split at h2
 . rename_i n en
   split at h2
   . rename_i p ws em
     cases h2
     have s2:=s1.freeze
     rw [en] at s2
     obtain ⟨a,rfl,s5⟩:=s2.cellO em
     obtain ⟨_,Z,_,z,so⟩:=s5.top
     obtain ⟨_,ea,⟨us,hu,_⟩,_⟩:=so.1 _ List.mem_cons_self
     cases ea
     refine ⟨.inl ⟨rfl,us,bK.of hu⟩,H0,Z0,o'.2,_,[.sh (.int 0)],o'.2,s2,rfl,fun vs H2 e2 sv=>?_⟩
     obtain ⟨v1,rfl⟩:=mH e2
     have s3:SR X.K H0 Z0 σ H2 o'.2 ((v1,.sh (.int 0))::(.ref a,.sh (.ptr n))::pd):=sv
     obtain ⟨_,r⟩:=s3.repH
     have:=bG r
     subst this
     have s4:=s3.pop
     obtain ⟨a',ea',s6⟩:=s4.cellO em
     cases ea'
     obtain ⟨us2,y,hu2,s6⟩:=s6.pop0O
     have hn:n<o'.2.mu.length:=(List.getElem?_eq_some_iff.mp em).1
     have s7:=(s6.perm (pd':=(.ref a,.own (.lst ws))::(.ref a,.sh (.ptr n))::(y,.sh p)::pd) ((List.Perm.swap _ _ _).cons _)).cellP (by show (o'.2.mu.set n none)[n]?=_; rw [List.getElem?_set_self hn])
     refine ⟨a,y::us2,0,0,y,rfl,rfl,hu2,by decide,by decide,?_,rfl,?_⟩
     . unfold seqIndex?
       simp
     . rw [List.eraseIdx_zero]
       refine k _ _ ?_
       have e8:(o'.2.mu.set n none).set n (some (.lst ws))=o'.2.mu.set n (some (.lst ws)):=List.set_set ..
       rw [show (⟨o'.2.vs,o'.2.mu.set n (some (.lst ws))⟩:Ev)=⟨o'.2.vs,(o'.2.mu.set n none).set n (some (.lst ws))⟩ by rw [e8]]
       exact s7
   . cases h2
 . cases h2
theorem Cd {fo:EF} {ρ ρ1:Ev} {o:Lc} {n:Nat} {ws:List PV} {p:PV} {mu:Mu} (h1:fo ρ=some (o,ρ1)) (ho:o.pv=.ptr n) (hm:ρ1.mu[n]?=some (some (.lst (p::ws)))) (e:ρ1.mu.set n (some (.lst ws))=mu):tX fo ρ=some (.sh p,⟨ρ1.vs,mu⟩):=by
 unfold tX
 rw [h1,Option.bind_some,ho]
 dsimp only
 rw [hm]
 dsimp only
 rw [e]
end
theorem Slots.freezeC {R:Sl}:∀ (C:Sl) {Z:ZG},Slots K H0 Z H (C++R)->iW H0 Z0 Z H->∃ Z',gA Z Z'/\Z'.g=Z.g/\iW H0 Z0 Z' H/\Slots K H0 Z' H R/\∀ e∈C,∀ q,e.2=some (.own q)->∃ x,e.1=some x/\Rep K Z' q x
 | [],Z,so,z=>⟨Z,gA.refl Z,rfl,z,so,fun e he=>by cases he⟩
 | (v,l)::C,Z,so,z=>by
  have rest:∀ {Z1:ZG},gA Z Z1->Z1.g=Z.g->iW H0 Z0 Z1 H->Slots K H0 Z1 H (C++R)->(∀ q,l=some (.own q)->∃ x,v=some x/\Rep K Z1 q x)->∃ Z',gA Z Z'/\Z'.g=Z.g/\iW H0 Z0 Z' H/\Slots K H0 Z' H R/\∀ e∈(v,l)::C,∀ q,e.2=some (.own q)->∃ x,e.1=some x/\Rep K Z' q x:=fun {Z1} lz eg z1 so1 hv=>by
   obtain ⟨Z',lz',eg',z',so',hc⟩:=Slots.freezeC C so1 z1
   refine ⟨Z',lz.trans lz',eg'.trans eg,z',so',fun e he q hq=>?_⟩
   rcases List.mem_cons.mp he with rfl | he
   . obtain ⟨x,ex,rx⟩:=hv q hq
     exact ⟨x,ex,rx.mono lz'⟩
   . exact hc e he q hq
  have so1:Slots K H0 Z H ((v,l)::(C++R)):=so
  cases l with
  | none=>exact rest (gA.refl Z) rfl z (so1.sub (List.sublist_cons_self _ _)) fun q h=>by cases h
  | some l=>
   cases l with
   | sh p=>exact rest (gA.refl Z) rfl z (so1.sub (List.sublist_cons_self _ _)) fun q h=>by cases h
   | own p=>
    obtain ⟨Z1,lz,eg,z1,so2⟩:=so1.freeze z
    obtain ⟨x,ex,rx⟩:=so2.1 _ List.mem_cons_self
    exact rest lz eg z1 (so2.sub (List.sublist_cons_self _ _)) fun q h=>by
     cases h
     exact ⟨x,ex,rx⟩
theorem pR {Z:ZG} {mu:Mu} (hc:∀ (n:Nat) (a:Addr) (q:PV),Z.g[n]?=some a->mu[n]?=some (some q)->Rep K Z q (.ref a)):∀ (k:Nat) (p:PV) (x:V),Rep K Z p x->Rep K Z (d8 mu k p) x
 | 0,p,x,r=>r
 | k+1,p,x,r=>by
  cases p with
  | ptr n=>
   show Rep K Z (match mu[n]? with | some (some p)=>d8 mu k p | _=>.ptr n) x
   split
   . rename_i q hq
     unfold Rep at r
     obtain ⟨a,rfl,ha⟩:=r
     exact pR hc k q _ (hc n a q ha hq)
   . exact r
  | tup ps=>
   show Rep K Z (.tup (ps.map (d8 mu k))) x
   unfold Rep at r ⊢
   obtain ⟨a,vs,e,h1,h2⟩:=r
   exact ⟨a,vs,e,h1,vH (pR hc k) h2⟩
  | lst ps=>
   show Rep K Z (.lst (ps.map (d8 mu k))) x
   unfold Rep at r ⊢
   obtain ⟨a,vs,e,h1,h2⟩:=r
   exact ⟨a,vs,e,h1,vH (pR hc k) h2⟩
  | _=>exact r
theorem Slots.nones {Z:ZG} {R:Sl}:∀ (C:Sl),(∀ e∈C,e.2=none)->Slots K H0 Z H R->Slots K H0 Z H (C++R)
 | [],_,so=>so
 | (v,l)::C,h,so=>by
  have e:l=none:=h _ List.mem_cons_self
  subst e
  have s:=Slots.nones C (fun e he=>h e (List.mem_cons_of_mem _ he)) so
  refine ⟨fun e he=>?_,?_⟩
  . rcases List.mem_cons.mp he with rfl | he
    . trivial
    . exact s.1 e he
  . show ((((v,none):Option V×Option Lc)::(C++R)).filterMap jN).Nodup
    rw [List.filterMap_cons_none (by cases v with | none=>rfl | some x=>cases x<;>rfl)]
    exact s.2
theorem SR.meltD {v:V} {p:PV} (k:Nat) (s:SR K H0 Z0 σ H ρ ((v,.sh p)::pd)):
 SR K H0 Z0 σ H ⟨ρ.vs,ρ.mu.map fun _=>none⟩ ((v,.sh (d8 ρ.mu k p))::pd):=by
 obtain ⟨el,Z,hg,z,r,so⟩:=s.sh
 obtain ⟨Z',lz,eg,z',so2,hc⟩:=Slots.freezeC (dg Z.g ρ.mu) so z
 have so3:Slots K H0 Z' H (sl Z'.g σ ⟨ρ.vs,ρ.mu.map fun _=>none⟩ pd):=Slots.nones (dg Z'.g (ρ.mu.map fun _=>none)) Mi so2
 refine .mk (Z:=Z') el (by rw [eg]; simpa using hg) z' (so3.consS ?_)
 refine pR (fun n a q ha hq=>?_) k p v (r.mono lz)
 rw [eg] at ha
 have hm:(some (V.ref a),some (Lc.own q))∈dg Z.g ρ.mu:=List.mem_of_getElem? (zip_get (i:=n) (by rw [List.getElem?_map,ha]; rfl) (by rw [List.getElem?_map,hq]; rfl))
 obtain ⟨x,ex,rx⟩:=hc _ hm q rfl
 cases ex
 exact rx
section
variable {X:Cx}
noncomputable def wM (f:EF):EF:=fun ρ=>(f ρ).map fun x=>(.sh (d8 x.2.mu 40 x.1.pv),⟨x.2.vs,x.2.mu.map fun _=>none⟩)
theorem S5 {e:Expr} {f:EF} (h:PE X e (tP X.K f)):PE X e (tP X.K (wM f)):=PE.imp h fun σ H Q q=>by
 obtain ⟨H0,Z0,ρ,pd,l,ρ',s,f,k⟩:=q
 obtain ⟨x,h1,h2⟩:=map_some f
 cases h2
 exact ⟨H0,Z0,ρ,pd,x.1,x.2,s,h1,fun v H1 s1=>k v H1 (s1.freeze.meltD 40)⟩
theorem Ml {f:EF} {ρ ρ1:Ev} {l:Lc} {p:PV} (h:f ρ=some (l,ρ1)) (hp:d8 ρ1.mu 40 l.pv=p):wM f ρ=some (.sh p,⟨ρ1.vs,ρ1.mu.map fun _=>none⟩):=by
 unfold wM
 rw [h]
 show some (Lc.sh (d8 ρ1.mu 40 l.pv),_)=_
 rw [hp]
end
class HK where
 hk:List b7->Int
noncomputable def okP:PV->Option b7
 | .non=>some none
 | .int i=>some (some (.inl i))
 | .str x=>some (some (.inr x))
 | _=>none
noncomputable def pA:List PV->Option (List b7)
 | []=>some []
 | p::ps=>(okP p).bind fun k=>(pA ps).map (k::·)
theorem S6 {Z:ZG} {p:PV} {v:V} {k:b7} (h:okP p=some k) (r:Rep K Z p v):v=pO k:=by
 cases p with
 | non=>cases h; exact jy r
 | int i=>cases h; exact bG r
 | str x=>cases h; exact cG r
 | _=>cases h
theorem rW {Z:ZG}:∀ {ps:List PV} {vs:List V} {ks:List b7},pA ps=some ks->aF K Z ps vs->vs=ks.map pO
 | [],vs,ks,h,r=>by
  cases h
  exact r.inv0
 | p::ps,vs,ks,h,r=>by
  obtain ⟨v,r',rfl,h1,h2⟩:=r.inv
  obtain ⟨k,g1,g2⟩:=bind_some h
  obtain ⟨t,g3,g4⟩:=map_some g2
  cases g4
  rw [S6 g1 h1,rW g3 h2]
  rfl
noncomputable abbrev S7:=List (List b7×PV)
noncomputable def jG:S7->List b7->Option PV
 | [],_=>none
 | kv::r,k=>if kv.1=k then some kv.2 else jG r k
theorem Hi {x:List b7×Addr×V} {xs:XD} {k:List b7}:jh (x::xs) k=if x.1=k then some x.2.2 else jh xs k:=by
 unfold jh
 by_cases e:x.1=k
 . rw [List.find?_cons_of_pos (by simpa using e),if_pos e]; rfl
 . rw [List.find?_cons_of_neg (by simpa using e),if_neg e]
theorem vI {Z:ZG} {k:List b7}:∀ {xs:XD} {ps:List PV},aF K Z ps (xs.map (·.2.2))->(∀ p,jG ((xs.map (·.1)).zip ps) k=some p->∃ v,jh xs k=some v/\Rep K Z p v)/\(jG ((xs.map (·.1)).zip ps) k=none->jh xs k=none)
 | [],ps,h=>⟨fun p e=>(by cases e),fun _=>rfl⟩
 | x::xs,[],h=>by have:=h.inv0; cases this
 | x::xs,p::ps,h=>by
  obtain ⟨v,r,e,h1,h2⟩:=h.inv
  rw [List.map_cons] at e
  injection e with e1 e2
  subst e1 e2
  have ih:=vI (k:=k) h2
  rw [Hi]
  show (∀ q,(if x.1=k then some p else jG ((xs.map (·.1)).zip ps) k)=some q->_)/\((if x.1=k then some p else jG ((xs.map (·.1)).zip ps) k)=none->_)
  by_cases e:x.1=k
  . rw [if_pos e,if_pos e]
    exact ⟨fun q hq=>by cases hq; exact ⟨_,rfl,h1⟩,fun hq=>by cases hq⟩
  . rw [if_neg e,if_neg e]
    exact ih
theorem SR.setX {v kb:V} {p:PV} {kp:List PV} {a:Addr} {hk:List b7->Int} {ks:List (List b7)} {ps:List PV} {k:List b7} (s:SR K H0 Z0 σ H ρ ((v,.sh p)::(kb,.sh (.tup kp))::(.ref a,.own (.dx hk ks ps))::pd)) (ek:pA kp=some k):
 ∃ b xs,kb=.ref b/\H a=some (.ext (qC hk a xs))/\(∀ x∈xs,cB K H x.2.1 (x.1.map pO))/\cB K H b (k.map pO)/\xs.length=ks.length/\
  (jG (ks.zip ps) k=none->jh xs k=none/\SR K H0 Z0 σ (upd H a (.ext (qC hk a (xs++[(k,b,v)])))) ρ ((.ref a,.own (.dx hk (ks++[k]) (ps++[p])))::(v,.sh p)::pd))/\
  (∀ q,jG (ks.zip ps) k=some q->∃ u,jh xs k=some u/\SR K H0 Z0 σ H ρ ((u,.sh q)::(.ref a,.own (.dx hk ks ps))::pd)):=by
 obtain ⟨el,Z,hg,z,r,so⟩:=s.sh
 have so1:=so.perm cN.symm
 obtain ⟨x,e1,rk⟩:=so1.1 _ List.mem_cons_self
 cases e1
 unfold Rep at rk
 obtain ⟨b,ws,rfl,hb,rw'⟩:=rk
 have ew:=rW ek rw'
 subst ew
 have so2:Slots K H0 Z H (sl Z.g σ ρ ((.ref a,.own (.dx hk ks ps))::pd)):=so1.sub (List.sublist_cons_self _ _)
 have so3:=so2.perm cN.symm
 obtain ⟨_,eb,⟨xs,hu,hk1,hk2,hr⟩,_⟩:=so3.1 _ List.mem_cons_self
 cases eb
 subst hk1
 have hv:=vI (k:=k) hr
 refine ⟨b,xs,rfl,hu,fun x hx=>cB.same z.zh (hk2 x hx),cB.same z.zh hb,by rw [List.length_map],fun hn=>⟨hv.2 hn,?_⟩,fun q hq=>?_⟩
 . have so4:Slots K H0 Z H ((some (.ref a),some (.own (.dx hk (xs.map (·.1)) ps)))::(some v,some (.sh p))::sl Z.g σ ρ pd):=(so3.consS r).perm (List.Perm.swap _ _ _)
   obtain ⟨z',s'⟩:=so4.write (o:=.ext (qC hk a (xs++[(k,b,v)]))) (q:=.dx hk (xs.map (·.1)++[k]) (ps++[p])) z ⟨xs++[(k,b,v)],bJ,by rw [List.map_append]; rfl,(fun x hx=>(by
    rcases List.mem_append.mp hx with hx | hx
    . exact hk2 x hx
    . rw [List.mem_singleton.mp hx]
      exact hb)),by rw [List.map_append]; exact hr.append (aF.cons r .nil)⟩
   exact .mk el hg z' (s'.perm (cN.symm.cons _).symm)
 . obtain ⟨u,e,ru⟩:=hv.1 q hq
   exact ⟨u,e,.mk el hg z (so2.consS ru)⟩
theorem SR.takeX {i:Nat} {hk:List b7->Int} {ks:List (List b7)} {ps:List PV} (s:SR K H0 Z0 σ H ρ pd) (e:ρ.vs[i]?=some (some (.own (.dx hk ks ps)))):
 ∃ a xs,σ[i]?=some (some (.ref a))/\H a=some (.ext (qC hk a xs))/\SR K H0 Z0 σ H (ρ.set i none) ((.ref a,.own (.dx hk ks ps))::pd):=by
 obtain ⟨v,e1,s1⟩:=s.take e
 obtain ⟨_,Z,_,z,so⟩:=s1.top
 obtain ⟨a,ea,⟨xs,hu,_⟩,_⟩:=so.1 _ List.mem_cons_self
 have ea':v=.ref a:=Option.some.inj ea
 subst ea'
 exact ⟨a,xs,e1,hu,s1⟩
theorem SR.seal {v:V} {p:PV} (s1:SR K H0 Z0 σ H ρ ((v,.own p)::pd)):SR K H0 Z0 σ H ⟨ρ.vs,ρ.mu++[some p]⟩ ((v,.sh (.ptr ρ.mu.length))::pd):=by
 obtain ⟨el,Z,hg,z,so⟩:=s1.top
 obtain ⟨a,ea,ra,za,ha0⟩:=so.1 _ List.mem_cons_self
 have ea':v=.ref a:=Option.some.inj ea
 subst ea'
 have lz:gA Z ⟨Z.z,Z.g++[a]⟩:=⟨dC.refl _,List.prefix_append _ _⟩
 have so2:=so.step (Z':=⟨Z.z,Z.g++[a]⟩) (H':=H) lz fun e he b hb=>⟨rfl,(ir so he hb).1⟩
 refine .mk (Z:=⟨Z.z,Z.g++[a]⟩) el (by simp [hg]) ⟨z.zh,z.h0,z.z0.trans lz,z.new⟩ (Slots.consS ?_ ?_)
 . refine so2.perm ?_
   have ec:dg (Z.g++[a]) (ρ.mu++[some p])=dg Z.g ρ.mu++[(some (.ref a),some (.own p))]:=by
    unfold dg
    rw [List.map_append,List.map_append,List.zip_append (by simp [hg])]
    rfl
   unfold sl
   show List.Perm (dg (Z.g++[a]) (ρ.mu++[some p])++_) _
   rw [ec,List.append_assoc]
   exact List.perm_middle
 . unfold Rep
   exact ⟨a,rfl,by show (Z.g++[a])[ρ.mu.length]?=some a; rw [hg,List.getElem?_append_right (Nat.le_refl _)]; simp⟩
theorem Ev.set_self {i:Nat} {l:Option Lc} (e:ρ.vs[i]?=some l):ρ.set i l=ρ:=by
 show Ev.mk (ρ.vs.set i l) ρ.mu=ρ
 obtain ⟨hi,he⟩:=List.getElem?_eq_some_iff.mp e
 rw [← he,List.set_getElem_self]
section
variable {X:Cx} [HK]
noncomputable def Jt:EF:=fun ρ=>some (.own (.dx HK.hk [] []),ρ)
theorem S8 (hx:HK.hk=v5 X.prog X.w) {pos:Pos}:PE X (.Dict [] [] pos) (tP X.K Jt):=PE.imp Lb fun σ H Q q=>by
 obtain ⟨H0,Z0,ρ,pd,l,ρ',s,f,k⟩:=q
 cases f
 exact fun p hp=>k _ _ (s.newO hp fun Z _ _=>⟨[],by rw [bJ,hx]; rfl,rfl,(fun x hx=>(by cases hx)),aF.nil⟩)
open Classical in
noncomputable def uD (i:Nat) (fk:EF):EF:=fun ρ=>match ρ.vs[i]? with
 | some (some (.own (.dx _ _ _)))=>(fk ρ).bind fun y=>match y.1.pv,y.2.vs[i]? with
  | .tup kp,some (some (.own (.dx hk ks ps)))=>(pA kp).bind fun k=>if hk=HK.hk/\ks.length<100000 then
   (match jG (ks.zip ps) k with
   | some p=>some (.sh p,y.2)
   | none=>some (.sh (.ptr y.2.mu.length),⟨y.2.vs.set i (some (.own (.dx hk (ks++[k]) (ps++[.ptr y.2.mu.length])))),y.2.mu++[some (.lst [])]⟩))
   else none
  | _,_=>none
 | _=>none
theorem UJ {i:Nat} {o e1 e2:Expr} {fk:EF} {apos cpos:Pos} (hx:HK.hk=v5 X.prog X.w) (h:PE X (.Call (.Attribute o "setdefault" apos) [e1,e2] [] cpos) (fun σ H Q=>oO i σ H fun x H1=>(∃ a hk xs,x=.ref a/\H1 a=some (.ext (qC hk a xs)))/\jJ X.K (aj fk (aj (cU ao) ao)) σ H1 fun vs H2=>Iv X.prog X.w X.K x vs H2 Q)):
 PE X (.Call (.Attribute o "setdefault" apos) [e1,e2] [] cpos) (tP X.K (uD i fk)):=PE.imp h fun σ H Q q=>by
 obtain ⟨H0,Z0,ρ,pd,r,ρ',s,h,k⟩:=q
 unfold uD at h
 split at h
 . rename_i hk0 ks0 ps0 e0
   obtain ⟨y,h1,h2⟩:=bind_some h
   obtain ⟨a,xs,ea,hu,_⟩:=s.takeX e0
   refine ⟨.ref a,ea,⟨a,hk0,xs,rfl,hu⟩,H0,Z0,ρ,pd,[y.1,.own (.lst [])],y.2,s,?_,fun vs H2 e2 s2=>?_⟩
   . unfold aj ao cU
     simp [h1]
   . obtain ⟨v1,v2,rfl⟩:=ln2 e2
     have s2':SR X.K H0 Z0 σ H2 y.2 ((v1,y.1)::(v2,.own (.lst []))::pd):=s2
     split at h2
     . rename_i kp hk ks ps e3 e4
       obtain ⟨kk,ek,h3⟩:=bind_some h2
       split at h3
       . rename_i hc
         obtain ⟨hc1,hc2⟩:=hc
         subst hc1
         have s3:=s2'.freeze
         rw [e3] at s3
         cases hv:jG (ks.zip ps) kk with
         | some p=>
          rw [hv] at h3
          cases h3
          obtain ⟨a',xs',ea',hu',s4⟩:=s3.swap.freeze.takeX e4
          rw [ea] at ea'; cases ea'
          have s5:=s4.perm (pd':=(v2,.sh (.lst []))::(v1,.sh (.tup kp))::(.ref a,.own (.dx HK.hk ks ps))::pd) (List.perm_append_comm (l₁:=[(v2,Lc.sh (.lst [])),(v1,.sh (.tup kp))]) (l₂:=[(.ref a,.own (.dx HK.hk ks ps))]) |>.append_right pd)
          obtain ⟨b,xs2,rfl,g1,g2,g3,g4,_,g6⟩:=s5.setX ek
          obtain ⟨u,eu,s6⟩:=g6 p hv
          refine ⟨a,b,xs2,kk,v2,rfl,rfl,by rw [g1]; unfold dX; rw [hx],g2,g3,by rw [g4,sizeLine_eq]; omega,?_⟩
          rw [eu]
          have s7:=s6.swap.put ea
          rw [Ev.set_set,Ev.set_self e4] at s7
          exact k _ _ s7
         | none=>
          rw [hv] at h3
          cases h3
          have s3a:=s3.swap.seal
          obtain ⟨a',xs',ea',hu',s4⟩:=s3a.takeX (i:=i) (hk:=HK.hk) (ks:=ks) (ps:=ps) e4
          rw [ea] at ea'; cases ea'
          have s5:=s4.perm (pd':=(v2,.sh (.ptr y.2.mu.length))::(v1,.sh (.tup kp))::(.ref a,.own (.dx HK.hk ks ps))::pd) (List.perm_append_comm (l₁:=[(v2,Lc.sh (.ptr y.2.mu.length)),(v1,.sh (.tup kp))]) (l₂:=[(.ref a,.own (.dx HK.hk ks ps))]) |>.append_right pd)
          obtain ⟨b,xs2,rfl,g1,g2,g3,g4,g5,_⟩:=s5.setX ek
          obtain ⟨eu,s6⟩:=g5 hv
          refine ⟨a,b,xs2,kk,v2,rfl,rfl,by rw [g1]; unfold dX; rw [hx],g2,g3,by rw [g4,sizeLine_eq]; omega,?_⟩
          rw [eu]
          have s7:=s6.put ea
          rw [Ev.set_set] at s7
          have e9:(.ext (qC (v5 X.prog X.w) a (xs2++[(kk,b,v2)])):HO)=dX X.prog X.w a (xs2++[(kk,b,v2)]):=rfl
          rw [← e9,← hx]
          exact k _ _ s7
       . cases h3
     . cases h2
 . cases h
open Classical in
noncomputable def Ac (fo fk:EF):EF:=fun ρ=>(fo ρ).bind fun x=>match x.1.pv with
 | .dx hk ks ps=>(fk x.2).bind fun y=>match y.1.pv with
  | .tup kp=>(pA kp).bind fun k=>if hk=HK.hk then some (match jG (ks.zip ps) k with | some p=>.sh p | none=>.own (.lst []),y.2) else none
  | _=>none
 | _=>none
theorem UL {o e1 e2:Expr} {fo fk:EF} {apos cpos:Pos} (hx:HK.hk=v5 X.prog X.w) (h:PE X (.Call (.Attribute o "get" apos) [e1,e2] [] cpos) (fun σ H Q=>tP X.K fo σ H fun x H1=>(∃ a hk xs,x=.ref a/\H1 a=some (.ext (qC hk a xs)))/\jJ X.K (aj fk (aj (cU ao) ao)) σ H1 fun vs H2=>Np X.prog X.w X.K x vs H2 Q)):
 PE X (.Call (.Attribute o "get" apos) [e1,e2] [] cpos) (tP X.K (Ac fo fk)):=PE.imp h fun σ H Q q=>by
 obtain ⟨H0,Z0,ρ,pd,r,ρ',s,h,k⟩:=q
 obtain ⟨x,h1,h2⟩:=bind_some h
 refine ⟨H0,Z0,ρ,pd,x.1,x.2,s,h1,fun v H1 s1=>?_⟩
 split at h2
 . rename_i hk ks ps e0
   obtain ⟨y,h3,h4⟩:=bind_some h2
   have s2:=s1.freeze
   rw [e0] at s2
   have s2c:=s2
   obtain ⟨el,Z,hg,z,rd,so⟩:=s2.sh
   unfold Rep at rd
   obtain ⟨a,xs,rfl,g1,g2,g3,g4⟩:=rd
   refine ⟨⟨a,hk,xs,rfl,z.zh _ _ g1⟩,H0,Z,x.2,pd,[y.1,.own (.lst [])],y.2,⟨el,Z,hg,⟨z.zh,z.h0,gA.refl Z,fun b o e=>.inl e⟩,so⟩,?_,fun vs H2 e2 s3=>?_⟩
   . unfold aj ao cU
     simp [h3]
   . obtain ⟨v1,v2,rfl⟩:=ln2 e2
     have s3':SR X.K H0 Z σ H2 y.2 ((v1,y.1)::(v2,.own (.lst []))::pd):=s3
     split at h4
     . rename_i kp e3
       obtain ⟨kk,ek,h5⟩:=bind_some h4
       split at h5
       . rename_i hc
         subst hc
         cases h5
         have s4:=s3'.freeze
         rw [e3] at s4
         obtain ⟨el2,Z2,hg2,z2,rk,so2⟩:=s4.sh
         unfold Rep at rk
         obtain ⟨b,ws,rfl,hb,rw'⟩:=rk
         have ew:=rW ek rw'
         subst ew
         subst g2
         have hv:=vI (k:=kk) g4
         refine ⟨a,b,xs,kk,v2,rfl,rfl,?_,fun x hx=>cB.same z2.zh (cB.same z2.z0.1 (g3 x hx)),cB.same z2.zh hb,?_⟩
         . rw [z2.zh _ _ (z2.z0.1 _ _ g1),hx]
           rfl
         have zz:iW H0 Z0 Z2 H2:=⟨z2.zh,z2.h0,z.z0.trans z2.z0,fun b o e=>by
          rcases z2.new b o e with q | q
          . exact z.new b o q
          . exact .inr q⟩
         cases hl:jG ((xs.map (·.1)).zip ps) kk with
         | some p=>
          obtain ⟨u,eu,ru⟩:=hv.1 p hl
          rw [eu]
          rw [hl] at k
          refine k _ _ (.mk el2 hg2 zz ((so2.perm cN.symm).sub (List.sublist_cons_self _ _) |>.consS (ru.mono z2.z0)))
         | none=>
          rw [hv.2 hl]
          rw [hl] at k
          exact k _ _ (.mk el2 hg2 zz (so2.perm cN.symm))
       . cases h5
     . cases h4
 . cases h2
noncomputable def meltL:Mu->List PV->Option (List PV×Mu)
 | mu,[]=>some ([],mu)
 | mu,.ptr n::ps=>match mu[n]? with
  | some (some q)=>(meltL (mu.set n none) ps).map fun r=>(q::r.1,r.2)
  | _=>none
 | _,_=>none
theorem Slots.meltL {R:Sl}:∀ {ps qs:List PV} {mu mu':Mu} {vs:List V} {Z:ZG},PL.meltL mu ps=some (qs,mu')->aF K Z ps vs->mu.length=Z.g.length->iW H0 Z0 Z H->Slots K H0 Z H (dg Z.g mu++R)->
 ∃ Z',gA Z Z'/\Z'.g=Z.g/\iW H0 Z0 Z' H/\Slots K H0 Z' H (dg Z'.g mu'++R)/\aF K Z' qs vs/\mu'.length=mu.length
 | [],qs,mu,mu',vs,Z,h,r,hg,z,so=>by
  cases h
  exact ⟨Z,gA.refl Z,rfl,z,so,r,rfl⟩
 | p::ps,qs,mu,mu',vs,Z,h,r,hg,z,so=>by
  cases p with
  | ptr n=>
   unfold PL.meltL at h
   split at h
   . rename_i q hm
     obtain ⟨t,h1,h2⟩:=map_some h
     cases h2
     obtain ⟨v,vr,rfl,r1,r2⟩:=r.inv
     unfold Rep at r1
     obtain ⟨a,rfl,ha⟩:=r1
     obtain ⟨C,p1,p2⟩:=tL ha hm
     have so2:Slots K H0 Z H ((some (.ref a),some (.own q))::(C++R)):=so.perm (p1.append_right _).symm
     obtain ⟨Z1,lz,eg,z1,so3⟩:=so2.freeze z
     obtain ⟨x,ex,rx⟩:=so3.1 _ List.mem_cons_self
     cases ex
     have so4:Slots K H0 Z1 H (C++R):=so3.sub (List.sublist_cons_self _ _)
     have so5:Slots K H0 Z1 H ((some (.ref a),none)::(C++R)):=by
      refine ⟨fun e he=>?_,?_⟩
      . rcases List.mem_cons.mp he with rfl | he
        . trivial
        . exact so4.1 e he
      . rw [List.filterMap_cons_none rfl]; exact so4.2
     have so6:Slots K H0 Z1 H (dg Z1.g (mu.set n none)++R):=by
      rw [eg]
      exact so5.perm ((p2 none).append_right _)
     obtain ⟨Z2,lz2,eg2,z2,so7,r7,l7⟩:=Slots.meltL h1 (r2.mono lz) (by rw [eg]; simpa using hg) z1 so6
     exact ⟨Z2,lz.trans lz2,eg2.trans eg,z2,so7,aF.cons (rx.mono lz2) r7,by simpa using l7⟩
   . cases h
  | _=>cases h
noncomputable def Ce (f:EF):EF:=fun ρ=>(f ρ).bind fun x=>match x.1.pv with
 | .dx hk ks ps=>(meltL x.2.mu ps).map fun r=>(.sh (.dx hk ks r.1),⟨x.2.vs,r.2⟩)
 | _=>none
theorem S9 {e:Expr} {f:EF} (h:PE X e (tP X.K f)):PE X e (tP X.K (Ce f)):=PE.imp h fun σ H Q q=>by
 obtain ⟨H0,Z0,ρ,pd,l,ρ',s,f,k⟩:=q
 obtain ⟨x,h1,h2⟩:=bind_some f
 refine ⟨H0,Z0,ρ,pd,x.1,x.2,s,h1,fun v H1 s1=>?_⟩
 split at h2
 . rename_i hk ks ps e0
   obtain ⟨r,h3,h4⟩:=map_some h2
   cases h4
   have s2:=s1.freeze
   rw [e0] at s2
   obtain ⟨el,Z,hg,z,rd,so⟩:=s2.sh
   unfold Rep at rd
   obtain ⟨a,xs,rfl,g1,g2,g3,g4⟩:=rd
   obtain ⟨Z2,lz,eg,z2,so2,r2,l2⟩:=Slots.meltL (R:=σ.zip x.2.vs++pd.map fun e=>(some e.1,some e.2)) h3 g4 hg z so
   refine k _ H1 (.mk (Z:=Z2) el (by rw [eg]; simpa [l2] using hg) z2 (Slots.consS so2 ?_))
   unfold Rep
   exact ⟨a,xs,rfl,lz.1 _ _ g1,g2,fun x hx=>cB.same lz.1 (g3 x hx),r2⟩
 . cases h2
end
section
variable {X:Cx}
theorem qw (i:Nat) {x:Str} {pos:Pos} (hN:X.N[i]?=some x:=by rfl) (hv:Hv X.env.scope x:=by first | exact Or.inl rfl | exact Or.inr (Or.inl rfl) | exact Or.inr (Or.inr rfl)) (hd:(x==("__debug__" : Str))=false:=by decide) (hcd:(x==("__classdict__" : Str))=false:=by decide):PE X (.Name x pos) (tP X.K (aa i)):=qv (pv i hN hv hd hcd)
theorem aK {i:Int} {j} {pos:Pos}:PE X (.Constant (.int i) j pos) (tP X.K (eC (.int i))):=qc QW fU
theorem dj {i:Str} {j} {pos:Pos}:PE X (.Constant (.str i) j pos) (tP X.K (eC (.str i))):=qc QZ lG
theorem NK {j} {pos:Pos}:PE X (.Constant .none j pos) (tP X.K (eC .non)):=qc QX ur
theorem qI {a:Expr} {i:Int} {j} {p pos:Pos} {fa:EF} (ha:PE X a (tP X.K fa)):PE X (.Subscript a (.Constant (.int i) j p) pos) (tP X.K (aM fa (eC (.int i)))):=gj ha aK (fun _ _=>rfl)
theorem qL {e:Expr} {f:EF} {p pos:Pos} (b:X.mg "len" = none) (h:PE X e (tP X.K f)) (hg:Gl X "len" := by rfl) (h0:starEach [e] X.env=(false,eval e X.env)::starEach [] X.env:=by rfl):PE X (.Call (.Name "len" p) [e] [] pos) (tP X.K (eB bC (aj f ao))):=qD oR Je (gM oR hg b PySem.boot_len (ak h au h0) (he:=h0))
theorem cQ (i:Nat) {x:Str} {e:Expr} {pos pos':Pos} {f:EF} (hN:X.N.Nodup) (he:PE X e (tP X.K f)) (hi:X.N[i]?=some x:=by rfl) (hx:L2.Loc X.env.scope x:=by exact Or.inl rfl) (hs:swapsWith e (some (.Name x pos')) pos.line X.env=pure false:=by rfl) (hf:X.fn x=true\/X.env.scope.names.lookup x=some .local:=by first | exact .inl rfl | exact .inr rfl | assumption):
 PS X (.Assign [.Name x pos'] e pos) (gB X.K (aL i f)):=v6 hN hi hx he hs hf
theorem cZ (i:Nat) {x:Str} {pos:Pos} (hN:X.N.Nodup) (hi:X.N[i]?=some x:=by rfl) (hx:L2.Loc X.env.scope x:=by exact Or.inl rfl) (hf:X.fn x=true\/X.env.scope.names.lookup x=some .local:=by first | exact .inl rfl | exact .inr rfl | assumption):PG X (.Name x pos) (zR i):=Oq hN hi hx hf
theorem pB {M F:List Str} {ixs:List Nat} {sc:Scope} (S:Scope) (hS:X.env.scope=S:=by rfl) (kind:sc.kind=.function:=by rfl) (locs:∀ y∈sc.names,y.2=.local->sc.names.lookup y.1=some .local:=by decide +kernel) (nocell:∀ y∈sc.names,y.2≠.cell:=by decide +kernel)
 (own:∀ p∈sc.names,p.2=.free->S.names.lookup p.1=some .cell\/S.names.lookup p.1=some .free:=by decide +kernel) (frs:∀ x∈F,sc.names.lookup x=some .free:=by decide +kernel) (ix:ixs.map (fun i=>X.N[i]?)=F.map some:=by rfl) (visM:∀ x∈M,sc.names.lookup x=some .local:=by decide +kernel):jc X M F ixs sc:=Uv S hS kind locs nocell own frs ix visM
theorem rY {i:Nat} {o e:Expr} {f:EF} {apos cpos pos:Pos} (ho:PE X o (oO i)) (he:PE X e (tP X.K f)) (h0:starEach [e] X.env=(false,eval e X.env)::starEach [] X.env:=by rfl) (h1:attributeBase o "append" X.env (eval o X.env)=eval o X.env:=by rfl)
 (h2:((backTo cpos (starEach [e] X.env)).all (fun x=>!x.1)&&(backToKw cpos (keywordEach [] X.env)).all (fun x=>x.1.isSome)
   && decide (([e]:List Expr).length+([]:List Keyword).length+(if ([]:List Keyword).isEmpty then 0 else 1)<30))=true:=by rfl) (h3:(apos.endLine==cpos.line)=true:=by rfl) (hs:swapsWith (.Call (.Attribute o "append" apos) [e] [] cpos) none pos.line X.env=pure false:=by rfl):
 PS X (.Expr (.Call (.Attribute o "append" apos) [e] [] cpos) pos) (gB X.K (iR i f)):=Ss (mK (n8 F.plainAttrs_list F.slot_list_append F.type_list_append lF ho (ak he au h0) h1 h2 h3 h0) hs)
theorem Cg {i:Nat} {o e:Expr} {f:EF} {apos cpos pos:Pos} (ho:PE X o (oO i)) (he:PE X e (tP X.K f)) (h0:starEach [e] X.env=(false,eval e X.env)::starEach [] X.env:=by rfl) (h1:attributeBase o "extend" X.env (eval o X.env)=eval o X.env:=by rfl)
 (h2:((backTo cpos (starEach [e] X.env)).all (fun x=>!x.1)&&(backToKw cpos (keywordEach [] X.env)).all (fun x=>x.1.isSome)
   && decide (([e]:List Expr).length+([]:List Keyword).length+(if ([]:List Keyword).isEmpty then 0 else 1)<30))=true:=by rfl) (h3:(apos.endLine==cpos.line)=true:=by rfl) (hs:swapsWith (.Call (.Attribute o "extend" apos) [e] [] cpos) none pos.line X.env=pure false:=by rfl):
 PS X (.Expr (.Call (.Attribute o "extend" apos) [e] [] cpos) pos) (gB X.K (mR i f)):=Su (mK (n8 F.plainAttrs_list F.slot_list_extend F.type_list_extend G5 ho (ak he au h0) h1 h2 h3 h0) hs)
end
end PL
namespace Law
open PySem PySem.Spec PyProof.Rows L2 PL
local macro_rules | `(tactic| walk_at "sc")=>`(tactic| exact ⟨rfl,rfl,rfl,by decide +kernel,rfl,by decide +kernel,by decide +kernel⟩)
noncomputable def top (i:Nat):Stmt:=PySem.Challenge.pw_hushwise_k31_behind_a_row.main.body.getD i (.Pass ⟨0,0,0,0⟩)
noncomputable abbrev jB:Stmt:=top 2
noncomputable abbrev lC:Stmt:=top 3
noncomputable abbrev gF:Stmt:=top 4
noncomputable abbrev jl:Stmt:=top 5
noncomputable abbrev jm:Stmt:=top 6
noncomputable abbrev j5:Stmt:=top 7
noncomputable abbrev lD:Stmt:=top 8
noncomputable abbrev mW:Stmt:=top 12
noncomputable abbrev iy:Stmt:=top 13
noncomputable abbrev gZ:Stmt:=top 15
noncomputable abbrev gG:Stmt:=top 16
noncomputable abbrev fV:Stmt:=top 17
noncomputable abbrev jn:Stmt:=top 18
noncomputable abbrev iT:Stmt:=top 19
noncomputable abbrev jd:Stmt:=top 20
noncomputable abbrev dB:Stmt:=top 21
noncomputable abbrev fY:Stmt:=top 22
noncomputable abbrev gU:Stmt:=top 23
noncomputable abbrev fZ:Stmt:=top 24
noncomputable abbrev jo:Stmt:=top 25
noncomputable abbrev nD:Stmt:=top 26
noncomputable abbrev cW:Stmt:=inClass (top 10) 0
noncomputable abbrev gW:Stmt:=inClass (top 10) 4
noncomputable abbrev gb:Stmt:=inClass (top 10) 8
noncomputable abbrev cX:Stmt:=inClass (top 10) 10
theorem Ci:bL ["row"] ["row"] (aA jB):=by walk_at "sc"
theorem Ju:bL ["row"] ["row"] (aA lC):=by walk_at "sc"
theorem zE:bL ["rows"] ["rows"] (aA gF):=by walk_at "sc"
theorem nF:bL ["rows", "told", "row", "block"] ["rows"] (aA jl):=by walk_at "sc"
theorem jC:bL ["where", "above", "block", "rows", "start", "told", "row", "number", "place", "inner"] ["where", "above", "block", "rows", "start"] (aA jm):=by walk_at "sc"
theorem jD:bL ["program", "told", "name", "rank", "params", "rows"] ["program"] (aA j5):=by walk_at "sc"
theorem Jv:bL ["row"] ["row"] (aA lD):=by walk_at "sc"
theorem Jw:bL ["program", "k"] ["program", "k"] (aA mW):=by walk_at "sc"
theorem lq:bL ["plan", "k", "row", "told", "numbers"] ["plan", "k"] (aA iy):=by walk_at "sc"
theorem wN:bL ["_law_script", "_law_k"] ["_law_script", "_law_k"] (aA gZ):=by walk_at "sc"
theorem eU:bL ["_law_cell", "_law_count", "_law_letters", "_law_names_here", "_law_text", "_law_k", "_law_size_here", "_law_at", "_law_signs"] ["_law_cell", "_law_count"] (aA gG):=by walk_at "sc"
theorem bI:bL ["_law_cell", "_law_own", "_law_lists", "_law_made", "_law_k", "_law_step", "_law_other", "_law_sign"] ["_law_cell", "_law_own", "_law_lists"] (aA fV):=by walk_at "sc"
theorem gY:bL ["_law_cell", "_law_own", "_law_lists", "_law_heads_here", "_law_whos", "_law_one", "_law_other", "_law_kind", "_law_goal", "_law_name", "_law_params", "_law_some"] ["_law_cell", "_law_own", "_law_lists", "_law_heads_here", "_law_whos"] (aA jn):=by walk_at "sc"
theorem jR:bL ["_law_cells", "_law_own", "_law_lists", "_law_heads_here", "_law_whos", "_law_body", "_law_stack", "_law_cell", "_law_row_here"] ["_law_cells", "_law_own", "_law_lists", "_law_heads_here", "_law_whos"] (aA iT):=by walk_at "sc"
theorem lr:bL ["_law_cell", "_law_names_here", "_law_heads_here", "_law_j", "_law_size_here"] ["_law_cell", "_law_names_here"] (aA jd):=by walk_at "sc"
theorem bB:bL ["_law_script", "_law_cell", "_law_names_here", "_law_ranks", "_law_numbers", "_law_lists", "_law_heads_here", "_law_boxes", "_law_cells", "_law_whos", "_law_functions", "_law_j", "_law_head", "_law_rows_here"] ["_law_script"] (aA dB):=by walk_at "sc"
theorem xZ:bL ["_law_row_here"] ["_law_row_here"] (aA fY):=by walk_at "sc"
theorem lZ:bL ["_law_rows_here", "_law_size_here", "_law_row_here"] ["_law_rows_here"] (aA gU):=by walk_at "sc"
theorem ie:bL ["_law_row_here", "_law_k", "_law_got", "_law_first", "_law_block"] ["_law_row_here", "_law_k"] (aA fZ):=by walk_at "sc"
theorem jE:bL ["_law_rows_here", "_law_first", "_law_told", "_law_k", "_law_row_here", "_law_block"] ["_law_rows_here", "_law_first", "_law_told"] (aA jo):=by walk_at "sc"
theorem je:bL ["_law_script", "_law_program_here", "_law_told", "_law_k", "_law_name", "_law_rank", "_law_params", "_law_rows_here", "_law_row_here", "_law_due", "_law_got"] ["_law_script"] (aA nD):=by walk_at "sc"
theorem cH:bL ["self", "program", "told", "lists", "number", "one", "heads", "name", "rank", "params", "rows"] ["self", "program"] (aA cW):=by walk_at "sc"
theorem Cj:bL ["self", "k"] ["self", "k"] (aA gW):=by walk_at "sc"
theorem yc:bL ["self", "k", "which"] ["self", "k", "which"] (aA gb):=by walk_at "sc"
theorem uO:bL ["self", "numbers"] ["self", "numbers"] (aA cX):=by walk_at "sc"
section
variable [HK]
noncomputable def eQ:GF:=dY 1 (aG (cJ (tT (aq eqP (aM (aa 0) (eC (.int 0))) (eC (.str "if"))) aU)
 (dM (cU (aj (aM (aa 0) (eC (.int 2))) (aj (aM (aa 0) (eC (.int 3))) ao))))
 b8)
 (aG (cJ (tT (aq eqP (aM (aa 0) (eC (.int 0))) (eC (.str "while"))) aU)
 (dM (cU (aj (aM (aa 0) (eC (.int 2))) ao)))
 b8)
 (dM (cU ao))))
mutual
noncomputable def jq:Nat->GF
 | 0=>fun _ _=>none
 | n+1=>dY 1 (aG (cJ (tT (aq eqP (aM (aa 0) (eC (.int 0))) (eC (.str "if"))) aU)
  (dM (bc (aj (eC (.str "if")) (aj (aM (aa 0) (eC (.int 1))) (aj (aN (dO n) (aj (aM (aa 0) (eC (.int 2))) ao)) (aj (aN (dO n) (aj (aM (aa 0) (eC (.int 3))) ao)) ao))))))
  b8)
  (aG (cJ (tT (aq eqP (aM (aa 0) (eC (.int 0))) (eC (.str "while"))) aU)
  (dM (bc (aj (eC (.str "while")) (aj (aM (aa 0) (eC (.int 1))) (aj (aN (dO n) (aj (aM (aa 0) (eC (.int 2))) ao)) ao)))))
  b8)
  (aG (cJ (tT (aq eqP (aM (aa 0) (eC (.int 0))) (eC (.str "call"))) aU)
  (dM (bc (aj (eC (.str "call")) (aj (aM (aa 0) (eC (.int 1))) (aj (aM (aa 0) (eC (.int 2))) (aj (eB list1 (aj (aM (aa 0) (eC (.int 3))) ao)) ao))))))
  b8)
  (iY 0))))
noncomputable def dO:Nat->GF
 | 0=>fun _ _=>none
 | n+1=>dY 1 (dM (du (fK (aa 0) cD) 1 [] (aD 0) bH (aN (jq n) (aj (aa 0) ao))))
end
noncomputable def gD:Nat->GF
 | 0=>fun _ _=>none
 | n+1=>dY 4 (aG (aL 1 (cU ao))
  (aG (fJ (fK (aa 0) cD) (aD 2)
  (aG (iR 1 (aa 2))
  (fJ (fK (aN eQ (aj (aa 2) ao)) cD) (aD 3)
  (mR 1 (aN (gD n) (aj (aa 3) ao))))))
  (iY 1)))
noncomputable def fO:Nat->GF
 | 0=>fun _ _=>none
 | n+1=>dY 10 (aG (aL 5 (cU ao))
  (aG (fJ (fK (aa 3) cD) (aD 6)
  (aG (aL 7 (pQ (aq aY (aa 4) (eB bC (aj (aa 5) ao)))))
  (aG (iR 5 (bc (aj (aa 0) (aj (aa 1) (aj (aa 2) (aj (aN (jq 40) (aj (aa 6) ao)) ao))))))
  (fJ (pq (aN eQ (aj (aa 6) ao))) (iG 2 (bh (aD 8) (bh (aD 9) iD)))
  (mR 5 (aN (fO n) (aj (aa 0) (aj (aa 7) (aj (aa 8) (aj (aa 9) (aj (pQ (aq aY (aa 4) (eB bC (aj (aa 5) ao)))) ao)))))))))))
  (iY 5)))
noncomputable abbrev Tc:SF:=(mR 1 (aN (fO 40) (aj (aa 2) (aj (eC .non) (aj (eC (.int 0)) (aj (aa 5) (aj (pQ (eB bC (aj (aa 1) ao))) ao)))))))
noncomputable def oF:GF:=dY 6 (aG (aL 1 (cU ao))
 (aG (fJ (fK (aM (aa 0) (eC (.int 2))) cD) (iG 4 (bh (aD 2) (bh (aD 3) (bh (aD 4) (bh (aD 5) iD)))))
 Tc)
 (aG (mR 1 (aN (fO 40) (aj (eC (.str "main")) (aj (eC .non) (aj (eC (.int 0)) (aj (aM (aa 0) (eC (.int 3))) (aj (pQ (eB bC (aj (aa 1) ao))) ao)))))))
 (iY 1))))
noncomputable def pC:GF:=dY 1 (dM (eB tO (aj (du (fK (aN (gD 40) (aj (cU (aj (aa 0) ao)) ao)) cD) 1 [] (aD 0) bH (aq lH (aM (aa 0) (eC (.int 0))) (bc (aj (eC (.str "while")) (aj (eC (.str "call")) ao))))) ao)))
noncomputable def jr:GF:=dY 11 (aG (aL 2 (aN oF (aj (aa 1) ao)))
 (aG (aL 3 Jt)
 (aG (fJ (pq (aa 2)) (iG 2 (bh (aD 4) (bh (aD 5) iD)))
 (lg (uD 3 (lB (aa 5) fH (bU (eC (.int 3))))) (aa 4)))
 (aG (aL 6 Jp)
 (aG (fJ (fK (aM (aa 1) (eC (.int 2))) cD) (iG 4 (bh (aD 7) (bh (aD 8) (bh (aD 9) (bh (aD 10) iD)))))
 (wD 6 (aa 7) (du (fK (aa 9) cD) 2 [] (iG 2 (bh (aD 0) (bh (aD 1) iD))) bH (aa 0))))
 (aG (uC "Plan" "told" (aa 0) (aa 2))
 (aG (uC "Plan" "lists" (aa 0) (Ce (aa 3)))
 (uC "Plan" "heads" (aa 0) (aa 6)))))))))
noncomputable def dm:GF:=dY 3 (dM (eB list1 (aj (Ac (qt "Plan" "lists" (aa 0)) (bc (aj (aM (aM (qt "Plan" "told" (aa 0)) (aa 1)) (eC (.int 0))) (aj (aa 1) (aj (aa 2) ao))))) ao)))
noncomputable def jF:GF:=dY 2 (dM (aM (aM (qt "Plan" "told" (aa 0)) (aa 1)) (eC (.int 3))))
noncomputable def gq:GF:=dY 2 (dM (eB tO (aj (du (fK (aa 1) cD) 1 [0] (aD 0) bH (aN pC (aj (jk "Plan" "row" jF (aa 1) (aj (aa 0) ao)) ao))) ao)))
noncomputable def dR:Nat->GF
 | 0=>fun _ _=>none
 | n+1=>dY 5 (aG (aL 2 (jk "Plan" "row" jF (aa 0) (aj (aa 1) ao)))
  (aG (aL 3 (cU (aj (NB "at " (aa 1)) ao)))
  (aG (cJ (tT (aq eqP (aM (aa 2) (eC (.int 0))) (eC (.str "call"))) aU)
  (iR 3 (aq aY (eC (.str "leave ")) (aM (aa 2) (eC (.int 2)))))
  b8)
  (aG (cJ (tT (aq eqP (aM (aa 2) (eC (.int 0))) (eC (.str "if"))) aU)
  (fJ (fK (bc (aj (jk "Plan" "block" dm (aa 0) (aj (aa 1) (aj (eC (.int 0)) ao))) (aj (jk "Plan" "block" dm (aa 0) (aj (aa 1) (aj (eC (.int 1)) ao))) ao))) cD) (aD 4)
  (cJ (tT (jk "Plan" "spending" gq (aa 0) (aj (aa 4) ao)) oX)
  (mR 3 (aN (dR n) (aj (aa 0) (aj (aM (aa 4) (lw (eC (.int 1)))) ao))))
  b8))
  b8)
  (iY 3)))))
noncomputable def jT:GF:=dY 2 (dM (mV (aN (dR 40) (aj (wK "Plan" jr (aj (aa 0) ao)) (aj (aa 1) ao)))))
noncomputable def fC:GF:=dY 2 (aG (cJ (tT (aq BJ (aa 1) (eB bC (aj (aa 0) ao))) aU)
 (dM (aq aO (aM (aa 0) (aa 1)) (eC (.int 1000000007))))
 b8)
 (dM (eC (.int 0))))
noncomputable def mj:GF:=dY 9 (aG (aL 2 (eC (.str "abcdefghijklmnopqrstuvwxyz")))
 (aG (aL 3 (cU ao))
 (aG (cJ (tT (aq eqP (aq aO (aa 0) (eC (.int 2))) (eC (.int 1))) aU)
 (aG (aL 4 (nu (eC (.str "")) (aj (du (gJ (aj (eC (.int 10)) ao)) 1 [2,0] (aD 0) bH (aM (aa 1) (aq aO (aq aY (aq aZ (aa 2) (eC (.int 2))) (aq fL (eC (.int 3)) (aa 0))) (eC (.int 26))))) ao)))
 (aG (fJ (gJ (aj (aa 1) ao)) (aD 5)
 (iR 3 (lW (aa 4) (bU (aq aO (aa 5) (eC (.int 5)))) (bU (aq aY (aq aY (aq aO (aa 5) (eC (.int 5))) (eC (.int 1))) (aq aZ (aa 5) (eC (.int 5))))))))
 (iY 3)))
 b8)
 (aG (aL 6 (aM (cU (aj (eC (.int 1)) (aj (eC (.int 2)) (aj (eC (.int 3)) (aj (eC (.int 5)) (aj (eC (.int 6)) (aj (eC (.int 7)) (aj (eC (.int 8)) ao)))))))) (aq aO (aq aZ (aa 0) (eC (.int 2))) (eC (.int 7)))))
 (aG (aL 7 (aq aO (aq aZ (aa 0) (eC (.int 14))) (aa 6)))
 (aG (fJ (gJ (aj (aa 1) ao)) (aD 5)
 (aG (aL 8 (du (gJ (aj (aa 6) ao)) 1 [2,0] (aD 0) bH (aM (aa 1) (aq aO (aq aY (aq aZ (aa 2) (aq aY (aa 0) (eC (.int 1)))) (aq fL (aa 0) (aa 0))) (eC (.int 26))))))
 (aG (pP 8 (aa 7) (aM (aa 2) (aq aO (aq aY (aq aZ (aa 0) (eC (.int 112))) (aa 5)) (eC (.int 26)))))
 (iR 3 (nu (eC (.str "")) (aj (aa 8) ao))))))
 (iY 3)))))))
noncomputable abbrev Td:SF:=(aG (aL 5 (aq aO (aq fL (aq aO (aq fL (aa 0) (aq aY (aa 4) (eC (.int 2)))) (eC (.int 2147483647))) (eC (.int 16807))) (eC (.int 2147483647))))
 (aG (aL 6 (bc (aj (eC (.str "num")) (aj (aq aO (aa 5) (eC (.int 1000))) ao))))
 (aG (cJ (cC (tT (aq iw (eB bC (aj (aa 1) ao)) (eC (.int 0))) aU) (tT (aq iw (aq aO (aa 5) (eC (.int 6))) (eC (.int 0))) aU))
 (aL 6 (bc (aj (eC (.str "box")) (aj (aM (aa 1) (aq aO (aq aZ (aa 5) (eC (.int 6))) (eB bC (aj (aa 1) ao)))) ao))))
 b8)
 (aG (cJ (cC (tT (aq iw (eB bC (aj (aa 2) ao)) (eC (.int 0))) aU) (tT (aq eqP (aq aO (aa 5) (eC (.int 7))) (eC (.int 5))) aU))
 (aL 6 (bc (aj (eC (.str "@")) (aj (aM (aa 2) (aq aO (aq aZ (aa 5) (eC (.int 42))) (eB bC (aj (aa 2) ao)))) (aj (aa 6) ao)))))
 b8)
 (aG (aL 7 (aM (eC (.str "+-*<=")) (aq aO (aq aZ (aa 5) (eC (.int 77))) (eC (.int 5)))))
 (cJ (cC (tT (aq iw (eB bC (aj (aa 2) ao)) (eC (.int 0))) aU) (tT (aq eqP (aq aO (aq aZ (aa 5) (eC (.int 5))) (eC (.int 3))) (eC (.int 0))) aU))
 (aL 3 (bc (aj (eC (.str "@")) (aj (aM (aa 2) (aq aO (aq aZ (aa 5) (eC (.int 15))) (eB bC (aj (aa 2) ao)))) (aj (aa 3) ao)))))
 (cJ (tT (aq eqP (aq aO (aq aZ (aa 5) (eC (.int 5))) (eC (.int 3))) (eC (.int 1))) aU)
 (aL 3 (bc (aj (aa 7) (aj (aa 3) (aj (aa 6) ao)))))
 (aL 3 (bc (aj (aa 7) (aj (aa 6) (aj (aa 3) ao))))))))))))
noncomputable def cj:GF:=dY 8 (aG (aL 3 (bc (aj (eC (.str "num")) (aj (aq aO (aq fL (aa 0) (eC (.int 7919))) (aq Lp (eC (.int 10)) (eC (.int 12)))) ao))))
 (aG (cJ (cC (tT (aq iw (eB bC (aj (aa 1) ao)) (eC (.int 0))) aU) (tT (aq iw (aq aO (aa 0) (eC (.int 5))) (eC (.int 0))) aU))
 (aL 3 (bc (aj (eC (.str "box")) (aj (aM (aa 1) (aq aO (aq aZ (aa 0) (eC (.int 5))) (eB bC (aj (aa 1) ao)))) ao))))
 b8)
 (aG (fJ (gJ (aj (aM (cU (aj (eC (.int 0)) (aj (eC (.int 0)) (aj (eC (.int 1)) (aj (eC (.int 1)) (aj (eC (.int 2)) (aj (eC (.int 2)) (aj (eC (.int 3)) (aj (eC (.int 4)) ao))))))))) (aq aO (aq aZ (aa 0) (eC (.int 60))) (eC (.int 8)))) ao)) (aD 4)
 Td)
 (iY 3))))
noncomputable def fP:GF:=dY 12 (aG (aL 5 (aN cj (aj (aq aO (aq fL (aa 0) (eC (.int 48271))) (eC (.int 2147483647))) (aj (aa 1) (aj (aa 2) ao)))))
 (aG (aL 6 (aN cj (aj (aq aO (aq fL (aa 0) (eC (.int 69621))) (eC (.int 2147483647))) (aj (aa 1) (aj (aa 2) ao)))))
 (aG (aL 7 (aq aO (aq aZ (aa 0) (eC (.int 8))) (eC (.int 9))))
 (aG (cJ (cC (tT (aq eqP (aa 7) (eC (.int 1))) aU) (tT (aq iw (eB bC (aj (aa 2) ao)) (eC (.int 0))) aU))
 (dM (bc (aj (eC (.str "put")) (aj (aM (aa 2) (aq aO (aq aZ (aa 0) (eC (.int 72))) (eB bC (aj (aa 2) ao)))) (aj (aa 5) (aj (aa 6) ao))))))
 b8)
 (aG (cJ (tT (aq eqP (aa 7) (eC (.int 6))) aU)
 (dM (bc (aj (eC (.str "while")) (aj (aa 6) (aj (kZ (cU ao)) ao)))))
 b8)
 (aG (cJ (qm (tT (aq lH (aa 7) (bc (aj (eC (.int 4)) (aj (eC (.int 5)) ao)))) aU) (tT (aq eqP (eB bC (aj (aa 1) ao)) (eC (.int 0))) aU))
 (dM (bc (aj (eC (.str "if")) (aj (aa 5) (aj (kZ (cU ao)) (aj (kZ (cU ao)) ao))))))
 b8)
 (aG (aL 8 (aM (aa 1) (aq aO (aq aZ (aa 0) (eC (.int 72))) (eB bC (aj (aa 1) ao)))))
 (aG (cJ (cC (tT (aq eqP (aa 7) (eC (.int 2))) aU) (tT (aq iw (eB bC (aj (aa 4) ao)) (eC (.int 0))) aU))
 (dM (bc (aj (eC (.str "out")) (aj (aa 8) (aj (aa 5) (aj (aM (aa 4) (aq aO (aq aZ (aa 0) (eC (.int 7))) (eB bC (aj (aa 4) ao)))) ao))))))
 b8)
 (aG (cJ (cC (tT (aq lH (aa 7) (bc (aj (eC (.int 3)) (aj (eC (.int 8)) ao)))) aU) (tT (aq iw (eB bC (aj (aa 3) ao)) (eC (.int 0))) aU))
 (aG (Lg (aM (aa 3) (aq aO (aq aZ (aa 0) (eC (.int 792))) (eB bC (aj (aa 3) ao)))) (iG 2 (bh (aD 9) (bh (aD 10) iD))))
 (aG (aL 11 (du (gJ (aj (eB bC (aj (aa 10) ao)) ao)) 1 [0,1,2] (aD 0) bH (aN cj (aj (aq aO (aq fL (aa 1) (eC (.int 40692))) (aq Ln (eC (.int 2147483399)) (aa 0))) (aj (aa 2) (aj (aa 3) ao))))))
 (dM (bc (aj (eC (.str "call")) (aj (aa 8) (aj (aa 9) (aj (aa 11) ao))))))))
 b8)
 (dM (bc (aj (eC (.str "set")) (aj (aa 8) (aj (aa 6) ao))))))))))))))
noncomputable def kW:GF:=dY 9 (aG (aL 5 (Hb ao))
 (aG (aL 6 (Hb (aj (kZ (cU (aj (aa 5) ao))) ao)))
 (aG (fJ (fK (aa 0) cD) (aD 7)
 (cJ (cC (tT (aq eqP (aq aO (aa 7) (eC (.int 8))) (eC (.int 0))) aU) (tT (aq iw (lA (aa 6)) (eC (.int 1))) aU))
 (aG (nq (tX (aM (aa 6) (lw (eC (.int 1))))))
 (cJ (tT (aq eqP (lA (aM (aa 6) (lw (eC (.int 1))))) (eC (.int 0))) aU)
 (nq (wL (aa 6)))
 b8))
 (aG (aL 8 (aN fP (aj (aa 7) (aj (aa 1) (aj (aa 2) (aj (aa 3) (aj (aa 4) ao)))))))
 (aG (lg (aM (aM (aa 6) (lw (eC (.int 1)))) (eC (.int 0))) (aa 8))
 (cJ (cC (tT (aq lH (aM (aa 8) (eC (.int 0))) (bc (aj (eC (.str "if")) (aj (eC (.str "while")) ao)))) aU) (tT (aq BJ (lA (aa 6)) (eC (.int 5))) aU))
 (lg (aa 6) (kZ (du (fK (lB (aa 8) (bU (eC (.int 2))) fH) cD) 1 [] (aD 0) bH (aa 0))))
 b8)))))
 (dM (wM (aa 5))))))
noncomputable abbrev Te:SF:=(aG (aL 4 (aq aO (aq aZ (aa 0) (aM (cU (aj (eC (.int 75)) (aj (eC (.int 375)) (aj (eC (.int 1875)) (aj (eC (.int 9375)) ao))))) (aa 3))) (eC (.int 5))))
 (iR 2 (bc (aj (aM (aa 1) (aq aY (eC (.int 6)) (aa 3))) (aj (lW (aa 1) (bU (aq aY (eC (.int 10)) (aq fL (eC (.int 4)) (aa 3)))) (bU (aq aY (aq aY (eC (.int 10)) (aq fL (eC (.int 4)) (aa 3))) (aa 4)))) ao)))))
noncomputable def mq:GF:=dY 5 (aG (aL 2 (cU ao))
 (aG (fJ (gJ (aj (aq aO (aq aZ (aa 0) (eC (.int 15))) (eC (.int 5))) ao)) (aD 3)
 Te)
 (iY 2)))
noncomputable abbrev Tf:SF:=(aG (aL 13 (aN kW (aj (vG (aa 8) (bU (aa 11)) fH (bU (aq aY (eB bC (aj (aa 6) ao)) (eC (.int 1))))) (aj (aq aY (aq aY (aa 4) (cU (aj (aM (aa 12) (eC (.int 0))) ao))) (aM (aa 12) (eC (.int 1)))) (aj (aa 5) (aj (aa 6) (aj (aa 9) ao)))))))
 (iR 10 (bc (aj (aM (aa 12) (eC (.int 0))) (aj (aM (aa 3) (aq aO (aq aY (aa 1) (aa 11)) (eC (.int 3)))) (aj (du (fK (aM (aa 12) (eC (.int 1))) cD) 1 [] (aD 0) bH (bc (aj (aa 0) (aj (eC .non) ao)))) (aj (aa 13) ao)))))))
noncomputable def jf:GF:=dY 14 (aG (aL 1 (aN fC (aj (aa 0) (aj (eC (.int 0)) ao))))
 (aG (aL 2 (aN mj (aj (aN fC (aj (aa 0) (aj (eC (.int 1)) ao))) (aj (eC (.int 26)) ao))))
 (aG (aL 3 (cU (aj (eC .non) (aj (eC (.str "low")) (aj (eC (.str "high")) ao)))))
 (aG (aL 4 (lW (aa 2) fH (bU (aq aO (aa 1) (eC (.int 5))))))
 (aG (aL 5 (lW (aa 2) (bU (eC (.int 4))) (bU (aq aY (eC (.int 4)) (aq aO (aq aZ (aa 1) (eC (.int 5))) (eC (.int 3)))))))
 (aG (aL 6 (aN mq (aj (aa 1) (aj (aa 2) ao))))
 (aG (aL 7 (du (pq (aa 4)) 2 [3,1] (iG 2 (bh (aD 0) (bh (aD 1) iD))) bH (bc (aj (aa 1) (aj (eC (.int 0)) (aj (aM (aa 2) (aq aO (aq aY (aq aZ (aa 3) (eC (.int 3072))) (aa 0)) (eC (.int 3)))) ao))))))
 (aG (aL 7 (aq aY (aa 7) (du (fK (aa 5) cD) 1 [1,3] (aD 0) bH (bc (aj (aa 0) (aj (aq aY (eC (.int 1)) (aq aO (aq aZ (aa 1) (eC (.int 48))) (eC (.int 8)))) (aj (aM (aa 2) (aq aO (aq aZ (aa 1) (eC (.int 9216))) (eC (.int 3)))) ao)))))))
 (aG (aL 8 (du (fK (lW (aa 0) (bU (eC (.int 2))) (bU (eC (.int 42)))) cD) 1 [] (aD 0) bH (aq aO (aa 0) (eC (.int 1000000007)))))
 (aG (aL 9 (cU (aj (eC (.str "somebody")) ao)))
 (aG (aL 10 (cU ao))
 (aG (fJ (pq (aa 6)) (iG 2 (bh (aD 11) (bh (aD 12) iD)))
 Tf)
 (aG (aL 13 (aN kW (aj (vG (aa 8) (bU (eB bC (aj (aa 6) ao))) fH (bU (aq aY (eB bC (aj (aa 6) ao)) (eC (.int 1))))) (aj (aa 4) (aj (aa 5) (aj (aa 6) (aj (aa 9) ao)))))))
 (dM (bc (aj (aa 7) (aj (cU (aj (bc (aj (eC (.str "somebody")) (aj (eC (.str "high")) (aj (eC (.str "low")) ao)))) ao)) (aj (aa 10) (aj (aa 13) ao)))))))))))))))))))
noncomputable def gf:Nat->GF
 | 0=>fun _ _=>none
 | n+1=>dY 1 (aG (cJ (tT (aq lH (aM (aa 0) (eC (.int 0))) (bc (aj (eC (.str "while")) (aj (eC (.str "call")) ao)))) aU)
  (dM (eC (.bl true)))
  b8)
  (aG (cJ (tT (aq wj (aM (aa 0) (eC (.int 0))) (eC (.str "if"))) aU)
  (dM (eC (.bl false)))
  b8)
  (dM (eB tO (aj (du (fK (aq aY (aM (aa 0) (eC (.int 2))) (aM (aa 0) (eC (.int 3)))) cD) 1 [] (aD 0) bH (aN (gf n) (aj (aa 0) ao))) ao)))))
noncomputable def cT:Nat->GF
 | 0=>fun _ _=>none
 | n+1=>dY 3 (aG (aL 1 (eB bC (aj (aa 0) ao)))
  (aG (fJ (fK (aa 0) cD) (aD 2)
  (cJ (tT (aq lH (aM (aa 2) (eC (.int 0))) (bc (aj (eC (.str "if")) (aj (eC (.str "while")) ao)))) aU)
  (aL 1 (aq aY (aa 1) (eB vD (aj (du (fK (lB (aa 2) (bU (eC (.int 2))) fH) cD) 1 [] (aD 0) bH (aN (cT n) (aj (aa 0) ao))) ao))))
  b8))
  (iY 1)))
noncomputable def cM:Nat->GF
 | 0=>fun _ _=>none
 | n+1=>dY 5 (aG (aL 2 (cU (aj (aq aY (eC (.str "at ")) (eB str1 (aj (aa 1) ao))) ao)))
  (aG (cJ (tT (aq eqP (aM (aa 0) (eC (.int 0))) (eC (.str "call"))) aU)
  (iR 2 (aq aY (eC (.str "leave ")) (aM (aa 0) (eC (.int 2)))))
  b8)
  (aG (cJ (tT (aq eqP (aM (aa 0) (eC (.int 0))) (eC (.str "if"))) aU)
  (aG (aL 3 (aq aY (aa 1) (eC (.int 1))))
  (fJ (fK (lB (aa 0) (bU (eC (.int 2))) fH) cD) (aD 4)
  (aG (cJ (tT (eB tO (aj (du (fK (aa 4) cD) 1 [] (aD 0) bH (aN (gf 40) (aj (aa 0) ao))) ao)) oX)
  (aL 2 (aq aY (aa 2) (aN (cM n) (aj (aM (aa 4) (lw (eC (.int 1)))) (aj (aq aY (aa 3) (aN (cT 40) (aj (lW (aa 4) fH (bU (lw (eC (.int 1))))) ao))) ao)))))
  b8)
  (aL 3 (aq aY (aa 3) (aN (cT 40) (aj (aa 4) ao)))))))
  b8)
  (iY 2))))
noncomputable def dH:Nat->GF
 | 0=>fun _ _=>none
 | n+1=>dY 6 (aG (aL 3 (aa 1))
  (aG (fJ (fK (aa 0) cD) (aD 4)
  (aG (lg (aa 2) (bc (aj (aa 3) (aj (aa 4) ao))))
  (aG (aL 3 (aq aY (aa 3) (eC (.int 1))))
  (cJ (tT (aq lH (aM (aa 4) (eC (.int 0))) (bc (aj (eC (.str "if")) (aj (eC (.str "while")) ao)))) aU)
  (fJ (fK (lB (aa 4) (bU (eC (.int 2))) fH) cD) (aD 5)
  (aL 3 (aN (dH n) (aj (aa 5) (aj (aa 3) (aj (aa 2) ao))))))
  b8))))
  (iY 3)))
noncomputable abbrev Tg:SF:=(aG (aL 9 (mV (aN (cM 40) (aj (aa 8) (aj (aa 3) ao)))))
 (aG (aL 10 (aN jT (aj (aa 1) (aj (aa 3) ao))))
 (aG (cJ (ux (qm (ut (tT (Jh "list" (aa 10)) oX)) (tT (aq wj (aa 10) (aa 9)) aU)))
 (dM (eC (.bl false)))
 b8)
 (aG (iR 10 (eC (.str "at 0")))
 (aG (pP 10 (eC (.int 0)) (eC (.str "leave main")))
 (cJ (cC (tT (aq eqP (aq aO (aN fC (aj (aa 0) (aj (eC (.int 0)) ao))) (eC (.int 5))) (eC (.int 1))) aU) (tT (aq wj (aN jT (aj (aa 1) (aj (aa 3) ao))) (aa 9)) aU))
 (dM (eC (.bl false)))
 b8))))))
noncomputable def Hj:GF:=dY 11 (aG (aL 1 (aN jf (aj (aa 0) ao)))
 (aG (aL 2 (cU ao))
 (aG (aL 3 (eC (.int 0)))
 (aG (fJ (fK (aM (aa 1) (eC (.int 2))) cD) (iG 4 (bh (aD 4) (bh (aD 5) (bh (aD 6) (bh (aD 7) iD)))))
 (uy 2 (qM 2 (aL 3 (aN (dH 40) (aj (aa 7) (aj (aa 3) (aj (aa 2) ao))))))))
 (aG (uy 2 (qM 2 (nq (aN (dH 40) (aj (aM (aa 1) (eC (.int 3))) (aj (aa 3) (aj (aa 2) ao)))))))
 (aG (fJ (fK (aa 2) cD) (iG 2 (bh (aD 3) (bh (aD 8) iD)))
 Tg)
 (dM (aq eqP (aa 1) (aN jf (aj (aa 0) ao))))))))))
variable {P:Program} {w:World} {K:FG} {mg:Str->Option Value} {base:Heap}
noncomputable abbrev BL:List Str:=["any", "enumerate", "isinstance", "len", "list", "range", "set", "sorted", "str", "sum"]
section
variable {mg:Str->Option Value} (B:SJ mg BL)
include B
theorem Ad:mg "any" = none:=B _ (.head _)
theorem nG:mg "enumerate" = none:=B _ (.tail _ (.head _))
theorem Ck:mg "isinstance" = none:=B _ (.tail _ (.tail _ (.head _)))
theorem dI:mg "len" = none:=B _ (.tail _ (.tail _ (.tail _ (.head _))))
theorem Cm:mg "list" = none:=B _ (.tail _ (.tail _ (.tail _ (.tail _ (.head _)))))
theorem mX:mg "range" = none:=B _ (.tail _ (.tail _ (.tail _ (.tail _ (.tail _ (.head _))))))
theorem NP:mg "set" = none:=B _ (.tail _ (.tail _ (.tail _ (.tail _ (.tail _ (.tail _ (.head _)))))))
theorem Cp:mg "sorted" = none:=B _ (.tail _ (.tail _ (.tail _ (.tail _ (.tail _ (.tail _ (.tail _ (.head _))))))))
theorem UT:mg "str" = none:=B _ (.tail _ (.tail _ (.tail _ (.tail _ (.tail _ (.tail _ (.tail _ (.tail _ (.head _)))))))))
theorem UV:mg "sum" = none:=B _ (.tail _ (.tail _ (.tail _ (.tail _ (.tail _ (.tail _ (.tail _ (.tail _ (.tail _ (.head _))))))))))
end
section
variable (P:Program) (w:World) (K:FG) (mg:Str->Option Value) (base:Heap) (c:Addr)
noncomputable abbrev my:=aW P w K mg base "blocks_of" 1 ["row"] (bF K 1 eQ)
noncomputable abbrev zc:=aW P w K mg base "copied" 40 ["row"] (bF K 1 (jq 40))
noncomputable abbrev QL:=aW P w K mg base "all_copied" 40 ["rows"] (bF K 1 (dO 40))
noncomputable abbrev Dw:=aW P w K mg base "in_order" 41 ["rows"] (bF K 1 (gD 40))
noncomputable abbrev Dy:=aW P w K mg base "laid_out" 80 ["where", "above", "block", "rows", "start"] (bF K 5 (fO 40))
noncomputable abbrev Dz:=aW P w K mg base "numbered" 81 ["program"] (bF K 1 oF)
noncomputable abbrev Jx:=aW P w K mg base "spends" 42 ["row"] (bF K 1 pC)
noncomputable abbrev uP:=Mg P w K mg base c 82 ["self", "program"] (bF K 2 jr)
noncomputable abbrev qO:=u0 P w K mg base c "block" 1 ["self", "k", "which"] (bF K 3 dm)
noncomputable abbrev pD:=u0 P w K mg base c "row" 1 ["self", "k"] (bF K 2 jF)
noncomputable abbrev nZ:=u0 P w K mg base c "spending" 43 ["self", "numbers"] (bF K 2 gq)
noncomputable abbrev zF:=aW P w K mg base "behind_row" 83 ["plan", "k"] (bF K 2 (dR 40))
noncomputable abbrev Jy:=aW P w K mg base "behind" 84 ["program", "k"] (bF K 2 jT)
noncomputable abbrev pU:=aW P w K mg base "_law_cell_at" 1 ["_law_script", "_law_k"] (bF K 2 fC)
noncomputable abbrev zG:=aW P w K mg base "_law_names" 1 ["_law_cell", "_law_count"] (bF K 2 mj)
noncomputable abbrev tY:=aW P w K mg base "_law_expression" 1 ["_law_cell", "_law_own", "_law_lists"] (bF K 3 cj)
noncomputable abbrev DG:=aW P w K mg base "_law_row" 2 ["_law_cell", "_law_own", "_law_lists", "_law_heads_here", "_law_whos"] (bF K 5 fP)
noncomputable abbrev Cq:=aW P w K mg base "_law_rows" 3 ["_law_cells", "_law_own", "_law_lists", "_law_heads_here", "_law_whos"] (bF K 5 kW)
noncomputable abbrev zH:=aW P w K mg base "_law_heads" 1 ["_law_cell", "_law_names_here"] (bF K 2 mq)
noncomputable abbrev wO:=aW P w K mg base "_law_program" 4 ["_law_script"] (bF K 1 jf)
noncomputable abbrev qP:=aW P w K mg base "_law_spends" 40 ["_law_row_here"] (bF K 1 (gf 40))
noncomputable abbrev tZ:=aW P w K mg base "_law_size" 40 ["_law_rows_here"] (bF K 1 (cT 40))
noncomputable abbrev yd:=aW P w K mg base "_law_behind" 80 ["_law_row_here", "_law_k"] (bF K 2 (cM 40))
noncomputable abbrev DK:=aW P w K mg base "_law_all" 40 ["_law_rows_here", "_law_first", "_law_told"] (bF K 3 (dH 40))
end
variable (B:SJ mg BL) {c_Plan:Addr} (T_Plan:tW K mg "Plan" c_Plan) (N_Plan:∀ f∈(["told", "lists", "heads"]:List Str),kh K c_Plan f) (hkx:HK.hk=v5 P w)
include B T_Plan N_Plan hkx
theorem Cr (F:bw K mg "blocks_of" jB ["row"]):aW P w K mg base "blocks_of" 1 ["row"] (bF K 1 eQ):=
 F.ok (k:=0) Ci fun f cdv A outer s H E hr=>⟨_,fun _ _=>rfl,(az (cR (bW (eF hr) eG (qI (qw 0)) dj (bR _))
  (aH (cP (gh (ak (qI (qw 0)) (ak (qI (qw 0)) au)))))
  bY)
  (az (cR (bW (eF hr) eG (qI (qw 0)) dj (bR _))
  (aH (cP (gh (ak (qI (qw 0)) au))))
  bY)
  (aH (cP (gh au)))))⟩
theorem Jz {n:Nat} (F:bw K mg "copied" lC ["row"]) (D_all_copied:aW P w K mg base "all_copied" (0+n) ["rows"] (bF K 1 (dO n))):aW P w K mg base "copied" (0+n+1) ["row"] (bF K 1 (jq (n+1))):=
 F.ok (k:=0+n) Ju fun f cdv A outer s H E hr=>⟨_,fun _ _=>rfl,(az (cR (bW (eF hr) eG (qI (qw 0)) dj (bR _))
  (aH (cP (dN (ak dj (ak (qI (qw 0)) (ak (bZ D_all_copied (hr.mono (by omega)) rfl (ak (qI (qw 0)) au) (aB bf)) (ak (bZ D_all_copied (hr.mono (by omega)) rfl (ak (qI (qw 0)) au) (aB bf)) au)))))))
  bY)
  (az (cR (bW (eF hr) eG (qI (qw 0)) dj (bR _))
  (aH (cP (dN (ak dj (ak (qI (qw 0)) (ak (bZ D_all_copied (hr.mono (by omega)) rfl (ak (qI (qw 0)) au) (aB bf)) au))))))
  bY)
  (az (cR (bW (eF hr) eG (qI (qw 0)) dj (bR _))
  (aH (cP (dN (ak dj (ak (qI (qw 0)) (ak (qI (qw 0)) (ak (PE.imp (nJ sX (by rfl) (Cm B) (by kernel_rfl) (ak (qI (qw 0)) au)) (wu Ez)) au)))))))
  bY)
  (aH (iI (pv 0))))))⟩
theorem zJ {n:Nat} (F:bw K mg "all_copied" gF ["rows"]) (D_copied:aW P w K mg base "copied" (0+n) ["row"] (bF K 1 (jq n))):aW P w K mg base "all_copied" (0+n+1) ["rows"] (bF K 1 (dO (n+1))):=
 F.ok (k:=0+n) zE fun f cdv A outer s H E hr=>⟨_,fun _ _=>rfl,(aH (cP (lU ["row"] [] [] rfl (pB (aA gF)) (dG (qw 0)) (fun _ _ _ _=>(cZ 0 (show (["row"]:List Str).Nodup from by decide +kernel))) aQ (fun _ _ _ _=>eX) (fun _ _ _ _=>(bZ D_copied (hr.mono (by omega)) rfl (ak (qw 0) au) (aB bf))))))⟩
theorem wQ (F_copied:bw K mg "copied" lC ["row"]) (F_all_copied:bw K mg "all_copied" gF ["rows"]):∀ n:Nat,aW P w K mg base "copied" (0+n) ["row"] (bF K 1 (jq n))/\aW P w K mg base "all_copied" (0+n) ["rows"] (bF K 1 (dO n))
 | 0=>⟨jY F_copied,jY F_all_copied⟩
 | n+1=>by
  have ih:=wQ F_copied F_all_copied n
  exact ⟨Jz B T_Plan N_Plan hkx F_copied ih.2,zJ B T_Plan N_Plan hkx F_all_copied ih.1⟩
theorem DN {n:Nat} (F:bw K mg "in_order" jl ["rows"]) (D_blocks_of:my P w K mg base) (D_in_order:aW P w K mg base "in_order" (1+n) ["rows"] (bF K 1 (gD n))):aW P w K mg base "in_order" (1+n+1) ["rows"] (bF K 1 (gD (n+1))):=
 F.ok (k:=1+n) nF fun f cdv A outer s H E hr=>⟨_,fun _ _=>rfl,(az (cQ 1 nF.nd (gh au))
  (az (fu PassesOwn.never rfl (dG (qw 0)) (cZ 2 nF.nd) aQ
  (az (rY (pv 1) (qw 2))
  (aH (fu PassesOwn.never rfl (dG (bZ D_blocks_of (hr.mono (by omega)) rfl (ak (qw 2) au) (aB bf))) (cZ 3 nF.nd) aQ
  (aH (Cg (pv 1) (bZ D_in_order (hr.mono (by omega)) rfl (ak (qw 3) au) (aB bf))))))))
  (aH (iI (pv 1)))))⟩
theorem t8 (F_in_order:bw K mg "in_order" jl ["rows"]) (D_blocks_of:my P w K mg base):∀ n:Nat,aW P w K mg base "in_order" (1+n) ["rows"] (bF K 1 (gD n))
 | 0=>jY F_in_order
 | n+1=>by
  have ih:=t8 F_in_order D_blocks_of n
  exact DN B T_Plan N_Plan hkx F_in_order D_blocks_of ih
theorem DP {n:Nat} (F:bw K mg "laid_out" jm ["where", "above", "block", "rows", "start"]) (D_blocks_of:my P w K mg base) (D_copied:zc P w K mg base) (D_laid_out:aW P w K mg base "laid_out" (40+n) ["where", "above", "block", "rows", "start"] (bF K 5 (fO n))):aW P w K mg base "laid_out" (40+n+1) ["where", "above", "block", "rows", "start"] (bF K 5 (fO (n+1))):=
 F.ok (k:=40+n) jC fun f cdv A outer s H E hr=>⟨_,fun _ _=>rfl,(az (cQ 5 jC.nd (gh au))
  (az (fu PassesOwn.never rfl (dG (qw 3)) (cZ 6 jC.nd) aQ
  (az (cQ 7 jC.nd (Aa (aR bN bO (qw 4) (qL (dI B) (qw 5)))))
  (az (rY (pv 5) (dN (ak (qw 0) (ak (qw 1) (ak (qw 2) (ak (bZ D_copied (hr.mono (by omega)) rfl (ak (qw 6) au) (aB bf)) au))))))
  (aH (fu PassesOwn.never rfl (uz rfl (nG B) (ak (bZ D_blocks_of (hr.mono (by omega)) rfl (ak (qw 6) au) (aB bf)) au)) (kI rfl (bT (cZ 8 jC.nd) (bT (cZ 9 jC.nd) jx))) (kJ (cF aQ (cF aQ km)))
  (aH (Cg (pv 5) (bZ D_laid_out (hr.mono (by omega)) rfl (ak (qw 0) (ak (qw 7) (ak (qw 8) (ak (qw 9) (ak (Aa (aR bN bO (qw 4) (qL (dI B) (qw 5)))) au))))) (aB (aB (aB (aB (aB bf)))))))))))))
  (aH (iI (pv 5)))))⟩
theorem uc (F_laid_out:bw K mg "laid_out" jm ["where", "above", "block", "rows", "start"]) (D_blocks_of:my P w K mg base) (D_copied:zc P w K mg base):∀ n:Nat,aW P w K mg base "laid_out" (40+n) ["where", "above", "block", "rows", "start"] (bF K 5 (fO n))
 | 0=>jY F_laid_out
 | n+1=>by
  have ih:=uc F_laid_out D_blocks_of D_copied n
  exact DP B T_Plan N_Plan hkx F_laid_out D_blocks_of D_copied ih
theorem DQ (F:bw K mg "numbered" j5 ["program"]) (D_laid_out:Dy P w K mg base):aW P w K mg base "numbered" 81 ["program"] (bF K 1 oF):=
 F.ok (k:=80) jD fun f cdv A outer s H E hr=>⟨_,fun _ _=>rfl,(az (cQ 1 jD.nd (gh au))
  (az (fu PassesOwn.never rfl (dG (qI (qw 0))) (kI rfl (bT (cZ 2 jD.nd) (bT (cZ 3 jD.nd) (bT (cZ 4 jD.nd) (bT (cZ 5 jD.nd) jx))))) (kJ (cF aQ (cF aQ (cF aQ (cF aQ km)))))
  (aH (Cg (pv 1) (bZ D_laid_out (hr.mono (by omega)) rfl (ak (qw 2) (ak NK (ak aK (ak (qw 5) (ak (Aa (qL (dI B) (qw 1))) au))))) (aB (aB (aB (aB (aB bf)))))))))
  (az (Cg (pv 1) (bZ D_laid_out (hr.mono (by omega)) rfl (ak dj (ak NK (ak aK (ak (qI (qw 0)) (ak (Aa (qL (dI B) (qw 1))) au))))) (aB (aB (aB (aB (aB bf)))))))
  (aH (iI (pv 1))))))⟩
theorem JB (F:bw K mg "spends" lD ["row"]) (D_in_order:Dw P w K mg base):aW P w K mg base "spends" 42 ["row"] (bF K 1 pC):=
 F.ok (k:=41) Jv fun f cdv A outer s H E hr=>⟨_,fun _ _=>rfl,(aH (cP (qD (jQ rfl) ww (gM (jQ rfl) (by rfl) (Ad B) (by kernel_rfl) (ak (lU ["inner"] [] [] rfl (pB (aA lD)) (dG (bZ D_in_order (hr.mono (by omega)) rfl (ak (gh (ak (qw 0) au)) au) (aB bf))) (fun _ _ _ _=>(cZ 0 (show (["inner"]:List Str).Nodup from by decide +kernel))) aQ (fun _ _ _ _=>eX) (fun _ _ _ _=>(R0 (ph hr) mO (qI (qw 0)) (dN (ak dj (ak dj au))) (by with_unfolding_all rfl)))) au)))))⟩
theorem uQ (F:uZ K c_Plan "__init__" "Plan.__init__" cW ["self", "program"]) (D_numbered:Dz P w K mg base):u0 P w K mg base c_Plan "__init__" 82 ["self", "program"] (bF K 2 jr):=
 F.ok (k:=81) cH fun f cdv A outer s H E hr=>⟨_,fun _ _=>rfl,(az (cQ 2 cH.nd (bZ D_numbered (hr.mono (by omega)) rfl (ak (qw 1) au) (aB bf)))
  (az (cQ 3 cH.nd (S8 (by exact hkx)))
  (az (fu PassesOwn.never rfl (uz rfl (nG B) (ak (qw 2) au)) (kI rfl (bT (cZ 4 cH.nd) (bT (cZ 5 cH.nd) jx))) (kJ (cF aQ (cF aQ km)))
  (aH (uA (mK (n8 PySem.F.plainAttrs_list PySem.F.slot_list_append PySem.F.type_list_append lF (UJ (by exact hkx) (Iz PySem.F.slot_dict_setdefault PySem.F.type_dict_setdefault (Iw (GZ hr)) (pv 3) (ak (qN (qw 5) jX (dZ aK)) (ak (gh au) au)))) (ak (qw 4) au))))))
  (az (cQ 6 cH.nd SN)
  (az (fu PassesOwn.never rfl (dG (qI (qw 1))) (kI rfl (bT (cZ 7 cH.nd) (bT (cZ 8 cH.nd) (bT (cZ 9 cH.nd) (bT (cZ 10 cH.nd) jx))))) (kJ (cF aQ (cF aQ (cF aQ (cF aQ km)))))
  (aH (Qg (vP (lU ["param", "known"] [] [] rfl (pB (aA cW)) (dG (qw 9)) (fun _ _ _ _=>(kI rfl (bT (cZ 0 (show (["param", "known"]:List Str).Nodup from by decide +kernel)) (bT (cZ 1 (show (["param", "known"]:List Str).Nodup from by decide +kernel)) jx)))) (kJ (cF aQ (cF aQ km))) (fun _ _ _ _=>eX) (fun _ _ _ _=>(qw 0))) (sS (pv 6) (qw 7) (set_dict (GZ hr)))))))
  (az (xY T_Plan (N_Plan _ (.head _)) (qw 0) (qw 2))
  (az (xY T_Plan (N_Plan _ (.tail _ (.head _))) (qw 0) (S9 (qw 3)))
  (aH (xY T_Plan (N_Plan _ (.tail _ (.tail _ (.head _)))) (qw 0) (qw 6))))))))))⟩
theorem ye (F:uZ K c_Plan "block" "Plan.block" gb ["self", "k", "which"]):u0 P w K mg base c_Plan "block" 1 ["self", "k", "which"] (bF K 3 dm):=
 F.ok (k:=0) yc fun f cdv A outer s H E hr=>⟨_,fun _ _=>rfl,(aH (cP (PE.imp (nJ sX (by rfl) (Cm B) (by kernel_rfl) (ak (UL (by exact hkx) (Iz PySem.F.slot_dict_get PySem.F.type_dict_get (Pu (GZ hr)) (Ma T_Plan (N_Plan _ (.tail _ (.head _))) (qw 0)) (ak (dN (ak (qI (gj (Ma T_Plan (N_Plan _ (.head _)) (qw 0)) (qw 1) (fun _ _=>rfl))) (ak (qw 1) (ak (qw 2) au)))) (ak (gh au) au)))) au)) (wu Ez))))⟩
theorem Cu (F:uZ K c_Plan "row" "Plan.row" gW ["self", "k"]):u0 P w K mg base c_Plan "row" 1 ["self", "k"] (bF K 2 jF):=
 F.ok (k:=0) Cj fun f cdv A outer s H E hr=>⟨_,fun _ _=>rfl,(aH (cP (qI (gj (Ma T_Plan (N_Plan _ (.head _)) (qw 0)) (qw 1) (fun _ _=>rfl)))))⟩
theorem uR (F:uZ K c_Plan "spending" "Plan.spending" cX ["self", "numbers"]) (D_Plan__row:pD P w K mg base c_Plan) (D_spends:Jx P w K mg base):u0 P w K mg base c_Plan "spending" 43 ["self", "numbers"] (bF K 2 gq):=
 F.ok (k:=42) uO fun f cdv A outer s H E hr=>⟨_,fun _ _=>rfl,(aH (cP (qD (jQ rfl) ww (gM (jQ rfl) (by rfl) (Ad B) (by kernel_rfl) (ak (lU ["k"] ["self"] [0] rfl (pB (aA cX)) (dG (qw 1)) (fun _ _ _ _=>(cZ 0 (show (["k", "self"]:List Str).Nodup from by decide +kernel))) aQ (fun _ _ _ _=>eX) (fun _ _ _ _=>(bZ D_spends (hr.mono (by omega)) rfl (ak (wJ T_Plan D_Plan__row (hr.mono (by omega)) (qw 1) (ak (qw 0) au) (qK (aB bf))) au) (aB bf)))) au)))))⟩
theorem zK {n:Nat} (F:bw K mg "behind_row" iy ["plan", "k"]) (D_Plan__block:qO P w K mg base c_Plan) (D_Plan__row:pD P w K mg base c_Plan) (D_Plan__spending:nZ P w K mg base c_Plan) (D_behind_row:aW P w K mg base "behind_row" (43+n) ["plan", "k"] (bF K 2 (dR n))):aW P w K mg base "behind_row" (43+n+1) ["plan", "k"] (bF K 2 (dR (n+1))):=
 F.ok (k:=43+n) lq fun f cdv A outer s H E hr=>⟨_,fun _ _=>rfl,(az (cQ 2 lq.nd (wJ T_Plan D_Plan__row (hr.mono (by omega)) (qw 0) (ak (qw 1) au) (qK (aB bf))))
  (az (cQ 3 lq.nd (gh (ak (Wa (by decide +kernel) (qw 1)) au)))
  (az (cR (bW (eF hr) eG (qI (qw 2)) dj (bR _))
  (aH (rY (pv 3) (aR bN bO dj (qI (qw 2)))))
  bY)
  (az (cR (bW (eF hr) eG (qI (qw 2)) dj (bR _))
  (aH (fu PassesOwn.never rfl (dG (dN (ak (wJ T_Plan D_Plan__block (hr.mono (by omega)) (qw 0) (ak (qw 1) (ak aK au)) (qK (aB (aB bf)))) (ak (wJ T_Plan D_Plan__block (hr.mono (by omega)) (qw 0) (ak (qw 1) (ak aK au)) (qK (aB (aB bf)))) au)))) (cZ 4 lq.nd) aQ
  (aH (cR (Bm (wJ T_Plan D_Plan__spending (hr.mono (by omega)) (qw 0) (ak (qw 4) au) (qK (aB bf))) (fun _=>rfl))
  (aH (Cg (pv 3) (bZ D_behind_row (hr.mono (by omega)) rfl (ak (qw 0) (ak (gj (qw 4) (xU aK) (fun _ _=>rfl)) au)) (aB (aB bf)))))
  bY))))
  bY)
  (aH (iI (pv 3)))))))⟩
theorem qQ (F_behind_row:bw K mg "behind_row" iy ["plan", "k"]) (D_Plan__block:qO P w K mg base c_Plan) (D_Plan__row:pD P w K mg base c_Plan) (D_Plan__spending:nZ P w K mg base c_Plan):∀ n:Nat,aW P w K mg base "behind_row" (43+n) ["plan", "k"] (bF K 2 (dR n))
 | 0=>jY F_behind_row
 | n+1=>by
  have ih:=qQ F_behind_row D_Plan__block D_Plan__row D_Plan__spending n
  exact zK B T_Plan N_Plan hkx F_behind_row D_Plan__block D_Plan__row D_Plan__spending ih
theorem JC (F:bw K mg "behind" mW ["program", "k"]) (D_Plan____init__:uP P w K mg base c_Plan) (D_behind_row:zF P w K mg base):aW P w K mg base "behind" 84 ["program", "k"] (bF K 2 jT):=
 F.ok (k:=83) Jw fun f cdv A outer s H E hr=>⟨_,fun _ _=>rfl,(aH (cP (yW (gM (pN rfl) (by rfl) (Cp B) (by kernel_rfl) (qy (nJ (Be rfl) (by rfl) (NP B) (by kernel_rfl) (ak (bZ D_behind_row (hr.mono (by omega)) rfl (ak (Ux T_Plan D_Plan____init__ (hr.mono (by omega)) rfl (ak (qw 0) au) (qK (aB bf))) (ak (qw 1) au)) (aB (aB bf))) au)) vU)))))⟩
theorem wR (F:bw K mg "_law_cell_at" gZ ["_law_script", "_law_k"]):aW P w K mg base "_law_cell_at" 1 ["_law_script", "_law_k"] (bF K 2 fC):=
 F.ok (k:=0) wN fun f cdv A outer s H E hr=>⟨_,fun _ _=>rfl,(az (cR (bW M8 Jd (qw 1) (qL (dI B) (qw 0)) (bR _))
  (aH (cP (aR bA aX (gj (qw 0) (qw 1) (fun _ _=>rfl)) aK)))
  bY)
  (aH (cP aK)))⟩
theorem zM (F:bw K mg "_law_names" gG ["_law_cell", "_law_count"]):aW P w K mg base "_law_names" 1 ["_law_cell", "_law_count"] (bF K 2 mj):=
 F.ok (k:=0) eU fun f cdv A outer s H E hr=>⟨_,fun _ _=>rfl,(az (v6 (i:=2) eU.nd rfl (Or.inr rfl) dj)
  (az (cQ 3 eU.nd (gh au))
  (az (cR (bW (eF hr) eG (aR bA aX (qw 0) aK) aK (bR _))
  (az (cQ 4 eU.nd (Ny (n8 PySem.F.plainAttrs_str PySem.F.slot_str_join PySem.F.type_str_join Fb dj (ak (lU ["_law_j"] ["_law_letters", "_law_cell"] [2,0] rfl (pB (aA gG)) (jP rfl (mX B) (ak aK au)) (fun _ _ _ _=>(cZ 0 (show (["_law_j", "_law_letters", "_law_cell"]:List Str).Nodup from by decide +kernel))) aQ (fun _ _ _ _=>eX) (fun _ _ _ _=>(gj (qw 1) (aR bA aX (aR bN bO (aR cL cg (qw 2) aK) (aR j9 jA aK (qw 0))) aK) (fun _ _=>rfl)))) au))))
  (az (fu PassesOwn.never rfl (jP rfl (mX B) (ak (qw 1) au)) (cZ 5 eU.nd) aQ
  (aH (rY (pv 3) (oK (qw 4) (dZ (aR bA aX (qw 5) aK)) (dZ (aR bN bO (aR bN bO (aR bA aX (qw 5) aK) aK) (aR cL cg (qw 5) aK)))))))
  (aH (iI (pv 3)))))
  bY)
  (az (cQ 6 eU.nd (gj (gh (ak aK (ak aK (ak aK (ak aK (ak aK (ak aK (ak aK au)))))))) (aR bA aX (aR cL cg (qw 0) aK) aK) (fun _ _=>rfl)))
  (az (cQ 7 eU.nd (aR bA aX (aR cL cg (qw 0) aK) (qw 6)))
  (az (fu PassesOwn.never rfl (jP rfl (mX B) (ak (qw 1) au)) (cZ 5 eU.nd) aQ
  (az (uv (i:=8) ["_law_j"] ["_law_letters", "_law_cell"] [2,0] eU.nd rfl rfl rfl (pB (aA gG)) (jP rfl (mX B) (ak (qw 6) au)) (fun _ _ _ _=>(cZ 0 (show (["_law_j", "_law_letters", "_law_cell"]:List Str).Nodup from by decide +kernel))) aQ (fun _ _ _ _=>eX) (fun _ _ _ _=>(gj (qw 1) (aR bA aX (aR bN bO (aR cL cg (qw 2) (aR bN bO (qw 0) aK)) (aR j9 jA (qw 0) (qw 0))) aK) (fun _ _=>rfl))))
  (az (EY (vP (gj (qw 2) (aR bA aX (aR bN bO (aR cL cg (qw 0) aK) (qw 5)) aK) (fun _ _=>rfl)) (sS (pv 8) (qw 7) set_list)))
  (aH (rY (pv 3) (Ny (n8 PySem.F.plainAttrs_str PySem.F.slot_str_join PySem.F.type_str_join Fb dj (ak (qw 8) au))))))))
  (aH (iI (pv 3)))))))))⟩
theorem ud (F:bw K mg "_law_expression" fV ["_law_cell", "_law_own", "_law_lists"]):aW P w K mg base "_law_expression" 1 ["_law_cell", "_law_own", "_law_lists"] (bF K 3 cj):=
 F.ok (k:=0) bI fun f cdv A outer s H E hr=>⟨_,fun _ _=>rfl,(az (cQ 3 bI.nd (dN (ak dj (ak (aR bA aX (aR j9 jA (qw 0) aK) (aR Rk PN aK aK)) au))))
  (az (cR (PW.pt (kj (bW nj kE (qL (dI B) (qw 1)) aK (bR _)) (jz (bW nj kE (aR bA aX (qw 0) aK) aK (bR _)))))
  (aH (cQ 3 bI.nd (dN (ak dj (ak (gj (qw 1) (aR bA aX (aR cL cg (qw 0) aK) (qL (dI B) (qw 1))) (fun _ _=>rfl)) au)))))
  bY)
  (az (fu PassesOwn.never rfl (jP rfl (mX B) (ak (gj (gh (ak aK (ak aK (ak aK (ak aK (ak aK (ak aK (ak aK (ak aK au))))))))) (aR bA aX (aR cL cg (qw 0) aK) aK) (fun _ _=>rfl)) au)) (cZ 4 bI.nd) aQ
  (az (cQ 5 bI.nd (aR bA aX (aR j9 jA (aR bA aX (aR j9 jA (qw 0) (aR bN bO (qw 4) aK)) aK) aK) aK))
  (az (cQ 6 bI.nd (dN (ak dj (ak (aR bA aX (qw 5) aK) au))))
  (az (cR (PW.pt (kj (bW nj kE (qL (dI B) (qw 1)) aK (bR _)) (jz (bW nj kE (aR bA aX (qw 5) aK) aK (bR _)))))
  (aH (cQ 6 bI.nd (dN (ak dj (ak (gj (qw 1) (aR bA aX (aR cL cg (qw 5) aK) (qL (dI B) (qw 1))) (fun _ _=>rfl)) au)))))
  bY)
  (az (cR (PW.pt (kj (bW nj kE (qL (dI B) (qw 2)) aK (bR _)) (jz (bW (eF hr) eG (aR bA aX (qw 5) aK) aK (bR _)))))
  (aH (cQ 6 bI.nd (dN (ak dj (ak (gj (qw 2) (aR bA aX (aR cL cg (qw 5) aK) (qL (dI B) (qw 2))) (fun _ _=>rfl)) (ak (qw 6) au))))))
  bY)
  (az (cQ 7 bI.nd (gj dj (aR bA aX (aR cL cg (qw 5) aK) aK) (fun _ _=>rfl)))
  (aH (cR (PW.pt (kj (bW nj kE (qL (dI B) (qw 2)) aK (bR _)) (jz (bW (eF hr) eG (aR bA aX (aR cL cg (qw 5) aK) aK) aK (bR _)))))
  (aH (cQ 3 bI.nd (dN (ak dj (ak (gj (qw 2) (aR bA aX (aR cL cg (qw 5) aK) (qL (dI B) (qw 2))) (fun _ _=>rfl)) (ak (qw 3) au))))))
  (aH (cR (bW (eF hr) eG (aR bA aX (aR cL cg (qw 5) aK) aK) aK (bR _))
  (aH (cQ 3 bI.nd (dN (ak (qw 7) (ak (qw 3) (ak (qw 6) au))))))
  (aH (cQ 3 bI.nd (dN (ak (qw 7) (ak (qw 6) (ak (qw 3) au))))))))))))))))
  (aH (iI (pv 3))))))⟩
theorem DR (F:bw K mg "_law_row" jn ["_law_cell", "_law_own", "_law_lists", "_law_heads_here", "_law_whos"]) (D__law_expression:tY P w K mg base):aW P w K mg base "_law_row" 2 ["_law_cell", "_law_own", "_law_lists", "_law_heads_here", "_law_whos"] (bF K 5 fP):=
 F.ok (k:=1) gY fun f cdv A outer s H E hr=>⟨_,fun _ _=>rfl,(az (cQ 5 gY.nd (bZ D__law_expression (hr.mono (by omega)) rfl (ak (aR bA aX (aR j9 jA (qw 0) aK) aK) (ak (qw 1) (ak (qw 2) au))) (aB (aB (aB bf)))))
  (az (cQ 6 gY.nd (bZ D__law_expression (hr.mono (by omega)) rfl (ak (aR bA aX (aR j9 jA (qw 0) aK) aK) (ak (qw 1) (ak (qw 2) au))) (aB (aB (aB bf)))))
  (az (cQ 7 gY.nd (aR bA aX (aR cL cg (qw 0) aK) aK))
  (az (cR (PW.pt (kj (bW (eF hr) eG (qw 7) aK (bR _)) (jz (bW nj kE (qL (dI B) (qw 2)) aK (bR _)))))
  (aH (cP (dN (ak dj (ak (gj (qw 2) (aR bA aX (aR cL cg (qw 0) aK) (qL (dI B) (qw 2))) (fun _ _=>rfl)) (ak (qw 5) (ak (qw 6) au)))))))
  bY)
  (az (cR (bW (eF hr) eG (qw 7) aK (bR _))
  (aH (cP (dN (ak dj (ak (qw 6) (ak (wA (gh au)) au))))))
  bY)
  (az (cR (PW.pt (Nr (bW (ph hr) mO (qw 7) (dN (ak aK (ak aK au))) (by with_unfolding_all rfl)) (IV (bW (eF hr) eG (qL (dI B) (qw 1)) aK (bR _)))))
  (aH (cP (dN (ak dj (ak (qw 5) (ak (wA (gh au)) (ak (wA (gh au)) au)))))))
  bY)
  (az (cQ 8 gY.nd (gj (qw 1) (aR bA aX (aR cL cg (qw 0) aK) (qL (dI B) (qw 1))) (fun _ _=>rfl)))
  (az (cR (PW.pt (kj (bW (eF hr) eG (qw 7) aK (bR _)) (jz (bW nj kE (qL (dI B) (qw 4)) aK (bR _)))))
  (aH (cP (dN (ak dj (ak (qw 8) (ak (qw 5) (ak (gj (qw 4) (aR bA aX (aR cL cg (qw 0) aK) (qL (dI B) (qw 4))) (fun _ _=>rfl)) au)))))))
  bY)
  (az (cR (PW.pt (kj (bW (ph hr) mO (qw 7) (dN (ak aK (ak aK au))) (by with_unfolding_all rfl)) (jz (bW nj kE (qL (dI B) (qw 3)) aK (bR _)))))
  (az (R6 (gj (qw 3) (aR bA aX (aR cL cg (qw 0) aK) (qL (dI B) (qw 3))) (fun _ _=>rfl)) (kI rfl (bT (cZ 9 gY.nd) (bT (cZ 10 gY.nd) jx))) (kJ (cF aQ (cF aQ km))))
  (az (uv (i:=11) ["_law_k"] ["_law_cell", "_law_own", "_law_lists"] [0,1,2] gY.nd rfl rfl rfl (pB (aA jn)) (jP rfl (mX B) (ak (qL (dI B) (qw 10)) au)) (fun _ _ _ _=>(cZ 0 (show (["_law_k", "_law_cell", "_law_own", "_law_lists"]:List Str).Nodup from by decide +kernel))) aQ (fun _ _ _ _=>eX) (fun _ _ _ _=>(bZ D__law_expression (hr.mono (by omega)) rfl (ak (aR bA aX (aR j9 jA (qw 1) aK) (aR Rj PK aK (qw 0))) (ak (qw 2) (ak (qw 3) au))) (aB (aB (aB bf))))))
  (aH (cP (dN (ak dj (ak (qw 8) (ak (qw 9) (ak (qw 11) au)))))))))
  bY)
  (aH (cP (dN (ak dj (ak (qw 8) (ak (qw 6) au)))))))))))))))⟩
theorem Cv (F:bw K mg "_law_rows" iT ["_law_cells", "_law_own", "_law_lists", "_law_heads_here", "_law_whos"]) (D__law_row:DG P w K mg base):aW P w K mg base "_law_rows" 3 ["_law_cells", "_law_own", "_law_lists", "_law_heads_here", "_law_whos"] (bF K 5 kW):=
 F.ok (k:=2) jR fun f cdv A outer s H E hr=>⟨_,fun _ _=>rfl,(az (cQ 5 jR.nd (Jf (gh au)))
  (az (cQ 6 jR.nd (Jf (gh (ak (wA (gh (ak (qw 5) au))) au))))
  (az (fu PassesOwn.never rfl (dG (qw 0)) (cZ 7 jR.nd) aQ
  (aH (cR (PW.pt (kj (bW (eF hr) eG (aR bA aX (qw 7) aK) aK (bR _)) (jz (bW nj kE (LC (gM oR (by rfl) (dI B) PySem.boot_len (ak (qw 6) au))) aK (bR _)))))
  (az (xO (SX (n8 PySem.F.plainAttrs_list PySem.F.slot_list_pop PySem.F.type_list_pop KR (gj (qw 6) (xU aK) (fun _ _=>rfl)) (ak aK au))))
  (aH (cR (bW (eF hr) eG (LC (gM oR (by rfl) (dI B) PySem.boot_len (ak (gj (qw 6) (xU aK) (fun _ _=>rfl)) au))) aK (bR _))
  (aH (xO (Uz (RG PySem.F.plainAttrs_list PySem.F.slot_list_pop PySem.F.type_list_pop RK (qw 6)))))
  bY)))
  (az (cQ 8 jR.nd (bZ D__law_row (hr.mono (by omega)) rfl (ak (qw 7) (ak (qw 1) (ak (qw 2) (ak (qw 3) (ak (qw 4) au))))) (aB (aB (aB (aB (aB bf)))))))
  (az (uA (mK (n8 PySem.F.plainAttrs_list PySem.F.slot_list_append PySem.F.type_list_append lF (qI (gj (qw 6) (xU aK) (fun _ _=>rfl))) (ak (qw 8) au))))
  (aH (cR (PW.pt (kj (bW (ph hr) mO (qI (qw 8)) (dN (ak dj (ak dj au))) (by with_unfolding_all rfl)) (jz (bW M8 Jd (LC (gM oR (by rfl) (dI B) PySem.boot_len (ak (qw 6) au))) aK (bR _)))))
  (aH (uA (mK (n8 PySem.F.plainAttrs_list PySem.F.slot_list_append PySem.F.type_list_append lF (qw 6) (ak (wA (lU ["_law_inner"] [] [] rfl (pB (aA iT)) (dG (qN (qw 8) (dZ aK) jX)) (fun _ _ _ _=>(cZ 0 (show (["_law_inner"]:List Str).Nodup from by decide +kernel))) aQ (fun _ _ _ _=>eX) (fun _ _ _ _=>(qw 0)))) au)))))
  bY)))))))
  (aH (cP (S5 (qw 5)))))))⟩
theorem zN (F:bw K mg "_law_heads" jd ["_law_cell", "_law_names_here"]):aW P w K mg base "_law_heads" 1 ["_law_cell", "_law_names_here"] (bF K 2 mq):=
 F.ok (k:=0) lr fun f cdv A outer s H E hr=>⟨_,fun _ _=>rfl,(az (cQ 2 lr.nd (gh au))
  (az (fu PassesOwn.never rfl (jP rfl (mX B) (ak (aR bA aX (aR cL cg (qw 0) aK) aK) au)) (cZ 3 lr.nd) aQ
  (az (cQ 4 lr.nd (aR bA aX (aR cL cg (qw 0) (gj (gh (ak aK (ak aK (ak aK (ak aK au))))) (qw 3) (fun _ _=>rfl))) aK))
  (aH (rY (pv 2) (dN (ak (gj (qw 1) (aR bN bO aK (qw 3)) (fun _ _=>rfl)) (ak (oK (qw 1) (dZ (aR bN bO aK (aR j9 jA aK (qw 3)))) (dZ (aR bN bO (aR bN bO aK (aR j9 jA aK (qw 3))) (qw 4)))) au)))))))
  (aH (iI (pv 2)))))⟩
theorem wU (F:bw K mg "_law_program" dB ["_law_script"]) (D__law_cell_at:pU P w K mg base) (D__law_heads:zH P w K mg base) (D__law_names:zG P w K mg base) (D__law_rows:Cq P w K mg base):aW P w K mg base "_law_program" 4 ["_law_script"] (bF K 1 jf):=
 F.ok (k:=3) bB fun f cdv A outer s H E hr=>⟨_,fun _ _=>rfl,(az (v6 (i:=1) bB.nd rfl (Or.inr rfl) (bZ D__law_cell_at (hr.mono (by omega)) rfl (ak (qw 0) (ak aK au)) (aB (aB bf))))
  (az (cQ 2 bB.nd (bZ D__law_names (hr.mono (by omega)) rfl (ak (bZ D__law_cell_at (hr.mono (by omega)) rfl (ak (qw 0) (ak aK au)) (aB (aB bf))) (ak aK au)) (aB (aB bf))))
  (az (v6 (i:=3) bB.nd rfl (Or.inr rfl) (gh (ak NK (ak dj (ak dj au)))))
  (az (cQ 4 bB.nd (oK (qw 2) jX (dZ (aR bA aX (qw 1) aK))))
  (az (cQ 5 bB.nd (oK (qw 2) (dZ aK) (dZ (aR bN bO aK (aR bA aX (aR cL cg (qw 1) aK) aK)))))
  (az (cQ 6 bB.nd (bZ D__law_heads (hr.mono (by omega)) rfl (ak (qw 1) (ak (qw 2) au)) (aB (aB bf))))
  (az (uv (i:=7) ["_law_k", "_law_name"] ["_law_ranks", "_law_cell"] [3,1] bB.nd rfl rfl rfl (pB (aA dB)) (uz rfl (nG B) (ak (qw 4) au)) (fun _ _ _ _=>(kI rfl (bT (cZ 0 (show (["_law_k", "_law_name", "_law_ranks", "_law_cell"]:List Str).Nodup from by decide +kernel)) (bT (cZ 1 (show (["_law_k", "_law_name", "_law_ranks", "_law_cell"]:List Str).Nodup from by decide +kernel)) jx)))) (kJ (cF aQ (cF aQ km))) (fun _ _ _ _=>eX) (fun _ _ _ _=>(dN (ak (qw 1) (ak aK (ak (gj (qw 2) (aR bA aX (aR bN bO (aR cL cg (qw 3) aK) (qw 0)) aK) (fun _ _=>rfl)) au))))))
  (az (cQ 7 bB.nd (aR bN bO (qw 7) (lU ["_law_name"] ["_law_cell", "_law_ranks"] [1,3] rfl (pB (aA dB)) (dG (qw 5)) (fun _ _ _ _=>(cZ 0 (show (["_law_name", "_law_cell", "_law_ranks"]:List Str).Nodup from by decide +kernel))) aQ (fun _ _ _ _=>eX) (fun _ _ _ _=>(dN (ak (qw 0) (ak (aR bN bO aK (aR bA aX (aR cL cg (qw 1) aK) aK)) (ak (gj (qw 2) (aR bA aX (aR cL cg (qw 1) aK) aK) (fun _ _=>rfl)) au))))))))
  (az (uv (i:=8) ["_law_number"] [] [] bB.nd rfl rfl rfl (pB (aA dB)) (dG (oK (qw 0) (dZ aK) (dZ aK))) (fun _ _ _ _=>(cZ 0 (show (["_law_number"]:List Str).Nodup from by decide +kernel))) aQ (fun _ _ _ _=>eX) (fun _ _ _ _=>(aR bA aX (qw 0) aK)))
  (az (cQ 9 bB.nd (gh (ak dj au)))
  (az (cQ 10 bB.nd (gh au))
  (az (fu PassesOwn.never rfl (uz rfl (nG B) (ak (qw 6) au)) (kI rfl (bT (cZ 11 bB.nd) (bT (cZ 12 bB.nd) jx))) (kJ (cF aQ (cF aQ km)))
  (az (cQ 13 bB.nd (bZ D__law_rows (hr.mono (by omega)) rfl (ak (Fj (qw 8) (dZ (qw 11)) jX (dZ (aR bN bO (qL (dI B) (qw 6)) aK))) (ak (aR bN bO (aR bN bO (qw 4) (gh (ak (qI (qw 12)) au))) (qI (qw 12))) (ak (qw 5) (ak (qw 6) (ak (qw 9) au))))) (aB (aB (aB (aB (aB bf)))))))
  (aH (rY (pv 10) (dN (ak (qI (qw 12)) (ak (gj (qw 3) (aR bA aX (aR bN bO (qw 1) (qw 11)) aK) (fun _ _=>rfl)) (ak (lU ["_law_name"] [] [] rfl (pB (aA dB)) (dG (qI (qw 12))) (fun _ _ _ _=>(cZ 0 (show (["_law_name"]:List Str).Nodup from by decide +kernel))) aQ (fun _ _ _ _=>eX) (fun _ _ _ _=>(dN (ak (qw 0) (ak NK au))))) (ak (qw 13) au)))))))))
  (az (cQ 13 bB.nd (bZ D__law_rows (hr.mono (by omega)) rfl (ak (Fj (qw 8) (dZ (qL (dI B) (qw 6))) jX (dZ (aR bN bO (qL (dI B) (qw 6)) aK))) (ak (qw 4) (ak (qw 5) (ak (qw 6) (ak (qw 9) au))))) (aB (aB (aB (aB (aB bf)))))))
  (aH (cP (dN (ak (qw 7) (ak (gh (ak (dN (ak dj (ak dj (ak dj au)))) au)) (ak (qw 10) (ak (qw 13) au))))))))))))))))))))⟩
theorem yf {n:Nat} (F:bw K mg "_law_spends" fY ["_law_row_here"]) (D__law_spends:aW P w K mg base "_law_spends" (0+n) ["_law_row_here"] (bF K 1 (gf n))):aW P w K mg base "_law_spends" (0+n+1) ["_law_row_here"] (bF K 1 (gf (n+1))):=
 F.ok (k:=0+n) xZ fun f cdv A outer s H E hr=>⟨_,fun _ _=>rfl,(az (cR (bW (ph hr) mO (qI (qw 0)) (dN (ak dj (ak dj au))) (by with_unfolding_all rfl))
  (aH (cP (qc zP ju)))
  bY)
  (az (cR (bW (Bx hr) By (qI (qw 0)) dj (bR _))
  (aH (cP (qc zP ju)))
  bY)
  (aH (cP (qD (jQ rfl) ww (gM (jQ rfl) (by rfl) (Ad B) (by kernel_rfl) (ak (lU ["_law_inner"] [] [] rfl (pB (aA fY)) (dG (aR bN bO (qI (qw 0)) (qI (qw 0)))) (fun _ _ _ _=>(cZ 0 (show (["_law_inner"]:List Str).Nodup from by decide +kernel))) aQ (fun _ _ _ _=>eX) (fun _ _ _ _=>(bZ D__law_spends (hr.mono (by omega)) rfl (ak (qw 0) au) (aB bf)))) au)))))))⟩
theorem pW (F__law_spends:bw K mg "_law_spends" fY ["_law_row_here"]):∀ n:Nat,aW P w K mg base "_law_spends" (0+n) ["_law_row_here"] (bF K 1 (gf n))
 | 0=>jY F__law_spends
 | n+1=>by
  have ih:=pW F__law_spends n
  exact yf B T_Plan N_Plan hkx F__law_spends ih
theorem Cw {n:Nat} (F:bw K mg "_law_size" gU ["_law_rows_here"]) (D__law_size:aW P w K mg base "_law_size" (0+n) ["_law_rows_here"] (bF K 1 (cT n))):aW P w K mg base "_law_size" (0+n+1) ["_law_rows_here"] (bF K 1 (cT (n+1))):=
 F.ok (k:=0+n) lZ fun f cdv A outer s H E hr=>⟨_,fun _ _=>rfl,(az (cQ 1 lZ.nd (qL (dI B) (qw 0)))
  (az (fu PassesOwn.never rfl (dG (qw 0)) (cZ 2 lZ.nd) aQ
  (aH (cR (bW (ph hr) mO (qI (qw 2)) (dN (ak dj (ak dj au))) (by with_unfolding_all rfl))
  (aH (cQ 1 lZ.nd (aR bN bO (qw 1) (qD (Bf rfl) SQ (gM (Bf rfl) (by rfl) (UV B) (by kernel_rfl) (ak (lU ["_law_block"] [] [] rfl (pB (aA gU)) (dG (qN (qw 2) (dZ aK) jX)) (fun _ _ _ _=>(cZ 0 (show (["_law_block"]:List Str).Nodup from by decide +kernel))) aQ (fun _ _ _ _=>eX) (fun _ _ _ _=>(bZ D__law_size (hr.mono (by omega)) rfl (ak (qw 0) au) (aB bf)))) au))))))
  bY)))
  (aH (iI (pv 1)))))⟩
theorem sI (F__law_size:bw K mg "_law_size" gU ["_law_rows_here"]):∀ n:Nat,aW P w K mg base "_law_size" (0+n) ["_law_rows_here"] (bF K 1 (cT n))
 | 0=>jY F__law_size
 | n+1=>by
  have ih:=sI F__law_size n
  exact Cw B T_Plan N_Plan hkx F__law_size ih
theorem yg {n:Nat} (F:bw K mg "_law_behind" fZ ["_law_row_here", "_law_k"]) (D__law_behind:aW P w K mg base "_law_behind" (40+n) ["_law_row_here", "_law_k"] (bF K 2 (cM n))) (D__law_size:tZ P w K mg base) (D__law_spends:qP P w K mg base):aW P w K mg base "_law_behind" (40+n+1) ["_law_row_here", "_law_k"] (bF K 2 (cM (n+1))):=
 F.ok (k:=40+n) ie fun f cdv A outer s H E hr=>⟨_,fun _ _=>rfl,(az (cQ 2 ie.nd (gh (ak (aR bN bO dj (PE.imp (nJ Al (by rfl) (UT B) (by kernel_rfl) (ak (qw 1) au)) (wu Sw))) au)))
  (az (cR (bW (eF hr) eG (qI (qw 0)) dj (bR _))
  (aH (rY (pv 2) (aR bN bO dj (qI (qw 0)))))
  bY)
  (az (cR (bW (eF hr) eG (qI (qw 0)) dj (bR _))
  (az (cQ 3 ie.nd (aR bN bO (qw 1) aK))
  (aH (fu PassesOwn.never rfl (dG (qN (qw 0) (dZ aK) jX)) (cZ 4 ie.nd) aQ
  (az (cR (Bm (qD (jQ rfl) ww (gM (jQ rfl) (by rfl) (Ad B) (by kernel_rfl) (ak (lU ["_law_inner"] [] [] rfl (pB (aA fZ)) (dG (qw 4)) (fun _ _ _ _=>(cZ 0 (show (["_law_inner"]:List Str).Nodup from by decide +kernel))) aQ (fun _ _ _ _=>eX) (fun _ _ _ _=>(bZ D__law_spends (hr.mono (by omega)) rfl (ak (qw 0) au) (aB bf)))) au))) (fun _=>rfl))
  (aH (cQ 2 ie.nd (aR bN bO (qw 2) (bZ D__law_behind (hr.mono (by omega)) rfl (ak (gj (qw 4) (xU aK) (fun _ _=>rfl)) (ak (aR bN bO (qw 3) (bZ D__law_size (hr.mono (by omega)) rfl (ak (oK (qw 4) jX (dZ (xU aK))) au) (aB bf))) au)) (aB (aB bf))))))
  bY)
  (aH (cQ 3 ie.nd (aR bN bO (qw 3) (bZ D__law_size (hr.mono (by omega)) rfl (ak (qw 4) au) (aB bf)))))))))
  bY)
  (aH (iI (pv 2))))))⟩
theorem pX (F__law_behind:bw K mg "_law_behind" fZ ["_law_row_here", "_law_k"]) (D__law_size:tZ P w K mg base) (D__law_spends:qP P w K mg base):∀ n:Nat,aW P w K mg base "_law_behind" (40+n) ["_law_row_here", "_law_k"] (bF K 2 (cM n))
 | 0=>jY F__law_behind
 | n+1=>by
  have ih:=pX F__law_behind D__law_size D__law_spends n
  exact yg B T_Plan N_Plan hkx F__law_behind ih D__law_size D__law_spends
theorem DW {n:Nat} (F:bw K mg "_law_all" jo ["_law_rows_here", "_law_first", "_law_told"]) (D__law_all:aW P w K mg base "_law_all" (0+n) ["_law_rows_here", "_law_first", "_law_told"] (bF K 3 (dH n))):aW P w K mg base "_law_all" (0+n+1) ["_law_rows_here", "_law_first", "_law_told"] (bF K 3 (dH (n+1))):=
 F.ok (k:=0+n) jE fun f cdv A outer s H E hr=>⟨_,fun _ _=>rfl,(az (cQ 3 jE.nd (qw 1))
  (az (fu PassesOwn.never rfl (dG (qw 0)) (cZ 4 jE.nd) aQ
  (az (uA (mK (n8 PySem.F.plainAttrs_list PySem.F.slot_list_append PySem.F.type_list_append lF (qw 2) (ak (dN (ak (qw 3) (ak (qw 4) au))) au))))
  (az (cQ 3 jE.nd (aR bN bO (qw 3) aK))
  (aH (cR (bW (ph hr) mO (qI (qw 4)) (dN (ak dj (ak dj au))) (by with_unfolding_all rfl))
  (aH (fu PassesOwn.never rfl (dG (qN (qw 4) (dZ aK) jX)) (cZ 5 jE.nd) aQ
  (aH (cQ 3 jE.nd (bZ D__law_all (hr.mono (by omega)) rfl (ak (qw 5) (ak (qw 3) (ak (qw 2) au))) (aB (aB (aB bf))))))))
  bY)))))
  (aH (iI (pv 3)))))⟩
theorem ue (F__law_all:bw K mg "_law_all" jo ["_law_rows_here", "_law_first", "_law_told"]):∀ n:Nat,aW P w K mg base "_law_all" (0+n) ["_law_rows_here", "_law_first", "_law_told"] (bF K 3 (dH n))
 | 0=>jY F__law_all
 | n+1=>by
  have ih:=ue F__law_all n
  exact DW B T_Plan N_Plan hkx F__law_all ih
theorem Th {f:Addr} {fd:FuncData} (F:pK K "law" "law" nD f fd) (D__law_all:DK P w K mg base) (D__law_behind:yd P w K mg base) (D__law_cell_at:pU P w K mg base) (D__law_program:wO P w K mg base) (D_behind:Jy P w K mg base):iC P w K mg base mG 85 f fd ["_law_script"] (bF K 1 Hj):=
 pK.okP (k:=84) F je fun cdv A outer s H E hr=>⟨_,fun _ _=>rfl,(az (cQ 1 je.nd (bZ D__law_program (hr.mono (by omega)) rfl (ak (qw 0) au) (aB bf)))
  (az (cQ 2 je.nd (gh au))
  (az (cQ 3 je.nd aK)
  (az (fu PassesOwn.never rfl (dG (qI (qw 1))) (kI rfl (bT (cZ 4 je.nd) (bT (cZ 5 je.nd) (bT (cZ 6 je.nd) (bT (cZ 7 je.nd) jx))))) (kJ (cF aQ (cF aQ (cF aQ (cF aQ km)))))
  (aH (Ff (i:=2) (Fo (i:=2) (cQ 3 je.nd (bZ D__law_all (hr.mono (by omega)) rfl (ak (qw 7) (ak (qw 3) (ak (qw 2) au))) (aB (aB (aB bf)))))))))
  (az (Ff (i:=2) (Fo (i:=2) (xO (bZ D__law_all (hr.mono (by omega)) rfl (ak (qI (qw 1)) (ak (qw 3) (ak (qw 2) au))) (aB (aB (aB bf)))))))
  (az (fu PassesOwn.never rfl (dG (qw 2)) (kI rfl (bT (cZ 3 je.nd) (bT (cZ 8 je.nd) jx))) (kJ (cF aQ (cF aQ km)))
  (az (cQ 9 je.nd (yW (gM (pN rfl) (by rfl) (Cp B) (by kernel_rfl) (qy (nJ (Be rfl) (by rfl) (NP B) (by kernel_rfl) (ak (bZ D__law_behind (hr.mono (by omega)) rfl (ak (qw 8) (ak (qw 3) au)) (aB (aB bf))) au)) vU))))
  (az (cQ 10 je.nd (bZ D_behind (hr.mono (by omega)) rfl (ak (qw 1) (ak (qw 3) au)) (aB (aB bf))))
  (az (cR (Sv (PW.pt (Nr (R4 (Bm (V8 (gM Dv (by rfl) (Ck B) (by kernel_rfl) (qy (qw 10) (qy (Oj (v:=.ty "list") (u:=.type "list") rfl (Cm B) (by kernel_rfl) rfl) vU)))) (fun _=>rfl))) (IV (bW (Bx hr) By (qw 10) (qw 9) (bR _))))))
  (aH (cP (qc zP ju)))
  bY)
  (az (rY (pv 10) dj)
  (az (EY (vP dj (sS (pv 10) aK set_list)))
  (aH (cR (PW.pt (kj (bW (eF hr) eG (aR bA aX (bZ D__law_cell_at (hr.mono (by omega)) rfl (ak (qw 0) (ak aK au)) (aB (aB bf))) aK) aK (bR _)) (jz (bW (Bx hr) By (bZ D_behind (hr.mono (by omega)) rfl (ak (qw 1) (ak (qw 3) au)) (aB (aB bf))) (qw 9) (bR _)))))
  (aH (cP (qc zP ju)))
  bY))))))))
  (aH (cP (R0 (eF hr) eG (qw 1) (bZ D__law_program (hr.mono (by omega)) rfl (ak (qw 0) au) (aB bf)) (bR _))))))))))⟩
end
local macro_rules | `(tactic| walk_at "op")=>`(tactic| first | exact rfl | exact modP_go rfl rfl (by omega) | exact fdivP_go rfl rfl (by omega) (by omega) | exact mulP_gor rfl rfl (by omega) (by omega) | exact mulP_gol rfl rfl (by omega) (by omega) | assumption)
local macro_rules | `(tactic| walk_at "ev")=>`(tactic| first
 | ((with_reducible refine' gk ?h1 ?h2 ?h3 ?h4 ?h5); (case h1=>walk_at "ev"); (case h2=>exact rfl); (case h3=>walk_at "ev"); (case h4=>exact rfl); (case h5=>walk_at "op"))
 | ((with_reducible refine' aJ ?h1 ?h2); (case h1=>walk_at "ev"); (case h2=>walk_at "ev"))
 | ((with_reducible refine' bu ?h1 ?h2 ?h3); (case h1=>walk_at "ev"); (case h2=>exact rfl); (case h3=>exact rfl))
 | ((with_reducible refine' gn ?h1); (case h1=>walk_at "ev"))
 | ((with_reducible refine' aC ?h1 ?h2); (case h1=>walk_at "ev"); (case h2=>walk_at "ev"))
 | ((with_reducible refine' aV ?h1 ?h2 ?h3 ?h4 ?h5); (case h1=>walk_at "ev"); (case h2=>exact rfl); (case h3=>exact rfl); (case h4=>exact rfl); (case h5=>walk_at "call"))
 | ((with_reducible refine' j8 ?h1 ?h2 ?h3); (case h1=>walk_at "ev"); (case h2=>exact rfl); (case h3=>walk_at "op"))
 | ((with_reducible refine' tT_go ?h1 ?h2 ?h3); (case h1=>walk_at "ev"); (case h2=>exact rfl); (case h3=>exact rfl))
 | ((with_reducible refine' Ji ?h1); (case h1=>walk_at "ev"))
 | ((with_reducible refine' kO ?h1 ?h2); (case h1=>walk_at "ev"); (case h2=>walk_at "ev"))
 | ((with_reducible refine' Hf ?h1 ?h2); (case h1=>walk_at "ev"); (case h2=>walk_at "ev"))
 | ((with_reducible refine' BW ?h1); (case h1=>walk_at "ev"))
 | ((with_reducible refine' eread_go ?h1 ?h2); (case h1=>walk_at "ev"); (case h2=>exact rfl))
 | ((with_reducible refine' wz ?h1 ?h2 ?h3); (case h1=>walk_at "ev"); (case h2=>exact rfl); (case h3=>exact rfl))
 | ((with_reducible refine' fB ?h1 ?h2 ?h3); (case h1=>walk_at "ev"); (case h2=>exact rfl); (case h3=>exact rfl))
 | ((with_reducible refine' newc_go ?h1 ?h2 ?h3 ?h4); (case h1=>walk_at "ev"); (case h2=>exact rfl); (case h3=>exact rfl); (case h4=>exact rfl))
 | ((with_reducible refine' Nz ?h1 ?h2 ?h3); (case h1=>walk_at "ev"); (case h2=>exact rfl); (case h3=>exact rfl))
 | ((with_reducible refine' Jk ?h1 ?h2 ?h3); (case h1=>walk_at "ev"); (case h2=>exact rfl); (case h3=>exact rfl))
 | exact rfl
 | assumption)
local macro_rules | `(tactic| walk_at "call")=>`(tactic| first | assumption | exact rfl)
mutual
noncomputable def jw:PV->Nat
 | .tup ps=>nU ps+1
 | _=>1
noncomputable def nU:List PV->Nat
 | []=>0
 | p::ps=>max (jw p) (nU ps)
end
noncomputable def fl (p:PV):Prop:=bD p=true/\jw p<=20
noncomputable def qR (ps:List PV):Prop:=fM ps=true/\nU ps<=20
theorem gO {p:PV} {ps:List PV} (h:fl p) (t:qR ps):qR (p::ps):=by
 obtain ⟨h1,h2⟩:=h
 obtain ⟨t1,t2⟩:=t
 refine ⟨?_,?_⟩
 . show (bD p&&fM ps)=true
   rw [h1,t1]; rfl
 . show max (jw p) (nU ps)<=20
   omega
theorem oM:qR []:=⟨rfl,Nat.zero_le _⟩
theorem gH {x:Str}:fl (.str x):=⟨rfl,by show 1<=20; decide⟩
theorem Cy:fl .non:=⟨rfl,by show 1<=20; decide⟩
noncomputable abbrev zI (x:Int):Option Lc:=some (.sh (.int x))
noncomputable abbrev zT (x:Str):Option Lc:=some (.sh (.str x))
noncomputable abbrev zL (x:List PV):Option Lc:=some (.sh (.lst x))
noncomputable abbrev zO (x:List PV):Option Lc:=some (.own (.lst x))
noncomputable abbrev zS (x:PV):Option Lc:=some (.sh x)
mutual
inductive Row where
 | leaf (w:Str) (ps:List PV)
 | call (b:PV) (n:Str) (as:List PV)
 | wh (e:PV) (b:Rows)
 | iff (e:PV) (b c:Rows)
inductive Rows where
 | nil
 | cons (r:Row) (rs:Rows)
end
mutual
noncomputable def Row.pv:Row->PV
 | .leaf w ps=>.tup (.str w::ps)
 | .call b n as=>.tup [.str "call",b,.str n,.lst as]
 | .wh e b=>.tup [.str "while",e,.lst b.pvs]
 | .iff e b c=>.tup [.str "if",e,.lst b.pvs,.lst c.pvs]
noncomputable def Rows.pvs:Rows->List PV
 | .nil=>[]
 | .cons r rs=>r.pv::rs.pvs
end
mutual
noncomputable def Row.dep:Row->Nat
 | .leaf _ _=>1
 | .call _ _ _=>1
 | .wh _ b=>b.dep+1
 | .iff _ b c=>max b.dep c.dep+1
noncomputable def Rows.dep:Rows->Nat
 | .nil=>1
 | .cons r rs=>max (r.dep+1) rs.dep
end
theorem Rows.dep_pos:∀ b:Rows,1<=b.dep
 | .nil=>Nat.le_refl _
 | .cons r rs=>Nat.le_trans (Rows.dep_pos rs) (Nat.le_max_right _ _)
noncomputable def Plain (w:Str):Prop:=(w == "if")=false/\(w == "while")=false/\(w == "call")=false
mutual
noncomputable def Row.ok:Row->Prop
 | .leaf w ps=>Plain w/\qR ps
 | .call b n as=>fl b/\n.length<=1000/\qR as/\as.length<=50
 | .wh e b=>fl e/\b.ok
 | .iff e b c=>fl e/\b.ok/\c.ok
noncomputable def Rows.ok:Rows->Prop
 | .nil=>True
 | .cons r rs=>r.ok/\rs.ok
end
mutual
noncomputable def Row.cnt:Row->Nat
 | .leaf _ _=>1
 | .call _ _ _=>1
 | .wh _ b=>b.cnt+1
 | .iff _ b c=>b.cnt+c.cnt+1
noncomputable def Rows.cnt:Rows->Nat
 | .nil=>0
 | .cons r rs=>r.cnt+rs.cnt
end
theorem Row.cnt_pos:∀ r:Row,1<=r.cnt:=fun r=>by cases r<;>simp [Row.cnt]
theorem Rows.pvs_len:∀ rs:Rows,rs.pvs.length<=rs.cnt
 | .nil=>Nat.le_refl _
 | .cons r rs=>by
  have:=Rows.pvs_len rs
  have h:=r.cnt_pos
  simp only [Rows.pvs,List.length_cons,Rows.cnt]
  omega
theorem dw {f:EF} {a b:Str} {ρ ρ1:Ev} (h:f ρ=some (.sh (.str a),ρ1)):tT (aq eqP f (eC (.str b))) aU ρ=some (a==b,ρ1):=gR (l:=.sh (.bl (a==b))) (aP h rfl rfl) rfl
theorem cA {c:TF} {f g:SF} {ρ ρ1:Ev} {b:Bool} (h:c ρ=some (b,ρ1)) (hb:b=false):aG (cJ c f b8) g ρ=g ρ1:=by subst hb; exact xV ((jj h).trans rfl)
theorem jg {c:TF} {f g:SF} {ρ ρ1 ρ2:Ev} {b:Bool} {r:Lc} (h:c ρ=some (b,ρ1)) (hb:b=true) (h2:f ρ1=some (.rt r ρ2)):aG (cJ c f b8) g ρ=some (.rt r ρ2):=by subst hb; exact xW ((jZ h).trans h2)
theorem pY {c:TF} {f g:SF} {ρ ρ1 ρ2:Ev} {b:Bool} (h:c ρ=some (b,ρ1)) (hb:b=true) (h2:f ρ1=some (.nx ρ2)):aG (cJ c f b8) g ρ=g ρ2:=by subst hb; exact xV ((jZ h).trans h2)
theorem at0 {p:PV} {t:List PV}:fW (p::t) 0=some p:=by
 obtain ⟨x,h,h2⟩:=rQ (l:=p::t) (i:=0) (by decide) (by simp only [List.length_cons]; omega)
 rw [h,← h2]; rfl
noncomputable abbrev E1 (p:PV) (mu:Mu):Ev:=⟨[zS p],mu⟩
theorem w0 {w:Str} {ps:List PV} {mu:Mu}:aM (aa 0) (eC (.int 0)) (E1 (.tup (.str w::ps)) mu)=some (.sh (.str w),E1 (.tup (.str w::ps)) mu):=
 d9 (p:=.tup (.str w::ps)) (q:=.int 0) (l:=.sh (.tup (.str w::ps))) (m:=.sh (.int 0)) rfl rfl rfl rfl (fun n h=>by cases h) (by show (fW (PV.str w::ps) 0).map _=_; rw [at0]; rfl)
theorem eV {b:BF} {te:EF} {x:PV} {xs:List PV} {ρ ρ1 ρ2:Ev} {acc:List PV} {l:Lc} {R:Option (List PV×Mu)} (h1:b x ρ=some ρ1) (h2:te ρ1=some (l,ρ2)) (hz:acc.length<100000) (h3:cI b bH te xs ρ2 (acc++[l.pv])=R):cI b bH te (x::xs) ρ acc=R:=by
 show (b x ρ).bind _=R
 rw [h1,Option.bind_some]
 show (te ρ1).bind _=R
 rw [h2,Option.bind_some,if_pos hz]
 exact h3
noncomputable abbrev Vg (n:Nat):EF:=aN (jq n) (aj (aa 0) ao)
theorem Cz {rs:Rows} {n:Nat} {mu:Mu} (h:cI (aD 0) bH (Vg n) rs.pvs ⟨[none],mu⟩ []=some ([]++rs.pvs,mu)):dO (n+1) [.lst rs.pvs] mu=some (.own (.lst rs.pvs),mu):=
 bj (ρ:=⟨[zL rs.pvs],mu⟩) (gn (eY (m:=1) (ixs:=[]) (ρ1:=E1 (.lst rs.pvs) mu) (xs:=rs.pvs) (di (l:=.sh (.lst rs.pvs)) rfl rfl) h))
mutual
theorem zf:∀ (r:Row) (f:Nat) (mu:Mu),r.ok->r.dep<=f->r.cnt<=1000->jq f [r.pv] mu=some (.sh r.pv,mu)
 | .leaf w ps,f,mu,ok,hd,hc=>by
  obtain ⟨m,rfl⟩:∃ m,f=m+1:=⟨f-1,by simp only [Row.dep] at hd; omega⟩
  obtain ⟨⟨h1,h2,h3⟩,_⟩:=ok
  refine bj (ρ:=⟨[none],mu⟩) ?_
  exact (cA (dw w0) h1).trans ((cA (dw w0) h2).trans ((cA (dw w0) h3).trans rfl))
 | .call b n as,f,mu,ok,hd,hc=>by
  obtain ⟨m,rfl⟩:∃ m,f=m+1:=⟨f-1,by simp only [Row.dep] at hd; omega⟩
  refine bj (ρ:=E1 (Row.call b n as).pv mu) ?_
  refine (cA (dw w0) (by decide +kernel)).trans ((cA (dw w0) (by decide +kernel)).trans (jg (dw w0) (by decide +kernel) (gn (fB (ls:=[.sh (.str "call"),.sh b,.sh (.str n),.own (.lst as)]) ?_ rfl rfl))))
  exact aC (ρ1:=E1 (Row.call b n as).pv mu) rfl (aC (ρ1:=E1 (Row.call b n as).pv mu) rfl (aC (ρ1:=E1 (Row.call b n as).pv mu) rfl (aC (ρ1:=E1 (Row.call b n as).pv mu) (j8 (ls:=[.sh (.lst as)]) (ρ1:=E1 (Row.call b n as).pv mu) (aC (ρ1:=E1 (Row.call b n as).pv mu) rfl rfl) rfl rfl) rfl)))
 | .wh e b,f,mu,ok,hd,hc=>by
  simp only [Row.dep] at hd
  simp only [Row.cnt] at hc
  obtain ⟨m,rfl⟩:∃ m,f=m+1:=⟨f-1,by omega⟩
  have hb:1<=b.dep:=Rows.dep_pos b
  obtain ⟨m,rfl⟩:∃ k,m=k+1:=⟨m-1,by omega⟩
  have ih:=Cz (pZ b m mu none [] ok.2 (by omega) (by simp only [List.length_nil]; omega))
  let P:=(Row.wh e b).pv
  have s1:aN (dO (m+1)) (aj (aM (aa 0) (eC (.int 2))) ao) (E1 P mu)=some (.own (.lst b.pvs),E1 P mu):=
   aV (ls:=[.sh (.lst b.pvs)]) (ps:=[.lst b.pvs]) (ρ1:=E1 P mu) rfl rfl rfl rfl ih
  refine bj (ρ:=E1 P mu) ?_
  exact (cA (dw w0) (by decide +kernel)).trans (jg (dw w0) (by decide +kernel) (gn (fB (ls:=[.sh (.str "while"),.sh e,.own (.lst b.pvs)]) (ρ1:=E1 P mu) (aC (ρ1:=E1 P mu) rfl (aC (ρ1:=E1 P mu) rfl (aC s1 rfl))) rfl rfl)))
 | .iff e b c,f,mu,ok,hd,hc=>by
  simp only [Row.dep] at hd
  simp only [Row.cnt] at hc
  obtain ⟨m,rfl⟩:∃ m,f=m+1:=⟨f-1,by omega⟩
  have hb:1<=b.dep:=Rows.dep_pos b
  obtain ⟨m,rfl⟩:∃ k,m=k+1:=⟨m-1,by omega⟩
  have ih:=Cz (pZ b m mu none [] ok.2.1 (by omega) (by simp only [List.length_nil]; omega))
  have ih2:=Cz (pZ c m mu none [] ok.2.2 (by omega) (by simp only [List.length_nil]; omega))
  let P:=(Row.iff e b c).pv
  have s1:aN (dO (m+1)) (aj (aM (aa 0) (eC (.int 2))) ao) (E1 P mu)=some (.own (.lst b.pvs),E1 P mu):=
   aV (ls:=[.sh (.lst b.pvs)]) (ps:=[.lst b.pvs]) (ρ1:=E1 P mu) rfl rfl rfl rfl ih
  have s2:aN (dO (m+1)) (aj (aM (aa 0) (eC (.int 3))) ao) (E1 P mu)=some (.own (.lst c.pvs),E1 P mu):=
   aV (ls:=[.sh (.lst c.pvs)]) (ps:=[.lst c.pvs]) (ρ1:=E1 P mu) rfl rfl rfl rfl ih2
  refine bj (ρ:=E1 P mu) ?_
  exact jg (dw w0) (by decide +kernel) (gn (fB (ls:=[.sh (.str "if"),.sh e,.own (.lst b.pvs),.own (.lst c.pvs)]) (aC (ρ1:=E1 P mu) rfl (aC (ρ1:=E1 P mu) rfl (aC s1 (aC s2 rfl)))) rfl rfl))
theorem pZ:∀ (rs:Rows) (n:Nat) (mu:Mu) (o:Option Lc) (acc:List PV),rs.ok->rs.dep<=n+1->acc.length+rs.cnt<=1000->cI (aD 0) bH (Vg n) rs.pvs ⟨[o],mu⟩ acc=some (acc++rs.pvs,mu)
 | .nil,n,mu,o,acc,_,_,_=>by simp [Rows.pvs,cI]
 | .cons r rs,n,mu,o,acc,ok,hd,hc=>by
  simp only [Rows.dep] at hd
  simp only [Rows.cnt] at hc
  have h1:=r.cnt_pos
  have e1:=zf r n mu ok.1 (by omega) (by omega)
  have e2:=pZ rs n mu (zS r.pv) (acc++[r.pv]) ok.2 (by omega) (by rw [List.length_append]; simp only [List.length_cons,List.length_nil]; omega)
  refine eV (ρ1:=E1 r.pv mu) (ρ2:=E1 r.pv mu) (l:=.sh r.pv) rfl (aV (ls:=[.sh r.pv]) (ps:=[r.pv]) (ρ1:=E1 r.pv mu) rfl rfl rfl rfl e1) (by omega) (e2.trans ?_)
  simp only [Rows.pvs,List.append_assoc]
  rfl
end
structure Ent where
 w:Str
 ab:PV
 bl:Int
 r:Row
noncomputable def Ent.pv (e:Ent):PV:=.tup [.str e.w,e.ab,.int e.bl,e.r.pv]
mutual
noncomputable def Row.es:Row->Str->PV->Int->Nat->List Ent
 | .leaf x ps,w,ab,bl,_=>[⟨w,ab,bl,.leaf x ps⟩]
 | .call b n as,w,ab,bl,_=>[⟨w,ab,bl,.call b n as⟩]
 | .wh e b,w,ab,bl,k=>⟨w,ab,bl,.wh e b⟩::b.es w (.int k) 0 (k+1)
 | .iff e b c,w,ab,bl,k=>⟨w,ab,bl,.iff e b c⟩::(b.es w (.int k) 0 (k+1)++c.es w (.int k) 1 (k+1+b.cnt))
noncomputable def Rows.es:Rows->Str->PV->Int->Nat->List Ent
 | .nil,_,_,_,_=>[]
 | .cons r rs,w,ab,bl,k=>r.es w ab bl k++rs.es w ab bl (k+r.cnt)
end
mutual
theorem Row.es_len:∀ (r:Row) (w:Str) (ab:PV) (bl:Int) (k:Nat),(r.es w ab bl k).length=r.cnt
 | .leaf _ _,w,ab,bl,k=>rfl
 | .call _ _ _,w,ab,bl,k=>rfl
 | .wh e b,w,ab,bl,k=>by simp [Row.es,Row.cnt,Rows.es_len b]
 | .iff e b c,w,ab,bl,k=>by simp [Row.es,Row.cnt,Rows.es_len b,Rows.es_len c]
theorem Rows.es_len:∀ (rs:Rows) (w:Str) (ab:PV) (bl:Int) (k:Nat),(rs.es w ab bl k).length=rs.cnt
 | .nil,w,ab,bl,k=>rfl
 | .cons r rs,w,ab,bl,k=>by simp [Rows.es,Rows.cnt,Row.es_len r,Rows.es_len rs]
end
noncomputable abbrev evs (l:List Ent):List PV:=l.map Ent.pv
theorem yh (a b:List Ent):evs (a++b)=evs a++evs b:=List.map_append
theorem lJ (a:List Ent):(evs a).length=a.length:=List.length_map _
theorem qT {fo fv:EF} {ρ ρ1 ρ2:Ev} {o y:Lc} {n:Nat} {ws0 ws:List PV} {p:PV} {mu:Mu} (h1:fo ρ=some (o,ρ1)) (ho:o.pv=.ptr n) (hm:ρ1.mu[n]?=some (some (.lst ws0))) (h2:fv ρ1=some (y,ρ2)) (hy:y.pv=p) (hm2:ρ2.mu[n]?=some (some (.lst ws))) (hz:ws.length<100000) (e:ρ2.mu.set n (some (.lst (ws++[p])))=mu):lg fo fv ρ=some (.nx ⟨ρ2.vs,mu⟩):=by
 unfold lg
 rw [h1,Option.bind_some,ho]
 dsimp only
 rw [hm]
 dsimp only
 rw [h2,Option.bind_some,hm2]
 dsimp only
 rw [if_pos hz,hy,e]
theorem eZ {b:BF} {body:SF} {x:PV} {xs:List PV} {ρ ρ1 ρ2:Ev} {R:Option Fl} (h1:b x ρ=some ρ1) (h2:body ρ1=some (.nx ρ2)) (h3:dh b body xs ρ2=R):dh b body (x::xs) ρ=R:=by
 show (b x ρ).bind _=_
 rw [h1,Option.bind_some,h2,Option.bind_some]
 exact h3
theorem Hk {b:BF} {body:SF} {x:PV} {ρ ρ1 ρ2:Ev} (h1:b x ρ=some ρ1) (h2:body ρ1=some (.nx ρ2)):dh b body [x] ρ=some (.nx ρ2):=eZ h1 h2 rfl
theorem CG {b:BF} {body:SF} {x y:PV} {ρ ρ1 ρ2 ρ3 ρ4:Ev} (h1:b x ρ=some ρ1) (h2:body ρ1=some (.nx ρ2)) (h3:b y ρ2=some ρ3) (h4:body ρ3=some (.nx ρ4)):dh b body [x,y] ρ=some (.nx ρ4):=eZ h1 h2 (Hk h3 h4)
theorem nH {w:Str} {ps:List PV} {mu:Mu} (h1:(w == "if")=false) (h2:(w == "while")=false):eQ [.tup (.str w::ps)] mu=some (.own (.lst []),mu):=
 bj (ρ:=E1 (.tup (.str w::ps)) mu) ((cA (dw w0) h1).trans ((cA (dw w0) h2).trans rfl))
theorem zg {e p:PV} {mu:Mu}:eQ [.tup [.str "while",e,p]] mu=some (.own (.lst [p]),mu):=
 bj (ρ:=E1 (.tup [.str "while",e,p]) mu) ((cA (dw w0) (by decide +kernel)).trans (jg (dw w0) (by decide +kernel) rfl))
theorem zj {e p q:PV} {mu:Mu}:eQ [.tup [.str "if",e,p,q]] mu=some (.own (.lst [p,q]),mu):=
 bj (ρ:=E1 (.tup [.str "if",e,p,q]) mu) (jg (dw w0) (by decide +kernel) rfl)
noncomputable abbrev LE (w:Str) (ab:PV) (bl:Int) (X:PV) (st:Nat) (acc:List PV) (o6 o7 o8 o9:Option Lc) (mu:Mu):Ev:=⟨[zT w,zS ab,zI bl,zS X,zI st,zO acc,o6,o7,o8,o9],mu⟩
noncomputable abbrev Ti (n:Nat):SF:=mR 5 (aN (fO n) (aj (aa 0) (aj (aa 7) (aj (aa 8) (aj (aa 9) (aj (pQ (aq aY (aa 4) (eB bC (aj (aa 5) ao)))) ao))))))
noncomputable abbrev NQ (n:Nat):SF:=aG (aL 7 (pQ (aq aY (aa 4) (eB bC (aj (aa 5) ao)))))
 (aG (iR 5 (bc (aj (aa 0) (aj (aa 1) (aj (aa 2) (aj (aN (jq 40) (aj (aa 6) ao)) ao))))))
 (fJ (pq (aN eQ (aj (aa 6) ao))) (iG 2 (bh (aD 8) (bh (aD 9) iD))) (Ti n)))
theorem CJ {n:Nat} {w:Str} {ab X:PV} {bl pl:Int} {st k:Nat} {acc qs:List PV} {o6:Option Lc} {p:PV} {mu:Mu} (h:fO n [.str w,.int k,.int pl,p,.int ((st+acc.length:Nat):Int)] mu=some (.own (.lst qs),mu)) (hz:acc.length+qs.length<=100000):
 Ti n (LE w ab bl X st acc o6 (zI k) (zI pl) (zS p) mu)=some (.nx (LE w ab bl X st (acc++qs) o6 (zI k) (zI pl) (zS p) mu)):=
 tQ (i:=5) (ws0:=acc) (ws:=acc) (ps:=qs) (l:=.own (.lst qs)) (ρ1:=LE w ab bl X st acc o6 (zI k) (zI pl) (zS p) mu) rfl
  (aV (ls:=[.sh (.str w),.sh (.int k),.sh (.int pl),.sh p,.sh (.int ((st:Int)+acc.length))]) (ps:=[.str w,.int k,.int pl,p,.int ((st+acc.length:Nat):Int)]) (ρ1:=LE w ab bl X st acc o6 (zI k) (zI pl) (zS p) mu) rfl (by simp [Lc.pv]) rfl rfl h) rfl rfl hz rfl
noncomputable abbrev en (w:Str) (ab:PV) (bl:Int) (r:Row):PV:=.tup [.str w,ab,.int bl,r.pv]
theorem wW {n:Nat} {w:Str} {ab X:PV} {bl:Int} {st:Nat} {acc:List PV} {o7 o8 o9:Option Lc} {mu:Mu} {r:Row} {R:Option Fl} {bs:List PV} (ok:r.ok) (hd:r.dep<=40) (hc:r.cnt<=1000) (hz:acc.length<1000) (hb:∀ mu,eQ [r.pv] mu=some (.own (.lst bs),mu))
 (h:dh (iG 2 (bh (aD 8) (bh (aD 9) iD))) (Ti n) (oA bs) (LE w ab bl X st (acc++[en w ab bl r]) (zS r.pv) (zI ((st+acc.length:Nat):Int)) o8 o9 mu)=R):
 NQ n (LE w ab bl X st acc (zS r.pv) o7 o8 o9 mu)=R:=by
 have e1:=zf r 40 mu ok hd hc
 let E:=LE w ab bl X st acc (zS r.pv) (zI ((st+acc.length:Nat):Int)) o8 o9 mu
 refine aJ (ρ':=E) (bu (l:=.sh (.int ((st:Int)+acc.length))) (ρ1:=LE w ab bl X st acc (zS r.pv) o7 o8 o9 mu) rfl rfl (by show _=LE w ab bl X st acc (zS r.pv) (zI ((st+acc.length:Nat):Int)) o8 o9 mu; rw [Int.natCast_add]; rfl)) ?_
 refine aJ (ρ':=LE w ab bl X st (acc++[en w ab bl r]) (zS r.pv) (zI ((st+acc.length:Nat):Int)) o8 o9 mu) ?_ ?_
 . exact lV (i:=5) (ws0:=acc) (ws:=acc) (p:=en w ab bl r) (l:=.sh (en w ab bl r)) (ρ1:=E) rfl
    (fB (ls:=[.sh (.str w),.sh ab,.sh (.int bl),.sh r.pv]) (aC (ρ1:=E) rfl (aC (ρ1:=E) rfl (aC (ρ1:=E) rfl (aC (aV (ls:=[.sh r.pv]) (ps:=[r.pv]) (ρ1:=E) rfl rfl rfl rfl e1) rfl)))) rfl rfl) rfl rfl (by omega) rfl
 . refine eN (xs:=oA bs) (ρ1:=LE w ab bl X st (acc++[en w ab bl r]) (zS r.pv) (zI ((st+acc.length:Nat):Int)) o8 o9 mu) ?_ h
   unfold pq
   rw [aV (ls:=[.sh r.pv]) (ps:=[r.pv]) (ρ1:=LE w ab bl X st (acc++[en w ab bl r]) (zS r.pv) (zI ((st+acc.length:Nat):Int)) o8 o9 mu) rfl rfl rfl rfl (hb _),Option.bind_some]
   rfl
theorem Ae {rs:Rows} {n:Nat} {w:Str} {ab:PV} {bl:Int} {st:Nat} {mu:Mu}
 (h:∃ o6 o7 o8 o9,dh (aD 6) (NQ n) rs.pvs (LE w ab bl (.lst rs.pvs) st [] none none none none mu)=some (.nx (LE w ab bl (.lst rs.pvs) st ([]++evs (rs.es w ab bl (st+0))) o6 o7 o8 o9 mu))):
 fO (n+1) [.str w,ab,.int bl,.lst rs.pvs,.int st] mu=some (.own (.lst (evs (rs.es w ab bl st))),mu):=by
 obtain ⟨o6,o7,o8,o9,h⟩:=h
 refine bj (ρ:=⟨[zT w,zS ab,zI bl,zL rs.pvs,zI st,none,o6,o7,o8,o9],mu⟩) ?_
 exact aJ (ρ':=LE w ab bl (.lst rs.pvs) st [] none none none none mu) rfl (aJ (eN (xs:=rs.pvs) (ρ1:=LE w ab bl (.lst rs.pvs) st [] none none none none mu) (di (l:=.sh (.lst rs.pvs)) rfl rfl) h) rfl)
mutual
theorem Tj:∀ (r:Row) (n:Nat) (w:Str) (ab:PV) (bl:Int) (X:PV) (st:Nat) (acc:List PV) (o7 o8 o9:Option Lc) (mu:Mu),r.ok->r.dep<=n->r.dep<=40->acc.length+r.cnt<=1000->
 ∃ p7 p8 p9,NQ n (LE w ab bl X st acc (zS r.pv) o7 o8 o9 mu)=some (.nx (LE w ab bl X st (acc++evs (r.es w ab bl (st+acc.length))) (zS r.pv) p7 p8 p9 mu))
 | .leaf x ps,n,w,ab,bl,X,st,acc,o7,o8,o9,mu,ok,hd,h40,hc=>by
  simp only [Row.cnt] at hc
  exact ⟨zI ((st+acc.length:Nat):Int),o8,o9,wW (r:=.leaf x ps) ok h40 (by simp only [Row.cnt]; omega) (by omega) (fun mu=>nH ok.1.1 ok.1.2.1) rfl⟩
 | .call b m as,n,w,ab,bl,X,st,acc,o7,o8,o9,mu,ok,hd,h40,hc=>by
  simp only [Row.cnt] at hc
  exact ⟨zI ((st+acc.length:Nat):Int),o8,o9,wW (r:=.call b m as) ok h40 (by simp only [Row.cnt]; omega) (by omega) (fun mu=>nH (by decide +kernel) (by decide +kernel)) rfl⟩
 | .wh e b,n,w,ab,bl,X,st,acc,o7,o8,o9,mu,ok,hd,h40,hc=>by
  simp only [Row.cnt] at hc
  simp only [Row.dep] at hd h40
  have hb:=Rows.dep_pos b
  obtain ⟨m,rfl⟩:∃ m,n=m+1:=⟨n-1,by omega⟩
  let r:Row:=.wh e b
  let k:=st+acc.length
  let acc1:=acc++[en w ab bl r]
  have hl1:acc1.length=acc.length+1:=by simp [acc1]
  have ih:=Ae (n:=m) (w:=w) (ab:=.int (k:Nat)) (bl:=0) (st:=st+acc1.length) (mu:=mu) (rs:=b) (qU b m w (.int (k:Nat)) 0 (.lst b.pvs) (st+acc1.length) [] none none none none mu ok.2 (by omega) (by omega) (by simp only [List.length_nil]; omega))
  have he:(evs (b.es w (.int (k:Nat)) 0 (st+acc1.length))).length=b.cnt:=by rw [lJ,Rows.es_len]
  have st1:=CJ (n:=m+1) (w:=w) (ab:=ab) (X:=X) (bl:=bl) (pl:=0) (st:=st) (k:=k) (acc:=acc1) (o6:=zS r.pv) (p:=.lst b.pvs) ih (by rw [he,hl1]; omega)
  refine ⟨zI (k:Nat),zI 0,zL b.pvs,wW (r:=.wh e b) ok (by simp only [Row.dep]; omega) (by simp only [Row.cnt]; omega) (by omega) (fun mu=>zg) ((Hk (ρ1:=LE w ab bl X st acc1 (zS r.pv) (zI (k:Nat)) (zI 0) (zL b.pvs) mu) rfl st1).trans ?_)⟩
  have ek:st+acc1.length=k+1:=by rw [hl1]; omega
  rw [ek]
  simp only [Row.es,acc1,List.append_assoc,List.cons_append,List.nil_append,evs,List.map_cons]
  rfl
 | .iff e b c,n,w,ab,bl,X,st,acc,o7,o8,o9,mu,ok,hd,h40,hc=>by
  simp only [Row.cnt] at hc
  simp only [Row.dep] at hd h40
  have hb:=Rows.dep_pos b
  obtain ⟨m,rfl⟩:∃ m,n=m+1:=⟨n-1,by omega⟩
  let r:Row:=.iff e b c
  let k:=st+acc.length
  let acc1:=acc++[en w ab bl r]
  have hl1:acc1.length=acc.length+1:=by simp [acc1]
  have ih:=Ae (n:=m) (w:=w) (ab:=.int (k:Nat)) (bl:=0) (st:=st+acc1.length) (mu:=mu) (rs:=b) (qU b m w (.int (k:Nat)) 0 (.lst b.pvs) (st+acc1.length) [] none none none none mu ok.2.1 (by omega) (by omega) (by simp only [List.length_nil]; omega))
  have he:(evs (b.es w (.int (k:Nat)) 0 (st+acc1.length))).length=b.cnt:=by rw [lJ,Rows.es_len]
  have st1:=CJ (n:=m+1) (w:=w) (ab:=ab) (X:=X) (bl:=bl) (pl:=0) (st:=st) (k:=k) (acc:=acc1) (o6:=zS r.pv) (p:=.lst b.pvs) ih (by rw [he,hl1]; omega)
  let acc2:=acc1++evs (b.es w (.int (k:Nat)) 0 (st+acc1.length))
  have hl2:acc2.length=acc.length+1+b.cnt:=by show (acc1++_).length=_; rw [List.length_append,he,hl1]
  have ih2:=Ae (n:=m) (w:=w) (ab:=.int (k:Nat)) (bl:=1) (st:=st+acc2.length) (mu:=mu) (rs:=c) (qU c m w (.int (k:Nat)) 1 (.lst c.pvs) (st+acc2.length) [] none none none none mu ok.2.2 (by omega) (by omega) (by simp only [List.length_nil]; omega))
  have he2:(evs (c.es w (.int (k:Nat)) 1 (st+acc2.length))).length=c.cnt:=by rw [lJ,Rows.es_len]
  have st2:=CJ (n:=m+1) (w:=w) (ab:=ab) (X:=X) (bl:=bl) (pl:=1) (st:=st) (k:=k) (acc:=acc2) (o6:=zS r.pv) (p:=.lst c.pvs) ih2 (by rw [he2,hl2]; omega)
  refine ⟨zI (k:Nat),zI 1,zL c.pvs,wW (r:=.iff e b c) ok (by simp only [Row.dep]; omega) (by simp only [Row.cnt]; omega) (by omega) (fun mu=>zj) ((CG (ρ1:=LE w ab bl X st acc1 (zS r.pv) (zI (k:Nat)) (zI 0) (zL b.pvs) mu) (ρ3:=LE w ab bl X st acc2 (zS r.pv) (zI (k:Nat)) (zI 1) (zL c.pvs) mu) rfl st1 rfl st2).trans ?_)⟩
  have ek:st+acc1.length=k+1:=by rw [hl1]; omega
  have ek2:st+acc2.length=k+1+b.cnt:=by rw [hl2]; omega
  rw [ek2]
  simp only [acc2,ek]
  simp only [Row.es,evs,List.map_cons,List.map_append,acc1,List.append_assoc,List.cons_append,List.nil_append]
  rfl
theorem qU:∀ (rs:Rows) (n:Nat) (w:Str) (ab:PV) (bl:Int) (X:PV) (st:Nat) (acc:List PV) (o6 o7 o8 o9:Option Lc) (mu:Mu),rs.ok->rs.dep<=n+1->rs.dep<=41->acc.length+rs.cnt<=1000->
 ∃ p6 p7 p8 p9,dh (aD 6) (NQ n) rs.pvs (LE w ab bl X st acc o6 o7 o8 o9 mu)=some (.nx (LE w ab bl X st (acc++evs (rs.es w ab bl (st+acc.length))) p6 p7 p8 p9 mu))
 | .nil,n,w,ab,bl,X,st,acc,o6,o7,o8,o9,mu,ok,hd,h41,hc=>⟨o6,o7,o8,o9,by simp [Rows.pvs,dh,Rows.es,evs]⟩
 | .cons r rs,n,w,ab,bl,X,st,acc,o6,o7,o8,o9,mu,ok,hd,h41,hc=>by
  simp only [Rows.dep] at hd h41
  simp only [Rows.cnt] at hc
  obtain ⟨q7,q8,q9,e1⟩:=Tj r n w ab bl X st acc o7 o8 o9 mu ok.1 (by omega) (by omega) (by omega)
  have hl:(acc++evs (r.es w ab bl (st+acc.length))).length=acc.length+r.cnt:=by rw [List.length_append,lJ,Row.es_len]
  obtain ⟨p6,p7,p8,p9,e2⟩:=qU rs n w ab bl X st (acc++evs (r.es w ab bl (st+acc.length))) (zS r.pv) q7 q8 q9 mu ok.2 (by omega) (by omega) (by rw [hl]; omega)
  refine ⟨p6,p7,p8,p9,eZ (ρ1:=LE w ab bl X st acc (zS r.pv) o7 o8 o9 mu) rfl e1 (e2.trans ?_)⟩
  rw [hl,← Nat.add_assoc]
  simp only [Rows.es,yh,List.append_assoc]
end
theorem u5 {rs:Rows} {w:Str} {ab:PV} {bl:Int} {st:Nat} {mu:Mu} (ok:rs.ok) (hd:rs.dep<=40) (hc:rs.cnt<=1000):
 fO 40 [.str w,ab,.int bl,.lst rs.pvs,.int st] mu=some (.own (.lst (evs (rs.es w ab bl st))),mu):=
 Ae (n:=39) (qU rs 39 w ab bl _ st [] none none none none mu ok (by omega) (by omega) (by simp only [List.length_nil]; omega))
structure Fn where
 name:Str
 rank:PV
 params:List PV
 rows:Rows
noncomputable def Fn.pv (f:Fn):PV:=.tup [.str f.name,f.rank,.lst f.params,.lst f.rows.pvs]
structure Pg where
 boxes:List PV
 grants:List PV
 fns:List Fn
 rows:Rows
noncomputable def Pg.pv (P:Pg):PV:=.tup [.lst P.boxes,.lst P.grants,.lst (P.fns.map Fn.pv),.lst P.rows.pvs]
noncomputable def cY:List Fn->Nat
 | []=>0
 | f::fs=>f.rows.cnt+cY fs
noncomputable def n6:List Fn->Nat->List Ent
 | [],_=>[]
 | f::fs,k=>f.rows.es f.name .non 0 k++n6 fs (k+f.rows.cnt)
theorem uE:∀ (fs:List Fn) (k:Nat),(n6 fs k).length=cY fs
 | [],k=>rfl
 | f::fs,k=>by simp [n6,cY,Rows.es_len,uE fs]
noncomputable def Pg.es (P:Pg):List Ent:=n6 P.fns 0++P.rows.es "main" .non 0 (cY P.fns)
structure Pg.ok (P:Pg):Prop where
 fn:∀ f∈P.fns,f.rows.ok/\f.rows.dep<=30
 rw:P.rows.ok
 dp:P.rows.dep<=30
 ct:cY P.fns+P.rows.cnt<=250
 pm:∀ f∈P.fns,∃ xs:List Str,f.params=xs.map (fun x=>.tup [.str x,.non])/\xs.length<=100
 fl:P.fns.length<=100
noncomputable abbrev NE (p:PV) (acc:List PV) (o2 o3 o4 o5:Option Lc) (mu:Mu):Ev:=⟨[zS p,zO acc,o2,o3,o4,o5],mu⟩
theorem Fp {p:PV}:∀ (fs:List Fn) (acc:List PV) (o2 o3 o4 o5:Option Lc) (mu:Mu),(∀ f∈fs,f.rows.ok/\f.rows.dep<=30)->acc.length+cY fs<=1000->
 ∃ p2 p3 p4 p5,dh (iG 4 (bh (aD 2) (bh (aD 3) (bh (aD 4) (bh (aD 5) iD))))) Tc (fs.map Fn.pv) (NE p acc o2 o3 o4 o5 mu)=some (.nx (NE p (acc++evs (n6 fs acc.length)) p2 p3 p4 p5 mu))
 | [],acc,o2,o3,o4,o5,mu,_,_=>⟨o2,o3,o4,o5,by simp [dh,n6,evs]⟩
 | f::fs,acc,o2,o3,o4,o5,mu,h,hl=>by
  simp only [cY] at hl
  obtain ⟨ok,hd⟩:=h f List.mem_cons_self
  have e:=u5 (w:=f.name) (ab:=.non) (bl:=0) (st:=acc.length) (mu:=mu) ok (by omega) (by omega)
  have hl1:(acc++evs (f.rows.es f.name .non 0 acc.length)).length=acc.length+f.rows.cnt:=by rw [List.length_append,lJ,Rows.es_len]
  let E:=NE p acc (zT f.name) (zS f.rank) (zL f.params) (zL f.rows.pvs) mu
  obtain ⟨p2,p3,p4,p5,ih⟩:=Fp (p:=p) fs (acc++evs (f.rows.es f.name .non 0 acc.length)) (zT f.name) (zS f.rank) (zL f.params) (zL f.rows.pvs) mu (fun x hx=>h x (List.mem_cons_of_mem _ hx)) (by rw [hl1]; omega)
  have st:Tc E=some (.nx (NE p (acc++evs (f.rows.es f.name .non 0 acc.length)) (zT f.name) (zS f.rank) (zL f.params) (zL f.rows.pvs) mu)):=
   tQ (i:=1) (ws0:=acc) (ws:=acc) (ps:=evs (f.rows.es f.name .non 0 acc.length)) (l:=.own (.lst (evs (f.rows.es f.name .non 0 acc.length)))) (ρ1:=E) rfl
    (aV (ls:=[.sh (.str f.name),.sh .non,.sh (.int 0),.sh (.lst f.rows.pvs),.sh (.int acc.length)]) (ps:=[.str f.name,.non,.int 0,.lst f.rows.pvs,.int acc.length]) (ρ1:=E) rfl rfl rfl rfl e) rfl rfl (by rw [lJ,Rows.es_len]; omega) rfl
  refine ⟨p2,p3,p4,p5,(eZ (ρ1:=E) rfl st (ih.trans ?_))⟩
  rw [hl1]
  simp only [n6,yh,List.append_assoc]
theorem DX {P:Pg} {mu:Mu} (ok:P.ok):oF [P.pv] mu=some (.own (.lst (evs P.es)),mu):=by
 have hc:=ok.ct
 obtain ⟨p2,p3,p4,p5,e1⟩:=Fp (p:=P.pv) P.fns [] none none none none mu ok.fn (by simp only [List.length_nil]; omega)
 simp only [List.nil_append,List.length_nil] at e1
 let a1:=evs (n6 P.fns 0)
 have ha:a1.length=cY P.fns:=by simp only [a1,lJ,uE]
 have e2:=u5 (w := "main") (ab:=.non) (bl:=0) (st:=a1.length) (mu:=mu) ok.rw (by have:=ok.dp; omega) (by omega)
 rw [ha] at e2
 let b:=evs (P.rows.es "main" .non 0 (cY P.fns))
 refine (bj (ρ:=⟨[zS P.pv,none,p2,p3,p4,p5],mu⟩) (r:=.own (.lst (a1++b))) ?_).trans ?_
 . refine aJ (ρ':=NE P.pv [] none none none none mu) rfl (aJ (ρ':=NE P.pv a1 p2 p3 p4 p5 mu) (eN (xs:=P.fns.map Fn.pv) (ρ1:=NE P.pv [] none none none none mu) (di (l:=.sh (.lst (P.fns.map Fn.pv))) rfl rfl) e1) (aJ (ρ':=NE P.pv (a1++b) p2 p3 p4 p5 mu) ?_ rfl))
   exact tQ (i:=1) (ws0:=a1) (ws:=a1) (ps:=b) (l:=.own (.lst b)) (ρ1:=NE P.pv a1 p2 p3 p4 p5 mu) rfl
    (aV (ls:=[.sh (.str "main"),.sh .non,.sh (.int 0),.sh (.lst P.rows.pvs),.sh (.int a1.length)]) (ps:=[.str "main",.non,.int 0,.lst P.rows.pvs,.int a1.length]) (ρ1:=NE P.pv a1 p2 p3 p4 p5 mu) rfl rfl rfl rfl (by rw [ha]; exact e2)) rfl rfl (by simp only [b]; rw [ha,lJ,Rows.es_len]; omega) rfl
 . simp only [a1,b,Pg.es,yh]
noncomputable def Ent.key (e:Ent):List b7:=[some (.inr e.w),(okP e.ab).getD none,some (.inl e.bl)]
noncomputable def pos (K:List b7):Nat->List Ent->List Nat
 | _,[]=>[]
 | i,e::es=>if e.key=K then i::pos K (i+1) es else pos K (i+1) es
theorem lK (K:List b7):∀ (i:Nat) (a b:List Ent),pos K i (a++b)=pos K i a++pos K (i+a.length) b
 | i,[],b=>rfl
 | i,e::a,b=>by
  show (if e.key=K then i::pos K (i+1) (a++b) else pos K (i+1) (a++b))=(if e.key=K then i::pos K (i+1) a else pos K (i+1) a)++_
  rw [lK K (i+1) a b,show i+(e::a).length=i+1+a.length by simp only [List.length_cons]; omega]
  split<;>rfl
theorem uF {K:List b7}:∀ {i:Nat} {a:List Ent},(∀ e∈a,e.key≠K)->pos K i a=[]
 | i,[],_=>rfl
 | i,e::a,h=>by
  show (if e.key=K then i::pos K (i+1) a else pos K (i+1) a)=[]
  rw [if_neg (h e List.mem_cons_self)]
  exact uF fun x hx=>h x (List.mem_cons_of_mem _ hx)
noncomputable def Rows.nums:Rows->Nat->List Nat
 | .nil,_=>[]
 | .cons r rs,k=>k::rs.nums (k+r.cnt)
noncomputable abbrev KEY (w:Str) (m:Nat) (b:Int):List b7:=[some (.inr w),some (.inl (m:Int)),some (.inl b)]
theorem key_ne {e:Ent} {w:Str} {m:Nat} {b:Int} (h:e.ab≠.int m) (ha:e.ab=.non\/∃ j:Nat,e.ab=.int j):e.key≠KEY w m b:=by
 intro q
 unfold Ent.key at q
 injection q with _ q
 injection q with q _
 rcases ha with e1 | ⟨j,e1⟩
 . rw [e1] at q
   cases q
 . rw [e1] at q h
   have q:some (Sum.inl (j:Int))=some (Sum.inl (m:Int)):=q
   injection q with q
   injection q with q
   exact h (by rw [q])
theorem rZ {e:Ent} {w:Str} {m:Nat} {b:Int} (h:e.bl≠b):e.key≠KEY w m b:=by
 intro q
 unfold Ent.key at q
 injection q with _ q
 injection q with _ q
 injection q with q _
 injection q with q
 injection q with q
 exact h q
noncomputable def nW (ab:PV) (s t:Nat) (e:Ent):Prop:=e.ab=ab\/∃ m:Nat,e.ab=.int m/\s<=m/\m<t
theorem nW.mono {ab:PV} {s t s' t':Nat} {e:Ent} (h:nW ab s t e) (h1:s'<=s) (h2:t<=t'):nW ab s' t' e:=by
 rcases h with h | ⟨m,h,g1,g2⟩
 . exact .inl h
 . exact .inr ⟨m,h,by omega,by omega⟩
theorem nW.up {k s t:Nat} {ab:PV} {e:Ent} (h:nW (.int (k:Nat)) s t e) (h1:k<s) (h2:k<t):nW ab k t e:=by
 rcases h with h | ⟨m,h,g1,g2⟩
 . exact .inr ⟨k,h,Nat.le_refl _,h2⟩
 . exact .inr ⟨m,h,by omega,g2⟩
mutual
theorem Row.abs:∀ (r:Row) (w:Str) (ab:PV) (bl:Int) (k:Nat),∀ e∈r.es w ab bl k,nW ab k (k+r.cnt) e
 | .leaf _ _,w,ab,bl,k,e,he=>by
  rw [List.mem_singleton.mp he]
  exact .inl rfl
 | .call _ _ _,w,ab,bl,k,e,he=>by
  rw [List.mem_singleton.mp he]
  exact .inl rfl
 | .wh x b,w,ab,bl,k,e,he=>by
  rcases List.mem_cons.mp he with rfl | he
  . exact .inl rfl
  . have h:=Rows.abs b w (.int (k:Nat)) 0 (k+1) e he
    simp only [Row.cnt]
    exact (h.up (by omega) (by omega)).mono (Nat.le_refl _) (by omega)
 | .iff x b c,w,ab,bl,k,e,he=>by
  simp only [Row.cnt]
  rcases List.mem_cons.mp he with rfl | he
  . exact .inl rfl
  . rcases List.mem_append.mp he with he | he
    . have h:=Rows.abs b w (.int (k:Nat)) 0 (k+1) e he
      exact (h.up (by omega) (by omega)).mono (Nat.le_refl _) (by omega)
    . have h:=Rows.abs c w (.int (k:Nat)) 1 (k+1+b.cnt) e he
      exact (h.up (by omega) (by omega)).mono (Nat.le_refl _) (by omega)
theorem Rows.abs:∀ (rs:Rows) (w:Str) (ab:PV) (bl:Int) (k:Nat),∀ e∈rs.es w ab bl k,nW ab k (k+rs.cnt) e
 | .nil,w,ab,bl,k,e,he=>by cases he
 | .cons r rs,w,ab,bl,k,e,he=>by
  simp only [Rows.cnt]
  rcases List.mem_append.mp he with he | he
  . exact (Row.abs r w ab bl k e he).mono (Nat.le_refl _) (by omega)
  . exact (Rows.abs rs w ab bl (k+r.cnt) e he).mono (by omega) (by omega)
end
noncomputable def qu (ab:PV) (k:Nat):Prop:=ab=.non\/∃ j:Nat,ab=.int j/\j<k
theorem nW.num {ab:PV} {s t k:Nat} {e:Ent} (h:nW ab s t e) (a:qu ab k):e.ab=.non\/∃ j:Nat,e.ab=.int j:=by
 rcases h with h | ⟨m,h,_⟩
 . rcases a with a | ⟨j,a,_⟩
   . exact .inl (h.trans a)
   . exact .inr ⟨j,h.trans a⟩
 . exact .inr ⟨m,h⟩
theorem qW {a b:Nat} (h:a≠b):(PV.int (a:Nat))≠.int (b:Nat):=fun q=>by
 injection q with q
 exact h (by omega)
theorem nW.ne {ab:PV} {s t m:Nat} {e:Ent} (h:nW ab s t e) (h1:ab≠.int m) (h2:m<s\/t<=m):e.ab≠.int m:=by
 rcases h with h | ⟨j,h,g1,g2⟩
 . rw [h]; exact h1
 . rw [h]; exact qW (by omega)
theorem qu.ne {ab:PV} {k m:Nat} (a:qu ab k) (h:k<=m):ab≠.int m:=by
 rcases a with a | ⟨j,a,hj⟩
 . rw [a]; intro q; cases q
 . rw [a]; exact qW (by omega)
theorem Row.pos_top (r:Row) (w:Str) (m:Nat) (b:Int) (k:Nat) (h:m<k):pos (KEY w m b) k (r.es w (.int m) b k)=[k]:=by
 have own:∀ (e:Ent),e.w=w->e.ab=.int m->e.bl=b->e.key=KEY w m b:=fun e h1 h2 h3=>by
  unfold Ent.key
  rw [h1,h2,h3]
  rfl
 have sub:∀ (rs:Rows) (c:Int) (s:Nat),k<s->pos (KEY w m b) s (rs.es w (.int (k:Nat)) c s)=[]:=fun rs c s hs=>uF fun e he=>by
  have g:=Rows.abs rs w (.int (k:Nat)) c s e he
  exact key_ne (g.ne (qW (by omega)) (.inl (by omega))) (g.num (k:=s) (.inr ⟨k,rfl,hs⟩))
 cases r with
 | leaf x ps=>show (if _ then _ else _)=_; rw [if_pos (own _ rfl rfl rfl)]; rfl
 | call x n as=>show (if _ then _ else _)=_; rw [if_pos (own _ rfl rfl rfl)]; rfl
 | wh x c=>
  show (if _ then _ else _)=_
  rw [if_pos (own _ rfl rfl rfl),sub c 0 (k+1) (by omega)]
 | iff x c d=>
  show (if _ then _ else _)=_
  rw [if_pos (own _ rfl rfl rfl),lK,Rows.es_len,sub c 0 (k+1) (by omega),sub d 1 (k+1+c.cnt) (by omega)]
  rfl
theorem Rows.pos_top:∀ (rs:Rows) (w:Str) (m:Nat) (b:Int) (k:Nat),m<k->pos (KEY w m b) k (rs.es w (.int m) b k)=rs.nums k
 | .nil,w,m,b,k,h=>rfl
 | .cons r rs,w,m,b,k,h=>by
  show pos _ k (r.es w (.int m) b k++rs.es w (.int m) b (k+r.cnt))=_
  rw [lK,Row.pos_top r w m b k h,Row.es_len,Rows.pos_top rs w m b (k+r.cnt) (by omega)]
  rfl
noncomputable def Row.bnums:Row->Nat->Int->List Nat
 | .wh _ b,k,i=>if i=0 then b.nums (k+1) else []
 | .iff _ b c,k,i=>if i=0 then b.nums (k+1) else if i=1 then c.nums (k+1+b.cnt) else []
 | _,_,_=>[]
theorem Row.pos_in (r:Row) (w:Str) (ab:PV) (bl:Int) (k:Nat) (i:Int) (a:qu ab k):pos (KEY w k i) k (r.es w ab bl k)=r.bnums k i:=by
 have own:∀ (e:Ent),e.ab=ab->e.key≠KEY w k i:=fun e h=>key_ne (by rw [h]; exact a.ne (Nat.le_refl _)) (by
  rcases a with a | ⟨j,a,_⟩
  . exact .inl (h.trans a)
  . exact .inr ⟨j,h.trans a⟩)
 have sub:∀ (rs:Rows) (c:Int) (s:Nat),k<s->c≠i->pos (KEY w k i) s (rs.es w (.int (k:Nat)) c s)=[]:=fun rs c s hs hc=>by
  have go:∀ (rs:Rows) (s:Nat),k<s->pos (KEY w k i) s (rs.es w (.int (k:Nat)) c s)=[]:=by
   intro rs
   induction rs using Rows.rec (motive_1:=fun _=>True) with
   | nil=>intro s _; rfl
   | cons r rs _ ih=>
    intro s hs
    show pos _ s (r.es w (.int (k:Nat)) c s++rs.es w (.int (k:Nat)) c (s+r.cnt))=_
    rw [lK,Row.es_len,ih (s+r.cnt) (by omega),List.append_nil]
    have deep:∀ (bs:Rows) (d:Int) (t:Nat),s<t->pos (KEY w k i) t (bs.es w (.int (s:Nat)) d t)=[]:=fun bs d t ht=>uF fun e he=>by
     have g:=Rows.abs bs w (.int (s:Nat)) d t e he
     exact key_ne (g.ne (qW (by omega)) (.inl (by omega))) (g.num (k:=t) (.inr ⟨s,rfl,ht⟩))
    cases r with
    | leaf x ps=>show (if _ then _ else _)=_; rw [if_neg (rZ hc)]; rfl
    | call x n as=>show (if _ then _ else _)=_; rw [if_neg (rZ hc)]; rfl
    | wh x bs=>show (if _ then _ else _)=_; rw [if_neg (rZ hc)]; exact deep bs 0 (s+1) (by omega)
    | iff x bs cs=>show (if _ then _ else _)=_; rw [if_neg (rZ hc),lK,Rows.es_len,deep bs 0 (s+1) (by omega),deep cs 1 (s+1+bs.cnt) (by omega)]; rfl
   | _=>trivial
  exact go rs s hs
 cases r with
 | leaf x ps=>show (if _ then _ else _)=_; rw [if_neg (own _ rfl)]; rfl
 | call x n as=>show (if _ then _ else _)=_; rw [if_neg (own _ rfl)]; rfl
 | wh x c=>
  show (if _ then _ else _)=_
  rw [if_neg (own _ rfl)]
  show _=if i=0 then c.nums (k+1) else []
  by_cases hi:i=0
  . subst hi
    rw [if_pos rfl]
    exact Rows.pos_top c w k 0 (k+1) (by omega)
  . rw [if_neg hi]
    exact sub c 0 (k+1) (by omega) (fun q=>hi q.symm)
 | iff x c d=>
  show (if _ then _ else _)=_
  rw [if_neg (own _ rfl),lK,Rows.es_len]
  show _=if i=0 then c.nums (k+1) else if i=1 then d.nums (k+1+c.cnt) else []
  by_cases hi:i=0
  . subst hi
    rw [if_pos rfl,Rows.pos_top c w k 0 (k+1) (by omega),sub d 1 (k+1+c.cnt) (by omega) (by decide),List.append_nil]
  . rw [if_neg hi,sub c 0 (k+1) (by omega) (fun q=>hi q.symm),List.nil_append]
    by_cases h1:i=1
    . subst h1
      rw [if_pos rfl]
      exact Rows.pos_top d w k 1 (k+1+c.cnt) (by omega)
    . rw [if_neg h1]
      exact sub d 1 (k+1+c.cnt) (by omega) (fun q=>h1 q.symm)
structure mz (es:List Ent) (w:Str) (ab:PV) (bl:Int) (k:Nat) (rs:Rows):Prop where
 ex:∃ pre post,es=pre++(rs.es w ab bl k++post)/\pre.length=k/\∀ e∈pre++post,(e.ab=.non\/∃ j:Nat,e.ab=.int j)/\∀ m:Nat,k<=m->m<k+rs.cnt->e.ab≠.int m
 ab:qu ab k
structure mY (es:List Ent) (w:Str) (ab:PV) (bl:Int) (k:Nat) (r:Row):Prop where
 ex:∃ pre post,es=pre++(r.es w ab bl k++post)/\pre.length=k/\∀ e∈pre++post,(e.ab=.non\/∃ j:Nat,e.ab=.int j)/\∀ m:Nat,k<=m->m<k+r.cnt->e.ab≠.int m
 ab:qu ab k
theorem qu.mono {ab:PV} {k k':Nat} (a:qu ab k) (h:k<=k'):qu ab k':=by
 rcases a with a | ⟨j,a,hj⟩
 . exact .inl a
 . exact .inr ⟨j,a,by omega⟩
theorem mz.cons {es:List Ent} {w:Str} {ab:PV} {bl:Int} {k:Nat} {r:Row} {rs:Rows} (h:mz es w ab bl k (.cons r rs)):mY es w ab bl k r/\mz es w ab bl (k+r.cnt) rs:=by
 obtain ⟨⟨pre,post,e,hl,hx⟩,ha⟩:=h
 simp only [Rows.cnt] at hx
 refine ⟨⟨⟨pre,rs.es w ab bl (k+r.cnt)++post,by rw [e]; simp only [Rows.es,List.append_assoc],hl,fun x hx'=>?_⟩,ha⟩,⟨⟨pre++r.es w ab bl k,post,by rw [e]; simp only [Rows.es,List.append_assoc],by rw [List.length_append,Row.es_len,hl],fun x hx'=>?_⟩,ha.mono (by omega)⟩⟩
 . rcases List.mem_append.mp hx' with q | q
   . obtain ⟨g1,g2⟩:=hx x (List.mem_append_left _ q)
     exact ⟨g1,fun m h1 h2=>g2 m h1 (by omega)⟩
   . rcases List.mem_append.mp q with q | q
     . have g:=Rows.abs rs w ab bl (k+r.cnt) x q
       exact ⟨g.num ha,fun m h1 h2=>g.ne (ha.ne h1) (.inl (by omega))⟩
     . obtain ⟨g1,g2⟩:=hx x (List.mem_append_right _ q)
       exact ⟨g1,fun m h1 h2=>g2 m h1 (by omega)⟩
 . rcases List.mem_append.mp hx' with q | q
   . rcases List.mem_append.mp q with q | q
     . obtain ⟨g1,g2⟩:=hx x (List.mem_append_left _ q)
       exact ⟨g1,fun m h1 h2=>g2 m (by omega) (by omega)⟩
     . have g:=Row.abs r w ab bl k x q
       exact ⟨g.num ha,fun m h1 h2=>g.ne (ha.ne (by omega)) (.inr h1)⟩
   . obtain ⟨g1,g2⟩:=hx x (List.mem_append_right _ q)
     exact ⟨g1,fun m h1 h2=>g2 m (by omega) (by omega)⟩
theorem mY.wh {es:List Ent} {w:Str} {ab:PV} {bl:Int} {k:Nat} {x:PV} {b:Rows} (h:mY es w ab bl k (.wh x b)):mz es w (.int (k:Nat)) 0 (k+1) b:=by
 obtain ⟨⟨pre,post,e,hl,hx⟩,ha⟩:=h
 simp only [Row.cnt] at hx
 refine ⟨⟨pre++[⟨w,ab,bl,.wh x b⟩],post,by rw [e]; simp [Row.es],by simp [hl],fun y hy=>?_⟩,.inr ⟨k,rfl,by omega⟩⟩
 rcases List.mem_append.mp hy with q | q
 . rcases List.mem_append.mp q with q | q
   . obtain ⟨g1,g2⟩:=hx y (List.mem_append_left _ q)
     exact ⟨g1,fun m h1 h2=>g2 m (by omega) (by omega)⟩
   . rw [List.mem_singleton.mp q]
     exact ⟨by rcases ha with a | ⟨j,a,_⟩; exact .inl a; exact .inr ⟨j,a⟩,fun m h1 _=>ha.ne (by omega)⟩
 . obtain ⟨g1,g2⟩:=hx y (List.mem_append_right _ q)
   exact ⟨g1,fun m h1 h2=>g2 m (by omega) (by omega)⟩
theorem mY.iff {es:List Ent} {w:Str} {ab:PV} {bl:Int} {k:Nat} {x:PV} {b c:Rows} (h:mY es w ab bl k (.iff x b c)):mz es w (.int (k:Nat)) 0 (k+1) b/\mz es w (.int (k:Nat)) 1 (k+1+b.cnt) c:=by
 obtain ⟨⟨pre,post,e,hl,hx⟩,ha⟩:=h
 simp only [Row.cnt] at hx
 have own:(ab=.non\/∃ j:Nat,ab=.int j):=by rcases ha with a | ⟨j,a,_⟩; exact .inl a; exact .inr ⟨j,a⟩
 have hk:∀ s,k<s->qu (.int (k:Nat)) s:=fun s hs=>.inr ⟨k,rfl,hs⟩
 refine ⟨⟨⟨pre++[⟨w,ab,bl,.iff x b c⟩],c.es w (.int (k:Nat)) 1 (k+1+b.cnt)++post,by rw [e]; simp [Row.es],by simp [hl],fun y hy=>?_⟩,hk _ (by omega)⟩,⟨⟨pre++(⟨w,ab,bl,.iff x b c⟩::b.es w (.int (k:Nat)) 0 (k+1)),post,by rw [e]; simp [Row.es],by simp [hl,Rows.es_len]; omega,fun y hy=>?_⟩,hk _ (by omega)⟩⟩
 . rcases List.mem_append.mp hy with q | q
   . rcases List.mem_append.mp q with q | q
     . obtain ⟨g1,g2⟩:=hx y (List.mem_append_left _ q)
       exact ⟨g1,fun m h1 h2=>g2 m (by omega) (by omega)⟩
     . rw [List.mem_singleton.mp q]
       exact ⟨own,fun m h1 _=>ha.ne (by omega)⟩
   . rcases List.mem_append.mp q with q | q
     . have g:=Rows.abs c w (.int (k:Nat)) 1 (k+1+b.cnt) y q
       exact ⟨g.num (hk (k+1) (by omega)),fun m h1 h2=>g.ne (qW (by omega)) (.inl (by omega))⟩
     . obtain ⟨g1,g2⟩:=hx y (List.mem_append_right _ q)
       exact ⟨g1,fun m h1 h2=>g2 m (by omega) (by omega)⟩
 . rcases List.mem_append.mp hy with q | q
   . rcases List.mem_append.mp q with q | q
     . obtain ⟨g1,g2⟩:=hx y (List.mem_append_left _ q)
       exact ⟨g1,fun m h1 h2=>g2 m (by omega) (by omega)⟩
     . rcases List.mem_cons.mp q with rfl | q
       . exact ⟨own,fun m h1 _=>ha.ne (by omega)⟩
       . have g:=Rows.abs b w (.int (k:Nat)) 0 (k+1) y q
         exact ⟨g.num (hk (k+1) (by omega)),fun m h1 h2=>g.ne (qW (by omega)) (.inr (by omega))⟩
   . obtain ⟨g1,g2⟩:=hx y (List.mem_append_right _ q)
     exact ⟨g1,fun m h1 h2=>g2 m (by omega) (by omega)⟩
theorem Row.es_head (r:Row) (w:Str) (ab:PV) (bl:Int) (k:Nat):∃ t,r.es w ab bl k=⟨w,ab,bl,r⟩::t:=by
 cases r<;>exact ⟨_,rfl⟩
theorem mY.get {es:List Ent} {w:Str} {ab:PV} {bl:Int} {k:Nat} {r:Row} (h:mY es w ab bl k r):es[k]?=some ⟨w,ab,bl,r⟩:=by
 obtain ⟨⟨pre,post,e,hl,hx⟩,ha⟩:=h
 obtain ⟨t,et⟩:=r.es_head w ab bl k
 rw [e,et,List.getElem?_append_right (by omega),hl,Nat.sub_self]
 rfl
theorem mY.pos {es:List Ent} {w:Str} {ab:PV} {bl:Int} {k:Nat} {r:Row} (h:mY es w ab bl k r) (i:Int):Law.pos (KEY w k i) 0 es=r.bnums k i:=by
 obtain ⟨⟨pre,post,e,hl,hx⟩,ha⟩:=h
 have hc:=r.cnt_pos
 have out:∀ (l:List Ent) (j:Nat),(∀ x∈l,x∈pre++post)->Law.pos (KEY w k i) j l=[]:=fun l j hl=>uF fun x hx'=>by
  obtain ⟨g1,g2⟩:=hx x (hl x hx')
  exact key_ne (g2 k (Nat.le_refl _) (by omega)) g1
 rw [e,lK,lK,out pre 0 fun x h=>List.mem_append_left _ h,out post _ fun x h=>List.mem_append_right _ h,List.nil_append,List.append_nil,Nat.zero_add,hl]
 exact r.pos_in w ab bl k i ha
mutual
noncomputable def Row.sp:Row->Bool
 | .leaf _ _=>false
 | .call _ _ _=>true
 | .wh _ _=>true
 | .iff _ b c=>b.sp||c.sp
noncomputable def Rows.sp:Rows->Bool
 | .nil=>false
 | .cons r rs=>r.sp||rs.sp
end
noncomputable def atT (k:Nat):Str := "at " ++ (toString (k:Int):Str)
mutual
noncomputable def Row.bt:Row->Nat->List Str
 | .leaf _ _,k=>[atT k]
 | .call _ n _,k=>[atT k, "leave " ++ n]
 | .wh _ _,k=>[atT k]
 | .iff _ b c,k=>[atT k]++(if b.sp then b.lbt (k+1) else [])++(if c.sp then c.lbt (k+1+b.cnt) else [])
noncomputable def Rows.lbt:Rows->Nat->List Str
 | .nil,_=>[]
 | .cons r .nil,k=>r.bt k
 | .cons r (.cons r' rs),k=>(Rows.cons r' rs).lbt (k+r.cnt)
end
mutual
noncomputable def Row.bl:Row->Nat
 | .leaf _ _=>1
 | .call _ _ _=>2
 | .wh _ _=>1
 | .iff _ b c=>1+b.bl+c.bl
noncomputable def Rows.bl:Rows->Nat
 | .nil=>0
 | .cons r rs=>max r.bl rs.bl
end
mutual
theorem Row.bt_len:∀ (r:Row) (k:Nat),(r.bt k).length<=r.bl
 | .leaf _ _,k=>Nat.le_refl _
 | .call _ _ _,k=>Nat.le_refl _
 | .wh _ _,k=>Nat.le_refl _
 | .iff _ b c,k=>by
  have h1:=Rows.lbt_len b (k+1)
  have h2:=Rows.lbt_len c (k+1+b.cnt)
  simp only [Row.bt,Row.bl,List.length_append,List.length_cons,List.length_nil]
  split<;>split<;>(try simp only [List.length_nil])<;>omega
theorem Rows.lbt_len:∀ (rs:Rows) (k:Nat),(rs.lbt k).length<=rs.bl
 | .nil,k=>Nat.le_refl _
 | .cons r .nil,k=>by
  have:=Row.bt_len r k
  simp only [Rows.lbt,Rows.bl]
  omega
 | .cons r (.cons r' rs),k=>by
  have:=Rows.lbt_len (.cons r' rs) (k+r.cnt)
  simp only [Rows.lbt,Rows.bl] at this ⊢
  omega
end
mutual
noncomputable def Row.rws:Row->List Row
 | .leaf w ps=>[.leaf w ps]
 | .call b n as=>[.call b n as]
 | .wh e b=>.wh e b::b.rws
 | .iff e b c=>.iff e b c::(b.rws++c.rws)
noncomputable def Rows.rws:Rows->List Row
 | .nil=>[]
 | .cons r rs=>r.rws++rs.rws
end
mutual
theorem Row.rws_len:∀ r:Row,r.rws.length=r.cnt
 | .leaf _ _=>rfl
 | .call _ _ _=>rfl
 | .wh _ b=>by simp [Row.rws,Row.cnt,Rows.rws_len b]
 | .iff _ b c=>by simp [Row.rws,Row.cnt,Rows.rws_len b,Rows.rws_len c]
theorem Rows.rws_len:∀ rs:Rows,rs.rws.length=rs.cnt
 | .nil=>rfl
 | .cons r rs=>by simp [Rows.rws,Rows.cnt,Row.rws_len r,Rows.rws_len rs]
end
noncomputable abbrev rvs (l:List Row):List PV:=l.map Row.pv
theorem oN (l:List Row):(rvs l).length=l.length:=List.length_map _
noncomputable abbrev IE (X:PV) (acc:List PV) (o2 o3:Option Lc) (mu:Mu):Ev:=⟨[zS X,zO acc,o2,o3],mu⟩
noncomputable abbrev inX (n:Nat):SF:=mR 1 (aN (gD n) (aj (aa 3) ao))
noncomputable abbrev inB (n:Nat):SF:=aG (iR 1 (aa 2)) (fJ (fK (aN eQ (aj (aa 2) ao)) cD) (aD 3) (inX n))
theorem CK {n:Nat} {X:PV} {acc qs:List PV} {o2:Option Lc} {p:PV} {mu:Mu} (h:gD n [p] mu=some (.own (.lst qs),mu)) (hz:acc.length+qs.length<=100000):inX n (IE X acc o2 (zS p) mu)=some (.nx (IE X (acc++qs) o2 (zS p) mu)):=
 tQ (i:=1) (ws0:=acc) (ws:=acc) (ps:=qs) (l:=.own (.lst qs)) (ρ1:=IE X acc o2 (zS p) mu) rfl (aV (ls:=[.sh p]) (ps:=[p]) (ρ1:=IE X acc o2 (zS p) mu) rfl rfl rfl rfl h) rfl rfl hz rfl
theorem wX {n:Nat} {X:PV} {acc bs:List PV} {o3:Option Lc} {r:Row} {mu:Mu} {R:Option Fl} (hz:acc.length<1000) (hb:∀ mu,eQ [r.pv] mu=some (.own (.lst bs),mu)) (h:dh (aD 3) (inX n) bs (IE X (acc++[r.pv]) (zS r.pv) o3 mu)=R):inB n (IE X acc (zS r.pv) o3 mu)=R:=
 aJ (ρ':=IE X (acc++[r.pv]) (zS r.pv) o3 mu) (lV (i:=1) (ws0:=acc) (ws:=acc) (p:=r.pv) (l:=.sh r.pv) (ρ1:=IE X acc (zS r.pv) o3 mu) rfl rfl rfl rfl (by omega) rfl)
  (eN (xs:=bs) (ρ1:=IE X (acc++[r.pv]) (zS r.pv) o3 mu) (di (l:=.own (.lst bs)) (aV (ls:=[.sh r.pv]) (ps:=[r.pv]) (ρ1:=IE X (acc++[r.pv]) (zS r.pv) o3 mu) rfl rfl rfl rfl (hb _)) rfl) h)
theorem in_of {rs:Rows} {n:Nat} {mu:Mu} (h:∃ o2 o3,dh (aD 2) (inB n) rs.pvs (IE (.lst rs.pvs) [] none none mu)=some (.nx (IE (.lst rs.pvs) ([]++rvs rs.rws) o2 o3 mu))):gD (n+1) [.lst rs.pvs] mu=some (.own (.lst (rvs rs.rws)),mu):=by
 obtain ⟨o2,o3,h⟩:=h
 refine bj (ρ:=⟨[zL rs.pvs,none,o2,o3],mu⟩) ?_
 exact aJ (ρ':=IE (.lst rs.pvs) [] none none mu) rfl (aJ (eN (xs:=rs.pvs) (ρ1:=IE (.lst rs.pvs) [] none none mu) (di (l:=.sh (.lst rs.pvs)) rfl rfl) h) rfl)
mutual
theorem Tn:∀ (r:Row) (n:Nat) (X:PV) (acc:List PV) (o3:Option Lc) (mu:Mu),r.ok->r.dep<=n->acc.length+r.cnt<=1000->∃ p3,inB n (IE X acc (zS r.pv) o3 mu)=some (.nx (IE X (acc++rvs r.rws) (zS r.pv) p3 mu))
 | .leaf x ps,n,X,acc,o3,mu,ok,hd,hc=>by
  simp only [Row.cnt] at hc
  exact ⟨o3,wX (r:=.leaf x ps) (by omega) (fun mu=>nH ok.1.1 ok.1.2.1) rfl⟩
 | .call b m as,n,X,acc,o3,mu,ok,hd,hc=>by
  simp only [Row.cnt] at hc
  exact ⟨o3,wX (r:=.call b m as) (by omega) (fun mu=>nH (by decide +kernel) (by decide +kernel)) rfl⟩
 | .wh e b,n,X,acc,o3,mu,ok,hd,hc=>by
  simp only [Row.cnt] at hc
  simp only [Row.dep] at hd
  have hb:=Rows.dep_pos b
  obtain ⟨m,rfl⟩:∃ m,n=m+1:=⟨n-1,by omega⟩
  let r:Row:=.wh e b
  have ih:=in_of (n:=m) (mu:=mu) (qX b m (.lst b.pvs) [] none none mu ok.2 (by omega) (by simp only [List.length_nil]; omega))
  have st:=CK (n:=m+1) (X:=X) (acc:=acc++[r.pv]) (o2:=zS r.pv) (p:=.lst b.pvs) ih (by rw [oN,Rows.rws_len,List.length_append]; simp only [List.length_cons,List.length_nil]; omega)
  refine ⟨zL b.pvs,wX (r:=.wh e b) (by omega) (fun mu=>zg) ((Hk (ρ1:=IE X (acc++[r.pv]) (zS r.pv) (zL b.pvs) mu) rfl st).trans ?_)⟩
  simp only [Row.rws,List.append_assoc,List.cons_append,List.nil_append,rvs,List.map_cons]
  rfl
 | .iff e b c,n,X,acc,o3,mu,ok,hd,hc=>by
  simp only [Row.cnt] at hc
  simp only [Row.dep] at hd
  have hb:=Rows.dep_pos b
  obtain ⟨m,rfl⟩:∃ m,n=m+1:=⟨n-1,by omega⟩
  let r:Row:=.iff e b c
  have ih:=in_of (n:=m) (mu:=mu) (qX b m (.lst b.pvs) [] none none mu ok.2.1 (by omega) (by simp only [List.length_nil]; omega))
  have ih2:=in_of (n:=m) (mu:=mu) (qX c m (.lst c.pvs) [] none none mu ok.2.2 (by omega) (by simp only [List.length_nil]; omega))
  have st:=CK (n:=m+1) (X:=X) (acc:=acc++[r.pv]) (o2:=zS r.pv) (p:=.lst b.pvs) ih (by rw [oN,Rows.rws_len,List.length_append]; simp only [List.length_cons,List.length_nil]; omega)
  have st2:=CK (n:=m+1) (X:=X) (acc:=acc++[r.pv]++rvs b.rws) (o2:=zS r.pv) (p:=.lst c.pvs) ih2 (by rw [oN,Rows.rws_len,List.length_append,List.length_append,oN,Rows.rws_len]; simp only [List.length_cons,List.length_nil]; omega)
  refine ⟨zL c.pvs,wX (r:=.iff e b c) (by omega) (fun mu=>zj) ((CG (ρ1:=IE X (acc++[r.pv]) (zS r.pv) (zL b.pvs) mu) (ρ3:=IE X (acc++[r.pv]++rvs b.rws) (zS r.pv) (zL c.pvs) mu) rfl st rfl st2).trans ?_)⟩
  simp only [Row.rws,List.append_assoc,List.cons_append,List.nil_append,rvs,List.map_cons,List.map_append]
  rfl
theorem qX:∀ (rs:Rows) (n:Nat) (X:PV) (acc:List PV) (o2 o3:Option Lc) (mu:Mu),rs.ok->rs.dep<=n+1->acc.length+rs.cnt<=1000->∃ p2 p3,dh (aD 2) (inB n) rs.pvs (IE X acc o2 o3 mu)=some (.nx (IE X (acc++rvs rs.rws) p2 p3 mu))
 | .nil,n,X,acc,o2,o3,mu,ok,hd,hc=>⟨o2,o3,by simp [Rows.pvs,dh,Rows.rws,rvs]⟩
 | .cons r rs,n,X,acc,o2,o3,mu,ok,hd,hc=>by
  simp only [Rows.dep] at hd
  simp only [Rows.cnt] at hc
  obtain ⟨q3,e1⟩:=Tn r n X acc o3 mu ok.1 (by omega) (by omega)
  obtain ⟨p2,p3,e2⟩:=qX rs n X (acc++rvs r.rws) (zS r.pv) q3 mu ok.2 (by omega) (by rw [List.length_append,oN,Row.rws_len]; omega)
  refine ⟨p2,p3,eZ (ρ1:=IE X acc (zS r.pv) o3 mu) rfl e1 (e2.trans ?_)⟩
  simp only [Rows.rws,rvs,List.map_append,List.append_assoc]
end
noncomputable def hot:PV->Bool
 | .tup (.str s::_)=>(("while" : Str)==s||(("call" : Str)==s||false))
 | _=>false
theorem qY {a b:Str} (h:(a==b)=false):(b==a)=false:=by
 rw [beq_eq_false_iff_ne] at h ⊢
 exact fun q=>h q.symm
mutual
theorem Row.hots:∀ r:Row,r.ok->(rvs r.rws).any hot=r.sp
 | .leaf w ps,ok=>by
  obtain ⟨⟨_,h2,h3⟩,_⟩:=ok
  show ((("while" : Str)==w||(("call" : Str)==w||false))||false)=false
  rw [qY h2,qY h3]
  rfl
 | .call b n as,ok=>by
  show ((("while" : Str) == "call" || (("call" : Str) == "call" || false))||false)=true
  decide +kernel
 | .wh e b,ok=>by
  show ((("while" : Str) == "while" || (("call" : Str) == "while" || false))||(rvs b.rws).any hot)=true
  rw [show (("while" : Str) == "while")=true by decide +kernel]
  rfl
 | .iff e b c,ok=>by
  show ((("while" : Str) == "if" || (("call" : Str) == "if" || false))||(rvs (b.rws++c.rws)).any hot)=(b.sp||c.sp)
  rw [show (("while" : Str) == "if" || (("call" : Str) == "if" || false))=false by decide +kernel,Bool.false_or,rvs,List.map_append,List.any_append,Rows.hots b ok.2.1,Rows.hots c ok.2.2]
theorem Rows.hots:∀ rs:Rows,rs.ok->(rvs rs.rws).any hot=rs.sp
 | .nil,_=>rfl
 | .cons r rs,ok=>by
  show (rvs (r.rws++rs.rws)).any hot=(r.sp||rs.sp)
  rw [rvs,List.map_append,List.any_append,Row.hots r ok.1,Rows.hots rs ok.2]
end
theorem pF {α:Type} (f:α->Bool):∀ cs:List α,boolsOf (cs.map fun c=>.bl (f c))=some (cs.map f)
 | []=>rfl
 | c::cs=>by
  show (boolsOf (cs.map fun c=>.bl (f c))).map _=_
  rw [pF f cs]
  rfl
theorem Row.head (r:Row):∃ w t,r.pv=.tup (.str w::t):=by cases r<;>exact ⟨_,_,rfl⟩
theorem JD {mu:Mu} {r:Row} (ok:r.ok) (hd:r.dep<=38) (hc:r.cnt<=900):pC [r.pv] mu=some (.sh (.bl r.sp),mu):=by
 have o:gD 40 [.lst [r.pv]] mu=some (.own (.lst (rvs (Rows.cons r .nil).rws)),mu):=in_of (rs:=.cons r .nil) (qX (.cons r .nil) 39 _ [] none none mu ⟨ok,True.intro⟩ (by simp only [Rows.dep]; omega) (by simp only [Rows.cnt,List.length_nil]; omega))
 let L:=rvs (Rows.cons r .nil).rws
 have hL:L.length<=1000:=by simp only [L,oN,Rows.rws_len,Rows.cnt]; omega
 have c:cI (aD 0) bH (aq lH (aM (aa 0) (eC (.int 0))) (bc (aj (eC (.str "while")) (aj (eC (.str "call")) ao)))) L ⟨[none],mu⟩ []=some (L.map fun q=>.bl (hot q),mu):=by
  refine yU (fun ρ=>∃ o,ρ=⟨[o],mu⟩) (fun ρ ⟨o,e⟩=>by rw [e]) (fun q=>.bl (hot q)) ⟨none,rfl⟩ (by omega) ?_ ?_
  . rintro x hx ρ ⟨o,rfl⟩
    obtain ⟨y,_,rfl⟩:=List.mem_map.mp hx
    obtain ⟨s,t,ey⟩:=y.head
    rw [ey]
    refine ⟨_,rfl,.sh (.bl (hot (.tup (.str s::t)))),⟨[zS (.tup (.str s::t))],mu⟩,?_,rfl,_,rfl⟩
    refine gk w0 rfl (m:=.sh (.tup [.str "while",.str "call"])) rfl rfl ?_
    show ((xQ (dF 150) (.str s) [.str "while",.str "call"]).map _)=_
    rfl
  . rintro y hy ρ ρ1 ⟨o,rfl⟩ h
    cases h
    exact ⟨_,rfl⟩
 refine bj (ρ:=⟨[zS r.pv],mu⟩) (gn ?_)
 refine j8 (ps:=[.lst (L.map fun q=>.bl (hot q))]) (aC (l:=.own (.lst (L.map fun q=>.bl (hot q)))) ((eY (ρ1:=⟨[zS r.pv],mu⟩) (Jk (l:=.own (.lst L)) (aV (ps:=[.lst [r.pv]]) (aC (wz (ls:=[.sh r.pv]) (aC rfl rfl) rfl rfl) rfl) rfl rfl rfl o) rfl rfl) c).trans rfl) rfl) rfl ?_
 show ((boolsOf (L.map fun q=>.bl (hot q))).map _)=_
 rw [pF,Option.map_some]
 have e:L.any hot=r.sp:=by
  have:=Rows.hots (.cons r .nil) ⟨ok,True.intro⟩
  rw [show (Rows.cons r .nil).sp=(r.sp||false) from rfl,Bool.or_false] at this
  exact this
 rw [← e]
 simp [List.any_map]
noncomputable abbrev bQ (l:List Nat):List PV:=l.map fun (i:Nat)=>PV.int (i:Nat)
noncomputable abbrev SD:=List (List b7×List Nat)
noncomputable def gP (K:List b7) (i:Nat):SD->SD
 | []=>[(K,[i])]
 | x::r=>if x.1=K then (x.1,x.2++[i])::r else x::gP K i r
noncomputable def j7:SD->List b7->Option (List Nat)
 | [],_=>none
 | x::r,K=>if x.1=K then some x.2 else j7 r K
noncomputable def pz:Nat->SD->S7
 | _,[]=>[]
 | N,x::r=>(x.1,.ptr N)::pz (N+1) r
noncomputable abbrev dJ (S:SD):Mu:=S.map fun x=>some (.lst (bQ x.2))
theorem JF:∀ (N:Nat) (S:SD),(pz N S).length=S.length
 | _,[]=>rfl
 | N,x::r=>by simp [pz,JF]
theorem Tp:∀ l:S7,(l.map (·.1)).zip (l.map (·.2))=l
 | []=>rfl
 | x::r=>by rw [List.map_cons,List.map_cons,List.zip_cons_cons,Tp r]
theorem JG:∀ {S:SD} {N i:Nat} {K:List b7},j7 S K=none->jG (pz N S) K=none/\gP K i S=S++[(K,[i])]/\pz N (gP K i S)=pz N S++[(K,.ptr (N+S.length))]
 | [],N,i,K,_=>⟨rfl,rfl,rfl⟩
 | x::r,N,i,K,h=>by
  unfold j7 at h
  split at h
  . cases h
  . rename_i hx
    obtain ⟨h1,h2,h3⟩:=JG (N:=N+1) (i:=i) h
    refine ⟨?_,?_,?_⟩
    . show (if x.1=K then _ else _)=_
      rw [if_neg hx]; exact h1
    . show (if x.1=K then _ else _)=_
      rw [if_neg hx,h2]; rfl
    . unfold gP
      rw [if_neg hx]
      show (x.1,PV.ptr N)::pz (N+1) (gP K i r)=_
      rw [h3,show N+1+r.length=N+(x::r).length by simp only [List.length_cons]; omega]
      rfl
theorem JH:∀ {S:SD} {N i:Nat} {K:List b7} {l:List Nat},j7 S K=some l->∃ j,jG (pz N S) K=some (.ptr (N+j))/\(dJ S)[j]?=some (some (.lst (bQ l)))/\(dJ S).set j (some (.lst (bQ (l++[i]))))=dJ (gP K i S)/\pz N (gP K i S)=pz N S
 | [],N,i,K,l,h=>by cases h
 | x::r,N,i,K,l,h=>by
  unfold j7 at h
  split at h
  . rename_i hx
    cases h
    refine ⟨0,?_,rfl,?_,?_⟩
    . show (if x.1=K then _ else _)=_
      rw [if_pos hx]; rfl
    . unfold gP
      rw [if_pos hx]; rfl
    . unfold gP
      rw [if_pos hx]; rfl
  . rename_i hx
    obtain ⟨j,h1,h2,h3,h4⟩:=JH (N:=N+1) (i:=i) h
    refine ⟨j+1,?_,?_,?_,?_⟩
    . show (if x.1=K then _ else _)=_
      rw [if_neg hx,h1,show N+1+j=N+(j+1) by omega]
    . simpa using h2
    . unfold gP
      rw [if_neg hx]
      show _::(dJ r).set j _=_::dJ (gP K i r)
      rw [h3]
    . unfold gP
      rw [if_neg hx]
      show (x.1,PV.ptr N)::pz (N+1) (gP K i r)=_
      rw [h4]
      rfl
theorem Tq {S:SD} {i:Nat} {K K':List b7}:(j7 (gP K' i S) K).getD []=(j7 S K).getD []++if K'=K then [i] else []:=by
 induction S with
 | nil=>
  show (if K'=K then some [i] else none).getD []=[]++_
  split<;>rfl
 | cons x r ih=>
  unfold gP
  by_cases hx:x.1=K'
  . rw [if_pos hx]
    show (if x.1=K then some (x.2++[i]) else j7 r K).getD []=(if x.1=K then some x.2 else j7 r K).getD []++_
    by_cases h:x.1=K
    . rw [if_pos h,if_pos h,if_pos (hx▸h)]; rfl
    . rw [if_neg h,if_neg h,if_neg (fun q=>h (hx.trans q)),List.append_nil]
  . rw [if_neg hx]
    show (if x.1=K then some x.2 else j7 (gP K' i r) K).getD []=(if x.1=K then some x.2 else j7 r K).getD []++_
    by_cases h:x.1=K
    . rw [if_pos h,if_pos h,if_neg (fun q=>hx (h.trans q.symm)),List.append_nil]
    . rw [if_neg h,if_neg h]
      exact ih
noncomputable def qb:Nat->List Ent->SD->SD
 | _,[],S=>S
 | i,e::es,S=>qb (i+1) es (gP e.key i S)
theorem Fq {K:List b7}:∀ (es:List Ent) (i:Nat) (S:SD),(j7 (qb i es S) K).getD []=(j7 S K).getD []++pos K i es
 | [],i,S=>(List.append_nil _).symm
 | e::es,i,S=>by
  show (j7 (qb (i+1) es (gP e.key i S)) K).getD []=_++if e.key=K then i::pos K (i+1) es else pos K (i+1) es
  rw [Fq es,Tq,List.append_assoc]
  split<;>rfl
theorem CP {K:List b7} {i:Nat}:∀ S:SD,(gP K i S).length<=S.length+1
 | []=>Nat.le_refl _
 | x::r=>by
  unfold gP
  split
  . simp
  . have:=CP (K:=K) (i:=i) r
    simp only [List.length_cons]
    omega
noncomputable def Short (m:Nat) (S:SD):Prop:=∀ x∈S,x.2.length<=m
theorem Short.put {m i:Nat} {K:List b7}:∀ {S:SD},Short m S->Short (m+1) (gP K i S)
 | [],_,x,hx=>by
  rw [List.mem_singleton.mp hx]
  simp
 | y::r,h,x,hx=>by
  unfold gP at hx
  split at hx
  . rcases List.mem_cons.mp hx with rfl | hx
    . have:=h y List.mem_cons_self
      simp only [List.length_append,List.length_cons,List.length_nil]
      omega
    . have:=h x (List.mem_cons_of_mem _ hx)
      omega
  . rcases List.mem_cons.mp hx with rfl | hx
    . have:=h x List.mem_cons_self
      omega
    . exact Short.put (fun z hz=>h z (List.mem_cons_of_mem _ hz)) x hx
theorem JK:∀ {S:SD} {K:List b7} {l:List Nat},j7 S K=some l->∃ x∈S,x.2=l
 | [],K,l,h=>by cases h
 | y::r,K,l,h=>by
  unfold j7 at h
  split at h
  . cases h; exact ⟨y,List.mem_cons_self,rfl⟩
  . obtain ⟨x,hx,e⟩:=JK h
    exact ⟨x,List.mem_cons_of_mem _ hx,e⟩
theorem Ft:∀ (S:SD) (A:Mu),meltL (A++dJ S) ((pz A.length S).map (·.2))=some (S.map fun x=>.lst (bQ x.2),A++S.map fun _=>none)
 | [],A=>by simp [pz,meltL]
 | x::r,A=>by
  have ih:=Ft r (A++[none])
  rw [List.length_append] at ih
  have e1:(A++dJ (x::r))[A.length]?=some (some (.lst (bQ x.2))):=by
   rw [List.getElem?_append_right (Nat.le_refl _),Nat.sub_self]; rfl
  have e2:(A++dJ (x::r)).set A.length none=(A++[none])++dJ r:=by
   rw [List.set_append_right _ _ (Nat.le_refl _),Nat.sub_self,List.append_assoc]; rfl
  show meltL (A++dJ (x::r)) (.ptr A.length::(pz (A.length+1) r).map (·.2))=_
  unfold meltL
  rw [e1]
  dsimp only
  rw [e2,show A.length+1=A.length+[(none:Option PV)].length from rfl,ih,Option.map_some]
  simp
theorem NT:∀ (S:SD) (N:Nat) (K:List b7),jG (((pz N S).map (·.1)).zip (S.map fun x=>PV.lst (bQ x.2))) K=(j7 S K).map fun l=>.lst (bQ l)
 | [],N,K=>rfl
 | x::r,N,K=>by
  show (if x.1=K then some (PV.lst (bQ x.2)) else jG (((pz (N+1) r).map (·.1)).zip (r.map fun x=>PV.lst (bQ x.2))) K)=(if x.1=K then some x.2 else j7 r K).map _
  by_cases h:x.1=K
  . rw [if_pos h,if_pos h]; rfl
  . rw [if_neg h,if_neg h]; exact NT r (N+1) K
noncomputable def uf:Nat->List PV->List PV
 | _,[]=>[]
 | i,p::ps=>.tup [.int (i:Nat),p]::uf (i+1) ps
theorem JL:∀ (ps:List PV) (i:Nat),(ps.zipIdx i).map (fun x=>PV.tup [.int (x.2:Nat),x.1])=uf i ps
 | [],i=>rfl
 | p::ps,i=>by
  rw [List.zipIdx_cons,List.map_cons,JL ps (i+1)]
  rfl
theorem vJ (ps:List PV):oA ps=uf 0 ps:=JL ps 0
section
variable [HK]
noncomputable abbrev mC (N:Nat) (S:SD):PV:=.dx HK.hk ((pz N S).map (·.1)) ((pz N S).map (·.2))
noncomputable abbrev AE (o0 o1 o2 o3 o4 o5 o6 o7 o8 o9 o10:Option Lc) (mu:Mu):Ev:=⟨[o0,o1,o2,o3,o4,o5,o6,o7,o8,o9,o10],mu⟩
noncomputable abbrev Vh:SF:=lg (uD 3 (lB (aa 5) fH (bU (eC (.int 3))))) (aa 4)
theorem JM {e:Ent} (ha:e.ab=.non\/∃ j:Nat,e.ab=.int j):pA [.str e.w,e.ab,.int e.bl]=some e.key:=by
 unfold Ent.key
 rcases ha with h | ⟨j,h⟩<;>rw [h]<;>rfl
open Classical in
theorem Qi {e:Ent} {i:Nat} {S:SD} {A:Mu} {o0 o1 o2 o6 o7 o8 o9 o10:Option Lc} (ha:e.ab=.non\/∃ j:Nat,e.ab=.int j) (hS:S.length<=1000) (hs:Short 1000 S):
 Vh (AE o0 o1 o2 (some (.own (mC A.length S))) (zI (i:Nat)) (zS e.pv) o6 o7 o8 o9 o10 (A++dJ S))=some (.nx (AE o0 o1 o2 (some (.own (mC A.length (gP e.key i S)))) (zI (i:Nat)) (zS e.pv) o6 o7 o8 o9 o10 (A++dJ (gP e.key i S)))):=by
 let E:=AE o0 o1 o2 (some (.own (mC A.length S))) (zI (i:Nat)) (zS e.pv) o6 o7 o8 o9 o10 (A++dJ S)
 have hk:lB (aa 5) fH (bU (eC (.int 3))) E=some (.sh (.tup [.str e.w,e.ab,.int e.bl]),E):=rfl
 have set:uD 3 (lB (aa 5) fH (bU (eC (.int 3)))) E=(match jG (pz A.length S) e.key with
  | some p=>some (.sh p,E)
  | none=>some (.sh (.ptr (A++dJ S).length),⟨E.vs.set 3 (some (.own (.dx HK.hk ((pz A.length S).map (·.1)++[e.key]) ((pz A.length S).map (·.2)++[.ptr (A++dJ S).length])))),(A++dJ S)++[some (.lst [])]⟩)):=by
  unfold uD
  rw [show E.vs[3]?=some (some (.own (mC A.length S))) from rfl]
  dsimp only
  rw [hk,Option.bind_some]
  show ((pA [.str e.w,e.ab,.int e.bl]).bind _)=_
  rw [JM ha,Option.bind_some,if_pos ⟨rfl,by rw [List.length_map,JF]; omega⟩,Tp]
  all_goals (cases jG (pz A.length S) e.key<;>rfl)
 cases h:j7 S e.key with
 | none=>
  obtain ⟨h1,h2,h3⟩:=JG (N:=A.length) (i:=i) h
  rw [h1] at set
  have hl:(A++dJ S).length=A.length+S.length:=by rw [List.length_append,List.length_map]
  refine (qT set rfl (n:=(A++dJ S).length) (ws0:=[]) (ws:=[]) (p:=.int (i:Nat)) ?_ (y:=.sh (.int (i:Nat))) (ρ2:=⟨E.vs.set 3 (some (.own (.dx HK.hk ((pz A.length S).map (·.1)++[e.key]) ((pz A.length S).map (·.2)++[.ptr (A++dJ S).length])))),(A++dJ S)++[some (.lst [])]⟩) rfl rfl ?_ (by simp) rfl).trans ?_
  . show ((A++dJ S)++[some (PV.lst [])])[(A++dJ S).length]?=_
    rw [List.getElem?_append_right (Nat.le_refl _),Nat.sub_self]; rfl
  . show ((A++dJ S)++[some (PV.lst [])])[(A++dJ S).length]?=_
    rw [List.getElem?_append_right (Nat.le_refl _),Nat.sub_self]; rfl
  . show some (Fl.nx ⟨_,((A++dJ S)++[some (PV.lst [])]).set (A++dJ S).length _⟩)=_
    rw [List.set_append_right _ _ (Nat.le_refl _),Nat.sub_self,mC,h3,h2,List.map_append,List.map_append,hl,show dJ (S++[(e.key,[i])])=dJ S++[some (.lst (bQ [i]))] from List.map_append,← List.append_assoc]
    rfl
 | some l=>
  obtain ⟨j,h1,h2,h3,h4⟩:=JH (N:=A.length) (i:=i) h
  rw [h1] at set
  obtain ⟨x,hx,ex⟩:=JK h
  have hl:=hs x hx
  have g:(A++dJ S)[A.length+j]?=some (some (.lst (bQ l))):=by
   rw [List.getElem?_append_right (by omega),show A.length+j-A.length=j by omega]; exact h2
  refine (qT set rfl (n:=A.length+j) (ws0:=bQ l) (ws:=bQ l) (p:=.int (i:Nat)) g (y:=.sh (.int (i:Nat))) (ρ2:=E) rfl rfl g (by rw [List.length_map,← ex]; omega) rfl).trans ?_
  show some (Fl.nx ⟨_,(A++dJ S).set (A.length+j) _⟩)=_
  rw [List.set_append_right _ _ (by omega),show A.length+j-A.length=j by omega,show bQ l++[PV.int (i:Nat)]=bQ (l++[i]) by simp [bQ],h3,mC,h4]
theorem Fv {A:Mu} {o0 o1 o2 o6 o7 o8 o9 o10:Option Lc}:∀ (es:List Ent) (i:Nat) (S:SD) (o4 o5:Option Lc),(∀ e∈es,e.ab=.non\/∃ j:Nat,e.ab=.int j)->S.length+es.length<=1000->∀ m,Short m S->m+es.length<=1000->
 ∃ p4 p5,dh (iG 2 (bh (aD 4) (bh (aD 5) iD))) Vh (uf i (evs es)) (AE o0 o1 o2 (some (.own (mC A.length S))) o4 o5 o6 o7 o8 o9 o10 (A++dJ S))=some (.nx (AE o0 o1 o2 (some (.own (mC A.length (qb i es S)))) p4 p5 o6 o7 o8 o9 o10 (A++dJ (qb i es S))))
 | [],i,S,o4,o5,_,_,m,_,_=>⟨o4,o5,rfl⟩
 | e::es,i,S,o4,o5,ha,hl,m,hs,hm=>by
  simp only [List.length_cons] at hl hm
  have hp:=CP (K:=e.key) (i:=i) S
  obtain ⟨p4,p5,ih⟩:=Fv (A:=A) (o0:=o0) (o1:=o1) (o2:=o2) (o6:=o6) (o7:=o7) (o8:=o8) (o9:=o9) (o10:=o10) es (i+1) (gP e.key i S) (zI (i:Nat)) (zS e.pv) (fun x hx=>ha x (List.mem_cons_of_mem _ hx)) (by omega) (m+1) hs.put (by omega)
  exact ⟨p4,p5,eZ (ρ1:=AE o0 o1 o2 (some (.own (mC A.length S))) (zI (i:Nat)) (zS e.pv) o6 o7 o8 o9 o10 (A++dJ S)) rfl (Qi (ha e List.mem_cons_self) (by omega) fun x hx=>by have:=hs x hx; omega) ih⟩
end
theorem NZ {α β:Type}:∀ l:List (α×β),(l.map (·.1)).zip (l.map (·.2))=l
 | []=>rfl
 | x::r=>by rw [List.map_cons,List.map_cons,List.zip_cons_cons,NZ r]
theorem yj {C f:Str} {fo fv:EF} {ρ ρ1 ρ2:Ev} {y x:Lc} {p:PV} {n:Nat} {l:FD} (h1:fv ρ=some (y,ρ1)) (hy:y.pv=p) (h2:fo ρ1=some (x,ρ2)) (hx:x.pv=.ptr n) (hm:ρ2.mu[n]?=some (some (eO C l))) (hl:l.length<1000):uC C f fo fv ρ=some (.nx ⟨ρ2.vs,ρ2.mu.set n (some (eO C (nC f p l)))⟩):=by
 unfold uC
 rw [h1,Option.bind_some,h2,Option.bind_some,hx]
 dsimp only
 rw [hm]
 unfold eO
 dsimp only
 rw [if_pos ⟨rfl,by rw [List.length_map]; exact hl⟩,NZ,hy]
theorem CQ {C f:Str} {fo:EF} {ρ ρ1:Ev} {x:Lc} {p:PV} {n:Nat} {l:FD} (h2:fo ρ=some (x,ρ1)) (hx:x.pv=.ptr n) (hm:ρ1.mu[n]?=some (some (eO C l))) (hp:nA l f=some p):qt C f fo ρ=some (.sh p,ρ1):=by
 unfold qt
 rw [h2,Option.bind_some,hx]
 dsimp only
 rw [hm]
 unfold eO
 dsimp only
 rw [if_pos rfl,NZ,hp]
 rfl
theorem uG {C m:Str} {g:GF} {fo:EF} {a:AF} {ρ ρ1 ρ2:Ev} {x:Lc} {ls:List Lc} {n:Nat} {l:FD} {r:Lc} {mu2:Mu} {ps:List PV} (h1:fo ρ=some (x,ρ1)) (hx:x.pv=.ptr n) (hm:ρ1.mu[n]?=some (some (eO C l))) (hc:(l.map (·.1)).contains m=false) (h2:a ρ1=some (ls,ρ2)) (hps:ls.map Lc.pv=ps) (h3:g (.ptr n::ps) ρ2.mu=some (r,mu2)):jk C m g fo a ρ=some (r,⟨ρ2.vs,mu2⟩):=by
 unfold jk
 rw [h1,Option.bind_some,hx]
 dsimp only
 rw [hm]
 unfold eO
 dsimp only
 rw [if_pos ⟨rfl,hc⟩,h2,Option.bind_some,hps,h3]
 rfl
theorem Qj {C:Str} {g:GF} {a:AF} {ρ ρ1:Ev} {ls:List Lc} {ps:List PV} {mu2:Mu} (h:a ρ=some (ls,ρ1)) (hps:ls.map Lc.pv=ps) (h2:g (.ptr ρ1.mu.length::ps) (ρ1.mu++[some (eO C [])])=some (.sh .non,mu2)):wK C g a ρ=some (.sh (.ptr ρ1.mu.length),⟨ρ1.vs,mu2⟩):=by
 unfold wK
 rw [h,Option.bind_some,hps]
 rw [show g (.ptr ρ1.mu.length::ps) (ρ1.mu++[some (.obj C [] [])])=_ from h2]
 rfl
theorem zm {k:Key} {v:PV}:∀ l:PD,(wC k v l).length=l.length
 | []=>rfl
 | x::r=>by simp [wC,zm r]
theorem Mm {k:Key} {v:PV} {l:PD}:(rR l k v).length<=l.length+1:=by
 unfold rR
 split
 . rw [zm]; omega
 . simp
section
variable [HK]
noncomputable abbrev Tr:EF:=du (fK (aa 9) cD) 2 [] (iG 2 (bh (aD 0) (bh (aD 1) iD))) bH (aa 0)
theorem Fw {mu:Mu}:∀ (xs:List Str) (o0 o1:Option Lc) (acc:List PV),acc.length+xs.length<=1000->cI (iG 2 (bh (aD 0) (bh (aD 1) iD))) bH (aa 0) (xs.map fun x=>.tup [.str x,.non]) ⟨[o0,o1],mu⟩ acc=some (acc++xs.map PV.str,mu)
 | [],o0,o1,acc,_=>by simp [cI]
 | x::xs,o0,o1,acc,h=>by
  simp only [List.length_cons] at h
  refine eV (ρ1:=⟨[zT x,some (.sh .non)],mu⟩) (l:=.sh (.str x)) (ρ2:=⟨[zT x,some (.sh .non)],mu⟩) rfl rfl (by omega) ((Fw xs _ _ (acc++[.str x]) (by rw [List.length_append]; simp only [List.length_cons,List.length_nil]; omega)).trans ?_)
  simp
theorem Qk {f:Fn} {d:PD} {o0 o1 o2 o3 o4 o5 o8 o10:Option Lc} {mu:Mu} (hp:∃ xs:List Str,f.params=xs.map (fun x=>.tup [.str x,.non])/\xs.length<=100) (hd:d.length<=1000):∃ p,
 wD 6 (aa 7) Tr (AE o0 o1 o2 o3 o4 o5 (some (.own (lX d))) (zT f.name) o8 (zL f.params) o10 mu)=some (.nx (AE o0 o1 o2 o3 o4 o5 (some (.own (lX (rR d (.inr f.name) p)))) (zT f.name) o8 (zL f.params) o10 mu)):=by
 obtain ⟨xs,e,hl⟩:=hp
 let E:=AE o0 o1 o2 o3 o4 o5 (some (.own (lX d))) (zT f.name) o8 (zL f.params) o10 mu
 refine ⟨.lst (xs.map PV.str),?_⟩
 have c:Tr E=some (.own (.lst (xs.map PV.str)),E):=eY (ρ1:=E) (xs:=f.params) (di (l:=.sh (.lst f.params)) rfl rfl) (by rw [e]; exact Fw xs none none [] (by simp only [List.length_nil]; omega))
 unfold wD
 rw [c,Option.bind_some]
 show (if (d.map (·.1)).length<100000 then _ else _)=_
 rw [if_pos (by rw [List.length_map]; omega),NZ]
 rfl
theorem Fx {o0 o1 o2 o3 o4 o5:Option Lc} {mu:Mu}:∀ (fs:List Fn) (d:PD) (o7 o8 o9 o10:Option Lc),(∀ f∈fs,∃ xs:List Str,f.params=xs.map (fun x=>.tup [.str x,.non])/\xs.length<=100)->d.length+fs.length<=1000->
 ∃ d' p7 p8 p9 p10,dh (iG 4 (bh (aD 7) (bh (aD 8) (bh (aD 9) (bh (aD 10) iD))))) (wD 6 (aa 7) Tr) (fs.map Fn.pv) (AE o0 o1 o2 o3 o4 o5 (some (.own (lX d))) o7 o8 o9 o10 mu)=some (.nx (AE o0 o1 o2 o3 o4 o5 (some (.own (lX d'))) p7 p8 p9 p10 mu))
 | [],d,o7,o8,o9,o10,_,_=>⟨d,o7,o8,o9,o10,rfl⟩
 | f::fs,d,o7,o8,o9,o10,h,hl=>by
  simp only [List.length_cons] at hl
  obtain ⟨p,st⟩:=Qk (f:=f) (d:=d) (o0:=o0) (o1:=o1) (o2:=o2) (o3:=o3) (o4:=o4) (o5:=o5) (o8:=zS f.rank) (o10:=zL f.rows.pvs) (mu:=mu) (h f List.mem_cons_self) (by omega)
  have hp:=Mm (k:=.inr f.name) (v:=p) (l:=d)
  obtain ⟨d',p7,p8,p9,p10,ih⟩:=Fx (o0:=o0) (o1:=o1) (o2:=o2) (o3:=o3) (o4:=o4) (o5:=o5) (mu:=mu) fs (rR d (.inr f.name) p) (zT f.name) (zS f.rank) (zL f.params) (zL f.rows.pvs) (fun x hx=>h x (List.mem_cons_of_mem _ hx)) (by omega)
  exact ⟨d',p7,p8,p9,p10,eZ (ρ1:=AE o0 o1 o2 o3 o4 o5 (some (.own (lX d))) (zT f.name) (zS f.rank) (zL f.params) (zL f.rows.pvs) mu) rfl st ih⟩
noncomputable abbrev LX (N:Nat) (S:SD):PV:=.dx HK.hk ((pz N S).map (·.1)) (S.map fun x=>.lst (bQ x.2))
noncomputable abbrev JN (es:List Ent) (N:Nat) (hd:PV):FD:=[("told",.lst (evs es)),("lists",LX N (qb 0 es [])),("heads",hd)]
theorem UW (P:Pg):∀ e∈P.es,e.ab=.non\/∃ j:Nat,e.ab=.int j:=by
 have f:∀ (fs:List Fn) (k:Nat),∀ e∈n6 fs k,e.ab=.non\/∃ j:Nat,e.ab=.int j:=by
  intro fs
  induction fs with
  | nil=>intro k e he; cases he
  | cons f fs ih=>
   intro k e he
   rcases List.mem_append.mp he with he | he
   . exact (Rows.abs f.rows f.name .non 0 k e he).num (k:=0) (.inl rfl)
   . exact ih _ e he
 intro e he
 rcases List.mem_append.mp he with he | he
 . exact f _ _ e he
 . exact (Rows.abs P.rows "main" .non 0 _ e he).num (k:=0) (.inl rfl)
theorem es_len (P:Pg):P.es.length=cY P.fns+P.rows.cnt:=by
 unfold Pg.es
 rw [List.length_append,uE,Rows.es_len]
theorem Hl {α:Type} {A B:List α} {x:α}:(A++x::B)[A.length]?=some x:=by rw [List.getElem?_append_right (Nat.le_refl _),Nat.sub_self]; rfl
theorem Hm {α:Type} {A B:List α} {x y:α}:(A++x::B).set A.length y=A++y::B:=by rw [List.set_append_right _ _ (Nat.le_refl _),Nat.sub_self]; rfl
theorem Ql {P:Pg} (ok:P.ok) (A:Mu):∃ hd B,jr [.ptr A.length,P.pv] (A++[some (eO "Plan" [])])=some (.sh .non,A++some (eO "Plan" (JN P.es (A.length+1) hd))::B):=by
 have hc:=ok.ct
 have hlen:=es_len P
 let A1:Mu:=A++[some (eO "Plan" [])]
 have hA1:A1.length=A.length+1:=by simp [A1]
 let S:=qb 0 P.es []
 let o0:Option Lc:=zS (.ptr A.length)
 let o1:Option Lc:=zS P.pv
 let o2:Option Lc:=zL (evs P.es)
 obtain ⟨p4,p5,e1⟩:=Fv (A:=A1) (o0:=o0) (o1:=o1) (o2:=o2) (o6:=none) (o7:=none) (o8:=none) (o9:=none) (o10:=none) P.es 0 [] none none (UW P) (by simp only [List.length_nil]; omega) 0 (fun x hx=>by cases hx) (by omega)
 obtain ⟨d,p7,p8,p9,p10,e2⟩:=Fx (o0:=o0) (o1:=o1) (o2:=o2) (o3:=some (.own (mC A1.length S))) (o4:=p4) (o5:=p5) (mu:=A1++dJ S) P.fns [] none none none none ok.pm (by have:=ok.fl; simp only [List.length_nil]; omega)
 have n1:=DX (mu:=A1) ok
 let T:PV:=.lst (evs P.es)
 let A2:Mu:=A++[some (eO "Plan" [("told",T)])]
 let B:Mu:=S.map fun _=>none
 have hA2:A2.length=A1.length:=by simp [A1,A2]
 have hm:=Ft S A2
 rw [hA2] at hm
 let Q:=AE o0 o1 o2 (some (.own (mC A1.length S))) p4 p5 (some (.own (lX d))) p7 p8 p9 p10
 let Q2:=AE o0 o1 o2 (zS (mC A1.length S)) p4 p5 (some (.own (lX d))) p7 p8 p9 p10
 let Q3:=AE o0 o1 o2 (zS (mC A1.length S)) p4 p5 (zS (lX d)) p7 p8 p9 p10
 refine ⟨lX d,B,?_⟩
 have run:∀ {g:SF} {ρ1:Ev},g (env0 11 [.ptr A.length,P.pv] A1)=some (.nx ρ1)->dY 11 g [.ptr A.length,P.pv] A1=some (.sh .non,ρ1.mu):=fun h=>Qe h
 refine run (ρ1:=Q3 (A++some (eO "Plan" (JN P.es (A.length+1) (lX d)))::B)) ?_
 refine aJ (ρ':=AE o0 o1 (some (.own T)) none none none none none none none none A1) (bu (l:=.own T) (ρ1:=AE o0 o1 none none none none none none none none none A1) (aV (ls:=[.sh P.pv]) (ps:=[P.pv]) (ρ1:=AE o0 o1 none none none none none none none none none A1) rfl rfl rfl rfl n1) rfl rfl) ?_
 refine aJ (ρ':=AE o0 o1 (some (.own T)) (some (.own (mC A1.length []))) none none none none none none none A1) rfl ?_
 refine aJ (ρ':=AE o0 o1 o2 (some (.own (mC A1.length S))) p4 p5 none none none none none (A1++dJ S)) (eN (xs:=uf 0 (evs P.es)) (ρ1:=AE o0 o1 o2 (some (.own (mC A1.length []))) none none none none none none none (A1++dJ [])) ?_ e1) ?_
 . rw [← vJ,show A1++dJ []=A1 from List.append_nil _]
   rfl
 refine aJ (ρ':=AE o0 o1 o2 (some (.own (mC A1.length S))) p4 p5 (some (.own (lX []))) none none none none (A1++dJ S)) rfl ?_
 refine aJ (ρ':=Q (A1++dJ S)) (eN (xs:=P.fns.map Fn.pv) (ρ1:=AE o0 o1 o2 (some (.own (mC A1.length S))) p4 p5 (some (.own (lX []))) none none none none (A1++dJ S)) (di (l:=.sh (.lst (P.fns.map Fn.pv))) rfl rfl) e2) ?_
 refine aJ (ρ':=Q (A2++dJ S)) ((yj (C := "Plan") (f := "told") (p:=T) (n:=A.length) (l:=[]) (y:=.sh T) (x:=.sh (.ptr A.length)) (ρ1:=Q (A1++dJ S)) (ρ2:=Q (A1++dJ S)) rfl rfl rfl rfl ?_ (by decide)).trans ?_) ?_
 . show (A++[some (eO "Plan" [])]++dJ S)[A.length]?=_
   rw [List.append_assoc]
   exact Hl
 . show some (Fl.nx ⟨_,(A++[some (eO "Plan" [])]++dJ S).set A.length _⟩)=some (Fl.nx ⟨_,A++[some (eO "Plan" [("told",T)])]++dJ S⟩)
   rw [List.append_assoc,List.append_assoc,List.singleton_append,Hm]
   rfl
 refine aJ (ρ':=Q2 (A++some (eO "Plan" [("told",T),("lists",LX A1.length S)])::B)) ((yj (C := "Plan") (f := "lists") (p:=LX A1.length S) (n:=A.length) (l:=[("told",T)]) (y:=.sh (LX A1.length S)) (x:=.sh (.ptr A.length)) (ρ1:=Q2 (A2++B)) (ρ2:=Q2 (A2++B)) ?_ rfl rfl rfl ?_ (by simp only [List.length_cons,List.length_nil]; omega)).trans ?_) ?_
 . unfold Ce
   rw [show aa 3 (Q (A2++dJ S))=some (.sh (mC A1.length S),Q2 (A2++dJ S)) from rfl,Option.bind_some]
   show ((meltL (A2++dJ S) ((pz A1.length S).map (·.2))).map _)=_
   rw [hm]
   rfl
 . show (A++[some (eO "Plan" [("told",T)])]++B)[A.length]?=_
   rw [List.append_assoc]
   exact Hl
 . show some (Fl.nx ⟨_,(A++[some (eO "Plan" [("told",T)])]++B).set A.length _⟩)=some (Fl.nx ⟨_,A++some (eO "Plan" [("told",T),("lists",LX A1.length S)])::B⟩)
   rw [List.append_assoc,List.singleton_append,Hm]
   rfl
 refine (yj (C := "Plan") (f := "heads") (p:=lX d) (n:=A.length) (l:=[("told",T),("lists",LX A1.length S)]) (y:=.sh (lX d)) (x:=.sh (.ptr A.length)) (ρ1:=Q3 (A++some (eO "Plan" [("told",T),("lists",LX A1.length S)])::B)) (ρ2:=Q3 (A++some (eO "Plan" [("told",T),("lists",LX A1.length S)])::B)) rfl rfl rfl rfl Hl (by simp only [List.length_cons,List.length_nil]; omega)).trans ?_
 show some (Fl.nx ⟨_,(A++some (eO "Plan" [("told",T),("lists",LX A1.length S)])::B).set A.length _⟩)=some (Fl.nx ⟨_,A++some (eO "Plan" (JN P.es (A.length+1) (lX d)))::B⟩)
 rw [Hm,← hA1]
 rfl
end
noncomputable abbrev fQ (l:List Str):List PV:=l.map PV.str
noncomputable abbrev ug (k:Nat):Str:=(toString ((k:Nat):Int):Str)
theorem JP:∀ k<256,Mj (.int ((k:Nat):Int))=some (ug k)/\("at " : Str).length+(ug k).length<=1000/\str1 [.int ((k:Nat):Int)]=zT (ug k):=by
 have g:∀ k<256,("at " : Str).length+(ug k).length<=1000/\((k:Nat):Int).natAbs.log2<1920:=by decide +kernel
 intro k hk
 obtain ⟨g2,g3⟩:=g k hk
 refine ⟨?_,g2,?_⟩
 . show (if ((k:Nat):Int).natAbs.log2<1920 then (if (ug k).length<=100000 then some (ug k) else none) else none)=_
   rw [if_pos g3,if_pos (by omega)]
 . show (if ((k:Nat):Int).natAbs.log2<1920 then some (Lc.sh (.str (ug k))) else none)=_
   rw [if_pos g3]
section
variable [HK]
structure mD (mu:Mu) (n:Nat) (es:List Ent):Prop where
 ex:∃ N hd,mu[n]?=some (some (eO "Plan" (JN es N hd)))
theorem Fy {es:List Ent} {k:Nat} {e:Ent} (h:es[k]?=some e):fW (evs es) ((k:Nat):Int)=some e.pv:=O8 (by rw [List.getElem?_map,h]; rfl)
theorem JQ {mu:Mu} {n k:Nat} {es:List Ent} {e:Ent} (h:mD mu n es) (he:es[k]?=some e):jF [.ptr n,.int (k:Nat)] mu=some (.sh e.r.pv,mu):=by
 obtain ⟨N,hd,hm⟩:=h
 let E:Ev:=⟨[zS (.ptr n),zI (k:Nat)],mu⟩
 refine bj (ρ:=E) (gn (d9 (p:=e.pv) (q:=.int 3) (ρ1:=E) (ρ2:=E) (l:=.sh e.pv) (m:=.sh (.int 3)) (d9 (p:=.lst (evs es)) (q:=.int (k:Nat)) (ρ1:=E) (ρ2:=E) (l:=.sh (.lst (evs es))) (m:=.sh (.int (k:Nat))) (CQ (ρ1:=E) (x:=.sh (.ptr n)) (n:=n) rfl rfl hm rfl) rfl rfl rfl (fun n h=>by cases h) ?_) rfl rfl rfl (fun n h=>by cases h) rfl))
 show (fW (evs es) ((k:Nat):Int)).map _=_
 rw [Fy he]
 rfl
open Classical in
theorem CT {mu:Mu} {n k:Nat} {es:List Ent} {e:Ent} {i:Int} (h:mD mu n es) (he:es[k]?=some e):dm [.ptr n,.int (k:Nat),.int i] mu=some (.own (.lst (bQ (pos (KEY e.w k i) 0 es))),mu):=by
 obtain ⟨N,hd,hm⟩:=h
 let E:Ev:=⟨[zS (.ptr n),zI (k:Nat),zI i],mu⟩
 have hk:bc (aj (aM (aM (qt "Plan" "told" (aa 0)) (aa 1)) (eC (.int 0))) (aj (aa 1) (aj (aa 2) ao))) E=some (.sh (.tup [.str e.w,.int (k:Nat),.int i]),E):=by
  refine fB (ls:=[.sh (.str e.w),.sh (.int (k:Nat)),.sh (.int i)]) (aC (ρ1:=E) (d9 (p:=e.pv) (q:=.int 0) (ρ1:=E) (ρ2:=E) (l:=.sh e.pv) (m:=.sh (.int 0)) (d9 (p:=.lst (evs es)) (q:=.int (k:Nat)) (ρ1:=E) (ρ2:=E) (l:=.sh (.lst (evs es))) (m:=.sh (.int (k:Nat))) (CQ (ρ1:=E) (x:=.sh (.ptr n)) (n:=n) rfl rfl hm rfl) rfl rfl rfl (fun n h=>by cases h) ?_) rfl rfl rfl (fun n h=>by cases h) rfl) rfl) rfl rfl
  show (fW (evs es) ((k:Nat):Int)).map _=_
  rw [Fy he]
  rfl
 let S:=qb 0 es []
 have hS:(j7 S (KEY e.w k i)).getD []=pos (KEY e.w k i) 0 es:=Fq es 0 []
 have g:∃ l,Ac (qt "Plan" "lists" (aa 0)) (bc (aj (aM (aM (qt "Plan" "told" (aa 0)) (aa 1)) (eC (.int 0))) (aj (aa 1) (aj (aa 2) ao)))) E=some (l,E)/\l.pv=.lst (bQ ((j7 S (KEY e.w k i)).getD [])):=by
  unfold Ac
  rw [CQ (C := "Plan") (f := "lists") (fo:=aa 0) (ρ:=E) (ρ1:=E) (x:=.sh (.ptr n)) (n:=n) (p:=LX N S) rfl rfl hm rfl,Option.bind_some]
  show ∃ l,((bc (aj (aM (aM (qt "Plan" "told" (aa 0)) (aa 1)) (eC (.int 0))) (aj (aa 1) (aj (aa 2) ao))) E).bind _)=some (l,E)/\_
  rw [hk,Option.bind_some]
  show ∃ l,(if HK.hk=HK.hk then some ((match jG (((pz N S).map (·.1)).zip (S.map fun x=>PV.lst (bQ x.2))) (KEY e.w k i) with | some p=>Lc.sh p | none=>.own (.lst [])),E) else none)=some (l,E)/\_
  rw [if_pos rfl,NT]
  cases j7 S (KEY e.w k i) with
  | none=>exact ⟨_,rfl,rfl⟩
  | some l=>exact ⟨_,rfl,rfl⟩
 obtain ⟨l,g1,g2⟩:=g
 refine bj (ρ:=E) (gn (j8 (ls:=[l]) (ps:=[.lst (bQ (pos (KEY e.w k i) 0 es))]) (ρ1:=E) (aC g1 rfl) (by rw [← hS,← g2]; rfl) rfl))
noncomputable def Rows.sps:Rows->List Bool
 | .nil=>[]
 | .cons r rs=>r.sp::rs.sps
theorem Rows.sps_any:∀ rs:Rows,rs.sps.any id=rs.sp
 | .nil=>rfl
 | .cons r rs=>by simp [Rows.sps,Rows.sp,Rows.sps_any rs]
theorem Rows.sps_len:∀ rs:Rows,rs.sps.length<=rs.cnt
 | .nil=>Nat.le_refl _
 | .cons r rs=>by
  have:=Rows.sps_len rs
  have:=r.cnt_pos
  simp only [Rows.sps,Rows.cnt,List.length_cons]
  omega
noncomputable abbrev Vi:EF:=aN pC (aj (jk "Plan" "row" jF (aa 1) (aj (aa 0) ao)) ao)
theorem Fz {mu:Mu} {n:Nat} {es:List Ent} {w:Str} {ab:PV} {bl:Int} (h:mD mu n es):∀ (rs:Rows) (s:Nat) (o:Option Lc) (acc:List PV),mz es w ab bl s rs->rs.ok->rs.dep<=38->acc.length+rs.cnt<=900->cI (aD 0) bH Vi (bQ (rs.nums s)) ⟨[o,zS (.ptr n)],mu⟩ acc=some (acc++rs.sps.map PV.bl,mu)
 | .nil,s,o,acc,_,_,_,_=>by simp [Rows.nums,Rows.sps,cI]
 | .cons r rs,s,o,acc,hs,ok,hd,hc=>by
  simp only [Rows.dep] at hd
  simp only [Rows.cnt] at hc
  have h1:=r.cnt_pos
  obtain ⟨g1,g2⟩:=hs.cons
  let E:Ev:=⟨[zI (s:Nat),zS (.ptr n)],mu⟩
  obtain ⟨N,hdd,hm⟩:=h
  have st:Vi E=some (.sh (.bl r.sp),E):=aV (ls:=[.sh r.pv]) (ps:=[r.pv]) (ρ1:=E) (aC (ρ1:=E) (uG (n:=n) (x:=.sh (.ptr n)) (ρ1:=E) (ρ2:=E) (ls:=[.sh (.int (s:Nat))]) rfl rfl hm (by show (["told", "lists", "heads"]:List Str).contains "row" = false; decide +kernel) rfl rfl (JQ ⟨N,hdd,hm⟩ g1.get)) rfl) rfl rfl rfl (JD ok.1 (by omega) (by omega))
  refine eV (ρ1:=E) (ρ2:=E) (l:=.sh (.bl r.sp)) rfl st (by omega) ((Fz ⟨N,hdd,hm⟩ rs (s+r.cnt) _ (acc++[.bl r.sp]) g2 ok.2 (by omega) (by rw [List.length_append]; simp only [List.length_cons,List.length_nil]; omega)).trans ?_)
  simp [Rows.sps]
theorem DY {mu:Mu} {n:Nat} {es:List Ent} {w:Str} {ab:PV} {bl:Int} {rs:Rows} {s:Nat} (h:mD mu n es) (hs:mz es w ab bl s rs) (ok:rs.ok) (hd:rs.dep<=38) (hc:rs.cnt<=900):gq [.ptr n,.lst (bQ (rs.nums s))] mu=some (.sh (.bl rs.sp),mu):=by
 let E:Ev:=⟨[zS (.ptr n),zL (bQ (rs.nums s))],mu⟩
 have c:=Fz h rs s none [] hs ok hd (by simp only [List.length_nil]; omega)
 rw [List.nil_append] at c
 refine bj (ρ:=E) (gn ?_)
 refine j8 (ps:=[.lst (rs.sps.map PV.bl)]) (aC (l:=.own (.lst (rs.sps.map PV.bl))) ((eY (ρ1:=E) (di (l:=.sh (.lst (bQ (rs.nums s)))) rfl rfl) c).trans rfl) rfl) rfl ?_
 show ((boolsOf (rs.sps.map PV.bl)).map _)=_
 rw [show rs.sps.map PV.bl=rs.sps.map (fun b=>PV.bl (id b)) from rfl,pF,Option.map_some,List.map_id]
 show some (Lc.sh (.bl (rs.sps.any id)))=_
 rw [Rows.sps_any]
noncomputable def Rows.lnum:Rows->Nat->Nat
 | .nil,k=>k
 | .cons _ .nil,k=>k
 | .cons r (.cons r' rs),k=>(Rows.cons r' rs).lnum (k+r.cnt)
theorem Rows.nums_last:∀ (r:Row) (rs:Rows) (s:Nat),∃ a,(Rows.cons r rs).nums s=a++[(Rows.cons r rs).lnum s]
 | r,.nil,s=>⟨[],rfl⟩
 | r,.cons r' rs,s=>by
  obtain ⟨a,e⟩:=Rows.nums_last r' rs (s+r.cnt)
  refine ⟨s::a,?_⟩
  show s::(Rows.cons r' rs).nums (s+r.cnt)=_
  rw [e]
  rfl
noncomputable abbrev BE (n k:Nat) (p:PV) (acc:List PV) (o4:Option Lc) (mu:Mu):Ev:=⟨[zS (.ptr n),zI (k:Nat),zS p,zO acc,o4],mu⟩
noncomputable abbrev Vj (f:Nat):SF:=cJ (tT (jk "Plan" "spending" gq (aa 0) (aj (aa 4) ao)) oX)
 (mR 3 (aN (dR f) (aj (aa 0) (aj (aM (aa 4) (lw (eC (.int 1)))) ao))))
 b8
theorem FJ {mu:Mu} {n k f:Nat} {es:List Ent} {w:Str} {ab p:PV} {bl:Int} {rs:Rows} {s:Nat} {acc:List PV} (h:mD mu n es) (hs:mz es w ab bl s rs) (ok:rs.ok) (hd:rs.dep<=38) (hc:rs.cnt<=900) (hz:acc.length+(rs.lbt s).length<=1000)
 (ih:∀ r rs',rs=.cons r rs'->dR f [.ptr n,.int (rs.lnum s:Nat)] mu=some (.own (.lst (fQ (rs.lbt s))),mu)):
 Vj f (BE n k p acc (zL (bQ (rs.nums s))) mu)=some (.nx (BE n k p (acc++fQ (if rs.sp then rs.lbt s else [])) (zL (bQ (rs.nums s))) mu)):=by
 let E:=BE n k p acc (zL (bQ (rs.nums s))) mu
 obtain ⟨N,hdd,hm⟩:=h
 have t:tT (jk "Plan" "spending" gq (aa 0) (aj (aa 4) ao)) oX E=some (rs.sp,E):=gR (l:=.sh (.bl rs.sp)) (uG (n:=n) (x:=.sh (.ptr n)) (ρ1:=E) (ρ2:=E) (ls:=[.sh (.lst (bQ (rs.nums s)))]) rfl rfl hm (by show (["told", "lists", "heads"]:List Str).contains "spending" = false; decide +kernel) rfl rfl (DY ⟨N,hdd,hm⟩ hs ok hd hc)) rfl
 cases hsp:rs.sp with
 | false=>
  rw [hsp] at t
  refine (jj t).trans ?_
  simp [fQ]
  rfl
 | true=>
  rw [hsp] at t
  refine (jZ t).trans ?_
  cases rs with
  | nil=>cases hsp
  | cons r rs'=>
   have e1:=ih r rs' rfl
   obtain ⟨a,ea⟩:=Rows.nums_last r rs' s
   have ix:aM (aa 4) (lw (eC (.int 1))) E=some (.sh (.int ((Rows.cons r rs').lnum s:Nat)),E):=by
    refine d9 (p:=.lst (bQ ((Rows.cons r rs').nums s))) (q:=.int (-1)) (ρ1:=E) (ρ2:=E) (l:=.sh (.lst (bQ ((Rows.cons r rs').nums s)))) (m:=.sh (.int (-1))) rfl rfl rfl rfl (fun n h=>by cases h) ?_
    show (fW (bQ ((Rows.cons r rs').nums s)) (-1)).map _=_
    rw [ea,bQ,List.map_append,List.map_singleton,vf]
    rfl
   refine (tQ (i:=3) (ws0:=acc) (ws:=acc) (ps:=fQ ((Rows.cons r rs').lbt s)) (l:=.own (.lst (fQ ((Rows.cons r rs').lbt s)))) (ρ1:=E) rfl (aV (ls:=[.sh (.ptr n),.sh (.int ((Rows.cons r rs').lnum s:Nat))]) (ps:=[.ptr n,.int ((Rows.cons r rs').lnum s:Nat)]) (ρ1:=E) (aC (ρ1:=E) rfl (aC ix rfl)) rfl rfl rfl e1) rfl rfl (by rw [List.length_map]; omega) rfl).trans ?_
   rfl
theorem wB {n k:Nat} {w:Str} {ps acc:List PV} {o4:Option Lc} {mu:Mu}:aM (aa 2) (eC (.int 0)) (BE n k (.tup (.str w::ps)) acc o4 mu)=some (.sh (.str w),BE n k (.tup (.str w::ps)) acc o4 mu):=
 d9 (p:=.tup (.str w::ps)) (q:=.int 0) (l:=.sh (.tup (.str w::ps))) (m:=.sh (.int 0)) rfl rfl rfl rfl (fun n h=>by cases h) (by show (fW (PV.str w::ps) 0).map _=_; rw [at0]; rfl)
noncomputable abbrev Wb (f:Nat):SF:=aG (cJ (tT (aq eqP (aM (aa 2) (eC (.int 0))) (eC (.str "call"))) aU)
 (iR 3 (aq aY (eC (.str "leave ")) (aM (aa 2) (eC (.int 2)))))
 b8)
 (aG (cJ (tT (aq eqP (aM (aa 2) (eC (.int 0))) (eC (.str "if"))) aU)
 (fJ (fK (bc (aj (jk "Plan" "block" dm (aa 0) (aj (aa 1) (aj (eC (.int 0)) ao))) (aj (jk "Plan" "block" dm (aa 0) (aj (aa 1) (aj (eC (.int 1)) ao))) ao))) cD) (aD 4)
 (Vj f))
 b8)
 (iY 3))
theorem Af {mu:Mu} {n k f:Nat} {es:List Ent} {w:Str} {ab:PV} {bl:Int} {r:Row} {L:List PV} {o4:Option Lc} (h:mD mu n es) (hs:mY es w ab bl k r) (hk:k<256) (ht:Wb f (BE n k r.pv [.str (atT k)] none mu)=some (.rt (.own (.lst L)) ⟨[zS (.ptr n),zI (k:Nat),zS r.pv,none,o4],mu⟩)):
 dR (f+1) [.ptr n,.int (k:Nat)] mu=some (.own (.lst L),mu):=by
 obtain ⟨g1,g2,g3⟩:=JP k hk
 have hr:=JQ h hs.get
 obtain ⟨N,hd,hm⟩:=h
 let E0:Ev:=⟨[zS (.ptr n),zI (k:Nat),none,none,none],mu⟩
 let E1:Ev:=⟨[zS (.ptr n),zI (k:Nat),zS r.pv,none,none],mu⟩
 refine bj (ρ:=⟨[zS (.ptr n),zI (k:Nat),zS r.pv,none,o4],mu⟩) ?_
 refine aJ (ρ':=E1) (bu (l:=.sh r.pv) (ρ1:=E0) (uG (n:=n) (x:=.sh (.ptr n)) (ρ1:=E0) (ρ2:=E0) (ls:=[.sh (.int (k:Nat))]) rfl rfl hm (by show (["told", "lists", "heads"]:List Str).contains "row" = false; decide +kernel) rfl rfl hr) rfl rfl) ?_
 refine aJ (ρ':=BE n k r.pv [.str (atT k)] none mu) (bu (l:=.own (.lst [.str (atT k)])) (ρ1:=E1) (wz (ls:=[.sh (.str (atT k))]) (aC (ρ1:=E1) (UG (l:=.sh (.int (k:Nat))) (z:=ug k) (ρ1:=E1) rfl g1 (by omega)) rfl) rfl rfl) rfl rfl) ht
mutual
theorem JR {mu:Mu} {n:Nat} {es:List Ent} (h:mD mu n es):∀ (r:Row) (f k:Nat) (w:Str) (ab:PV) (bl:Int),mY es w ab bl k r->r.ok->r.dep<=f->r.dep<=37->k+r.cnt<=256->r.bl<=900->dR f [.ptr n,.int (k:Nat)] mu=some (.own (.lst (fQ (r.bt k))),mu)
 | .leaf x ps,f,k,w,ab,bl,hs,ok,hd,h37,hc,hb=>by
  simp only [Row.cnt] at hc
  obtain ⟨m,rfl⟩:∃ m,f=m+1:=⟨f-1,by simp only [Row.dep] at hd; omega⟩
  obtain ⟨⟨h1,h2,h3⟩,_⟩:=ok
  exact Af (o4:=none) h hs (by omega) ((cA (dw wB) h3).trans ((cA (dw wB) h1).trans rfl))
 | .call x m as,f,k,w,ab,bl,hs,ok,hd,h37,hc,hb=>by
  simp only [Row.cnt] at hc
  obtain ⟨f,rfl⟩:∃ m,f=m+1:=⟨f-1,by simp only [Row.dep] at hd; omega⟩
  obtain ⟨_,hn,_,_⟩:=ok
  let P:=(Row.call x m as).pv
  refine Af (o4:=none) h hs (by omega) ((pY (ρ2:=BE n k P [.str (atT k),.str ("leave " ++ m)] none mu) (dw wB) (by decide +kernel) ?_).trans ((cA (dw wB) (by decide +kernel)).trans rfl))
  refine lV (i:=3) (ws0:=[.str (atT k)]) (ws:=[.str (atT k)]) (p:=.str ("leave " ++ m)) (l:=.sh (.str ("leave " ++ m))) (ρ1:=BE n k P [.str (atT k)] none mu) rfl ?_ rfl rfl (by simp only [List.length_cons,List.length_nil]; omega) rfl
  refine gk (p:=.str "leave ") (q:=.str m) (ρ1:=BE n k P [.str (atT k)] none mu) (l:=.sh (.str "leave ")) (m:=.sh (.str m)) rfl rfl rfl rfl ?_
  show (if ("leave " : Str).length+m.length<=100000 then _ else _)=_
  have h6:("leave " : Str).length=6:=by decide +kernel
  rw [if_pos (by omega)]
 | .wh x b,f,k,w,ab,bl,hs,ok,hd,h37,hc,hb=>by
  simp only [Row.cnt] at hc
  obtain ⟨m,rfl⟩:∃ m,f=m+1:=⟨f-1,by simp only [Row.dep] at hd; omega⟩
  exact Af (o4:=none) h hs (by omega) ((cA (dw wB) (by decide +kernel)).trans ((cA (dw wB) (by decide +kernel)).trans rfl))
 | .iff x b c,f,k,w,ab,bl,hs,ok,hd,h37,hc,hb=>by
  simp only [Row.cnt] at hc
  simp only [Row.dep] at hd h37
  simp only [Row.bl] at hb
  obtain ⟨m,rfl⟩:∃ m,f=m+1:=⟨f-1,by omega⟩
  obtain ⟨s1,s2⟩:=hs.iff
  have p0:pos (KEY w k 0) 0 es=b.nums (k+1):=hs.pos 0
  have p1:pos (KEY w k 1) 0 es=c.nums (k+1+b.cnt):=hs.pos 1
  have b0:=CT (i:=0) h hs.get
  have b1:=CT (i:=1) h hs.get
  have q0:dm [.ptr n,.int (k:Nat),.int 0] mu=some (.own (.lst (bQ (b.nums (k+1)))),mu):=by rw [b0,p0]
  have q1:dm [.ptr n,.int (k:Nat),.int 1] mu=some (.own (.lst (bQ (c.nums (k+1+b.cnt)))),mu):=by rw [b1,p1]
  let P:=(Row.iff x b c).pv
  let A0:List PV:=[.str (atT k)]
  let A1:=A0++fQ (if b.sp then b.lbt (k+1) else [])
  let A2:=A1++fQ (if c.sp then c.lbt (k+1+b.cnt) else [])
  have l1:=Rows.lbt_len b (k+1)
  have l2:=Rows.lbt_len c (k+1+b.cnt)
  have hA1:A1.length<=1+b.bl:=by
   simp only [A1,A0,List.length_append,List.length_map,List.length_cons,List.length_nil]
   split<;>(try simp only [List.length_nil])<;>omega
  have e1:=FJ (f:=m) (k:=k) (p:=P) (acc:=A0) h s1 ok.2.1 (by omega) (by omega) (by simp only [A0,List.length_cons,List.length_nil]; omega) fun r rs e=>ym h b m (k+1) w (.int (k:Nat)) 0 ⟨r,rs,e⟩ s1 ok.2.1 (by omega) (by omega) (by omega) (by omega)
  have e2:=FJ (f:=m) (k:=k) (p:=P) (acc:=A1) h s2 ok.2.2 (by omega) (by omega) (by omega) fun r rs e=>ym h c m (k+1+b.cnt) w (.int (k:Nat)) 1 ⟨r,rs,e⟩ s2 ok.2.2 (by omega) (by omega) (by omega) (by omega)
  obtain ⟨N,hdd,hm⟩:=h
  let E:=BE n k P A0 none mu
  have me:∀ (i:Int) (l:List PV),dm [.ptr n,.int (k:Nat),.int i] mu=some (.own (.lst l),mu)->jk "Plan" "block" dm (aa 0) (aj (aa 1) (aj (eC (.int i)) ao)) E=some (.own (.lst l),E):=fun i l q=>uG (n:=n) (x:=.sh (.ptr n)) (ρ1:=E) (ρ2:=E) (ls:=[.sh (.int (k:Nat)),.sh (.int i)]) rfl rfl hm (by show (["told", "lists", "heads"]:List Str).contains "block" = false; decide +kernel) rfl rfl q
  refine Af (o4:=zL (bQ (c.nums (k+1+b.cnt)))) ⟨N,hdd,hm⟩ hs (by omega) ((cA (dw wB) (by decide +kernel)).trans ((pY (ρ2:=BE n k P A2 (zL (bQ (c.nums (k+1+b.cnt)))) mu) (dw wB) (by decide +kernel) ?_).trans ?_))
  . refine eN (xs:=[.lst (bQ (b.nums (k+1))),.lst (bQ (c.nums (k+1+b.cnt)))]) (ρ1:=E) (di (l:=.sh (.tup [.lst (bQ (b.nums (k+1))),.lst (bQ (c.nums (k+1+b.cnt)))])) (fB (ls:=[.own (.lst (bQ (b.nums (k+1)))),.own (.lst (bQ (c.nums (k+1+b.cnt))))]) (aC (me 0 _ q0) (aC (me 1 _ q1) rfl)) rfl rfl) rfl) ?_
    exact CG (ρ1:=BE n k P A0 (zL (bQ (b.nums (k+1)))) mu) (ρ3:=BE n k P A1 (zL (bQ (c.nums (k+1+b.cnt)))) mu) rfl e1 rfl e2
  . have eA:A2=fQ ((Row.iff x b c).bt k):=by
     simp only [A2,A1,A0,Row.bt,fQ,List.map_append,List.map_cons,List.map_nil]
    rw [← eA]
    rfl
theorem ym {mu:Mu} {n:Nat} {es:List Ent} (h:mD mu n es):∀ (rs:Rows) (f s:Nat) (w:Str) (ab:PV) (bl:Int),(∃ r rs',rs=.cons r rs')->mz es w ab bl s rs->rs.ok->rs.dep<=f+1->rs.dep<=38->s+rs.cnt<=256->rs.bl<=900->dR f [.ptr n,.int (rs.lnum s:Nat)] mu=some (.own (.lst (fQ (rs.lbt s))),mu)
 | .nil,f,s,w,ab,bl,⟨_,_,e⟩,_,_,_,_,_,_=>by cases e
 | .cons r .nil,f,s,w,ab,bl,_,hs,ok,hd,h38,hc,hb=>by
  simp only [Rows.dep,Rows.cnt,Rows.bl] at hd h38 hc hb
  exact JR h r f s w ab bl hs.cons.1 ok.1 (by omega) (by omega) (by omega) (by omega)
 | .cons r (.cons r' rs),f,s,w,ab,bl,_,hs,ok,hd,h38,hc,hb=>by
  have hd':(Rows.cons r' rs).dep<=f+1:=Nat.le_trans (Nat.le_max_right _ _) hd
  have h38':(Rows.cons r' rs).dep<=38:=Nat.le_trans (Nat.le_max_right _ _) h38
  have hb':(Rows.cons r' rs).bl<=900:=Nat.le_trans (Nat.le_max_right _ _) hb
  have hc':s+r.cnt+(Rows.cons r' rs).cnt<=256:=by
   have:(Rows.cons r (.cons r' rs)).cnt=r.cnt+(Rows.cons r' rs).cnt:=rfl
   omega
  exact ym h (.cons r' rs) f (s+r.cnt) w ab bl ⟨r',rs,rfl⟩ hs.cons.2 ok.2 hd' h38' hc' hb'
end
noncomputable abbrev V0:TF:=tT (aq lH (aM (aa 0) (eC (.int 0))) (bc (aj (eC (.str "while")) (aj (eC (.str "call")) ao)))) aU
theorem wY {w:Str} {ps:List PV} {mu:Mu}:V0 (E1 (.tup (.str w::ps)) mu)=some (hot (.tup (.str w::ps)),E1 (.tup (.str w::ps)) mu):=
 gR (l:=.sh (.bl (hot (.tup (.str w::ps))))) (gk w0 rfl (m:=.sh (.tup [.str "while",.str "call"])) rfl rfl rfl) rfl
noncomputable abbrev V1:TF:=tT (aq wj (aM (aa 0) (eC (.int 0))) (eC (.str "if"))) aU
theorem JS {w:Str} {ps:List PV} {mu:Mu}:V1 (E1 (.tup (.str w::ps)) mu)=some (!(w == "if"),E1 (.tup (.str w::ps)) mu):=
 gR (l:=.sh (.bl (!(w == "if")))) (aP w0 rfl rfl) rfl
noncomputable abbrev CV (n:Nat):EF:=aN (gf n) (aj (aa 0) ao)
mutual
theorem Tt {mu:Mu}:∀ (r:Row) (f:Nat),r.ok->r.dep<=f->r.cnt<=1000->gf f [r.pv] mu=some (.sh (.bl r.sp),mu)
 | .leaf x ps,f,ok,hd,hc=>by
  obtain ⟨m,rfl⟩:∃ m,f=m+1:=⟨f-1,by simp only [Row.dep] at hd; omega⟩
  obtain ⟨⟨h1,h2,h3⟩,_⟩:=ok
  refine bj (ρ:=E1 (Row.leaf x ps).pv mu) ((cA wY ?_).trans (jg JS ?_ rfl))
  . show (("while" : Str)==x||(("call" : Str)==x||false))=false
    rw [qY h2,qY h3]
    rfl
  . rw [h1]
    rfl
 | .call b m as,f,ok,hd,hc=>by
  obtain ⟨f,rfl⟩:∃ m,f=m+1:=⟨f-1,by simp only [Row.dep] at hd; omega⟩
  exact bj (ρ:=E1 (Row.call b m as).pv mu) (jg wY (by show (("while" : Str) == "call" || (("call" : Str) == "call" || false))=true; decide +kernel) rfl)
 | .wh e b,f,ok,hd,hc=>by
  obtain ⟨f,rfl⟩:∃ m,f=m+1:=⟨f-1,by simp only [Row.dep] at hd; omega⟩
  exact bj (ρ:=E1 (Row.wh e b).pv mu) (jg wY (by show (("while" : Str) == "while" || (("call" : Str) == "while" || false))=true; decide +kernel) rfl)
 | .iff e b c,f,ok,hd,hc=>by
  simp only [Row.dep] at hd
  simp only [Row.cnt] at hc
  obtain ⟨f,rfl⟩:∃ m,f=m+1:=⟨f-1,by omega⟩
  let P:=(Row.iff e b c).pv
  have lb:=Rows.pvs_len b
  have lc:=Rows.pvs_len c
  have sb:=Rows.sps_len b
  have comp:cI (aD 0) bH (CV f) (b.pvs++c.pvs) ⟨[none],mu⟩ []=some ((b.sps++c.sps).map PV.bl,mu):=by
   obtain ⟨o1,e1⟩:=uH (mu:=mu) b f c.pvs [] none ok.2.1 (by omega) (by simp only [List.length_nil]; omega)
   obtain ⟨o2,e2⟩:=uH (mu:=mu) c f [] ([]++b.sps.map PV.bl) o1 ok.2.2 (by omega) (by rw [List.length_append,List.length_map,List.length_nil]; omega)
   rw [List.append_nil] at e2
   rw [e1,e2]
   simp [cI]
  refine bj (ρ:=E1 P mu) ((cA wY (by show (("while" : Str) == "if" || (("call" : Str) == "if" || false))=false; decide +kernel)).trans ((cA JS (by decide +kernel)).trans (gn ?_)))
  refine j8 (ps:=[.lst ((b.sps++c.sps).map PV.bl)]) (aC (l:=.own (.lst ((b.sps++c.sps).map PV.bl))) ((eY (ρ1:=E1 P mu) (di (l:=.own (.lst (b.pvs++c.pvs))) (gk (p:=.lst b.pvs) (q:=.lst c.pvs) (ρ1:=E1 P mu) (l:=.sh (.lst b.pvs)) (m:=.sh (.lst c.pvs)) rfl rfl rfl rfl ?_) rfl) comp).trans rfl) rfl) rfl ?_
  . show (if b.pvs.length+c.pvs.length<=100000 then _ else _)=_
    rw [if_pos (by omega)]
  . show ((boolsOf ((b.sps++c.sps).map PV.bl)).map _)=_
    rw [show (b.sps++c.sps).map PV.bl=(b.sps++c.sps).map (fun b=>PV.bl (id b)) from rfl,pF,Option.map_some,List.map_id]
    show some (Lc.sh (.bl ((b.sps++c.sps).any id)))=_
    rw [List.any_append,Rows.sps_any,Rows.sps_any]
    rfl
theorem uH {mu:Mu}:∀ (rs:Rows) (n:Nat) (T acc:List PV) (o:Option Lc),rs.ok->rs.dep<=n+1->acc.length+rs.cnt<=1000->∃ o',cI (aD 0) bH (CV n) (rs.pvs++T) ⟨[o],mu⟩ acc=cI (aD 0) bH (CV n) T ⟨[o'],mu⟩ (acc++rs.sps.map PV.bl)
 | .nil,n,T,acc,o,_,_,_=>⟨o,by simp [Rows.pvs,Rows.sps]⟩
 | .cons r rs,n,T,acc,o,ok,hd,hc=>by
  simp only [Rows.dep] at hd
  simp only [Rows.cnt] at hc
  have h1:=r.cnt_pos
  have e1:=Tt (mu:=mu) r n ok.1 (by omega) (by omega)
  obtain ⟨o',e2⟩:=uH (mu:=mu) rs n T (acc++[.bl r.sp]) (zS r.pv) ok.2 (by omega) (by rw [List.length_append]; simp only [List.length_cons,List.length_nil]; omega)
  refine ⟨o',eV (ρ1:=E1 r.pv mu) (ρ2:=E1 r.pv mu) (l:=.sh (.bl r.sp)) rfl (aV (ls:=[.sh r.pv]) (ps:=[r.pv]) (ρ1:=E1 r.pv mu) rfl rfl rfl rfl e1) (by omega) (e2.trans ?_)⟩
  simp [Rows.sps]
end
theorem Qm {mu:Mu} {rs:Rows} {o0 o1 o2 o3:Option Lc} (ok:rs.ok) (hd:rs.dep<=41) (hc:rs.cnt<=1000):tT (eB tO (aj (du (fK (aa 4) cD) 1 [] (aD 0) bH (CV 40)) ao)) oX ⟨[o0,o1,o2,o3,zL rs.pvs],mu⟩=some (rs.sp,⟨[o0,o1,o2,o3,zL rs.pvs],mu⟩):=by
 let E:Ev:=⟨[o0,o1,o2,o3,zL rs.pvs],mu⟩
 obtain ⟨o',e1⟩:=uH (mu:=mu) rs 40 [] [] none ok hd (by simp only [List.length_nil]; omega)
 rw [List.append_nil,List.nil_append] at e1
 have e2:cI (aD 0) bH (CV 40) rs.pvs ⟨[none],mu⟩ []=some (rs.sps.map PV.bl,mu):=e1
 refine gR (l:=.sh (.bl rs.sp)) (j8 (ps:=[.lst (rs.sps.map PV.bl)]) (aC (l:=.own (.lst (rs.sps.map PV.bl))) ((eY (ρ1:=E) (di (l:=.sh (.lst rs.pvs)) rfl rfl) e2).trans rfl) rfl) rfl ?_) rfl
 show ((boolsOf (rs.sps.map PV.bl)).map _)=_
 rw [show rs.sps.map PV.bl=rs.sps.map (fun b=>PV.bl (id b)) from rfl,pF,Option.map_some,List.map_id]
 show some (Lc.sh (.bl (rs.sps.any id)))=_
 rw [Rows.sps_any]
noncomputable def Row.inn:Row->Nat
 | .wh _ b=>b.cnt
 | .iff _ b c=>b.cnt+c.cnt
 | _=>0
noncomputable def Rows.inn:Rows->Nat
 | .nil=>0
 | .cons r rs=>r.inn+rs.inn
theorem Rows.inn_eq:∀ rs:Rows,rs.pvs.length+rs.inn=rs.cnt
 | .nil=>rfl
 | .cons r rs=>by
  have ih:=Rows.inn_eq rs
  simp only [Rows.pvs,Rows.inn,Rows.cnt,List.length_cons]
  cases r<;>simp only [Row.inn,Row.cnt]<;>omega
noncomputable abbrev SE (X:PV) (z:Nat) (o2:Option Lc) (mu:Mu):Ev:=⟨[zS X,zI (z:Nat),o2],mu⟩
noncomputable abbrev Hn:TF:=tT (aq lH (aM (aa 2) (eC (.int 0))) (bc (aj (eC (.str "if")) (aj (eC (.str "while")) ao)))) aU
noncomputable def iU (w:Str):Bool:=("if" == w)||(("while" == w)||false)
theorem wS {X:PV} {z:Nat} {w:Str} {ps:List PV} {mu:Mu}:aM (aa 2) (eC (.int 0)) (SE X z (zS (.tup (.str w::ps))) mu)=some (.sh (.str w),SE X z (zS (.tup (.str w::ps))) mu):=
 d9 (p:=.tup (.str w::ps)) (q:=.int 0) (l:=.sh (.tup (.str w::ps))) (m:=.sh (.int 0)) rfl rfl rfl rfl (fun n h=>by cases h) (by show (fW (PV.str w::ps) 0).map _=_; rw [at0]; rfl)
theorem N5 {X:PV} {z:Nat} {w:Str} {ps:List PV} {mu:Mu}:Hn (SE X z (zS (.tup (.str w::ps))) mu)=some (iU w,SE X z (zS (.tup (.str w::ps))) mu):=
 gR (l:=.sh (.bl (iU w))) (aP wS rfl rfl) rfl
noncomputable abbrev Tu (n:Nat):EF:=aN (cT n) (aj (aa 0) ao)
noncomputable abbrev Tv (n:Nat):SF:=cJ Hn
 (aL 1 (aq aY (aa 1) (eB vD (aj (du (fK (lB (aa 2) (bU (eC (.int 2))) fH) cD) 1 [] (aD 0) bH (Tu n)) ao))))
 b8
theorem Ag {rs:Rows} {n:Nat} {mu:Mu} (hl:rs.cnt<=1000) (h:∃ o2,dh (aD 2) (Tv n) rs.pvs (SE (.lst rs.pvs) rs.pvs.length none mu)=some (.nx (SE (.lst rs.pvs) (rs.pvs.length+rs.inn) o2 mu))):cT (n+1) [.lst rs.pvs] mu=some (.sh (.int (rs.cnt:Nat)),mu):=by
 obtain ⟨o2,h⟩:=h
 rw [Rows.inn_eq] at h
 refine bj (ρ:=⟨[zL rs.pvs,none,o2],mu⟩) ?_
 exact aJ (ρ':=SE (.lst rs.pvs) rs.pvs.length none mu) rfl (aJ (eN (xs:=rs.pvs) (ρ1:=SE (.lst rs.pvs) rs.pvs.length none mu) (di (l:=.sh (.lst rs.pvs)) rfl rfl) h) rfl)
theorem yo {w:Str} (h:Plain w):iU w=false:=by
 unfold iU
 rw [qY h.1,qY h.2.1]
 rfl
theorem Qn {a:Nat} (h:a<=1000):vD [.lst [.int (a:Nat)]]=zI (a:Nat):=by
 have h1:wI [PV.int (a:Nat)]=some [(a:Int)]:=rfl
 have e:[(a:Int)].sum=(a:Int):=by simp
 unfold vD
 dsimp only
 unfold LR
 dsimp only
 rw [h1,Option.bind_some,e,if_pos (by simp; omega)]
theorem Qo {a b:Nat} (h:a+b<=2000):vD [.lst [.int (a:Nat),.int (b:Nat)]]=zI ((a+b:Nat):Int):=by
 have h1:wI [PV.int (a:Nat),PV.int (b:Nat)]=some [(a:Int),(b:Int)]:=rfl
 have e:[(a:Int),(b:Int)].sum=((a+b:Nat):Int):=by simp
 unfold vD
 dsimp only
 unfold LR
 dsimp only
 rw [h1,Option.bind_some,e,if_pos (by simp; omega)]
mutual
theorem Tz {mu:Mu}:∀ (r:Row) (n:Nat) (X:PV) (z:Nat),r.ok->r.dep<=n->r.cnt<=1000->Tv n (SE X z (zS r.pv) mu)=some (.nx (SE X (z+r.inn) (zS r.pv) mu))
 | .leaf x ps,n,X,z,ok,hd,hc=>by
  have t:Hn (SE X z (some (.sh (Row.leaf x ps).pv)) mu)=some (false,SE X z (some (.sh (Row.leaf x ps).pv)) mu):=by rw [← yo ok.1]; exact N5
  exact (jj t).trans rfl
 | .call b m as,n,X,z,ok,hd,hc=>by
  have t:Hn (SE X z (some (.sh (Row.call b m as).pv)) mu)=some (false,SE X z (some (.sh (Row.call b m as).pv)) mu):=by rw [show false=iU "call" by decide +kernel]; exact N5
  exact (jj t).trans rfl
 | .wh e b,n,X,z,ok,hd,hc=>by
  simp only [Row.cnt] at hc
  simp only [Row.dep] at hd
  have hb:=Rows.dep_pos b
  obtain ⟨m,rfl⟩:∃ m,n=m+1:=⟨n-1,by omega⟩
  have ih:=Ag (n:=m) (mu:=mu) (by omega) (qZ (mu:=mu) b m (.lst b.pvs) b.pvs.length none ok.2 (by omega) (by omega))
  let E:=SE X z (some (.sh (Row.wh e b).pv)) mu
  have comp:cI (aD 0) bH (Tu (m+1)) [.lst b.pvs] ⟨[none],mu⟩ []=some ([.int (b.cnt:Nat)],mu):=
   eV (ρ1:=E1 (.lst b.pvs) mu) (ρ2:=E1 (.lst b.pvs) mu) (l:=.sh (.int (b.cnt:Nat))) rfl (aV (ls:=[.sh (.lst b.pvs)]) (ps:=[.lst b.pvs]) (ρ1:=E1 (.lst b.pvs) mu) rfl rfl rfl rfl ih) (by decide) rfl
  refine (jZ (N5.trans (by rw [show iU "while" = true by decide +kernel]))).trans ?_
  refine bu (l:=.sh (.int ((z+b.cnt:Nat):Int))) (ρ1:=E) (gk (p:=.int (z:Nat)) (q:=.int (b.cnt:Nat)) (ρ1:=E) (l:=.sh (.int (z:Nat))) (m:=.sh (.int (b.cnt:Nat))) rfl rfl (j8 (ps:=[.lst [.int (b.cnt:Nat)]]) (aC (l:=.own (.lst [.int (b.cnt:Nat)])) ((eY (ρ1:=E) (xs:=[.lst b.pvs]) (di (l:=.sh (.tup [.lst b.pvs])) rfl rfl) comp).trans rfl) rfl) rfl ?_) rfl ?_) rfl rfl
  . exact Qn (by omega)
  . rw [Int.natCast_add]
    rfl
 | .iff e b c,n,X,z,ok,hd,hc=>by
  simp only [Row.cnt] at hc
  simp only [Row.dep] at hd
  have hb:=Rows.dep_pos b
  obtain ⟨m,rfl⟩:∃ m,n=m+1:=⟨n-1,by omega⟩
  have ih:=Ag (n:=m) (mu:=mu) (by omega) (qZ (mu:=mu) b m (.lst b.pvs) b.pvs.length none ok.2.1 (by omega) (by omega))
  have ih2:=Ag (n:=m) (mu:=mu) (by omega) (qZ (mu:=mu) c m (.lst c.pvs) c.pvs.length none ok.2.2 (by omega) (by omega))
  let E:=SE X z (some (.sh (Row.iff e b c).pv)) mu
  have comp:cI (aD 0) bH (Tu (m+1)) [.lst b.pvs,.lst c.pvs] ⟨[none],mu⟩ []=some ([.int (b.cnt:Nat),.int (c.cnt:Nat)],mu):=
   eV (ρ1:=E1 (.lst b.pvs) mu) (ρ2:=E1 (.lst b.pvs) mu) (l:=.sh (.int (b.cnt:Nat))) rfl (aV (ls:=[.sh (.lst b.pvs)]) (ps:=[.lst b.pvs]) (ρ1:=E1 (.lst b.pvs) mu) rfl rfl rfl rfl ih) (by decide)
    (eV (ρ1:=E1 (.lst c.pvs) mu) (ρ2:=E1 (.lst c.pvs) mu) (l:=.sh (.int (c.cnt:Nat))) rfl (aV (ls:=[.sh (.lst c.pvs)]) (ps:=[.lst c.pvs]) (ρ1:=E1 (.lst c.pvs) mu) rfl rfl rfl rfl ih2) (by simp only [List.nil_append,List.length_cons,List.length_nil]; omega) rfl)
  refine (jZ (N5.trans (by rw [show iU "if" = true by decide +kernel]))).trans ?_
  refine bu (l:=.sh (.int ((z+(b.cnt+c.cnt):Nat):Int))) (ρ1:=E) (gk (p:=.int (z:Nat)) (q:=.int ((b.cnt+c.cnt:Nat):Int)) (ρ1:=E) (l:=.sh (.int (z:Nat))) (m:=.sh (.int ((b.cnt+c.cnt:Nat):Int))) rfl rfl (j8 (ps:=[.lst [.int (b.cnt:Nat),.int (c.cnt:Nat)]]) (aC (l:=.own (.lst [.int (b.cnt:Nat),.int (c.cnt:Nat)])) ((eY (ρ1:=E) (xs:=[.lst b.pvs,.lst c.pvs]) (di (l:=.sh (.tup [.lst b.pvs,.lst c.pvs])) rfl rfl) comp).trans rfl) rfl) rfl ?_) rfl ?_) rfl rfl
  . exact Qo (by omega)
  . rw [Int.natCast_add]
    rfl
theorem qZ {mu:Mu}:∀ (rs:Rows) (n:Nat) (X:PV) (z:Nat) (o2:Option Lc),rs.ok->rs.dep<=n+1->rs.cnt<=1000->∃ p2,dh (aD 2) (Tv n) rs.pvs (SE X z o2 mu)=some (.nx (SE X (z+rs.inn) p2 mu))
 | .nil,n,X,z,o2,_,_,_=>⟨o2,rfl⟩
 | .cons r rs,n,X,z,o2,ok,hd,hc=>by
  simp only [Rows.dep] at hd
  simp only [Rows.cnt] at hc
  have e1:=Tz (mu:=mu) r n X z ok.1 (by omega) (by omega)
  have hi:r.inn<=r.cnt:=by cases r<;>simp only [Row.inn,Row.cnt]<;>omega
  obtain ⟨p2,e2⟩:=qZ (mu:=mu) rs n X (z+r.inn) (zS r.pv) ok.2 (by omega) (by omega)
  refine ⟨p2,eZ (ρ1:=SE X z (zS r.pv) mu) rfl e1 (e2.trans ?_)⟩
  simp only [Rows.inn,Nat.add_assoc]
end
theorem size_eq {rs:Rows} {mu:Mu} (ok:rs.ok) (hd:rs.dep<=40) (hc:rs.cnt<=1000):cT 40 [.lst rs.pvs] mu=some (.sh (.int (rs.cnt:Nat)),mu):=
 Ag hc (qZ rs 39 _ _ none ok (by omega) hc)
noncomputable def Rows.dl:Rows->Rows
 | .nil=>.nil
 | .cons _ .nil=>.nil
 | .cons r (.cons r' rs)=>.cons r (Rows.cons r' rs).dl
noncomputable def jb:Row->Rows->Row
 | r,.nil=>r
 | _,.cons r' rs=>jb r' rs
theorem CZ:∀ (r:Row) (rs:Rows),(Rows.cons r rs).pvs=(Rows.cons r rs).dl.pvs++[(jb r rs).pv]
 | r,.nil=>rfl
 | r,.cons r' rs=>by
  show r.pv::(Rows.cons r' rs).pvs=r.pv::((Rows.cons r' rs).dl.pvs++[(jb r' rs).pv])
  rw [CZ r' rs]
theorem JT:∀ (r:Row) (rs:Rows) (s:Nat),(Rows.cons r rs).lnum s=s+(Rows.cons r rs).dl.cnt
 | r,.nil,s=>rfl
 | r,.cons r' rs,s=>by
  show (Rows.cons r' rs).lnum (s+r.cnt)=s+(r.cnt+(Rows.cons r' rs).dl.cnt)
  rw [JT r' rs]
  omega
theorem N6:∀ (r:Row) (rs:Rows),(Rows.cons r rs).ok->(Rows.cons r rs).dl.ok/\(jb r rs).ok
 | r,.nil,h=>⟨True.intro,h.1⟩
 | r,.cons r' rs,h=>by
  obtain ⟨h1,h2⟩:=N6 r' rs h.2
  exact ⟨⟨h.1,h1⟩,h2⟩
theorem JV:∀ (r:Row) (rs:Rows),(Rows.cons r rs).dl.dep<=(Rows.cons r rs).dep/\(jb r rs).dep+1<=(Rows.cons r rs).dep
 | r,.nil=>by
  simp only [Rows.dl,jb,Rows.dep]
  omega
 | r,.cons r' rs=>by
  obtain ⟨h1,h2⟩:=JV r' rs
  have e:(Rows.cons r (.cons r' rs)).dep=max (r.dep+1) (Rows.cons r' rs).dep:=rfl
  have e2:(Rows.cons r (.cons r' rs)).dl.dep=max (r.dep+1) (Rows.cons r' rs).dl.dep:=rfl
  have e3:jb r (.cons r' rs)=jb r' rs:=rfl
  rw [e,e2,e3]
  omega
theorem JW:∀ (r:Row) (rs:Rows),(Rows.cons r rs).dl.cnt+(jb r rs).cnt=(Rows.cons r rs).cnt
 | r,.nil=>by simp [Rows.dl,jb,Rows.cnt]
 | r,.cons r' rs=>by
  have h:=JW r' rs
  show r.cnt+(Rows.cons r' rs).dl.cnt+(jb r' rs).cnt=r.cnt+(Rows.cons r' rs).cnt
  omega
theorem Mp {l:List PV} {x:PV}:nT (l++[x]) none (some (-1))=l:=by
 unfold nT HT.sIx
 simp
 have:(-1+((l.length:Int)+1)).toNat=l.length:=by omega
 rw [this]
 simp
noncomputable abbrev VE (p:PV) (k:Nat) (acc:List PV) (o3 o4:Option Lc) (mu:Mu):Ev:=⟨[zS p,zI (k:Nat),zO acc,o3,o4],mu⟩
theorem wV {w:Str} {ps acc:List PV} {k:Nat} {o3 o4:Option Lc} {mu:Mu}:aM (aa 0) (eC (.int 0)) (VE (.tup (.str w::ps)) k acc o3 o4 mu)=some (.sh (.str w),VE (.tup (.str w::ps)) k acc o3 o4 mu):=
 d9 (p:=.tup (.str w::ps)) (q:=.int 0) (l:=.sh (.tup (.str w::ps))) (m:=.sh (.int 0)) rfl rfl rfl rfl (fun n h=>by cases h) (by show (fW (PV.str w::ps) 0).map _=_; rw [at0]; rfl)
noncomputable abbrev Vk (f:Nat):SF:=aG (cJ (tT (eB tO (aj (du (fK (aa 4) cD) 1 [] (aD 0) bH (CV 40)) ao)) oX)
 (aL 2 (aq aY (aa 2) (aN (cM f) (aj (aM (aa 4) (lw (eC (.int 1)))) (aj (aq aY (aa 3) (aN (cT 40) (aj (lW (aa 4) fH (bU (lw (eC (.int 1))))) ao))) ao)))))
 b8)
 (aL 3 (aq aY (aa 3) (aN (cT 40) (aj (aa 4) ao))))
noncomputable abbrev Wc (f:Nat):SF:=aG (cJ (tT (aq eqP (aM (aa 0) (eC (.int 0))) (eC (.str "call"))) aU)
 (iR 2 (aq aY (eC (.str "leave ")) (aM (aa 0) (eC (.int 2)))))
 b8)
 (aG (cJ (tT (aq eqP (aM (aa 0) (eC (.int 0))) (eC (.str "if"))) aU)
 (aG (aL 3 (aq aY (aa 1) (eC (.int 1))))
 (fJ (fK (lB (aa 0) (bU (eC (.int 2))) fH) cD) (aD 4)
 (Vk f)))
 b8)
 (iY 2))
theorem Ah {mu:Mu} {k f:Nat} {r:Row} {L:List PV} {o3 o4:Option Lc} (hk:k<256) (ht:Wc f (VE r.pv k [.str (atT k)] none none mu)=some (.rt (.own (.lst L)) ⟨[zS r.pv,zI (k:Nat),none,o3,o4],mu⟩)):
 cM (f+1) [r.pv,.int (k:Nat)] mu=some (.own (.lst L),mu):=by
 obtain ⟨g1,g2,g3⟩:=JP k hk
 let E0:Ev:=⟨[zS r.pv,zI (k:Nat),none,none,none],mu⟩
 refine bj (ρ:=⟨[zS r.pv,zI (k:Nat),none,o3,o4],mu⟩) ?_
 refine aJ (ρ':=VE r.pv k [.str (atT k)] none none mu) (bu (l:=.own (.lst [.str (atT k)])) (ρ1:=E0) (wz (ls:=[.sh (.str (atT k))]) (aC (ρ1:=E0) (gk (p:=.str "at ") (q:=.str (ug k)) (ρ1:=E0) (l:=.sh (.str "at ")) (m:=.sh (.str (ug k))) rfl rfl (j8 (ls:=[.sh (.int (k:Nat))]) (ps:=[.int (k:Nat)]) (ρ1:=E0) rfl rfl g3) rfl ?_) rfl) rfl rfl) rfl rfl) ht
 show (if ("at " : Str).length+(ug k).length<=100000 then _ else _)=_
 rw [if_pos (by omega)]
 rfl
theorem FN {mu:Mu} {k f s:Nat} {p:PV} {rs:Rows} {acc:List PV} (ok:rs.ok) (hd:rs.dep<=38) (hc:rs.cnt<=900) (hz:acc.length+(rs.lbt s).length<=1000)
 (ih:∀ r rs',rs=.cons r rs'->cM f [(jb r rs').pv,.int (rs.lnum s:Nat)] mu=some (.own (.lst (fQ (rs.lbt s))),mu)):
 Vk f (VE p k acc (zI (s:Nat)) (zL rs.pvs) mu)=some (.nx (VE p k (acc++fQ (if rs.sp then rs.lbt s else [])) (zI ((s+rs.cnt:Nat):Int)) (zL rs.pvs) mu)):=by
 let E:=VE p k acc (zI (s:Nat)) (zL rs.pvs) mu
 have t:tT (eB tO (aj (du (fK (aa 4) cD) 1 [] (aD 0) bH (CV 40)) ao)) oX E=some (rs.sp,E):=Qm ok (by omega) (by omega)
 have last:∀ acc':List PV,aL 3 (aq aY (aa 3) (aN (cT 40) (aj (aa 4) ao))) (VE p k acc' (zI (s:Nat)) (zL rs.pvs) mu)=some (.nx (VE p k acc' (zI ((s+rs.cnt:Nat):Int)) (zL rs.pvs) mu)):=fun acc'=>by
  let E':=VE p k acc' (zI (s:Nat)) (zL rs.pvs) mu
  refine bu (l:=.sh (.int ((s+rs.cnt:Nat):Int))) (ρ1:=E') (gk (p:=.int (s:Nat)) (q:=.int (rs.cnt:Nat)) (ρ1:=E') (l:=.sh (.int (s:Nat))) (m:=.sh (.int (rs.cnt:Nat))) rfl rfl (aV (ls:=[.sh (.lst rs.pvs)]) (ps:=[.lst rs.pvs]) (ρ1:=E') rfl rfl rfl rfl (size_eq ok (by omega) (by omega))) rfl ?_) rfl rfl
  rw [Int.natCast_add]
  rfl
 cases hsp:rs.sp with
 | false=>
  rw [hsp] at t
  refine (cA t rfl).trans ((last acc).trans ?_)
  simp [fQ]
 | true=>
  rw [hsp] at t
  cases rs with
  | nil=>cases hsp
  | cons r rs'=>
   have e1:=ih r rs' rfl
   obtain ⟨k1,k2⟩:=N6 r rs' ok
   obtain ⟨k3,k4⟩:=JV r rs'
   have k5:=JW r rs'
   have k6:=JT r rs' s
   let F:Ev:=⟨[zS p,zI (k:Nat),zL acc,zI (s:Nat),zS (.lst (Rows.cons r rs').pvs)],mu⟩
   have ix:aM (aa 4) (lw (eC (.int 1))) F=some (.sh (jb r rs').pv,F):=by
    refine d9 (p:=.lst (Rows.cons r rs').pvs) (q:=.int (-1)) (ρ1:=F) (ρ2:=F) (l:=.sh (.lst (Rows.cons r rs').pvs)) (m:=.sh (.int (-1))) rfl rfl rfl rfl (fun n h=>by cases h) ?_
    show (fW (Rows.cons r rs').pvs (-1)).map _=_
    rw [CZ,vf]
    rfl
   have sl:lW (aa 4) fH (bU (lw (eC (.int 1)))) F=some (.own (.lst (Rows.cons r rs').dl.pvs),F):=by
    show some (Lc.own (.lst (nT (Rows.cons r rs').pvs none (some (-1)))),F)=_
    rw [CZ,Mp]
   have sz:=size_eq (mu:=mu) k1 (by omega) (by omega)
   have num:aq aY (aa 3) (aN (cT 40) (aj (lW (aa 4) fH (bU (lw (eC (.int 1))))) ao)) F=some (.sh (.int ((Rows.cons r rs').lnum s:Nat)),F):=by
    refine gk (p:=.int (s:Nat)) (q:=.int ((Rows.cons r rs').dl.cnt:Nat)) (ρ1:=F) (l:=.sh (.int (s:Nat))) (m:=.sh (.int ((Rows.cons r rs').dl.cnt:Nat))) rfl rfl (aV (ls:=[.own (.lst (Rows.cons r rs').dl.pvs)]) (ps:=[.lst (Rows.cons r rs').dl.pvs]) (ρ1:=F) (aC sl rfl) rfl rfl rfl sz) rfl ?_
    rw [k6,Int.natCast_add]
    rfl
   refine (pY t rfl (ρ2:=VE p k (acc++fQ ((Rows.cons r rs').lbt s)) (zI (s:Nat)) (zS (.lst (Rows.cons r rs').pvs)) mu) ?_).trans (last _)
   refine bu (l:=.own (.lst (acc++fQ ((Rows.cons r rs').lbt s)))) (ρ1:=F) (gk (p:=.lst acc) (q:=.lst (fQ ((Rows.cons r rs').lbt s))) (ρ1:=F) (l:=.sh (.lst acc)) (m:=.own (.lst (fQ ((Rows.cons r rs').lbt s)))) rfl rfl (aV (ls:=[.sh (jb r rs').pv,.sh (.int ((Rows.cons r rs').lnum s:Nat))]) (ps:=[(jb r rs').pv,.int ((Rows.cons r rs').lnum s:Nat)]) (ρ1:=F) (aC ix (aC num rfl)) rfl rfl rfl e1) rfl ?_) rfl rfl
   show (if acc.length+(fQ ((Rows.cons r rs').lbt s)).length<=100000 then _ else _)=_
   rw [if_pos (by rw [List.length_map]; omega)]
mutual
theorem JX {mu:Mu}:∀ (r:Row) (f k:Nat),r.ok->r.dep<=f->r.dep<=37->k+r.cnt<=256->r.bl<=900->cM f [r.pv,.int (k:Nat)] mu=some (.own (.lst (fQ (r.bt k))),mu)
 | .leaf x ps,f,k,ok,hd,h37,hc,hb=>by
  simp only [Row.cnt] at hc
  obtain ⟨m,rfl⟩:∃ m,f=m+1:=⟨f-1,by simp only [Row.dep] at hd; omega⟩
  obtain ⟨⟨h1,h2,h3⟩,_⟩:=ok
  exact Ah (o3:=none) (o4:=none) (by omega) ((cA (dw wV) h3).trans ((cA (dw wV) h1).trans rfl))
 | .call x m as,f,k,ok,hd,h37,hc,hb=>by
  simp only [Row.cnt] at hc
  obtain ⟨f,rfl⟩:∃ m,f=m+1:=⟨f-1,by simp only [Row.dep] at hd; omega⟩
  obtain ⟨_,hn,_,_⟩:=ok
  let P:=(Row.call x m as).pv
  refine Ah (o3:=none) (o4:=none) (by omega) ((pY (ρ2:=VE P k [.str (atT k),.str ("leave " ++ m)] none none mu) (dw wV) (by decide +kernel) ?_).trans ((cA (dw wV) (by decide +kernel)).trans rfl))
  refine lV (i:=2) (ws0:=[.str (atT k)]) (ws:=[.str (atT k)]) (p:=.str ("leave " ++ m)) (l:=.sh (.str ("leave " ++ m))) (ρ1:=VE P k [.str (atT k)] none none mu) rfl ?_ rfl rfl (by simp only [List.length_cons,List.length_nil]; omega) rfl
  refine gk (p:=.str "leave ") (q:=.str m) (ρ1:=VE P k [.str (atT k)] none none mu) (l:=.sh (.str "leave ")) (m:=.sh (.str m)) rfl rfl rfl rfl ?_
  show (if ("leave " : Str).length+m.length<=100000 then _ else _)=_
  have h6:("leave " : Str).length=6:=by decide +kernel
  rw [if_pos (by omega)]
 | .wh x b,f,k,ok,hd,h37,hc,hb=>by
  simp only [Row.cnt] at hc
  obtain ⟨m,rfl⟩:∃ m,f=m+1:=⟨f-1,by simp only [Row.dep] at hd; omega⟩
  exact Ah (o3:=none) (o4:=none) (by omega) ((cA (dw wV) (by decide +kernel)).trans ((cA (dw wV) (by decide +kernel)).trans rfl))
 | .iff x b c,f,k,ok,hd,h37,hc,hb=>by
  simp only [Row.cnt] at hc
  simp only [Row.dep] at hd h37
  simp only [Row.bl] at hb
  obtain ⟨m,rfl⟩:∃ m,f=m+1:=⟨f-1,by omega⟩
  let P:=(Row.iff x b c).pv
  let A0:List PV:=[.str (atT k)]
  let A1:=A0++fQ (if b.sp then b.lbt (k+1) else [])
  let A2:=A1++fQ (if c.sp then c.lbt (k+1+b.cnt) else [])
  have l1:=Rows.lbt_len b (k+1)
  have l2:=Rows.lbt_len c (k+1+b.cnt)
  have hA1:A1.length<=1+b.bl:=by
   simp only [A1,A0,List.length_append,List.length_map,List.length_cons,List.length_nil]
   split<;>(try simp only [List.length_nil])<;>omega
  have e1:=FN (mu:=mu) (f:=m) (k:=k) (p:=P) (acc:=A0) (s:=k+1) ok.2.1 (by omega) (by omega) (by simp only [A0,List.length_cons,List.length_nil]; omega) fun r rs e=>by
   have:=yp (mu:=mu) b m (k+1) ok.2.1 (by omega) (by omega) (by omega) (by omega)
   exact this r rs e
  have e2:=FN (mu:=mu) (f:=m) (k:=k) (p:=P) (acc:=A1) (s:=k+1+b.cnt) ok.2.2 (by omega) (by omega) (by omega) fun r rs e=>by
   have:=yp (mu:=mu) c m (k+1+b.cnt) ok.2.2 (by omega) (by omega) (by omega) (by omega)
   exact this r rs e
  let o3:Option Lc:=zI ((k+1+b.cnt+c.cnt:Nat):Int)
  let o4:Option Lc:=zL c.pvs
  refine Ah (o3:=o3) (o4:=o4) (by omega) ((cA (dw wV) (by decide +kernel)).trans ((pY (ρ2:=VE P k A2 o3 o4 mu) (dw wV) (by decide +kernel) ?_).trans ?_))
  . refine aJ (ρ':=VE P k A0 (zI ((k+1:Nat):Int)) none mu) (bu (l:=.sh (.int ((k+1:Nat):Int))) (ρ1:=VE P k A0 none none mu) (gk (p:=.int (k:Nat)) (q:=.int 1) (ρ1:=VE P k A0 none none mu) (l:=.sh (.int (k:Nat))) (m:=.sh (.int 1)) rfl rfl rfl rfl (by rw [Int.natCast_add]; rfl)) rfl rfl) ?_
    refine eN (xs:=[.lst b.pvs,.lst c.pvs]) (ρ1:=VE P k A0 (zI ((k+1:Nat):Int)) none mu) (di (l:=.sh (.tup [.lst b.pvs,.lst c.pvs])) rfl rfl) ?_
    exact CG (ρ1:=VE P k A0 (zI ((k+1:Nat):Int)) (zL b.pvs) mu) (ρ3:=VE P k A1 (zI ((k+1+b.cnt:Nat):Int)) (zL c.pvs) mu) rfl e1 rfl e2
  . have eA:A2=fQ ((Row.iff x b c).bt k):=by
     simp only [A2,A1,A0,Row.bt,fQ,List.map_append,List.map_cons,List.map_nil]
    rw [← eA]
    rfl
theorem yp {mu:Mu}:∀ (rs:Rows) (f s:Nat),rs.ok->rs.dep<=f+1->rs.dep<=38->s+rs.cnt<=256->rs.bl<=900->∀ r rs',rs=.cons r rs'->cM f [(jb r rs').pv,.int (rs.lnum s:Nat)] mu=some (.own (.lst (fQ (rs.lbt s))),mu)
 | .nil,f,s,_,_,_,_,_,r,rs',e=>by cases e
 | .cons r .nil,f,s,ok,hd,h38,hc,hb,_,_,e=>by
  cases e
  simp only [Rows.dep,Rows.cnt,Rows.bl] at hd h38 hc hb
  exact JX r f s ok.1 (by omega) (by omega) (by omega) (by omega)
 | .cons r (.cons r' rs),f,s,ok,hd,h38,hc,hb,_,_,e=>by
  cases e
  have hd':(Rows.cons r' rs).dep<=f+1:=Nat.le_trans (Nat.le_max_right _ _) hd
  have h38':(Rows.cons r' rs).dep<=38:=Nat.le_trans (Nat.le_max_right _ _) h38
  have hb':(Rows.cons r' rs).bl<=900:=Nat.le_trans (Nat.le_max_right _ _) hb
  have hc':s+r.cnt+(Rows.cons r' rs).cnt<=256:=by
   have:(Rows.cons r (.cons r' rs)).cnt=r.cnt+(Rows.cons r' rs).cnt:=rfl
   omega
  exact yp (.cons r' rs) f (s+r.cnt) ok.2 hd' h38' hc' hb' r' rs rfl
end
noncomputable def eE:Nat->List Row->List PV
 | _,[]=>[]
 | i,r::rs=>.tup [.int (i:Nat),r.pv]::eE (i+1) rs
theorem rm:∀ (i:Nat) (a b:List Row),eE i (a++b)=eE i a++eE (i+a.length) b
 | i,[],b=>rfl
 | i,r::a,b=>by
  show _::eE (i+1) (a++b)=_::(eE (i+1) a++_)
  rw [rm (i+1) a b,show i+(r::a).length=i+1+a.length by simp only [List.length_cons]; omega]
theorem rA:∀ (i:Nat) (a:List Row),(eE i a).length=a.length
 | i,[]=>rfl
 | i,r::a=>by simp [eE,rA]
noncomputable abbrev MA (mu:Mu) (t:Nat) (acc:List PV):Mu:=mu.set t (some (.lst acc))
theorem w5 {mu:Mu} {t:Nat} {acc:List PV} (h:t<mu.length):(MA mu t acc)[t]?=some (some (.lst acc)):=List.getElem?_set_self h
theorem TJ {mu:Mu} {t:Nat} {acc acc':List PV}:(MA mu t acc).set t (some (.lst acc'))=MA mu t acc':=List.set_set ..
noncomputable abbrev GE (X:PV) (f0 t k:Nat) (o4 o5:Option Lc) (mu:Mu):Ev:=⟨[zS X,zI (f0:Nat),zS (.ptr t),zI (k:Nat),o4,o5],mu⟩
noncomputable abbrev Mq:TF:=tT (aq lH (aM (aa 4) (eC (.int 0))) (bc (aj (eC (.str "if")) (aj (eC (.str "while")) ao)))) aU
theorem wG {X:PV} {f0 t k:Nat} {w:Str} {ps:List PV} {o5:Option Lc} {mu:Mu}:aM (aa 4) (eC (.int 0)) (GE X f0 t k (zS (.tup (.str w::ps))) o5 mu)=some (.sh (.str w),GE X f0 t k (zS (.tup (.str w::ps))) o5 mu):=
 d9 (p:=.tup (.str w::ps)) (q:=.int 0) (l:=.sh (.tup (.str w::ps))) (m:=.sh (.int 0)) rfl rfl rfl rfl (fun n h=>by cases h) (by show (fW (PV.str w::ps) 0).map _=_; rw [at0]; rfl)
theorem N7 {X:PV} {f0 t k:Nat} {w:Str} {ps:List PV} {o5:Option Lc} {mu:Mu}:Mq (GE X f0 t k (zS (.tup (.str w::ps))) o5 mu)=some (iU w,GE X f0 t k (zS (.tup (.str w::ps))) o5 mu):=
 gR (l:=.sh (.bl (iU w))) (aP wG rfl rfl) rfl
noncomputable abbrev TQ (n:Nat):SF:=aL 3 (aN (dH n) (aj (aa 5) (aj (aa 3) (aj (aa 2) ao))))
noncomputable abbrev N8 (n:Nat):SF:=aG (lg (aa 2) (bc (aj (aa 3) (aj (aa 4) ao))))
 (aG (aL 3 (aq aY (aa 3) (eC (.int 1))))
 (cJ Mq
 (fJ (fK (lB (aa 4) (bU (eC (.int 2))) fH) cD) (aD 5)
 (TQ n))
 b8))
theorem w6 {mu:Mu} {n f0 t k:Nat} {X:PV} {acc:List PV} {r:Row} {o5:Option Lc} {b:Bool} {R:Option Fl} (ht:t<mu.length) (hz:acc.length<1000) (hb:Mq (GE X f0 t (k+1) (zS r.pv) o5 (MA mu t (acc++[.tup [.int (k:Nat),r.pv]])))=some (b,GE X f0 t (k+1) (zS r.pv) o5 (MA mu t (acc++[.tup [.int (k:Nat),r.pv]]))))
 (h:(if b then fJ (fK (lB (aa 4) (bU (eC (.int 2))) fH) cD) (aD 5) (TQ n) else b8) (GE X f0 t (k+1) (zS r.pv) o5 (MA mu t (acc++[.tup [.int (k:Nat),r.pv]])))=R):
 N8 n (GE X f0 t k (zS r.pv) o5 (MA mu t acc))=R:=by
 let E:=GE X f0 t k (zS r.pv) o5 (MA mu t acc)
 refine aJ (ρ':=GE X f0 t k (zS r.pv) o5 (MA mu t (acc++[.tup [.int (k:Nat),r.pv]]))) (qT (n:=t) (ws0:=acc) (ws:=acc) (p:=.tup [.int (k:Nat),r.pv]) (o:=.sh (.ptr t)) (ρ1:=E) (y:=.sh (.tup [.int (k:Nat),r.pv])) (ρ2:=E) rfl rfl (w5 ht) rfl rfl (w5 ht) (by omega) TJ) ?_
 refine aJ (ρ':=GE X f0 t (k+1) (zS r.pv) o5 (MA mu t (acc++[.tup [.int (k:Nat),r.pv]]))) rfl ?_
 cases b with
 | true=>exact (jZ hb).trans h
 | false=>exact (jj hb).trans h
theorem Dc {mu mu':Mu} {n f0 t k k':Nat} {X p:PV} {o4:Option Lc} (h:dH n [p,.int (k:Nat),.ptr t] mu=some (.sh (.int (k':Nat)),mu')):TQ n (GE X f0 t k o4 (zS p) mu)=some (.nx (GE X f0 t k' o4 (zS p) mu')):=
 bu (l:=.sh (.int (k':Nat))) (ρ1:=GE X f0 t k o4 (zS p) mu') (aV (ls:=[.sh p,.sh (.int (k:Nat)),.sh (.ptr t)]) (ps:=[p,.int (k:Nat),.ptr t]) (ρ1:=GE X f0 t k o4 (zS p) mu) rfl rfl rfl rfl h) rfl rfl
theorem Ai {mu:Mu} {n t k:Nat} {acc:List PV} {rs:Rows} (h:∃ o4 o5,dh (aD 4) (N8 n) rs.pvs (GE (.lst rs.pvs) k t k none none (MA mu t acc))=some (.nx (GE (.lst rs.pvs) k t (k+rs.cnt) o4 o5 (MA mu t (acc++eE k rs.rws))))):dH (n+1) [.lst rs.pvs,.int (k:Nat),.ptr t] (MA mu t acc)=some (.sh (.int ((k+rs.cnt:Nat):Int)),MA mu t (acc++eE k rs.rws)):=by
 obtain ⟨o4,o5,h⟩:=h
 refine bj (ρ:=⟨[zL rs.pvs,zI (k:Nat),zS (.ptr t),none,o4,o5],MA mu t (acc++eE k rs.rws)⟩) ?_
 exact aJ (ρ':=GE (.lst rs.pvs) k t k none none (MA mu t acc)) rfl (aJ (eN (xs:=rs.pvs) (ρ1:=GE (.lst rs.pvs) k t k none none (MA mu t acc)) (di (l:=.sh (.lst rs.pvs)) rfl rfl) h) rfl)
mutual
theorem TV {mu:Mu} {t:Nat} (ht:t<mu.length):∀ (r:Row) (n:Nat) (X:PV) (f0 k:Nat) (acc:List PV) (o5:Option Lc),r.ok->r.dep<=n->acc.length+r.cnt<=1000->∃ p5,N8 n (GE X f0 t k (zS r.pv) o5 (MA mu t acc))=some (.nx (GE X f0 t (k+r.cnt) (zS r.pv) p5 (MA mu t (acc++eE k r.rws))))
 | .leaf x ps,n,X,f0,k,acc,o5,ok,hd,hc=>by
  simp only [Row.cnt] at hc
  exact ⟨o5,w6 (r:=.leaf x ps) (b:=false) ht (by omega) (by rw [← yo ok.1]; exact N7) rfl⟩
 | .call b m as,n,X,f0,k,acc,o5,ok,hd,hc=>by
  simp only [Row.cnt] at hc
  exact ⟨o5,w6 (r:=.call b m as) (b:=false) ht (by omega) (by rw [show false=iU "call" by decide +kernel]; exact N7) rfl⟩
 | .wh e b,n,X,f0,k,acc,o5,ok,hd,hc=>by
  simp only [Row.cnt] at hc
  simp only [Row.dep] at hd
  have hb:=Rows.dep_pos b
  obtain ⟨m,rfl⟩:∃ m,n=m+1:=⟨n-1,by omega⟩
  let P:=(Row.wh e b).pv
  let A1:=acc++[.tup [.int (k:Nat),P]]
  have hA:A1.length=acc.length+1:=by simp [A1]
  have ih:=Ai (n:=m) (mu:=mu) (t:=t) (k:=k+1) (acc:=A1) (rs:=b) (rB ht b m (.lst b.pvs) (k+1) (k+1) A1 none none ok.2 (by omega) (by omega))
  refine ⟨zL b.pvs,w6 (r:=.wh e b) (b:=true) ht (by omega) (by rw [show true=iU "while" by decide +kernel]; exact N7) ?_⟩
  refine eN (xs:=[.lst b.pvs]) (ρ1:=GE X f0 t (k+1) (zS P) o5 (MA mu t A1)) (di (l:=.sh (.tup [.lst b.pvs])) rfl rfl) ((Hk (ρ1:=GE X f0 t (k+1) (zS P) (zL b.pvs) (MA mu t A1)) rfl (Dc ih)).trans ?_)
  have e1:k+1+b.cnt=k+(Row.wh e b).cnt:=by simp only [Row.cnt]; omega
  have e2:A1++eE (k+1) b.rws=acc++eE k (Row.wh e b).rws:=by simp [A1,Row.rws,eE,P]
  rw [e1,e2]
 | .iff e b c,n,X,f0,k,acc,o5,ok,hd,hc=>by
  simp only [Row.cnt] at hc
  simp only [Row.dep] at hd
  have hb:=Rows.dep_pos b
  obtain ⟨m,rfl⟩:∃ m,n=m+1:=⟨n-1,by omega⟩
  let P:=(Row.iff e b c).pv
  let A1:=acc++[.tup [.int (k:Nat),P]]
  have hA:A1.length=acc.length+1:=by simp [A1]
  have ih:=Ai (n:=m) (mu:=mu) (t:=t) (k:=k+1) (acc:=A1) (rs:=b) (rB ht b m (.lst b.pvs) (k+1) (k+1) A1 none none ok.2.1 (by omega) (by omega))
  let A2:=A1++eE (k+1) b.rws
  have hA2:A2.length=acc.length+1+b.cnt:=by
   show (A1++eE (k+1) b.rws).length=_
   rw [List.length_append,rA,Rows.rws_len,hA]
  have ih2:=Ai (n:=m) (mu:=mu) (t:=t) (k:=k+1+b.cnt) (acc:=A2) (rs:=c) (rB ht c m (.lst c.pvs) (k+1+b.cnt) (k+1+b.cnt) A2 none none ok.2.2 (by omega) (by omega))
  refine ⟨zL c.pvs,w6 (r:=.iff e b c) (b:=true) ht (by omega) (by rw [show true=iU "if" by decide +kernel]; exact N7) ?_⟩
  refine eN (xs:=[.lst b.pvs,.lst c.pvs]) (ρ1:=GE X f0 t (k+1) (zS P) o5 (MA mu t A1)) (di (l:=.sh (.tup [.lst b.pvs,.lst c.pvs])) rfl rfl) ((CG (ρ1:=GE X f0 t (k+1) (zS P) (zL b.pvs) (MA mu t A1)) (ρ3:=GE X f0 t (k+1+b.cnt) (zS P) (zL c.pvs) (MA mu t A2)) rfl (Dc ih) rfl (Dc ih2)).trans ?_)
  have e1:k+1+b.cnt+c.cnt=k+(Row.iff e b c).cnt:=by simp only [Row.cnt]; omega
  have e2:A2++eE (k+1+b.cnt) c.rws=acc++eE k (Row.iff e b c).rws:=by simp [A2,A1,Row.rws,eE,P,rm,Rows.rws_len]
  rw [e1,e2]
theorem rB {mu:Mu} {t:Nat} (ht:t<mu.length):∀ (rs:Rows) (n:Nat) (X:PV) (f0 k:Nat) (acc:List PV) (o4 o5:Option Lc),rs.ok->rs.dep<=n+1->acc.length+rs.cnt<=1000->∃ p4 p5,dh (aD 4) (N8 n) rs.pvs (GE X f0 t k o4 o5 (MA mu t acc))=some (.nx (GE X f0 t (k+rs.cnt) p4 p5 (MA mu t (acc++eE k rs.rws))))
 | .nil,n,X,f0,k,acc,o4,o5,ok,hd,hc=>⟨o4,o5,by simp [Rows.pvs,dh,Rows.rws,eE,Rows.cnt]⟩
 | .cons r rs,n,X,f0,k,acc,o4,o5,ok,hd,hc=>by
  simp only [Rows.dep] at hd
  simp only [Rows.cnt] at hc
  obtain ⟨q5,e1⟩:=TV ht r n X f0 k acc o5 ok.1 (by omega) (by omega)
  obtain ⟨p4,p5,e2⟩:=rB ht rs n X f0 (k+r.cnt) (acc++eE k r.rws) (zS r.pv) q5 ok.2 (by omega) (by rw [List.length_append,rA,Row.rws_len]; omega)
  refine ⟨p4,p5,eZ (ρ1:=GE X f0 t k (zS r.pv) o5 (MA mu t acc)) rfl e1 (e2.trans ?_)⟩
  have e3:k+r.cnt+rs.cnt=k+(Rows.cons r rs).cnt:=by simp only [Rows.cnt]; omega
  have e4:acc++eE k r.rws++eE (k+r.cnt) rs.rws=acc++eE k (Rows.cons r rs).rws:=by simp [Rows.rws,rm,Row.rws_len]
  rw [e3,e4]
end
theorem JZ {mu:Mu} {t k:Nat} {acc:List PV} {rs:Rows} (ht:t<mu.length) (ok:rs.ok) (hd:rs.dep<=40) (hc:acc.length+rs.cnt<=1000):dH 40 [.lst rs.pvs,.int (k:Nat),.ptr t] (MA mu t acc)=some (.sh (.int ((k+rs.cnt:Nat):Int)),MA mu t (acc++eE k rs.rws)):=
 Ai (n:=39) (rB ht rs 39 _ k k acc none none ok (by omega) hc)
mutual
theorem Row.es_rws:∀ (r:Row) (w:Str) (ab:PV) (bl:Int) (k:Nat),(r.es w ab bl k).map Ent.r=r.rws
 | .leaf _ _,w,ab,bl,k=>rfl
 | .call _ _ _,w,ab,bl,k=>rfl
 | .wh e b,w,ab,bl,k=>by simp [Row.es,Row.rws,Rows.es_rws b]
 | .iff e b c,w,ab,bl,k=>by simp [Row.es,Row.rws,Rows.es_rws b,Rows.es_rws c]
theorem Rows.es_rws:∀ (rs:Rows) (w:Str) (ab:PV) (bl:Int) (k:Nat),(rs.es w ab bl k).map Ent.r=rs.rws
 | .nil,w,ab,bl,k=>rfl
 | .cons r rs,w,ab,bl,k=>by simp [Rows.es,Rows.rws,Row.es_rws r,Rows.es_rws rs]
end
noncomputable def Spot (es:List Ent) (k:Nat) (r:Row):Prop:=∃ w ab bl,mY es w ab bl k r
mutual
theorem Row.spots:∀ (r:Row) {es:List Ent} {w:Str} {ab:PV} {bl:Int} {k:Nat},mY es w ab bl k r->∀ (i:Nat) x,r.rws[i]?=some x->Spot es (k+i) x
 | .leaf a ps,es,w,ab,bl,k,h,i,x,hx=>by
  match i,hx with
  | 0,hx=>cases hx; exact ⟨w,ab,bl,h⟩
 | .call a n as,es,w,ab,bl,k,h,i,x,hx=>by
  match i,hx with
  | 0,hx=>cases hx; exact ⟨w,ab,bl,h⟩
 | .wh e b,es,w,ab,bl,k,h,i,x,hx=>by
  match i,hx with
  | 0,hx=>cases hx; exact ⟨w,ab,bl,h⟩
  | i+1,hx=>
   have:=Rows.spots b h.wh i x (by simpa [Row.rws] using hx)
   rw [show k+(i+1)=k+1+i by omega]
   exact this
 | .iff e b c,es,w,ab,bl,k,h,i,x,hx=>by
  match i,hx with
  | 0,hx=>cases hx; exact ⟨w,ab,bl,h⟩
  | i+1,hx=>
   have hx':(b.rws++c.rws)[i]?=some x:=by simpa [Row.rws] using hx
   rcases Nat.lt_or_ge i b.rws.length with hi | hi
   . rw [List.getElem?_append_left hi] at hx'
     have:=Rows.spots b h.iff.1 i x hx'
     rw [show k+(i+1)=k+1+i by omega]
     exact this
   . rw [List.getElem?_append_right hi] at hx'
     have:=Rows.spots c h.iff.2 _ x hx'
     rw [Rows.rws_len] at this hi
     rw [show k+(i+1)=k+1+b.cnt+(i-b.cnt) by omega]
     exact this
theorem Rows.spots:∀ (rs:Rows) {es:List Ent} {w:Str} {ab:PV} {bl:Int} {k:Nat},mz es w ab bl k rs->∀ (i:Nat) x,rs.rws[i]?=some x->Spot es (k+i) x
 | .nil,es,w,ab,bl,k,h,i,x,hx=>by cases hx
 | .cons r rs,es,w,ab,bl,k,h,i,x,hx=>by
  obtain ⟨h1,h2⟩:=h.cons
  have hx':(r.rws++rs.rws)[i]?=some x:=hx
  rcases Nat.lt_or_ge i r.rws.length with hi | hi
  . rw [List.getElem?_append_left hi] at hx'
    exact Row.spots r h1 i x hx'
  . rw [List.getElem?_append_right hi] at hx'
    have:=Rows.spots rs h2 _ x hx'
    rw [Row.rws_len] at this hi
    rw [show k+i=k+r.cnt+(i-r.cnt) by omega]
    exact this
end
noncomputable def jH:List Fn->List Row
 | []=>[]
 | f::fs=>f.rows.rws++jH fs
theorem sr:∀ fs:List Fn,(jH fs).length=cY fs
 | []=>rfl
 | f::fs=>by simp [jH,cY,Rows.rws_len,sr fs]
noncomputable def Pg.rws (P:Pg):List Row:=jH P.fns++P.rows.rws
theorem Dd {es:List Ent}:∀ (fs:List Fn) (k:Nat) (pre post:List Ent),es=pre++(n6 fs k++post)->pre.length=k->(∀ e∈pre++post,(e.ab=.non\/∃ j:Nat,e.ab=.int j)/\∀ m:Nat,k<=m->m<k+cY fs->e.ab≠.int m)->∀ (i:Nat) x,(jH fs)[i]?=some x->Spot es (k+i) x
 | [],k,pre,post,_,_,_,i,x,hx=>by cases hx
 | f::fs,k,pre,post,e,hl,hab,i,x,hx=>by
  simp only [cY] at hab
  have fab:∀ (fs:List Fn) (k:Nat),∀ e∈n6 fs k,(e.ab=.non\/∃ j:Nat,e.ab=.int j)/\∀ m:Nat,m<k->e.ab≠.int m:=by
   intro fs
   induction fs with
   | nil=>intro k e he; cases he
   | cons f fs ih=>
    intro k e he
    rcases List.mem_append.mp he with he | he
    . have g:=Rows.abs f.rows f.name .non 0 k e he
      exact ⟨g.num (k:=0) (.inl rfl),fun m hm=>g.ne (by intro q; cases q) (.inl hm)⟩
    . obtain ⟨g1,g2⟩:=ih _ e he
      exact ⟨g1,fun m hm=>g2 m (by omega)⟩
  have hx':(f.rows.rws++jH fs)[i]?=some x:=hx
  rcases Nat.lt_or_ge i f.rows.rws.length with hi | hi
  . rw [List.getElem?_append_left hi] at hx'
    refine Rows.spots f.rows (w:=f.name) (ab:=.non) (bl:=0) ⟨⟨pre,n6 fs (k+f.rows.cnt)++post,by rw [e]; simp [n6],hl,fun y hy=>?_⟩,.inl rfl⟩ i x hx'
    rcases List.mem_append.mp hy with q | q
    . obtain ⟨g1,g2⟩:=hab y (List.mem_append_left _ q)
      exact ⟨g1,fun m h1 h2=>g2 m h1 (by omega)⟩
    . rcases List.mem_append.mp q with q | q
      . obtain ⟨g1,g2⟩:=fab fs _ y q
        exact ⟨g1,fun m h1 h2=>g2 m h2⟩
      . obtain ⟨g1,g2⟩:=hab y (List.mem_append_right _ q)
        exact ⟨g1,fun m h1 h2=>g2 m h1 (by omega)⟩
  . rw [List.getElem?_append_right hi] at hx'
    have:=Dd (es:=es) fs (k+f.rows.cnt) (pre++f.rows.es f.name .non 0 k) post (by rw [e]; simp [n6]) (by rw [List.length_append,Rows.es_len,hl]) (fun y hy=>by
     rcases List.mem_append.mp hy with q | q
     . rcases List.mem_append.mp q with q | q
       . obtain ⟨g1,g2⟩:=hab y (List.mem_append_left _ q)
         exact ⟨g1,fun m h1 h2=>g2 m (by omega) (by omega)⟩
       . have g:=Rows.abs f.rows f.name .non 0 k y q
         exact ⟨g.num (k:=0) (.inl rfl),fun m h1 h2=>g.ne (by intro q; cases q) (.inr h1)⟩
     . obtain ⟨g1,g2⟩:=hab y (List.mem_append_right _ q)
       exact ⟨g1,fun m h1 h2=>g2 m (by omega) (by omega)⟩) _ x hx'
    rw [Rows.rws_len] at this hi
    rw [show k+i=k+f.rows.cnt+(i-f.rows.cnt) by omega]
    exact this
theorem Mr (P:Pg) (i:Nat) (x:Row) (hx:P.rws[i]?=some x):Spot P.es i x:=by
 have mab:∀ e∈P.rows.es "main" .non 0 (cY P.fns),(e.ab=.non\/∃ j:Nat,e.ab=.int j)/\∀ m:Nat,m<cY P.fns->e.ab≠.int m:=fun e he=>by
  have g:=Rows.abs P.rows "main" .non 0 _ e he
  exact ⟨g.num (k:=0) (.inl rfl),fun m hm=>g.ne (by intro q; cases q) (.inl hm)⟩
 have fab:∀ (fs:List Fn) (k:Nat),∀ e∈n6 fs k,(e.ab=.non\/∃ j:Nat,e.ab=.int j)/\∀ m:Nat,k+cY fs<=m->e.ab≠.int m:=by
  intro fs
  induction fs with
  | nil=>intro k e he; cases he
  | cons f fs ih=>
   intro k e he
   simp only [cY]
   rcases List.mem_append.mp he with he | he
   . have g:=Rows.abs f.rows f.name .non 0 k e he
     exact ⟨g.num (k:=0) (.inl rfl),fun m hm=>g.ne (by intro q; cases q) (.inr (by omega))⟩
   . obtain ⟨g1,g2⟩:=ih _ e he
     exact ⟨g1,fun m hm=>g2 m (by omega)⟩
 have hx':(jH P.fns++P.rows.rws)[i]?=some x:=hx
 rcases Nat.lt_or_ge i (jH P.fns).length with hi | hi
 . rw [List.getElem?_append_left hi] at hx'
   have:=Dd (es:=P.es) P.fns 0 [] (P.rows.es "main" .non 0 (cY P.fns)) rfl rfl (fun y hy=>by
    obtain ⟨g1,g2⟩:=mab y (by simpa using hy)
    exact ⟨g1,fun m _ h2=>g2 m (by omega)⟩) i x hx'
   rwa [Nat.zero_add] at this
 . rw [List.getElem?_append_right hi] at hx'
   have:=Rows.spots P.rows (es:=P.es) (w := "main") (ab:=.non) (bl:=0) (k:=cY P.fns) ⟨⟨n6 P.fns 0,[],by simp [Pg.es],uE _ _,fun y hy=>by
    obtain ⟨g1,g2⟩:=fab P.fns 0 y (by simpa using hy)
    exact ⟨g1,fun m h1 _=>g2 m (by omega)⟩⟩,.inl rfl⟩ _ x hx'
   rw [sr] at this hi
   rw [show i=cY P.fns+(i-cY P.fns) by omega]
   exact this
end
noncomputable abbrev SS (xs:List Str):List PV:=xs.map .str
theorem TX {ns:List Int} {i:Int} (h0:0<=i) (h1:i<ns.length):∃ c∈ns,nM (.lst (ns.map .int)) (.int i)=zI c:=by
 obtain ⟨x,e,e2⟩:=rQ (l:=ns.map PV.int) (i:=i) h0 (by rw [List.length_map]; exact h1)
 rw [List.getElem?_map] at e2
 obtain ⟨c,hc,rfl⟩:=map_some e2
 exact ⟨c,List.mem_of_getElem? hc,by show (fW (ns.map PV.int) i).map _=_; rw [e]; rfl⟩
theorem J0 {ns:List Str} {i:Int} (h0:0<=i) (h1:i<ns.length):∃ c∈ns,nM (.lst (SS ns)) (.int i)=zT c:=by
 obtain ⟨x,e,e2⟩:=rQ (l:=SS ns) (i:=i) h0 (by rw [List.length_map]; exact h1)
 rw [List.getElem?_map] at e2
 obtain ⟨c,hc,rfl⟩:=map_some e2
 exact ⟨c,List.mem_of_getElem? hc,by show (fW (SS ns) i).map _=_; rw [e]; rfl⟩
theorem cell_eq {ns:List Int} {k:Int} (h0:0<=k):∃ c,0<=c/\∀ mu,fC [.lst (ns.map .int),.int k] mu=some (.sh (.int c),mu):=by
 have t:∀ mu,tT (aq BJ (aa 1) (eB bC (aj (aa 0) ao))) aU (env0 2 [.lst (ns.map .int),.int k] mu)=some (decide (k<(ns.map PV.int).length),⟨[zL (ns.map .int),zI k],mu⟩):=fun mu=>rfl
 by_cases h:k<(ns.map PV.int).length
 . obtain ⟨c,_,e⟩:=TX (ns:=ns) h0 (by rw [List.length_map] at h; exact h)
   exact ⟨c%1000000007,Int.emod_nonneg _ (by decide),fun mu=>bj (ρ:=⟨[zL (ns.map .int),zI k],mu⟩) (xW ((jZ ((t mu).trans (by rw [decide_eq_true h]))).trans (gn (gk (d9 (l:=.sh (.lst (ns.map .int))) (m:=.sh (.int k)) rfl rfl rfl rfl (fun n h=>by cases h) e) rfl rfl rfl (cz (by decide))))))⟩
 . exact ⟨0,by decide,fun mu=>bj (ρ:=⟨[zL (ns.map .int),zI k],mu⟩) (aJ ((jj ((t mu).trans (by rw [decide_eq_false h]))).trans rfl) rfl)⟩
noncomputable abbrev LET:Str := "abcdefghijklmnopqrstuvwxyz"
noncomputable def xf (i:Int):Nat:=97+(i%26).toNat
noncomputable abbrev one (c:Nat):Str:=⟨#[c]⟩
theorem De (i:Int):nM (.str LET) (.int (i%26))=zT (one (xf i)):=by
 unfold xf
 have h0:=Int.emod_nonneg i (b:=26) (by decide)
 have h1:=Int.emod_lt_of_pos i (b:=26) (by decide)
 generalize i%26=r at h0 h1
 obtain ⟨n,rfl⟩:=Int.eq_ofNat_of_zero_le h0
 have h2:n<26:=by omega
 have:∀ n:Nat,n<26->(match nM (.str LET) (.int (n:Int)) with | some (.sh (.str x))=>x.cps.toList==[97+n] | _=>false)=true:=by decide +kernel
 have h3:=this n h2
 split at h3
 . rename_i x e
   rw [e]
   have h4:x.cps.toList=[97+n]:=by simpa using h3
   have h5:x=one (97+n):=by
    cases x with | mk cps=>
    show Str.mk cps=Str.mk #[97+n]
    congr 1
    exact Array.toList_inj.mp h4
   rw [h5]
   rfl
 . cases h3
theorem Ho:∀ cs:List Nat,Txt.join "" (cs.map one)=⟨cs.toArray⟩:=by
 intro cs
 unfold Txt.join
 rw [StrLaws.glued_eq_join]
 induction cs with
 | nil=>rfl
 | cons c cs ih=>
  cases cs with
  | nil=>rfl
  | cons d cs=>
   show (one c ++ "" ++ Str.join "" ((d::cs).map one):Str)=_
   rw [ih]
   show Str.mk ((#[c]++#[])++(d::cs).toArray)=_
   simp
theorem strs_map:∀ xs:List Str,strsOf (SS xs)=some xs
 | []=>rfl
 | x::xs=>by
  show (strsOf (SS xs)).map _=_
  rw [strs_map xs]
  rfl
theorem Df:∀ cs:List Nat,((cs.map one).map (·.length)).sum=cs.length
 | []=>rfl
 | c::cs=>by rw [List.map_cons,List.map_cons,List.sum_cons,Df cs,List.length_cons]; show 1+_=_; omega
theorem FP {fa:EF} {ρ ρ1:Ev} {m:Lc} {cs:List Nat} (h:fa ρ=some (m,ρ1)) (hm:m.pv=.lst (SS (cs.map one))) (hl:cs.length<=100):nu (eC (.str "")) (aj fa ao) ρ=some (.sh (.str ⟨cs.toArray⟩),ρ1):=by
 rw [← Ho]
 refine Ly rfl (aC h rfl) rfl hm (strs_map _) ?_
 rw [Df,List.length_map,show ("" : Str).length=0 from rfl]
 omega
theorem letters {elt:EF} {c k:Int} {mu:Mu} {g:Nat->Nat} (hk0:0<=k) (hk:k<100) (he:∀ i:Nat,(i:Int)<k->elt ⟨[zI (0+i),zT LET,zI c],mu⟩=some (.sh (.str (one (g i))),⟨[zI (0+i),zT LET,zI c],mu⟩)):
 cI (aD 0) bH elt (iu 0 k.toNat) ⟨[none,zT LET,zI c],mu⟩ []=some (SS (((List.range k.toNat).map g).map one),mu):=by
 have:=yU (b:=aD 0) (te:=elt) (mu:=mu) (fun ρ=>∃ o,ρ=⟨[o,zT LET,zI c],mu⟩) (fun ρ ⟨o,e⟩=>by rw [e]) (fun p=>match p with | .int i=>.str (one (g i.toNat)) | _=>.non)
  (xs:=iu 0 k.toNat) (ρ:=⟨[none,zT LET,zI c],mu⟩) ⟨none,rfl⟩ (by rw [qG]; omega) (by
    rintro x hx ρ ⟨o,rfl⟩
    obtain ⟨i,hi,rfl⟩:=PQ hx
    refine ⟨_,rfl,_,_,he i (by omega),?_,_,rfl⟩
    show PV.str _=PV.str (one (g (0+(i:Int)).toNat))
    rw [Int.zero_add,Int.toNat_natCast]) (by
    rintro x hx ρ ρ1 ⟨o,rfl⟩ e
    cases e
    exact ⟨_,rfl⟩)
 rw [this]
 congr 2
 unfold iu SS
 rw [List.map_map,List.map_map,List.map_map]
 refine List.map_congr_left fun i _=>?_
 show PV.str (one (g (0+(i:Int)).toNat))=PV.str (one (g i))
 rw [Int.zero_add,Int.toNat_natCast]
theorem U0 {c:Int}:∃ m:Int,0<m/\m<=8/\nM (.lst [.int 1,.int 2,.int 3,.int 5,.int 6,.int 7,.int 8]) (.int (c%7))=zI m:=by
 have h0:=Int.emod_nonneg c (b:=7) (by decide)
 have h1:=Int.emod_lt_of_pos c (b:=7) (by decide)
 generalize c%7=r at h0 h1
 rcases (by omega:r=0\/r=1\/r=2\/r=3\/r=4\/r=5\/r=6) with rfl | rfl | rfl | rfl | rfl | rfl | rfl
 . exact ⟨1,by decide,by decide,rfl⟩
 . exact ⟨2,by decide,by decide,rfl⟩
 . exact ⟨3,by decide,by decide,rfl⟩
 . exact ⟨5,by decide,by decide,rfl⟩
 . exact ⟨6,by decide,by decide,rfl⟩
 . exact ⟨7,by decide,by decide,rfl⟩
 . exact ⟨8,by decide,by decide,rfl⟩
theorem J1 {xs:List Str} {x:Str}:SS xs++[.str x]=SS (xs++[x]):=by show _=List.map PV.str (xs++[x]); rw [List.map_append]; rfl
noncomputable abbrev iQ (c n:Int) (l3 o4 o5 o6 o7 o8:Option Lc) (mu:Mu):Ev:=⟨[zI c,zI n,zT LET,l3,o4,o5,o6,o7,o8],mu⟩
noncomputable def cO (d:Int):List Nat:=(List.range 10).map fun i:Nat=>xf (d/2+3*(0+i))
noncomputable def J2 (d:Int) (k:Nat):Str:=jM ⟨(cO d).toArray⟩ (some ((0+k:Int)%5)) (some ((0+k:Int)%5+1+(0+k:Int)/5))
noncomputable def nmE (l:List Nat) (d:Int) (a:Nat) (k:Nat):Str:=⟨(l.set a (xf (d/112+(0+k)))).toArray⟩
theorem Qp {l:List Nat} {a c:Nat}:(SS (l.map one)).set a (.str (one c))=SS ((l.set a c).map one):=by
 show (List.map PV.str (l.map one)).set a _=List.map PV.str (List.map one (l.set a c))
 rw [List.map_set,List.map_set]
theorem Qq {d:Int} (k:Nat):(J2 d k).length<=100:=by
 have h:(cO d).length=10:=by unfold cO; simp
 unfold J2 jM Str.length
 simp only [List.size_toArray,List.length_take,List.length_drop]
 omega
theorem Ms {c n:Int} (hn0:0<=n) (hn:n<=30):∃ xs:List Str,xs.length=n.toNat/\(∀ x∈xs,x.length<=100)/\∀ mu,mj [.int c,.int n] mu=some (.own (.lst (SS xs)),mu):=by
 obtain ⟨d,hcc⟩:∃ d,c=d:=⟨c,rfl⟩
 have head:∀ (mu:Mu) (g:SF) R,g (iQ d n (zO (SS [])) none none none none none mu)=R->(aG (aL 2 (eC (.str "abcdefghijklmnopqrstuvwxyz"))) (aG (aL 3 (cU ao)) g)) (env0 9 [.int c,.int n] mu)=R:=fun mu g R hg=>by
  subst hcc
  exact aJ rfl (aJ rfl hg)
 have t1:∀ mu:Mu,tT (aq eqP (aq aO (aa 0) (eC (.int 2))) (eC (.int 1))) aU (iQ d n (zO (SS [])) none none none none none mu)=some (d%2==1,iQ d n (zO (SS [])) none none none none none mu):=fun mu=>rfl
 have rg:∀ (mu:Mu) l3 o4 o6 o7 o8,gJ (aj (aa 1) ao) (iQ d n l3 o4 none o6 o7 o8 mu)=some (iu 0 n.toNat,iQ d n l3 o4 none o6 o7 o8 mu):=fun mu l3 o4 o6 o7 o8=>j0 (l:=.sh (.int n)) rfl rfl (by omega) (by omega)
 cases h2:(d%2==1) with
 | true=>
  refine ⟨(List.range n.toNat).map (J2 d),by simp,fun x hx=>?_,fun mu=>?_⟩
  . obtain ⟨k,_,rfl⟩:=List.mem_map.mp hx
    exact Qq k
  have ec:=letters (elt:=aM (aa 1) (aq aO (aq aY (aq aZ (aa 2) (eC (.int 2))) (aq fL (eC (.int 3)) (aa 0))) (eC (.int 26)))) (c:=d) (k:=10) (mu:=mu) (g:=fun i:Nat=>xf (d/2+3*(0+i))) (by decide) (by decide) (fun i _=>d9 (q:=.int ((d/2+3*(0+i))%26)) rfl rfl (aP (aP (aP rfl rfl (fX (by decide) (by decide))) (aP rfl rfl (BV (by decide) (by decide))) rfl) rfl (cz (by decide))) rfl (fun n h=>by cases h) (De (d/2+3*(0+i))))
  obtain ⟨t,rt,lt⟩:∃ t:Str,t=⟨(cO d).toArray⟩/\t.length<=100000:=⟨_,rfl,by show (cO d).toArray.size<=_; unfold cO; simp⟩
  have ej:∀ (fa:EF) (ρ ρ1:Ev) (m:Lc),fa ρ=some (m,ρ1)->m.pv=.lst (SS ((cO d).map one))->nu (eC (.str "")) (aj fa ao) ρ=some (.sh (.str t),ρ1):=fun fa ρ ρ1 m h hm=>by rw [rt]; exact FP h hm (by unfold cO; simp)
  have hnm:∀ j:Nat,jM t (some ((0+j:Int)%5)) (some ((0+j:Int)%5+1+(0+j:Int)/5))=J2 d j:=fun j=>by rw [rt]; rfl
  clear rt
  have s4:aL 4 (nu (eC (.str "")) (aj (du (gJ (aj (eC (.int 10)) ao)) 1 [2,0] (aD 0) bH (aM (aa 1) (aq aO (aq aY (aq aZ (aa 2) (eC (.int 2))) (aq fL (eC (.int 3)) (aa 0))) (eC (.int 26))))) ao)) (iQ d n (zO (SS [])) none none none none none mu)=some (.nx (iQ d n (zO (SS [])) (zT t) none none none none mu)):=
   bu (ej _ _ (iQ d n (zO (SS [])) none none none none none mu) (.own (.lst (SS ((cO d).map one)))) ((eY (ρ1:=iQ d n (zO (SS [])) none none none none none mu) (j0 (l:=.sh (.int 10)) (n:=10) rfl rfl (by decide) (by decide)) ec).trans rfl) rfl) rfl rfl
  obtain ⟨ρ',ef,xs,o5,rfl,hx⟩:=Fd (b:=aD 5) (body:=iR 3 (lW (aa 4) (bU (aq aO (aa 5) (eC (.int 5)))) (bU (aq aY (aq aY (aq aO (aa 5) (eC (.int 5))) (eC (.int 1))) (aq aZ (aa 5) (eC (.int 5))))))) (xs:=iu 0 n.toNat) (ρ:=iQ d n (zO (SS [])) (zT t) none none none none mu)
   (fun i ρ=>∃ xs o5,ρ=iQ d n (zO (SS xs)) (zT t) o5 none none none mu/\xs=(List.range i).map (J2 d)) ⟨[],none,rfl,rfl⟩ (by
     rintro i x ρ hx ⟨xs,o5,rfl,hl⟩
     have hi:i<n.toNat:=by have:=(List.getElem?_eq_some_iff.mp hx).1; rw [qG] at this; exact this
     obtain ⟨j,rfl,rfl⟩:∃ j:Nat,j=i/\x=.int (0+(j:Int)):=⟨i,rfl,by unfold iu at hx; rw [List.getElem?_map,List.getElem?_range hi] at hx; cases hx; rfl⟩
     have hlx:xs.length=j:=by rw [hl]; simp
     have es:lW (aa 4) (bU (aq aO (aa 5) (eC (.int 5)))) (bU (aq aY (aq aY (aq aO (aa 5) (eC (.int 5))) (eC (.int 1))) (aq aZ (aa 5) (eC (.int 5))))) (iQ d n (zO (SS xs)) (zT t) (zI (0+j)) none none none mu)=some (.sh (.str (jM t (some ((0+j:Int)%5)) (some ((0+j:Int)%5+1+(0+j:Int)/5)))),iQ d n (zO (SS xs)) (zT t) (zI (0+j)) none none none mu):=by
      show (if t.length<=100000 then _ else none)=_
      rw [if_pos lt]
      rfl
     refine ⟨_,rfl,iQ d n (some (.own (.lst (SS (xs++[jM t (some ((0+j:Int)%5)) (some ((0+j:Int)%5+1+(0+j:Int)/5))]))))) (zT t) (zI (0+j)) none none none mu,.inl ((lV rfl es rfl rfl (by rw [List.length_map]; omega) rfl).trans ?_),_,_,rfl,by rw [hnm,hl,List.range_succ,List.map_append]; rfl⟩
     rw [← J1]
     rfl)
  rw [qG] at hx
  subst hx
  exact bj (ρ:=iQ d n none (zT t) o5 none none none mu) (head mu _ _ (xW ((jZ ((t1 mu).trans (by rw [h2]))).trans (aJ s4 (aJ (eN (rg mu _ _ _ _ _) ef) rfl)))))
 | false=>
  obtain ⟨m,hm0,hm8,em⟩:=U0 (c:=d/2)
  have ha0:=Int.emod_nonneg (d/14) (b:=m) (by omega)
  have ha1:=Int.emod_lt_of_pos (d/14) (b:=m) hm0
  refine ⟨(List.range n.toNat).map (nmE ((List.range m.toNat).map fun i:Nat=>xf (d/((0+i:Int)+1)+(0+i)*(0+i))) d (d/14%m).toNat),by simp,fun x hx=>?_,fun mu=>?_⟩
  . obtain ⟨k,_,rfl⟩:=List.mem_map.mp hx
    unfold nmE Str.length
    simp
    omega
  have s6:aL 6 (aM (cU (aj (eC (.int 1)) (aj (eC (.int 2)) (aj (eC (.int 3)) (aj (eC (.int 5)) (aj (eC (.int 6)) (aj (eC (.int 7)) (aj (eC (.int 8)) ao)))))))) (aq aO (aq aZ (aa 0) (eC (.int 2))) (eC (.int 7)))) (iQ d n (zO (SS [])) none none none none none mu)=some (.nx (iQ d n (zO (SS [])) none none (zI m) none none mu)):=
   bu (d9 (l:=.own (.lst [.int 1,.int 2,.int 3,.int 5,.int 6,.int 7,.int 8])) (q:=.int (d/2%7)) rfl rfl rfl rfl (fun n h=>by cases h) em) rfl rfl
  have s7:aL 7 (aq aO (aq aZ (aa 0) (eC (.int 14))) (aa 6)) (iQ d n (zO (SS [])) none none (zI m) none none mu)=some (.nx (iQ d n (zO (SS [])) none none (zI m) (zI (d/14%m)) none mu)):=
   bu (gk rfl rfl rfl rfl (cz hm0)) rfl rfl
  generalize d/14%m=at_ at s7 ha0 ha1
  have ec0:=letters (elt:=aM (aa 1) (aq aO (aq aY (aq aZ (aa 2) (aq aY (aa 0) (eC (.int 1)))) (aq fL (aa 0) (aa 0))) (eC (.int 26)))) (c:=d) (k:=m) (mu:=mu) (g:=fun i:Nat=>xf (d/((0+i:Int)+1)+(0+i)*(0+i))) (by omega) (by omega) (fun i hi=>d9 (q:=.int ((d/((0+i:Int)+1)+(0+i)*(0+i))%26)) rfl rfl (aP (aP (aP rfl rfl (fX (by omega) (by omega))) (aP rfl rfl (BV (by omega) (by omega))) rfl) rfl (cz (by decide))) rfl (fun n h=>by cases h) (De (d/((0+i:Int)+1)+(0+i)*(0+i))))
  obtain ⟨l,rl⟩:∃ l,l=(List.range m.toNat).map fun i:Nat=>xf (d/((0+i:Int)+1)+(0+i)*(0+i)):=⟨_,rfl⟩
  rw [← rl] at ec0
  have l1:l.length=m.toNat:=by rw [rl]; simp
  obtain ⟨ps,hps⟩:∃ ps,ps=SS (l.map one):=⟨_,rfl⟩
  have ec:=ec0
  rw [← hps] at ec
  have lps:ps.length=m.toNat:=by rw [hps,List.length_map,List.length_map,l1]
  obtain ⟨ρ',ef,xs,o5,o8,rfl,hx⟩:=Fd (b:=aD 5) (body:=aG (aL 8 (du (gJ (aj (aa 6) ao)) 1 [2,0] (aD 0) bH (aM (aa 1) (aq aO (aq aY (aq aZ (aa 2) (aq aY (aa 0) (eC (.int 1)))) (aq fL (aa 0) (aa 0))) (eC (.int 26))))))
   (aG (pP 8 (aa 7) (aM (aa 2) (aq aO (aq aY (aq aZ (aa 0) (eC (.int 112))) (aa 5)) (eC (.int 26)))))
   (iR 3 (nu (eC (.str "")) (aj (aa 8) ao))))) (xs:=iu 0 n.toNat) (ρ:=iQ d n (zO (SS [])) none none (zI m) (zI at_) none mu)
   (fun i ρ=>∃ xs o5 o8,ρ=iQ d n (zO (SS xs)) none o5 (zI m) (zI at_) o8 mu/\xs=(List.range i).map (nmE l d at_.toNat)) ⟨[],none,none,rfl,rfl⟩ (by
     rintro i x ρ hx ⟨xs,o5,o8,rfl,hl⟩
     have hi:i<n.toNat:=by have:=(List.getElem?_eq_some_iff.mp hx).1; rw [qG] at this; exact this
     obtain ⟨j,rfl,rfl⟩:∃ j:Nat,j=i/\x=.int (0+(j:Int)):=⟨i,rfl,by unfold iu at hx; rw [List.getElem?_map,List.getElem?_range hi] at hx; cases hx; rfl⟩
     have hlx:xs.length=j:=by rw [hl]; simp
     obtain ⟨ch,hch,e⟩:∃ ch,ch=xf (d/112+(0+j))/\nM (.str LET) (.int ((d/112+(0+j))%26))=zS (.str ⟨#[ch]⟩):=⟨_,rfl,De _⟩
     obtain ⟨t,rt⟩:∃ t:Str,t=nmE l d at_.toNat j:=⟨_,rfl⟩
     have ej:∀ (fa:EF) (ρ ρ1:Ev) (m:Lc),fa ρ=some (m,ρ1)->m.pv=.lst (ps.set at_.toNat (.str ⟨#[ch]⟩))->nu (eC (.str "")) (aj fa ao) ρ=some (.sh (.str t),ρ1):=fun fa ρ ρ1 m h hm=>by
      rw [rt]
      rw [hps,Qp,hch] at hm
      exact FP h hm (by rw [List.length_set,l1]; omega)
     have g1:aL 8 (du (gJ (aj (aa 6) ao)) 1 [2,0] (aD 0) bH (aM (aa 1) (aq aO (aq aY (aq aZ (aa 2) (aq aY (aa 0) (eC (.int 1)))) (aq fL (aa 0) (aa 0))) (eC (.int 26))))) (iQ d n (zO (SS xs)) none (zI (0+j)) (zI m) (zI at_) o8 mu)=some (.nx (iQ d n (zO (SS xs)) none (zI (0+j)) (zI m) (zI at_) (zO ps) mu)):=
      bu ((eY (ρ1:=iQ d n (zO (SS xs)) none (zI (0+j)) (zI m) (zI at_) o8 mu) (j0 (l:=.sh (.int m)) (n:=m) rfl rfl (by omega) (by omega)) ec).trans rfl) rfl rfl
     have g2:pP 8 (aa 7) (aM (aa 2) (aq aO (aq aY (aq aZ (aa 0) (eC (.int 112))) (aa 5)) (eC (.int 26)))) (iQ d n (zO (SS xs)) none (zI (0+j)) (zI m) (zI at_) (zO ps) mu)=some (.nx (iQ d n (zO (SS xs)) none (zI (0+j)) (zI m) (zI at_) (zO (ps.set at_.toNat (.str ⟨#[ch]⟩))) mu)):=by
      refine Fe (k:=at_) (j:=at_.toNat) (d9 (q:=.int ((d/112+(0+j))%26)) rfl rfl rfl rfl (fun n h=>by cases h) e) rfl rfl rfl rfl rfl ?_ rfl
      unfold nY
      rw [if_pos ha0,if_pos (by omega)]
     refine ⟨_,rfl,iQ d n (zO (SS (xs++[t]))) none (zI (0+j)) (zI m) (zI at_) (zL (ps.set at_.toNat (.str ⟨#[ch]⟩))) mu,.inl (aJ g1 (aJ g2 ((lV rfl (ej (aa 8) _ (iQ d n (zO (SS xs)) none (zI (0+j)) (zI m) (zI at_) (zL (ps.set at_.toNat (.str ⟨#[ch]⟩))) mu) (.sh (.lst (ps.set at_.toNat (.str ⟨#[ch]⟩)))) rfl rfl) rfl rfl (by rw [List.length_map]; omega) rfl).trans ?_))),_,_,_,rfl,by rw [rt,hl,List.range_succ,List.map_append]; rfl⟩
     rw [← J1]
     rfl)
  rw [qG] at hx
  subst hx
  rw [rl] at *
  exact bj (ρ:=iQ d n none none o5 (zI m) (zI at_) o8 mu) (head mu _ _ (aJ ((jj ((t1 mu).trans (by rw [h2]))).trans rfl) (aJ s6 (aJ s7 (aJ (eN (rg mu _ _ _ _ _) ef) rfl)))))
theorem pG (xs:List Str):(SS xs).length=xs.length:=List.length_map _
theorem rC {i:Nat} {ρ:Ev} {xs:List Str} (hv:aa i ρ=some (.sh (.lst (SS xs)),ρ)):tT (aq iw (eB bC (aj (aa i) ao)) (eC (.int 0))) aU ρ=some (!xs.isEmpty,ρ):=by
 refine gR (l:=.sh (.bl (!xs.isEmpty))) (gk (p:=.int ((SS xs).length:Nat)) (q:=.int 0) (ρ1:=ρ) (l:=.sh (.int ((SS xs).length:Nat))) (m:=.sh (.int 0)) (j8 (ls:=[.sh (.lst (SS xs))]) (ps:=[.lst (SS xs)]) (ρ1:=ρ) (aC hv rfl) rfl rfl) rfl rfl rfl ?_) rfl
 show some (Lc.sh (.bl (decide (((SS xs).length:Int)>0))))=_
 rw [pG]
 cases xs with
 | nil=>rfl
 | cons x xs=>simp
theorem Qs {i:Nat} {ρ:Ev} {xs:List Str} (hv:aa i ρ=some (.sh (.lst (SS xs)),ρ)):tT (aq eqP (eB bC (aj (aa i) ao)) (eC (.int 0))) aU ρ=some (xs.isEmpty,ρ):=by
 refine gR (l:=.sh (.bl xs.isEmpty)) (gk (p:=.int ((SS xs).length:Nat)) (q:=.int 0) (ρ1:=ρ) (l:=.sh (.int ((SS xs).length:Nat))) (m:=.sh (.int 0)) (j8 (ls:=[.sh (.lst (SS xs))]) (ps:=[.lst (SS xs)]) (ρ1:=ρ) (aC hv rfl) rfl rfl) rfl rfl rfl ?_) rfl
 show some (Lc.sh (.bl (((SS xs).length:Int)==0)))=_
 rw [pG]
 cases xs with
 | nil=>rfl
 | cons x xs=>simp; omega
theorem pick {xs:List Str} (h:xs≠[]) (a d:Int) (hd:0<d) (hd2:d<1073741824):∃ x∈xs,∀ (i:Nat) (fa:EF) (ρ:Ev),aa i ρ=some (.sh (.lst (SS xs)),ρ)->fa ρ=some (.sh (.int a),ρ)->aM (aa i) (aq aO (aq aZ fa (eC (.int d))) (eB bC (aj (aa i) ao))) ρ=some (.sh (.str x),ρ):=by
 have hl:(0:Int)<xs.length:=by have:=List.length_pos_iff.mpr h; omega
 obtain ⟨x,hx,e⟩:=J0 (ns:=xs) (i:=a/d%xs.length) (Int.emod_nonneg _ (by omega)) (Int.emod_lt_of_pos _ hl)
 refine ⟨x,hx,fun i fa ρ hv ha=>d9 (p:=.lst (SS xs)) (q:=.int (a/d%xs.length)) (ρ1:=ρ) (ρ2:=ρ) (l:=.sh (.lst (SS xs))) (m:=.sh (.int (a/d%xs.length))) hv rfl (aP (ρ1:=ρ) (x:=.sh (.int (a/d))) (y:=.sh (.int ((SS xs).length:Nat))) (aP (ρ1:=ρ) (x:=.sh (.int a)) (y:=.sh (.int d)) ha rfl (fX hd hd2)) (j8 (ls:=[.sh (.lst (SS xs))]) (ps:=[.lst (SS xs)]) (ρ1:=ρ) (aC hv rfl) rfl rfl) ?_) rfl (fun n h=>by cases h) e⟩
 show aO (.int (a/d)) (.int ((SS xs).length:Nat))=_
 rw [pG]
 exact cz hl
noncomputable abbrev XE (c:Int) (own ls:List Str) (p:PV) (o4 o5 o6 o7:Option Lc) (mu:Mu):Ev:=⟨[zI c,zL (SS own),zL (SS ls),zS p,o4,o5,o6,o7],mu⟩
theorem TY (a:Int):∃ s,nM (.str "+-*<=") (.int (a%5))=zT s:=by
 have h0:=Int.emod_nonneg a (b:=5) (by decide)
 have h1:=Int.emod_lt_of_pos a (b:=5) (by decide)
 generalize a%5=r at h0 h1
 have h:∀ n:Nat,n<5->(match nM (.str "+-*<=") (.int (n:Int)) with | some (.sh (.str _))=>true | _=>false)=true:=by decide +kernel
 have g:=h r.toNat (by omega)
 rw [Int.toNat_of_nonneg h0] at g
 split at g
 . rename_i x e
   exact ⟨x,e⟩
 . cases g
theorem uI {xs:List Str} {b:Bool} (h:(!xs.isEmpty&&b)=true):xs≠[]:=by
 intro e
 rw [e] at h
 simp at h
theorem Qt {c k:Int} {own ls:List Str} {p:PV} (hk0:0<=k) (hk:k<100) (hp:bD p=true):∃ q p5 p6 p7,(bD q=true/\jw q<=max (jw p) 4+1)/\∀ (mu:Mu) (o5 o6 o7:Option Lc),Td (XE c own ls p (zI k) o5 o6 o7 mu)=some (.nx (XE c own ls q (zI k) (some p5) (some p6) (some p7) mu)):=by
 let z:Int:=c*(k+2)%2147483647*16807%2147483647
 let K:Option Lc:=zI k
 let Z:Option Lc:=zI z
 have s1:∀ (mu:Mu) (o5 o6 o7:Option Lc),aL 5 (aq aO (aq fL (aq aO (aq fL (aa 0) (aq aY (aa 4) (eC (.int 2)))) (eC (.int 2147483647))) (eC (.int 16807))) (eC (.int 2147483647))) (XE c own ls p K o5 o6 o7 mu)=some (.nx (XE c own ls p K Z o6 o7 mu)):=fun mu o5 o6 o7=>
  bu (l:=.sh (.int z)) (ρ1:=XE c own ls p K o5 o6 o7 mu) (aP (x:=.sh (.int (c*(k+2)%2147483647*16807))) (aP (x:=.sh (.int (c*(k+2)%2147483647))) (aP (x:=.sh (.int (c*(k+2)))) (aP (x:=.sh (.int c)) (y:=.sh (.int (k+2))) rfl rfl (qF (by omega) (by omega))) rfl (cz (by decide))) rfl (qF (by decide) (by decide))) rfl (cz (by decide))) rfl rfl
 let n0:PV:=.tup [.str "num",.int (z%1000)]
 have s2:∀ (mu:Mu) (o6 o7:Option Lc),aL 6 (bc (aj (eC (.str "num")) (aj (aq aO (aa 5) (eC (.int 1000))) ao))) (XE c own ls p K Z o6 o7 mu)=some (.nx (XE c own ls p K Z (zS n0) o7 mu)):=fun mu o6 o7=>rfl
 have g3:∃ n1,(bD n1=true/\jw n1<=2)/\∀ (g:SF) (mu:Mu) (o7:Option Lc),aG (cJ (cC (tT (aq iw (eB bC (aj (aa 1) ao)) (eC (.int 0))) aU) (tT (aq iw (aq aO (aa 5) (eC (.int 6))) (eC (.int 0))) aU))
  (aL 6 (bc (aj (eC (.str "box")) (aj (aM (aa 1) (aq aO (aq aZ (aa 5) (eC (.int 6))) (eB bC (aj (aa 1) ao)))) ao))))
  b8) g (XE c own ls p K Z (zS n0) o7 mu)=g (XE c own ls p K Z (zS n1) o7 mu):=by
  have t:∀ (mu:Mu) (o7:Option Lc),cC (tT (aq iw (eB bC (aj (aa 1) ao)) (eC (.int 0))) aU) (tT (aq iw (aq aO (aa 5) (eC (.int 6))) (eC (.int 0))) aU) (XE c own ls p K Z (zS n0) o7 mu)=some (!own.isEmpty&&decide (z%6>0),XE c own ls p K Z (zS n0) o7 mu):=fun mu o7=>kO (rC rfl) rfl
  cases hb:(!own.isEmpty&&decide (z%6>0)) with
  | false=>exact ⟨n0,⟨rfl,Nat.le_refl _⟩,fun g mu o7=>cA (t mu o7) hb⟩
  | true=>
   obtain ⟨x,_,hx⟩:=pick (uI hb) z 6 (by decide) (by decide)
   exact ⟨.tup [.str "box",.str x],⟨rfl,Nat.le_refl _⟩,fun g mu o7=>pY (t mu o7) hb (bu (l:=.sh (.tup [.str "box",.str x])) (ρ1:=XE c own ls p K Z (zS n0) o7 mu) (fB (ls:=[.sh (.str "box"),.sh (.str x)]) (aC (ρ1:=XE c own ls p K Z (zS n0) o7 mu) rfl (aC (hx 1 (aa 5) _ rfl rfl) rfl)) rfl rfl) rfl rfl)⟩
 obtain ⟨n1,⟨f1,d1⟩,g3⟩:=g3
 have g4:∃ n2,(bD n2=true/\jw n2<=3)/\∀ (g:SF) (mu:Mu) (o7:Option Lc),aG (cJ (cC (tT (aq iw (eB bC (aj (aa 2) ao)) (eC (.int 0))) aU) (tT (aq eqP (aq aO (aa 5) (eC (.int 7))) (eC (.int 5))) aU))
  (aL 6 (bc (aj (eC (.str "@")) (aj (aM (aa 2) (aq aO (aq aZ (aa 5) (eC (.int 42))) (eB bC (aj (aa 2) ao)))) (aj (aa 6) ao)))))
  b8) g (XE c own ls p K Z (zS n1) o7 mu)=g (XE c own ls p K Z (zS n2) o7 mu):=by
  have t:∀ (mu:Mu) (o7:Option Lc),cC (tT (aq iw (eB bC (aj (aa 2) ao)) (eC (.int 0))) aU) (tT (aq eqP (aq aO (aa 5) (eC (.int 7))) (eC (.int 5))) aU) (XE c own ls p K Z (zS n1) o7 mu)=some (!ls.isEmpty&&(z%7==5),XE c own ls p K Z (zS n1) o7 mu):=fun mu o7=>kO (rC rfl) rfl
  cases hb:(!ls.isEmpty&&(z%7==5)) with
  | false=>exact ⟨n1,⟨f1,by omega⟩,fun g mu o7=>cA (t mu o7) hb⟩
  | true=>
   obtain ⟨x,_,hx⟩:=pick (uI hb) z 42 (by decide) (by decide)
   exact ⟨.tup [.str "@",.str x,n1],⟨by simp [bD,fM,f1],by simp only [jw,nU]; omega⟩,fun g mu o7=>pY (t mu o7) hb (bu (l:=.sh (.tup [.str "@",.str x,n1])) (ρ1:=XE c own ls p K Z (zS n1) o7 mu) (fB (ls:=[.sh (.str "@"),.sh (.str x),.sh n1]) (aC (ρ1:=XE c own ls p K Z (zS n1) o7 mu) rfl (aC (hx 2 (aa 5) _ rfl rfl) rfl)) rfl rfl) rfl rfl)⟩
 obtain ⟨n2,⟨f2,d2⟩,g4⟩:=g4
 obtain ⟨s,es⟩:=TY (z/77)
 let N2:Option Lc:=zS n2
 let G:Option Lc:=zT s
 have s7:∀ (mu:Mu) (o7:Option Lc),aL 7 (aM (eC (.str "+-*<=")) (aq aO (aq aZ (aa 5) (eC (.int 77))) (eC (.int 5)))) (XE c own ls p K Z N2 o7 mu)=some (.nx (XE c own ls p K Z N2 G mu)):=fun mu o7=>
  bu (l:=.sh (.str s)) (ρ1:=XE c own ls p K Z N2 o7 mu) (d9 (p:=.str "+-*<=") (q:=.int (z/77%5)) (ρ1:=XE c own ls p K Z N2 o7 mu) (ρ2:=XE c own ls p K Z N2 o7 mu) (l:=.sh (.str "+-*<=")) (m:=.sh (.int (z/77%5))) rfl rfl (aP (x:=.sh (.int (z/77))) (aP (x:=.sh (.int z)) rfl rfl (fX (by decide) (by decide))) rfl (cz (by decide))) rfl (fun n h=>by cases h) es) rfl rfl
 have g8:∃ q,(bD q=true/\jw q<=max (jw p) 4+1)/\∀ (mu:Mu),cJ (cC (tT (aq iw (eB bC (aj (aa 2) ao)) (eC (.int 0))) aU) (tT (aq eqP (aq aO (aq aZ (aa 5) (eC (.int 5))) (eC (.int 3))) (eC (.int 0))) aU))
  (aL 3 (bc (aj (eC (.str "@")) (aj (aM (aa 2) (aq aO (aq aZ (aa 5) (eC (.int 15))) (eB bC (aj (aa 2) ao)))) (aj (aa 3) ao)))))
  (cJ (tT (aq eqP (aq aO (aq aZ (aa 5) (eC (.int 5))) (eC (.int 3))) (eC (.int 1))) aU)
  (aL 3 (bc (aj (aa 7) (aj (aa 3) (aj (aa 6) ao)))))
  (aL 3 (bc (aj (aa 7) (aj (aa 6) (aj (aa 3) ao)))))) (XE c own ls p K Z N2 G mu)=some (.nx (XE c own ls q K Z N2 G mu)):=by
  have t:∀ (mu:Mu),cC (tT (aq iw (eB bC (aj (aa 2) ao)) (eC (.int 0))) aU) (tT (aq eqP (aq aO (aq aZ (aa 5) (eC (.int 5))) (eC (.int 3))) (eC (.int 0))) aU) (XE c own ls p K Z N2 G mu)=some (!ls.isEmpty&&(z/5%3==0),XE c own ls p K Z N2 G mu):=fun mu=>kO (rC rfl) rfl
  have t2:∀ (mu:Mu),tT (aq eqP (aq aO (aq aZ (aa 5) (eC (.int 5))) (eC (.int 3))) (eC (.int 1))) aU (XE c own ls p K Z N2 G mu)=some (z/5%3==1,XE c own ls p K Z N2 G mu):=fun mu=>rfl
  cases hb:(!ls.isEmpty&&(z/5%3==0)) with
  | true=>
   obtain ⟨x,_,hx⟩:=pick (uI hb) z 15 (by decide) (by decide)
   exact ⟨.tup [.str "@",.str x,p],⟨by simp [bD,fM,hp],by simp only [jw,nU]; omega⟩,fun mu=>(jZ ((t mu).trans (by rw [hb]))).trans (bu (l:=.sh (.tup [.str "@",.str x,p])) (ρ1:=XE c own ls p K Z N2 G mu) (fB (ls:=[.sh (.str "@"),.sh (.str x),.sh p]) (aC (ρ1:=XE c own ls p K Z N2 G mu) rfl (aC (hx 2 (aa 5) _ rfl rfl) rfl)) rfl rfl) rfl rfl)⟩
  | false=>
   cases hc:(z/5%3==1) with
   | true=>exact ⟨.tup [.str s,p,n2],⟨by simp [bD,fM,hp,f2],by simp only [jw,nU]; omega⟩,fun mu=>(jj ((t mu).trans (by rw [hb]))).trans ((jZ ((t2 mu).trans (by rw [hc]))).trans rfl)⟩
   | false=>exact ⟨.tup [.str s,n2,p],⟨by simp [bD,fM,hp,f2],by simp only [jw,nU]; omega⟩,fun mu=>(jj ((t mu).trans (by rw [hb]))).trans ((jj ((t2 mu).trans (by rw [hc]))).trans rfl)⟩
 obtain ⟨q,fq,g8⟩:=g8
 exact ⟨q,.sh (.int z),.sh n2,.sh (.str s),fq,fun mu o5 o6 o7=>aJ (s1 mu o5 o6 o7) (aJ (s2 mu o6 o7) ((g3 _ mu o7).trans ((g4 _ mu o7).trans (aJ (s7 mu o7) (g8 mu)))))⟩
theorem FQ {c:Int} {own ls:List Str}:∀ (ks:List Int) (p:PV),(∀ k∈ks,0<=k/\k<100)->bD p=true->∃ q,(bD q=true/\jw q<=max (jw p) 4+ks.length)/\∀ (mu:Mu) (o4 o5 o6 o7:Option Lc),∃ p4 p5 p6 p7,dh (aD 4) Td (ks.map PV.int) (XE c own ls p o4 o5 o6 o7 mu)=some (.nx (XE c own ls q p4 p5 p6 p7 mu))
 | [],p,_,hp=>⟨p,⟨hp,by omega⟩,fun mu o4 o5 o6 o7=>⟨o4,o5,o6,o7,rfl⟩⟩
 | k::ks,p,h,hp=>by
  obtain ⟨h0,h1⟩:=h k List.mem_cons_self
  obtain ⟨q1,p5,p6,p7,⟨f1,d1⟩,e1⟩:=Qt (c:=c) (own:=own) (ls:=ls) (p:=p) h0 h1 hp
  obtain ⟨q,⟨fq,dq⟩,ih⟩:=FQ (c:=c) (own:=own) (ls:=ls) ks q1 (fun x hx=>h x (List.mem_cons_of_mem _ hx)) f1
  refine ⟨q,⟨fq,by simp only [List.length_cons]; omega⟩,fun mu o4 o5 o6 o7=>?_⟩
  obtain ⟨r4,r5,r6,r7,e2⟩:=ih mu (zI k) (some p5) (some p6) (some p7)
  exact ⟨r4,r5,r6,r7,eZ (ρ1:=XE c own ls p (zI k) o5 o6 o7 mu) rfl (e1 mu o5 o6 o7) e2⟩
theorem eight (c:Int):∃ m:Nat,m<=4/\nM (.lst [.int 0,.int 0,.int 1,.int 1,.int 2,.int 2,.int 3,.int 4]) (.int (c%8))=zI (m:Nat):=by
 have h0:=Int.emod_nonneg c (b:=8) (by decide)
 have h1:=Int.emod_lt_of_pos c (b:=8) (by decide)
 generalize c%8=r at h0 h1
 rcases (by omega:r=0\/r=1\/r=2\/r=3\/r=4\/r=5\/r=6\/r=7) with rfl | rfl | rfl | rfl | rfl | rfl | rfl | rfl
 . exact ⟨0,by decide,rfl⟩
 . exact ⟨0,by decide,rfl⟩
 . exact ⟨1,by decide,rfl⟩
 . exact ⟨1,by decide,rfl⟩
 . exact ⟨2,by decide,rfl⟩
 . exact ⟨2,by decide,rfl⟩
 . exact ⟨3,by decide,rfl⟩
 . exact ⟨4,by decide,rfl⟩
theorem vK (n:Nat):iu 0 n=((List.range n).map fun i:Nat=>(0+(i:Int))).map PV.int:=by
 unfold iu
 rw [List.map_map]
 rfl
theorem yq (c:Int) (own ls:List Str):∃ p,fl p/\∀ mu,cj [.int c,.lst (SS own),.lst (SS ls)] mu=some (.sh p,mu):=by
 let n0:PV:=.tup [.str "num",.int (c*7919%10 ^ 12)]
 let E0:Mu->Ev:=fun mu=>⟨[zI c,zL (SS own),zL (SS ls),none,none,none,none,none],mu⟩
 have s1:∀ mu,aL 3 (bc (aj (eC (.str "num")) (aj (aq aO (aq fL (aa 0) (eC (.int 7919))) (aq Lp (eC (.int 10)) (eC (.int 12)))) ao))) (E0 mu)=some (.nx (XE c own ls n0 none none none none mu)):=fun mu=>
  bu (l:=.sh n0) (ρ1:=E0 mu) (fB (ls:=[.sh (.str "num"),.sh (.int (c*7919%10 ^ 12))]) (aC (ρ1:=E0 mu) rfl (aC (ρ1:=E0 mu) (aP (x:=.sh (.int (c*7919))) (y:=.sh (.int (10 ^ 12))) (aP (x:=.sh (.int c)) rfl rfl (qF (by decide) (by decide))) rfl (cz (by decide))) rfl)) rfl rfl) rfl rfl
 have g2:∃ n1,(bD n1=true/\jw n1<=2)/\∀ (g:SF) (mu:Mu),aG (cJ (cC (tT (aq iw (eB bC (aj (aa 1) ao)) (eC (.int 0))) aU) (tT (aq iw (aq aO (aa 0) (eC (.int 5))) (eC (.int 0))) aU))
  (aL 3 (bc (aj (eC (.str "box")) (aj (aM (aa 1) (aq aO (aq aZ (aa 0) (eC (.int 5))) (eB bC (aj (aa 1) ao)))) ao))))
  b8) g (XE c own ls n0 none none none none mu)=g (XE c own ls n1 none none none none mu):=by
  have t:∀ (mu:Mu),cC (tT (aq iw (eB bC (aj (aa 1) ao)) (eC (.int 0))) aU) (tT (aq iw (aq aO (aa 0) (eC (.int 5))) (eC (.int 0))) aU) (XE c own ls n0 none none none none mu)=some (!own.isEmpty&&decide (c%5>0),XE c own ls n0 none none none none mu):=fun mu=>kO (rC rfl) rfl
  cases hb:(!own.isEmpty&&decide (c%5>0)) with
  | false=>exact ⟨n0,⟨rfl,Nat.le_refl _⟩,fun g mu=>cA (t mu) hb⟩
  | true=>
   obtain ⟨x,_,hx⟩:=pick (uI hb) c 5 (by decide) (by decide)
   exact ⟨.tup [.str "box",.str x],⟨rfl,Nat.le_refl _⟩,fun g mu=>pY (t mu) hb (bu (l:=.sh (.tup [.str "box",.str x])) (ρ1:=XE c own ls n0 none none none none mu) (fB (ls:=[.sh (.str "box"),.sh (.str x)]) (aC (ρ1:=XE c own ls n0 none none none none mu) rfl (aC (hx 1 (aa 0) _ rfl rfl) rfl)) rfl rfl) rfl rfl)⟩
 obtain ⟨n1,⟨f1,d1⟩,g2⟩:=g2
 obtain ⟨m,hm,em⟩:=eight (c/60)
 obtain ⟨q,⟨fq,dq⟩,e3⟩:=FQ (c:=c) (own:=own) (ls:=ls) ((List.range m).map fun i:Nat=>(0+(i:Int))) n1 (fun k hk=>by
  obtain ⟨i,hi,rfl⟩:=List.mem_map.mp hk
  have:=List.mem_range.mp hi
  omega) f1
 rw [List.length_map,List.length_range] at dq
 refine ⟨q,⟨fq,by omega⟩,fun mu=>?_⟩
 obtain ⟨p4,p5,p6,p7,e3⟩:=e3 mu none none none none
 refine bj (ρ:=⟨[zI c,zL (SS own),zL (SS ls),none,p4,p5,p6,p7],mu⟩) (aJ (s1 mu) ((g2 _ mu).trans (aJ (ρ':=XE c own ls q p4 p5 p6 p7 mu) (eN (xs:=iu 0 m) (ρ1:=XE c own ls n1 none none none none mu) ?_ (by rw [vK]; exact e3)) rfl)))
 exact j0 (ρ1:=XE c own ls n1 none none none none mu) (l:=.sh (.int (m:Nat))) (n:=(m:Nat)) (aC (d9 (p:=.lst [.int 0,.int 0,.int 1,.int 1,.int 2,.int 2,.int 3,.int 4]) (q:=.int (c/60%8)) (l:=.own (.lst [.int 0,.int 0,.int 1,.int 1,.int 2,.int 2,.int 3,.int 4])) rfl rfl rfl rfl (fun n h=>by cases h) em) rfl) rfl (by omega) (by omega)
inductive Dr where
 | row (r:Row)
 | wh (e:PV)
 | iff (e:PV)
noncomputable def Dr.pv:Dr->Nat->PV
 | .row r,_=>r.pv
 | .wh e,n=>.tup [.str "while",e,.ptr n]
 | .iff e,n=>.tup [.str "if",e,.ptr n,.ptr (n+1)]
noncomputable def Dr.cl:Dr->Mu
 | .row _=>[]
 | .wh _=>[some (.lst [])]
 | .iff _=>[some (.lst []),some (.lst [])]
noncomputable def Row.low:Row->Prop
 | .leaf w ps=>(Row.leaf w ps).ok
 | .call b n as=>(Row.call b n as).ok
 | _=>False
noncomputable def Dr.ok:Dr->Prop
 | .row r=>r.low
 | .wh e=>fl e
 | .iff e=>fl e
theorem Qu {i:Nat} {ρ:Ev} {ps:List PV} (hv:aa i ρ=some (.sh (.lst ps),ρ)):tT (aq iw (eB bC (aj (aa i) ao)) (eC (.int 0))) aU ρ=some (!ps.isEmpty,ρ):=by
 refine gR (l:=.sh (.bl (!ps.isEmpty))) (gk (p:=.int (ps.length:Nat)) (q:=.int 0) (ρ1:=ρ) (l:=.sh (.int (ps.length:Nat))) (m:=.sh (.int 0)) (j8 (ls:=[.sh (.lst ps)]) (ps:=[.lst ps]) (ρ1:=ρ) (aC hv rfl) rfl rfl) rfl rfl rfl ?_) rfl
 show some (Lc.sh (.bl (decide ((ps.length:Int)>0))))=_
 cases ps with
 | nil=>rfl
 | cons x xs=>simp
theorem U3 {ps:List PV} (h:ps≠[]) (a d:Int) (hd:0<d) (hd2:d<1073741824):∃ x∈ps,∀ (i:Nat) (fa:EF) (ρ:Ev),aa i ρ=some (.sh (.lst ps),ρ)->fa ρ=some (.sh (.int a),ρ)->aM (aa i) (aq aO (aq aZ fa (eC (.int d))) (eB bC (aj (aa i) ao))) ρ=some (.sh x,ρ):=by
 have hl:(0:Int)<ps.length:=by have:=List.length_pos_iff.mpr h; omega
 obtain ⟨x,e,e2⟩:=rQ (l:=ps) (i:=a/d%ps.length) (Int.emod_nonneg _ (by omega)) (Int.emod_lt_of_pos _ hl)
 refine ⟨x,List.mem_of_getElem? e2,fun i fa ρ hv ha=>d9 (p:=.lst ps) (q:=.int (a/d%ps.length)) (ρ1:=ρ) (ρ2:=ρ) (l:=.sh (.lst ps)) (m:=.sh (.int (a/d%ps.length))) hv rfl (aP (ρ1:=ρ) (x:=.sh (.int (a/d))) (y:=.sh (.int (ps.length:Nat))) (aP (ρ1:=ρ) (x:=.sh (.int a)) (y:=.sh (.int d)) ha rfl (fX hd hd2)) (j8 (ls:=[.sh (.lst ps)]) (ps:=[.lst ps]) (ρ1:=ρ) (aC hv rfl) rfl rfl) (cz hl)) rfl (fun n h=>by cases h) ?_⟩
 show (fW ps (a/d%ps.length)).map _=_
 rw [e]
 rfl
noncomputable abbrev Hd:=List (Str×List Str)
noncomputable abbrev gC (hs:Hd):List PV:=hs.map fun h=>.tup [.str h.1,.lst (SS h.2)]
noncomputable abbrev RE (c:Int) (own ls:List Str) (hs:Hd) (ws:List Str) (o5 o6 o7 o8 o9 o10 o11:Option Lc) (mu:Mu):Ev:=⟨[zI c,zL (SS own),zL (SS ls),zL (gC hs),zL (SS ws),o5,o6,o7,o8,o9,o10,o11],mu⟩
noncomputable abbrev Wd:EF:=aN cj (aj (aq aO (aq fL (aa 1) (eC (.int 40692))) (aq Ln (eC (.int 2147483399)) (aa 0))) (aj (aa 2) (aj (aa 3) ao)))
theorem FT (c:Int) (own ls:List Str):∀ (ks:List Int),(∀ k∈ks,0<=k/\k<100)->∃ as:List PV,qR as/\as.length=ks.length/\∀ (mu:Mu) (o:Option Lc) (acc:List PV),acc.length+ks.length<=1000->
 cI (aD 0) bH Wd (ks.map PV.int) ⟨[o,zI c,zL (SS own),zL (SS ls)],mu⟩ acc=some (acc++as,mu)
 | [],_=>⟨[],oM,rfl,fun mu o acc _=>by simp [cI]⟩
 | k::ks,h=>by
  obtain ⟨h0,h1⟩:=h k List.mem_cons_self
  obtain ⟨p,fp,ep⟩:=yq (c*40692%(2147483399-k)) own ls
  obtain ⟨as,fa,la,ih⟩:=FT c own ls ks fun x hx=>h x (List.mem_cons_of_mem _ hx)
  refine ⟨p::as,gO fp fa,by simp [la],fun mu o acc hl=>?_⟩
  simp only [List.length_cons] at hl
  let E:Ev:=⟨[zI k,zI c,zL (SS own),zL (SS ls)],mu⟩
  refine eV (ρ1:=E) (ρ2:=E) (l:=.sh p) rfl (aV (ls:=[.sh (.int (c*40692%(2147483399-k))),.sh (.lst (SS own)),.sh (.lst (SS ls))]) (ps:=[.int (c*40692%(2147483399-k)),.lst (SS own),.lst (SS ls)]) (ρ1:=E) (aC (ρ1:=E) (aP (x:=.sh (.int (c*40692))) (y:=.sh (.int (2147483399-k))) (aP (x:=.sh (.int c)) rfl rfl (qF (by decide) (by decide))) rfl (cz (by omega))) rfl) rfl rfl rfl (ep mu)) (by omega) ((ih mu _ (acc++[p]) (by rw [List.length_append]; simp only [List.length_cons,List.length_nil]; omega)).trans ?_)
  simp
theorem Mt {ps:List PV} {b:Bool} (h:(b&&!ps.isEmpty)=true):ps≠[]:=by
 intro e
 rw [e] at h
 simp at h
theorem Dg {xs:List Str} {b:Bool} (h:(b&&!xs.isEmpty)=true):xs≠[]:=by
 intro e
 rw [e] at h
 simp at h
theorem J3:Plain "put" := ⟨by decide +kernel,by decide +kernel,by decide +kernel⟩
theorem J4:Plain "out" := ⟨by decide +kernel,by decide +kernel,by decide +kernel⟩
theorem J5:Plain "set" := ⟨by decide +kernel,by decide +kernel,by decide +kernel⟩
theorem T3 (c:Int) (own ls:List Str) (hs:Hd) (ws:List Str) (hh:∀ h∈hs,h.1.length<=1000/\h.2.length<=50):∃ d:Dr,d.ok/\∀ mu,fP [.int c,.lst (SS own),.lst (SS ls),.lst (gC hs),.lst (SS ws)] mu=some (.sh (d.pv mu.length),mu++d.cl):=by
 obtain ⟨p1,f1,e1⟩:=yq (c*48271%2147483647) own ls
 obtain ⟨p2,f2,e2⟩:=yq (c*69621%2147483647) own ls
 let kd:Int:=c/8%9
 let P1:Option Lc:=zS p1
 let P2:Option Lc:=zS p2
 let KD:Option Lc:=zI kd
 let E0:Mu->Ev:=fun mu=>RE c own ls hs ws none none none none none none none mu
 let E1':Mu->Ev:=fun mu=>RE c own ls hs ws P1 none none none none none none mu
 let E2:Mu->Ev:=fun mu=>RE c own ls hs ws P1 P2 none none none none none mu
 let E3:Mu->Ev:=fun mu=>RE c own ls hs ws P1 P2 KD none none none none mu
 have s5:∀ mu,aL 5 (aN cj (aj (aq aO (aq fL (aa 0) (eC (.int 48271))) (eC (.int 2147483647))) (aj (aa 1) (aj (aa 2) ao)))) (E0 mu)=some (.nx (E1' mu)):=fun mu=>
  bu (l:=.sh p1) (ρ1:=E0 mu) (aV (ls:=[.sh (.int (c*48271%2147483647)),.sh (.lst (SS own)),.sh (.lst (SS ls))]) (ps:=[.int (c*48271%2147483647),.lst (SS own),.lst (SS ls)]) (ρ1:=E0 mu) (aC (ρ1:=E0 mu) (aP (x:=.sh (.int (c*48271))) (aP (x:=.sh (.int c)) rfl rfl (qF (by decide) (by decide))) rfl (cz (by decide))) rfl) rfl rfl rfl (e1 mu)) rfl rfl
 have s6:∀ mu,aL 6 (aN cj (aj (aq aO (aq fL (aa 0) (eC (.int 69621))) (eC (.int 2147483647))) (aj (aa 1) (aj (aa 2) ao)))) (E1' mu)=some (.nx (E2 mu)):=fun mu=>
  bu (l:=.sh p2) (ρ1:=E1' mu) (aV (ls:=[.sh (.int (c*69621%2147483647)),.sh (.lst (SS own)),.sh (.lst (SS ls))]) (ps:=[.int (c*69621%2147483647),.lst (SS own),.lst (SS ls)]) (ρ1:=E1' mu) (aC (ρ1:=E1' mu) (aP (x:=.sh (.int (c*69621))) (aP (x:=.sh (.int c)) rfl rfl (qF (by decide) (by decide))) rfl (cz (by decide))) rfl) rfl rfl rfl (e2 mu)) rfl rfl
 have s7:∀ mu,aL 7 (aq aO (aq aZ (aa 0) (eC (.int 8))) (eC (.int 9))) (E2 mu)=some (.nx (E3 mu)):=fun mu=>bu (l:=.sh (.int kd)) (ρ1:=E2 mu) (aP (x:=.sh (.int (c/8))) (aP (x:=.sh (.int c)) rfl rfl (fX (by decide) (by decide))) rfl (cz (by decide))) rfl rfl
 have head:∀ (mu:Mu) (g:SF) R,g (E3 mu)=R->(aG (aL 5 (aN cj (aj (aq aO (aq fL (aa 0) (eC (.int 48271))) (eC (.int 2147483647))) (aj (aa 1) (aj (aa 2) ao))))) (aG (aL 6 (aN cj (aj (aq aO (aq fL (aa 0) (eC (.int 69621))) (eC (.int 2147483647))) (aj (aa 1) (aj (aa 2) ao))))) (aG (aL 7 (aq aO (aq aZ (aa 0) (eC (.int 8))) (eC (.int 9)))) g))) (E0 mu)=R:=fun mu g R hg=>aJ (s5 mu) (aJ (s6 mu) (aJ (s7 mu) hg))
 have t1:∀ mu,cC (tT (aq eqP (aa 7) (eC (.int 1))) aU) (tT (aq iw (eB bC (aj (aa 2) ao)) (eC (.int 0))) aU) (E3 mu)=some ((kd==1)&&!ls.isEmpty,E3 mu):=fun mu=>kO rfl (rC rfl)
 cases b1:((kd==1)&&!ls.isEmpty) with
 | true=>
  obtain ⟨x,_,hx⟩:=pick (Dg b1) c 72 (by decide) (by decide)
  refine ⟨.row (.leaf "put" [.str x,p1,p2]),⟨J3,gO gH (gO f1 (gO f2 oM))⟩,fun mu=>?_⟩
  rw [show mu++Dr.cl (.row (.leaf "put" [.str x,p1,p2]))=mu from List.append_nil _]
  exact bj (ρ:=E3 mu) (head mu _ _ (jg (t1 mu) b1 (gn (fB (ls:=[.sh (.str "put"),.sh (.str x),.sh p1,.sh p2]) (aC (ρ1:=E3 mu) rfl (aC (hx 2 (aa 0) _ rfl rfl) rfl)) rfl rfl))))
 | false=>
 have t2:∀ mu,tT (aq eqP (aa 7) (eC (.int 6))) aU (E3 mu)=some (kd==6,E3 mu):=fun mu=>rfl
 cases b2:(kd==6) with
 | true=>
  refine ⟨.wh p2,f2,fun mu=>?_⟩
  show fP _ mu=some (.sh (.tup [.str "while",p2,.ptr mu.length]),mu++[some (.lst [])])
  refine bj (ρ:=RE c own ls hs ws P1 P2 KD none none none none (mu++[some (.lst [])])) (r:=.sh (.tup [.str "while",p2,.ptr mu.length])) ?_
  refine head mu _ _ ?_
  refine (cA (t1 mu) b1).trans ?_
  refine jg (t2 mu) b2 ?_
  exact gn (fB (ls:=[.sh (.str "while"),.sh p2,.sh (.ptr mu.length)]) (aC (ρ1:=E3 mu) rfl (aC (ρ1:=E3 mu) rfl (aC (ρ1:=RE c own ls hs ws P1 P2 KD none none none none (mu++[some (.lst [])])) rfl rfl))) rfl rfl)
 | false=>
 have t3:∃ b,∀ mu,tT (aq lH (aa 7) (bc (aj (eC (.int 4)) (aj (eC (.int 5)) ao)))) aU (E3 mu)=some (b,E3 mu):=⟨_,fun mu=>rfl⟩
 obtain ⟨b3,t3⟩:=t3
 have t3':∀ mu,qm (tT (aq lH (aa 7) (bc (aj (eC (.int 4)) (aj (eC (.int 5)) ao)))) aU) (tT (aq eqP (eB bC (aj (aa 1) ao)) (eC (.int 0))) aU) (E3 mu)=some (b3||own.isEmpty,E3 mu):=fun mu=>Hf (t3 mu) (Qs rfl)
 cases hb3:(b3||own.isEmpty) with
 | true=>
  refine ⟨.iff p1,f1,fun mu=>?_⟩
  show fP _ mu=some (.sh (.tup [.str "if",p1,.ptr mu.length,.ptr (mu.length+1)]),mu++[some (.lst []),some (.lst [])])
  refine bj (ρ:=RE c own ls hs ws P1 P2 KD none none none none (mu++[some (.lst []),some (.lst [])])) (r:=.sh (.tup [.str "if",p1,.ptr mu.length,.ptr (mu.length+1)])) ?_
  refine head mu _ _ ?_
  refine (cA (t1 mu) b1).trans ?_
  refine (cA (t2 mu) b2).trans ?_
  refine jg (t3' mu) hb3 ?_
  refine gn (fB (ls:=[.sh (.str "if"),.sh p1,.sh (.ptr mu.length),.sh (.ptr (mu.length+1))]) (aC (ρ1:=E3 mu) rfl (aC (ρ1:=E3 mu) rfl (aC (ρ1:=RE c own ls hs ws P1 P2 KD none none none none (mu++[some (.lst [])])) rfl (aC (ρ1:=RE c own ls hs ws P1 P2 KD none none none none (mu++[some (.lst []),some (.lst [])])) ?_ rfl)))) rfl rfl)
  show some (Lc.sh (.ptr (mu++[some (PV.lst [])]).length),RE c own ls hs ws P1 P2 KD none none none none ((mu++[some (PV.lst [])])++[some (PV.lst [])]))=_
  rw [List.length_append,List.append_assoc]
  rfl
 | false=>
 have hown:own≠[]:=by
  intro e
  rw [e] at hb3
  simp at hb3
 obtain ⟨gl,hgl,hx⟩:=pick hown c 72 (by decide) (by decide)
 let GL:Option Lc:=zT gl
 let E4:Mu->Ev:=fun mu=>RE c own ls hs ws P1 P2 KD GL none none none mu
 have s8:∀ mu,aL 8 (aM (aa 1) (aq aO (aq aZ (aa 0) (eC (.int 72))) (eB bC (aj (aa 1) ao)))) (E3 mu)=some (.nx (E4 mu)):=fun mu=>bu (l:=.sh (.str gl)) (ρ1:=E3 mu) (hx 1 (aa 0) _ rfl rfl) rfl rfl
 have head2:∀ (mu:Mu) (g:SF) R,g (E4 mu)=R->(aG (cJ (cC (tT (aq eqP (aa 7) (eC (.int 1))) aU) (tT (aq iw (eB bC (aj (aa 2) ao)) (eC (.int 0))) aU))
  (dM (bc (aj (eC (.str "put")) (aj (aM (aa 2) (aq aO (aq aZ (aa 0) (eC (.int 72))) (eB bC (aj (aa 2) ao)))) (aj (aa 5) (aj (aa 6) ao))))))
  b8)
  (aG (cJ (tT (aq eqP (aa 7) (eC (.int 6))) aU)
  (dM (bc (aj (eC (.str "while")) (aj (aa 6) (aj (kZ (cU ao)) ao)))))
  b8)
  (aG (cJ (qm (tT (aq lH (aa 7) (bc (aj (eC (.int 4)) (aj (eC (.int 5)) ao)))) aU) (tT (aq eqP (eB bC (aj (aa 1) ao)) (eC (.int 0))) aU))
  (dM (bc (aj (eC (.str "if")) (aj (aa 5) (aj (kZ (cU ao)) (aj (kZ (cU ao)) ao))))))
  b8)
  (aG (aL 8 (aM (aa 1) (aq aO (aq aZ (aa 0) (eC (.int 72))) (eB bC (aj (aa 1) ao))))) g)))) (E3 mu)=R:=fun mu g R hg=>(cA (t1 mu) b1).trans ((cA (t2 mu) b2).trans ((cA (t3' mu) hb3).trans (aJ (s8 mu) hg)))
 have t4:∀ mu,cC (tT (aq eqP (aa 7) (eC (.int 2))) aU) (tT (aq iw (eB bC (aj (aa 4) ao)) (eC (.int 0))) aU) (E4 mu)=some ((kd==2)&&!ws.isEmpty,E4 mu):=fun mu=>kO rfl (rC rfl)
 cases b4:((kd==2)&&!ws.isEmpty) with
 | true=>
  obtain ⟨wh,_,hw⟩:=pick (Dg b4) c 7 (by decide) (by decide)
  refine ⟨.row (.leaf "out" [.str gl,p1,.str wh]),⟨J4,gO gH (gO f1 (gO gH oM))⟩,fun mu=>?_⟩
  rw [show mu++Dr.cl (.row (.leaf "out" [.str gl,p1,.str wh]))=mu from List.append_nil _]
  exact bj (ρ:=E4 mu) (head mu _ _ (head2 mu _ _ (jg (t4 mu) b4 (gn (fB (ls:=[.sh (.str "out"),.sh (.str gl),.sh p1,.sh (.str wh)]) (aC (ρ1:=E4 mu) rfl (aC (ρ1:=E4 mu) rfl (aC (ρ1:=E4 mu) rfl (aC (hw 4 (aa 0) _ rfl rfl) rfl)))) rfl rfl)))))
 | false=>
 have t5:∃ b,∀ mu,tT (aq lH (aa 7) (bc (aj (eC (.int 3)) (aj (eC (.int 8)) ao)))) aU (E4 mu)=some (b,E4 mu):=⟨_,fun mu=>rfl⟩
 obtain ⟨b5,t5⟩:=t5
 have t5':∀ mu,cC (tT (aq lH (aa 7) (bc (aj (eC (.int 3)) (aj (eC (.int 8)) ao)))) aU) (tT (aq iw (eB bC (aj (aa 3) ao)) (eC (.int 0))) aU) (E4 mu)=some (b5&&!(gC hs).isEmpty,E4 mu):=fun mu=>kO (t5 mu) (Qu rfl)
 cases hb5:(b5&&!(gC hs).isEmpty) with
 | true=>
  obtain ⟨q,hq,hx3⟩:=U3 (Mt hb5) c 792 (by decide) (by decide)
  obtain ⟨h,hm,rfl⟩:=List.mem_map.mp hq
  obtain ⟨hl1,hl2⟩:=hh h hm
  obtain ⟨as,fa,la,ea⟩:=FT c own ls ((List.range h.2.length).map fun i:Nat=>(0+(i:Int))) fun k hk=>by
   obtain ⟨i,hi,rfl⟩:=List.mem_map.mp hk
   have:=List.mem_range.mp hi
   omega
  rw [List.length_map,List.length_range] at la
  refine ⟨.row (.call (.str gl) h.1 as),⟨gH,hl1,fa,by omega⟩,fun mu=>?_⟩
  rw [show mu++Dr.cl (.row (.call (.str gl) h.1 as))=mu from List.append_nil _]
  let E5:=RE c own ls hs ws P1 P2 KD GL (zT h.1) (zL (SS h.2)) none mu
  let E6:=RE c own ls hs ws P1 P2 KD GL (zT h.1) (zL (SS h.2)) (zO as) mu
  let E7:=RE c own ls hs ws P1 P2 KD GL (zT h.1) (zL (SS h.2)) (zL as) mu
  have ec:=ea mu none [] (by rw [List.length_map,List.length_range]; simp only [List.length_nil]; omega)
  rw [← vK,List.nil_append] at ec
  refine bj (ρ:=E7) (head mu _ _ (head2 mu _ _ ((cA (t4 mu) b4).trans (jg (t5' mu) hb5 ?_))))
  refine aJ (ρ':=E5) ?_ (aJ (ρ':=E6) (bu (l:=.own (.lst as)) (ρ1:=E5) ((eY (ρ1:=E5) (xs:=iu 0 h.2.length) (j0 (ρ1:=E5) (l:=.sh (.int ((SS h.2).length:Nat))) (n:=((h.2.length:Nat):Int)) (aC (j8 (ls:=[.sh (.lst (SS h.2))]) (ps:=[.lst (SS h.2)]) (ρ1:=E5) rfl rfl rfl) rfl) (by rw [pG]; rfl) (by omega) (by omega)) ec).trans rfl) rfl rfl) rfl)
  unfold Lg
  rw [hx3 3 (aa 0) _ rfl rfl]
  rfl
 | false=>
  refine ⟨.row (.leaf "set" [.str gl,p2]),⟨J5,gO gH (gO f2 oM)⟩,fun mu=>?_⟩
  rw [show mu++Dr.cl (.row (.leaf "set" [.str gl,p2]))=mu from List.append_nil _]
  exact bj (ρ:=E4 mu) (head mu _ _ (head2 mu _ _ ((cA (t4 mu) b4).trans ((cA (t5' mu) hb5).trans rfl))))
mutual
theorem jU {mu:Mu}:∀ (p:PV) (k:Nat),bD p=true->d8 mu k p=p
 | .non,k,_=>by cases k<;>rfl
 | .bl _,k,_=>by cases k<;>rfl
 | .int _,k,_=>by cases k<;>rfl
 | .str _,k,_=>by cases k<;>rfl
 | .tup ps,k,h=>by
  cases k with
  | zero=>rfl
  | succ k=>
   show PV.tup (ps.map (d8 mu k))=_
   rw [su ps k (by simpa [bD] using h)]
 | .lst _,k,h=>by simp [bD] at h
 | .dk _ _,k,h=>by simp [bD] at h
 | .dt _ _,k,h=>by simp [bD] at h
 | .obj _ _ _,k,h=>by simp [bD] at h
 | .df _ _,k,h=>by simp [bD] at h
 | .dtf _ _,k,h=>by simp [bD] at h
 | .dx _ _ _,k,h=>by simp [bD] at h
 | .ptr _,k,h=>by simp [bD] at h
theorem su {mu:Mu}:∀ (ps:List PV) (k:Nat),fM ps=true->ps.map (d8 mu k)=ps
 | [],k,_=>rfl
 | p::ps,k,h=>by
  simp only [fM,Bool.and_eq_true] at h
  rw [List.map_cons,jU p k h.1,su ps k h.2]
end
theorem Mv {mu:Mu} {ps:List PV} {k:Nat} (h:fM ps=true):d8 mu k (.lst ps)=.lst ps:=by
 cases k with
 | zero=>rfl
 | succ k=>
  show PV.lst (ps.map (d8 mu k))=_
  rw [su ps k h]
noncomputable abbrev qd:=List (Nat×PV)
noncomputable def Holds (mu:Mu) (L:qd):Prop:=(L.map (·.1)).Nodup/\∀ x∈L,mu[x.1]?=some (some x.2)
theorem Holds.perm {mu:Mu} {L L':qd} (h:Holds mu L) (p:L'.Perm L):Holds mu L':=⟨(p.map _).nodup_iff.mpr h.1,fun x hx=>h.2 x (p.mem_iff.mp hx)⟩
theorem Holds.sub {mu:Mu} {L L':qd} (h:Holds mu L) (p:L'.Sublist L):Holds mu L':=⟨h.1.sublist (p.map _),fun x hx=>h.2 x (p.subset hx)⟩
theorem Holds.tail {mu:Mu} {L:qd} {x:Nat×PV} (h:Holds mu (x::L)):Holds mu L:=h.sub (List.sublist_cons_self _ _)
theorem Holds.head {mu:Mu} {L:qd} {n:Nat} {p:PV} (h:Holds mu ((n,p)::L)):mu[n]?=some (some p):=h.2 _ List.mem_cons_self
theorem Holds.set {mu:Mu} {L:qd} {n:Nat} {p q:PV} (h:Holds mu ((n,p)::L)):Holds (mu.set n (some q)) ((n,q)::L):=by
 have hn:n<mu.length:=(List.getElem?_eq_some_iff.mp h.head).1
 refine ⟨h.1,fun x hx=>?_⟩
 rcases List.mem_cons.mp hx with rfl | hx
 . exact List.getElem?_set_self hn
 . have ne:x.1≠n:=fun e=>(List.nodup_cons.mp h.1).1 (List.mem_map.mpr ⟨x,hx,e⟩)
   rw [List.getElem?_set_ne (fun e=>ne e.symm)]
   exact h.2 x (List.mem_cons_of_mem _ hx)
theorem Holds.lt {mu:Mu} {L:qd} (h:Holds mu L):∀ x∈L,x.1<mu.length:=fun x hx=>(List.getElem?_eq_some_iff.mp (h.2 x hx)).1
theorem Holds.push {mu:Mu} {L:qd} (h:Holds mu L) (p:PV):Holds (mu++[some p]) ((mu.length,p)::L):=by
 refine ⟨List.nodup_cons.mpr ⟨fun hm=>?_,h.1⟩,fun x hx=>?_⟩
 . obtain ⟨x,hx,e⟩:=List.mem_map.mp hm
   have:=h.lt x hx
   have e':x.1=mu.length:=e
   omega
 . rcases List.mem_cons.mp hx with rfl | hx
   . rw [List.getElem?_append_right (Nat.le_refl _),Nat.sub_self]; rfl
   . rw [List.getElem?_append_left (h.lt x hx)]
     exact h.2 x hx
structure Done where
 p:PV
 r:Row
 L:qd
noncomputable def Done.fit (d:Done):Prop:=d.r.ok/\∀ mu k,Holds mu d.L->3*d.r.dep<=k->d8 mu k d.p=d.r.pv
noncomputable def rowsOf:List Row->Rows
 | []=>.nil
 | r::l=>.cons r (rowsOf l)
theorem xg:∀ l:List Row,(rowsOf l).pvs=l.map Row.pv
 | []=>rfl
 | r::l=>by simp [rowsOf,Rows.pvs,xg l]
theorem nO:∀ l:List Row,(∀ r∈l,r.ok)->(rowsOf l).ok
 | [],_=>True.intro
 | r::l,h=>⟨h r List.mem_cons_self,nO l fun x hx=>h x (List.mem_cons_of_mem _ hx)⟩
theorem oG:∀ l:List Row,∀ r∈l,r.dep+1<=(rowsOf l).dep
 | [],r,h=>by cases h
 | x::l,r,h=>by
  simp only [rowsOf,Rows.dep]
  rcases List.mem_cons.mp h with rfl | h
  . omega
  . have:=oG l r h
    omega
theorem sJ {n:Nat} (hn:1<=n):∀ l:List Row,(∀ r∈l,r.dep+1<=n)->(rowsOf l).dep<=n
 | [],_=>hn
 | x::l,h=>by
  have h1:=h x List.mem_cons_self
  have h2:=sJ hn l fun r hr=>h r (List.mem_cons_of_mem _ hr)
  simp only [rowsOf,Rows.dep]
  omega
theorem uh {n:Nat}:∀ l:List Row,(∀ r∈l,r.bl<=n)->(rowsOf l).bl<=n
 | [],_=>Nat.zero_le _
 | x::l,h=>by
  have h1:=h x List.mem_cons_self
  have h2:=uh l fun r hr=>h r (List.mem_cons_of_mem _ hr)
  simp only [rowsOf,Rows.bl]
  omega
noncomputable def d7 (l:List Row):Nat:=(l.map Row.cnt).sum
theorem j6:∀ l:List Row,(rowsOf l).cnt=d7 l
 | []=>rfl
 | r::l=>by simp [rowsOf,Rows.cnt,d7,j6 l]
theorem vL (a b:List Row):d7 (a++b)=d7 a+d7 b:=by simp [d7]
noncomputable abbrev cV (ds:List Done):List PV:=ds.map (·.p)
noncomputable abbrev gK (ds:List Done):List Row:=ds.map (·.r)
noncomputable def dL:List Done->qd
 | []=>[]
 | d::ds=>d.L++dL ds
theorem Dh:∀ a b:List Done,dL (a++b)=dL a++dL b
 | [],b=>rfl
 | d::a,b=>by simp [dL,Dh a]
theorem J6:∀ {ds:List Done} {d:Done},d∈ds->d.L.Sublist (dL ds)
 | [],d,h=>by cases h
 | x::ds,d,h=>by
  rcases List.mem_cons.mp h with rfl | h
  . exact List.sublist_append_left _ _
  . exact (J6 h).trans (List.sublist_append_right _ _)
theorem uJ {mu:Mu} {ds:List Done} {n k:Nat} (hf:∀ d∈ds,d.fit) (hn:mu[n]?=some (some (.lst (cV ds)))) (H:Holds mu (dL ds)) (hk:∀ d∈ds,3*d.r.dep<=k):d8 mu (k+2) (.ptr n)=.lst (rowsOf (gK ds)).pvs:=by
 show (match mu[n]? with | some (some p)=>d8 mu (k+1) p | _=>.ptr n)=_
 rw [hn]
 show PV.lst ((cV ds).map (d8 mu k))=_
 rw [xg,cV,gK,List.map_map,List.map_map]
 congr 1
 refine List.map_congr_left fun d hd=>?_
 exact (hf d hd).2 mu k (H.sub (J6 hd)) (hk d hd)
theorem J7 {e:PV} {n:Nat} {ds:List Done} (he:fl e) (hf:∀ d∈ds,d.fit):Done.fit ⟨.tup [.str "while",e,.ptr n],.wh e (rowsOf (gK ds)),(n,.lst (cV ds))::dL ds⟩:=by
 refine ⟨⟨he,nO _ fun r hr=>?_⟩,fun mu k H hk=>?_⟩
 . obtain ⟨d,hd,rfl⟩:=List.mem_map.mp hr
   exact (hf d hd).1
 . have hp:=Rows.dep_pos (rowsOf (gK ds))
   simp only [Row.dep] at hk
   obtain ⟨k,rfl⟩:∃ j,k=j+3:=⟨k-3,by omega⟩
   have e1:=uJ (k:=k) hf H.head H.tail fun d hd=>by
    have:=oG (gK ds) d.r (List.mem_map.mpr ⟨d,hd,rfl⟩)
    omega
   show PV.tup [d8 mu (k+2) (.str "while"),d8 mu (k+2) e,d8 mu (k+2) (.ptr n)]=_
   rw [e1,jU e _ he.1]
   rfl
theorem yr {e:PV} {n m:Nat} {bs ds:List Done} (he:fl e) (hb:∀ d∈bs,d.fit) (hf:∀ d∈ds,d.fit):Done.fit ⟨.tup [.str "if",e,.ptr m,.ptr n],.iff e (rowsOf (gK bs)) (rowsOf (gK ds)),(m,.lst (cV bs))::(n,.lst (cV ds))::(dL bs++dL ds)⟩:=by
 refine ⟨⟨he,nO _ fun r hr=>?_,nO _ fun r hr=>?_⟩,fun mu k H hk=>?_⟩
 . obtain ⟨d,hd,rfl⟩:=List.mem_map.mp hr
   exact (hb d hd).1
 . obtain ⟨d,hd,rfl⟩:=List.mem_map.mp hr
   exact (hf d hd).1
 . have hp:=Rows.dep_pos (rowsOf (gK ds))
   simp only [Row.dep] at hk
   obtain ⟨k,rfl⟩:∃ j,k=j+3:=⟨k-3,by omega⟩
   have e1:=uJ (k:=k) hb H.head (H.tail.tail.sub (List.sublist_append_left _ _)) fun d hd=>by
    have:=oG (gK bs) d.r (List.mem_map.mpr ⟨d,hd,rfl⟩)
    omega
   have e2:=uJ (k:=k) hf H.tail.head (H.tail.tail.sub (List.sublist_append_right _ _)) fun d hd=>by
    have:=oG (gK ds) d.r (List.mem_map.mpr ⟨d,hd,rfl⟩)
    omega
   show PV.tup [d8 mu (k+2) (.str "if"),d8 mu (k+2) e,d8 mu (k+2) (.ptr m),d8 mu (k+2) (.ptr n)]=_
   rw [e1,e2,jU e _ he.1]
   rfl
theorem Qv {r:Row} (h:r.low):Done.fit ⟨r.pv,r,[]⟩:=by
 cases r with
 | leaf w ps=>
  obtain ⟨h1,h2⟩:=h
  refine ⟨⟨h1,h2⟩,fun mu k _ _=>?_⟩
  exact jU _ k (by simp [Row.pv,bD,fM,h2.1])
 | call b n as=>
  obtain ⟨h1,h2,h3,h4⟩:=h
  refine ⟨⟨h1,h2,h3,h4⟩,fun mu k _ hk=>?_⟩
  simp only [Row.dep] at hk
  obtain ⟨k,rfl⟩:∃ j,k=j+1:=⟨k-1,by omega⟩
  show PV.tup [d8 mu k (.str "call"),d8 mu k b,d8 mu k (.str n),d8 mu k (.lst as)]=_
  rw [jU b _ h1.1,jU (.str "call") k rfl,jU (.str n) k rfl,Mv h3.1]
  rfl
 | wh e b=>cases h
 | iff e b c=>cases h
inductive Kd where
 | root
 | W (e:PV)
 | I1 (e:PV) (m:Nat)
 | I2 (e:PV) (m:Nat) (bs:List Done)
structure Fr where
 n:Nat
 s:Nat
 ds:List Done
 kd:Kd
noncomputable def Fr.op (f:Fr):PV:=match f.kd with
 | .root=>.non
 | .W e=>.tup [.str "while",e,.ptr f.n]
 | .I1 e m=>.tup [.str "if",e,.ptr f.n,.ptr m]
 | .I2 e m _=>.tup [.str "if",e,.ptr m,.ptr f.n]
noncomputable def Kd.st:Kd->qd
 | .I1 _ m=>[(m,.lst [])]
 | .I2 _ m bs=>(m,.lst (cV bs))::dL bs
 | _=>[]
noncomputable def Fr.sc (f:Fr):List PV:=match f.kd with
 | .I1 _ m=>[.ptr f.n,.ptr m]
 | _=>[.ptr f.n]
noncomputable def Fr.cls (f:Fr):Done:=match f.kd with
 | .root=>⟨.non,.leaf "" [],[]⟩
 | .W e=>⟨f.op,.wh e (rowsOf (gK f.ds)),(f.n,.lst (cV f.ds))::dL f.ds⟩
 | .I1 e m=>⟨f.op,.iff e (rowsOf (gK f.ds)) .nil,(f.n,.lst (cV f.ds))::(m,.lst [])::(dL f.ds++[])⟩
 | .I2 e m bs=>⟨f.op,.iff e (rowsOf (gK bs)) (rowsOf (gK f.ds)),(m,.lst (cV bs))::(f.n,.lst (cV f.ds))::(dL bs++dL f.ds)⟩
noncomputable def Kd.fit:Kd->Prop
 | .root=>True
 | .W e=>fl e
 | .I1 e _=>fl e
 | .I2 e _ bs=>fl e/\∀ d∈bs,d.fit
noncomputable def Fr.fit (f:Fr):Prop:=(∀ d∈f.ds,d.fit)/\f.kd.fit
theorem FZ {f:Fr} (h:f.fit) (hr:f.kd≠.root):f.cls.fit:=by
 obtain ⟨n,s,ds,kd⟩:=f
 obtain ⟨h1,h2⟩:=h
 cases kd with
 | root=>exact absurd rfl hr
 | W e=>exact J7 h2 h1
 | I1 e m=>exact yr (bs:=ds) (ds:=[]) h2 h1 (fun d hd=>by cases hd)
 | I2 e m bs=>exact yr h2.1 h2.2 h1
theorem U4 {f:Fr} (hr:f.kd≠.root):f.cls.p=f.op:=by
 obtain ⟨n,s,ds,kd⟩:=f
 cases kd<;>first | exact absurd rfl hr | rfl
theorem U5 {f:Fr} (hr:f.kd≠.root):f.cls.L.Perm ((f.n,.lst (cV f.ds))::(f.kd.st++dL f.ds)):=by
 obtain ⟨n,s,ds,kd⟩:=f
 cases kd with
 | root=>exact absurd rfl hr
 | W e=>exact List.Perm.refl _
 | I1 e m=>
  show List.Perm ((n,PV.lst (cV ds))::(m,.lst [])::(dL ds++[])) ((n,.lst (cV ds))::([(m,.lst [])]++dL ds))
  rw [List.append_nil]
  exact List.Perm.refl _
 | I2 e m bs=>exact List.Perm.swap _ _ _
noncomputable def FS:List Fr->List PV->qd
 | [],_=>[]
 | f::fs,o=>(f.n,.lst (cV f.ds++o))::(f.s,.lst f.sc)::((f.kd.st++dL f.ds)++FS fs [f.op])
theorem xj {f g:Fr} {fs:List Fr} (hr:f.kd≠.root):List.Perm (FS (⟨g.n,g.s,g.ds++[f.cls],g.kd⟩::fs) []) ((f.n,.lst (cV f.ds))::((f.kd.st++dL f.ds)++FS (g::fs) [f.op])):=by
 have eo:(⟨g.n,g.s,g.ds++[f.cls],g.kd⟩:Fr).op=g.op:=by cases g with | mk n s ds kd=>cases kd<;>rfl
 have es:(⟨g.n,g.s,g.ds++[f.cls],g.kd⟩:Fr).sc=g.sc:=by cases g with | mk n s ds kd=>cases kd<;>rfl
 show List.Perm ((g.n,PV.lst (cV (g.ds++[f.cls])++[]))::(g.s,.lst (⟨g.n,g.s,g.ds++[f.cls],g.kd⟩:Fr).sc)::((g.kd.st++dL (g.ds++[f.cls]))++FS fs [(⟨g.n,g.s,g.ds++[f.cls],g.kd⟩:Fr).op])) _
 rw [eo,es,List.append_nil,Dh,show cV (g.ds++[f.cls])=cV g.ds++[f.op] by rw [cV,List.map_append,List.map_singleton,U4 hr],show dL [f.cls]=f.cls.L from List.append_nil _]
 have p1:=U5 hr
 have p2:List.Perm ((f.n,PV.lst (cV f.ds))::((f.kd.st++dL f.ds)++FS (g::fs) [f.op])) (f.cls.L++FS (g::fs) [f.op]):=p1.symm.append_right _
 refine List.Perm.trans ?_ p2.symm
 show List.Perm ((g.n,PV.lst (cV g.ds++[f.op]))::(g.s,.lst g.sc)::((g.kd.st++(dL g.ds++f.cls.L))++FS fs [g.op])) (f.cls.L++((g.n,.lst (cV g.ds++[f.op]))::(g.s,.lst g.sc)::((g.kd.st++dL g.ds)++FS fs [g.op])))
 have q:List.Perm ((g.kd.st++(dL g.ds++f.cls.L))++FS fs [g.op]) (f.cls.L++((g.kd.st++dL g.ds)++FS fs [g.op])):=by
  rw [← List.append_assoc,List.append_assoc (g.kd.st++dL g.ds),← List.append_assoc f.cls.L]
  rw [← List.append_assoc]
  exact (List.perm_append_comm).append_right _
 exact ((q.cons _).cons _).trans ((List.perm_middle.symm.cons _).trans List.perm_middle.symm)
theorem jV {f:Fr} {fs:List Fr}:FS (f::fs) []=(f.n,.lst (cV f.ds))::(f.s,.lst f.sc)::((f.kd.st++dL f.ds)++FS fs [f.op]):=by
 show (f.n,PV.lst (cV f.ds++[]))::_=_
 rw [List.append_nil]
theorem Ed {mu:Mu} {f g:Fr} {fs:List Fr} (hr:f.kd≠.root) (h:Holds mu (FS (f::g::fs) [])):Holds mu (FS (⟨g.n,g.s,g.ds++[f.cls],g.kd⟩::fs) []):=by
 rw [jV] at h
 exact (h.sub ((List.sublist_cons_self _ _).cons₂ _)).perm (xj hr)
theorem Holds.grow {mu:Mu} {L:qd} (h:Holds mu L) (X:Mu):Holds (mu++X) L:=⟨h.1,fun x hx=>by rw [List.getElem?_append_left (h.lt x hx)]; exact h.2 x hx⟩
inductive UK where
 | root
 | W (e:PV)
 | I1 (e:PV)
 | I2 (e:PV) (b:List Row)
noncomputable abbrev U:=List Row×UK
noncomputable def Kd.u:Kd->UK
 | .root=>.root
 | .W e=>.W e
 | .I1 e _=>.I1 e
 | .I2 e _ bs=>.I2 e (gK bs)
noncomputable def Fr.u (f:Fr):U:=(gK f.ds,f.kd.u)
noncomputable def UK.close:UK->List Row->Row
 | .root,_=>.leaf "" []
 | .W e,rs=>.wh e (rowsOf rs)
 | .I1 e,rs=>.iff e (rowsOf rs) .nil
 | .I2 e b,rs=>.iff e (rowsOf b) (rowsOf rs)
theorem Oa {f:Fr}:f.cls.r=f.kd.u.close (gK f.ds):=by
 obtain ⟨n,s,ds,kd⟩:=f
 cases kd<;>rfl
noncomputable def sy:List U->List U
 | (rs,.I1 e)::us=>([],.I2 e rs)::us
 | (rs,k)::(rs',k')::us=>(rs'++[k.close rs],k')::us
 | us=>us
noncomputable def pH (d:Dr):List U->List U
 | []=>[]
 | (rs,k)::us=>match d with
  | .row r=>(rs++[r],k)::us
  | .wh e=>if us.length+1<5 then ([],.W e)::(rs,k)::us else (rs++[.wh e .nil],k)::us
  | .iff e=>if us.length+1<5 then ([],.I1 e)::(rs,k)::us else (rs++[.iff e .nil .nil],k)::us
noncomputable def mF (us:List U) (c:Int) (d:Dr):List U:=if ((c%8==0)&&decide ((us.length:Int)>1))=true then sy us else pH d us
noncomputable def Shape (b:Nat):List Fr->Prop
 | []=>False
 | [f]=>f.kd=.root/\f.n=b
 | f::g::r=>f.kd≠.root/\Shape b (g::r)
noncomputable abbrev stk (fs:List Fr):List PV:=fs.reverse.map fun f=>.ptr f.s
theorem jt {f:Fr} {fs:List Fr}:stk (f::fs)=stk fs++[.ptr f.s]:=by simp [stk]
theorem Ga {fs:List Fr}:(stk fs).length=fs.length:=by simp [stk]
structure St (mu:Mu) (b S t:Nat) (fs:List Fr):Prop where
 h:Holds mu ((S,.lst (stk fs))::FS fs [])
 fit:∀ f∈fs,f.fit
 sh:Shape b fs
 ln:fs.length<=5
 sz:∀ f∈fs,f.ds.length<=t
theorem yt {f:EF} {ρ ρ1:Ev} {l:Lc} {n:Nat} {ws:List PV} (h:f ρ=some (l,ρ1)) (hl:l.pv=.ptr n) (hm:ρ1.mu[n]?=some (some (.lst ws))):lA f ρ=some (.sh (.int (ws.length:Nat)),ρ1):=by
 unfold lA
 rw [h,Option.bind_some,hl]
 dsimp only
 rw [hm]
theorem Qw {fo:EF} {ρ ρ1:Ev} {o:Lc} {n:Nat} {ws:List PV} {p:PV} {mu:Mu} (h1:fo ρ=some (o,ρ1)) (ho:o.pv=.ptr n) (hm:ρ1.mu[n]?=some (some (.lst (ws++[p])))) (e:ρ1.mu.set n (some (.lst ws))=mu):wL fo ρ=some (.sh p,⟨ρ1.vs,mu⟩):=by
 unfold wL
 rw [h1,Option.bind_some,ho]
 dsimp only
 rw [hm]
 dsimp only
 rw [List.length_append,List.length_cons,List.length_nil,List.getElem?_append_right (by omega),List.dropLast_concat,e]
 simp
theorem Qx {f:EF} {p:PV} {ρ ρ1:Ev} {n:Nat} (h:f ρ=some (.own p,ρ1)) (hn:ρ1.mu.length=n):kZ f ρ=some (.sh (.ptr n),⟨ρ1.vs,ρ1.mu++[some p]⟩):=by
 unfold kZ
 rw [h,Option.bind_some,hn]
noncomputable abbrev ZE (X:PV) (own ls:List Str) (hs:Hd) (ws:List Str) (b S:Nat) (o7 o8:Option Lc) (mu:Mu):Ev:=⟨[zS X,zL (SS own),zL (SS ls),zL (gC hs),zL (SS ws),zS (.ptr b),zS (.ptr S),o7,o8],mu⟩
noncomputable abbrev ul:EF:=aM (aa 6) (lw (eC (.int 1)))
noncomputable abbrev T4:SF:=aG (nq (tX ul))
 (cJ (tT (aq eqP (lA ul) (eC (.int 0))) aU)
 (nq (wL (aa 6)))
 b8)
noncomputable abbrev Vl:SF:=cJ (cC (tT (aq lH (aM (aa 8) (eC (.int 0))) (bc (aj (eC (.str "if")) (aj (eC (.str "while")) ao)))) aU) (tT (aq BJ (lA (aa 6)) (eC (.int 5))) aU))
 (lg (aa 6) (kZ (du (fK (lB (aa 8) (bU (eC (.int 2))) fH) cD) 1 [] (aD 0) bH (aa 0))))
 b8
noncomputable abbrev Ob:SF:=aG (aL 8 (aN fP (aj (aa 7) (aj (aa 1) (aj (aa 2) (aj (aa 3) (aj (aa 4) ao)))))))
 (aG (lg (aM ul (eC (.int 0))) (aa 8))
 Vl)
noncomputable abbrev Vm:SF:=cJ (cC (tT (aq eqP (aq aO (aa 7) (eC (.int 8))) (eC (.int 0))) aU) (tT (aq iw (lA (aa 6)) (eC (.int 1))) aU)) T4 Ob
section
variable {X:PV} {own ls:List Str} {hs:Hd} {ws:List Str} {b S:Nat} {o7 o8:Option Lc} {mu:Mu}
theorem xm {f:Fr} {fs:List Fr} (h:mu[S]?=some (some (.lst (stk (f::fs))))):ul (ZE X own ls hs ws b S o7 o8 mu)=some (.sh (.ptr f.s),ZE X own ls hs ws b S o7 o8 mu):=
 Jj (n:=S) (k:=-1) (ws:=stk (f::fs)) (l:=.sh (.ptr S)) (m:=.sh (.int (-1))) rfl rfl rfl rfl h (by rw [jt]; exact vf _ _)
theorem Fr.sc_head (f:Fr):∃ t,f.sc=.ptr f.n::t:=by
 obtain ⟨n,s,ds,kd⟩:=f
 cases kd<;>exact ⟨_,rfl⟩
theorem U6 {f:Fr} {fs:List Fr} (h:mu[S]?=some (some (.lst (stk (f::fs))))) (h2:mu[f.s]?=some (some (.lst f.sc))):aM ul (eC (.int 0)) (ZE X own ls hs ws b S o7 o8 mu)=some (.sh (.ptr f.n),ZE X own ls hs ws b S o7 o8 mu):=by
 obtain ⟨t,et⟩:=f.sc_head
 exact Jj (n:=f.s) (k:=0) (ws:=f.sc) (l:=.sh (.ptr f.s)) (m:=.sh (.int 0)) (xm h) rfl rfl rfl h2 (by rw [et]; exact at0)
theorem Oc {fs:List Fr} (h:mu[S]?=some (some (.lst (stk fs)))):lA (aa 6) (ZE X own ls hs ws b S o7 o8 mu)=some (.sh (.int (fs.length:Nat)),ZE X own ls hs ws b S o7 o8 mu):=by
 have:=yt (f:=aa 6) (ρ:=ZE X own ls hs ws b S o7 o8 mu) (ρ1:=ZE X own ls hs ws b S o7 o8 mu) (l:=.sh (.ptr S)) (n:=S) rfl rfl h
 rw [Ga] at this
 exact this
theorem Od {f:Fr} {fs:List Fr} {p:PV} {t:Nat} (h:Holds mu ((S,.lst (stk (f::fs)))::FS (f::fs) [])) (hz:f.ds.length<=1000):lg (aM ul (eC (.int 0))) (aa 8) (ZE X own ls hs ws b S o7 (zS p) mu)=some (.nx (ZE X own ls hs ws b S o7 (zS p) (mu.set f.n (some (.lst (cV f.ds++[p])))))):=by
 have h1:=h.head
 have h2:=h.tail
 rw [jV] at h2
 exact qT (n:=f.n) (ws0:=cV f.ds) (ws:=cV f.ds) (p:=p) (o:=.sh (.ptr f.n)) (y:=.sh p) (ρ1:=ZE X own ls hs ws b S o7 (zS p) mu) (ρ2:=ZE X own ls hs ws b S o7 (zS p) mu) (U6 h1 h2.tail.head) rfl h2.head rfl rfl h2.head (by rw [List.length_map]; omega) rfl
end
theorem xn {f:EF} {ρ ρ1:Ev} {l:Lc} (h:f ρ=some (l,ρ1)):nq f ρ=some (.nx ρ1):=by
 unfold nq
 rw [h]
 rfl
section
variable {X:PV} {own ls:List Str} {hs:Hd} {ws:List Str} {b S t:Nat} {o7 o8:Option Lc} {mu:Mu}
theorem Qy {c:Int} {fs:List Fr} (h:mu[S]?=some (some (.lst (stk fs)))):cC (tT (aq eqP (aq aO (aa 7) (eC (.int 8))) (eC (.int 0))) aU) (tT (aq iw (lA (aa 6)) (eC (.int 1))) aU) (ZE X own ls hs ws b S (zI c) o8 mu)=some ((c%8==0)&&decide ((fs.length:Int)>1),ZE X own ls hs ws b S (zI c) o8 mu):=
 kO rfl (gR (l:=.sh (.bl (decide ((fs.length:Int)>1)))) (gk (p:=.int (fs.length:Nat)) (q:=.int 1) (l:=.sh (.int (fs.length:Nat))) (m:=.sh (.int 1)) (Oc h) rfl rfl rfl rfl) rfl)
theorem um {b:Nat} {g:Fr} {fs:List Fr} {d:List Done} (h:Shape b (g::fs)):Shape b (⟨g.n,g.s,d,g.kd⟩::fs):=by
 cases fs with
 | nil=>exact h
 | cons x fs=>exact h
theorem Gb {f g:Fr} {fs:List Fr} (h:St mu b S t (f::g::fs)) (hsc:f.sc=[.ptr f.n]) (hu:sy ((f::g::fs).map Fr.u)=((g::fs).map Fr.u).modifyHead fun u=>(u.1++[f.kd.u.close (gK f.ds)],u.2)):∃ mu' fs',T4 (ZE X own ls hs ws b S o7 o8 mu)=some (.nx (ZE X own ls hs ws b S o7 o8 mu'))/\St mu' b S (t+1) fs'/\fs'.map Fr.u=sy ((f::g::fs).map Fr.u):=by
 obtain ⟨H,fit,sh,ln,sz⟩:=h
 have hr:f.kd≠.root:=sh.1
 have Hq0:=H
 rw [jV,hsc] at H
 have H1:Holds mu ((f.s,.lst [.ptr f.n])::(S,.lst (stk (f::g::fs)))::(f.n,.lst (cV f.ds))::((f.kd.st++dL f.ds)++FS (g::fs) [f.op])):=H.perm (List.perm_middle (l₁:=[(S,PV.lst (stk (f::g::fs))),(f.n,.lst (cV f.ds))])).symm
 have H2:=H1.set (q:=.lst [])
 have H3:Holds ((mu.set f.s (some (.lst []))).set S (some (.lst (stk (g::fs))))) ((S,.lst (stk (g::fs)))::(f.s,.lst [])::(f.n,.lst (cV f.ds))::((f.kd.st++dL f.ds)++FS (g::fs) [f.op])):=(H2.perm (List.Perm.swap _ _ _)).set
 have H4:=H3.sub ((List.sublist_cons_self _ _).cons₂ _)
 have H5:=H4.perm ((xj (g:=g) (fs:=fs) hr).cons _)
 refine ⟨(mu.set f.s (some (.lst []))).set S (some (.lst (stk (g::fs)))),⟨g.n,g.s,g.ds++[f.cls],g.kd⟩::fs,?_,⟨?_,fun x hx=>?_,um sh.2,?_,fun x hx=>?_⟩,?_⟩
 . let mu1:=mu.set f.s (some (.lst []))
   refine aJ (ρ':=ZE X own ls hs ws b S o7 o8 mu1) (xn (Cd (ρ1:=ZE X own ls hs ws b S o7 o8 mu) (o:=.sh (.ptr f.s)) (n:=f.s) (ws:=[]) (p:=.ptr f.n) (xm H.head) rfl H1.head rfl)) ?_
   have tt:tT (aq eqP (lA ul) (eC (.int 0))) aU (ZE X own ls hs ws b S o7 o8 mu1)=some (true,ZE X own ls hs ws b S o7 o8 mu1):=gR (l:=.sh (.bl true)) (gk (p:=.int 0) (q:=.int 0) (l:=.sh (.int 0)) (m:=.sh (.int 0)) (yt (n:=f.s) (ws:=[]) (l:=.sh (.ptr f.s)) (xm H2.tail.head) rfl H2.head) rfl rfl rfl rfl) rfl
   refine (jZ tt).trans (xn (Qw (ρ1:=ZE X own ls hs ws b S o7 o8 mu1) (o:=.sh (.ptr S)) (n:=S) (ws:=stk (g::fs)) (p:=.ptr f.s) rfl rfl ?_ rfl))
   rw [← jt]
   exact H2.tail.head
 . have e:stk (⟨g.n,g.s,g.ds++[f.cls],g.kd⟩::fs)=stk (g::fs):=by rw [jt,jt]
   rw [e]
   exact H5
 . rcases List.mem_cons.mp hx with rfl | hx
   . obtain ⟨g1,g2⟩:=fit g (by simp)
     refine ⟨fun d hd=>?_,g2⟩
     rcases List.mem_append.mp hd with hd | hd
     . exact g1 d hd
     . rw [List.mem_singleton.mp hd]
       exact FZ (fit f (by simp)) hr
   . exact fit x (by simp [hx])
 . simp only [List.length_cons] at ln ⊢
   omega
 . rcases List.mem_cons.mp hx with rfl | hx
   . have:=sz g (by simp)
     simp only [List.length_append,List.length_cons,List.length_nil]
     omega
   . have:=sz x (by simp [hx])
     omega
 . rw [hu]
   show (gK (g.ds++[f.cls]),g.kd.u)::fs.map Fr.u=(gK g.ds++[f.kd.u.close (gK f.ds)],g.kd.u)::fs.map Fr.u
   rw [gK,List.map_append,List.map_singleton,Oa]
theorem Mw {f g:Fr} {fs:List Fr} (h:St mu b S t (f::g::fs)):∃ mu' fs',T4 (ZE X own ls hs ws b S o7 o8 mu)=some (.nx (ZE X own ls hs ws b S o7 o8 mu'))/\St mu' b S (t+1) fs'/\fs'.map Fr.u=sy ((f::g::fs).map Fr.u):=by
 obtain ⟨n,s,ds,kd⟩:=f
 cases kd with
 | root=>exact absurd rfl h.sh.1
 | W e=>exact Gb h rfl rfl
 | I2 e m bs=>exact Gb h rfl rfl
 | I1 e m=>
  obtain ⟨H,fit,sh,ln,sz⟩:=h
  let f:Fr:=⟨n,s,ds,.I1 e m⟩
  let f':Fr:=⟨m,s,[],.I2 e n ds⟩
  rw [jV] at H
  have Hq0:Holds mu ((S,.lst (stk (f::g::fs)))::(n,.lst (cV ds))::(s,.lst [.ptr n,.ptr m])::(m,.lst [])::(dL ds++FS (g::fs) [f.op])):=H
  have H1:Holds mu ((s,.lst [.ptr n,.ptr m])::(S,.lst (stk (f::g::fs)))::(n,.lst (cV ds))::(m,.lst [])::(dL ds++FS (g::fs) [f.op])):=Hq0.perm (List.perm_middle (l₁:=[(S,PV.lst (stk (f::g::fs))),(n,.lst (cV ds))])).symm
  have H2:=H1.set (q:=.lst [.ptr m])
  refine ⟨mu.set s (some (.lst [.ptr m])),f'::g::fs,?_,⟨?_,fun x hx=>?_,⟨(by intro q; cases q),sh.2⟩,ln,fun x hx=>?_⟩,?_⟩
  . let mu1:=mu.set s (some (.lst [.ptr m]))
    refine aJ (ρ':=ZE X own ls hs ws b S o7 o8 mu1) (xn (Cd (ρ1:=ZE X own ls hs ws b S o7 o8 mu) (o:=.sh (.ptr s)) (n:=s) (ws:=[.ptr m]) (p:=.ptr n) (xm (f:=f) (fs:=g::fs) Hq0.head) rfl H1.head rfl)) ?_
    have tt:tT (aq eqP (lA ul) (eC (.int 0))) aU (ZE X own ls hs ws b S o7 o8 mu1)=some (false,ZE X own ls hs ws b S o7 o8 mu1):=gR (l:=.sh (.bl false)) (gk (p:=.int 1) (q:=.int 0) (l:=.sh (.int 1)) (m:=.sh (.int 0)) (yt (n:=s) (ws:=[.ptr m]) (l:=.sh (.ptr s)) (xm (f:=f) (fs:=g::fs) H2.tail.head) rfl H2.head) rfl rfl rfl rfl) rfl
    exact (jj tt).trans rfl
  . have e:stk (f'::g::fs)=stk (f::g::fs):=(jt (f:=f') (fs:=g::fs)).trans (jt (f:=f) (fs:=g::fs)).symm
    rw [jV,e]
    show Holds _ ((S,.lst (stk (f::g::fs)))::(m,.lst [])::(s,.lst [.ptr m])::(n,.lst (cV ds))::((dL ds++[])++FS (g::fs) [f.op]))
    rw [List.append_nil]
    refine H2.perm ?_
    exact (List.perm_middle (l₁:=[(S,PV.lst (stk (f::g::fs))),(m,.lst [])])).trans (((List.Perm.swap _ _ _).cons _).cons _)
  . rcases List.mem_cons.mp hx with rfl | hx
    . obtain ⟨g1,g2⟩:=fit f (by simp [f])
      exact ⟨(fun d hd=>(by cases hd)),g2,g1⟩
    . exact fit x (by simp [hx])
  . rcases List.mem_cons.mp hx with rfl | hx
    . exact Nat.zero_le _
    . have:=sz x (by simp [hx])
      omega
  . rfl
theorem Qz {f:Fr} {fs:List Fr} {d:Done} {L:qd} (h:Holds mu ((S,.lst (stk (f::fs)))::FS (f::fs) [])) (h2:Holds mu (L++((S,.lst (stk (f::fs)))::FS (f::fs) []))) (hL:d.L=L):Holds (mu.set f.n (some (.lst (cV f.ds++[d.p])))) ((S,.lst (stk (f::fs)))::FS (⟨f.n,f.s,f.ds++[d],f.kd⟩::fs) []):=by
 rw [jV] at h2
 have p1:List.Perm ((f.n,PV.lst (cV f.ds))::(L++((S,.lst (stk (f::fs)))::(f.s,.lst f.sc)::((f.kd.st++dL f.ds)++FS fs [f.op])))) (L++((S,.lst (stk (f::fs)))::(f.n,.lst (cV f.ds))::(f.s,.lst f.sc)::((f.kd.st++dL f.ds)++FS fs [f.op]))):=by
  have:=(List.perm_middle (l₁:=L++[(S,PV.lst (stk (f::fs)))]) (a:=(f.n,PV.lst (cV f.ds))) (l₂:=(f.s,.lst f.sc)::((f.kd.st++dL f.ds)++FS fs [f.op]))).symm
  simpa using this
 have H1:=(h2.perm p1).set (q:=.lst (cV f.ds++[d.p]))
 have eo:(⟨f.n,f.s,f.ds++[d],f.kd⟩:Fr).op=f.op:=by cases f with | mk n s ds kd=>cases kd<;>rfl
 have es:(⟨f.n,f.s,f.ds++[d],f.kd⟩:Fr).sc=f.sc:=by cases f with | mk n s ds kd=>cases kd<;>rfl
 rw [jV,eo,es]
 show Holds _ ((S,.lst (stk (f::fs)))::(f.n,.lst (cV (f.ds++[d])))::(f.s,.lst f.sc)::((f.kd.st++dL (f.ds++[d]))++FS fs [f.op]))
 rw [show cV (f.ds++[d])=cV f.ds++[d.p] by simp [cV],Dh,show dL [d]=L by rw [← hL]; exact List.append_nil _]
 refine H1.perm ?_
 have q:List.Perm ((f.kd.st++(dL f.ds++L))++FS fs [f.op]) (L++((f.kd.st++dL f.ds)++FS fs [f.op])):=by
  rw [← List.append_assoc (f.kd.st),← List.append_assoc L]
  exact List.perm_append_comm.append_right _
 have q2:=((q.cons (f.s,PV.lst f.sc)).cons (S,PV.lst (stk (f::fs)))).trans ((List.perm_middle.symm.cons _).trans List.perm_middle.symm)
 exact (List.Perm.swap _ _ _).trans (q2.cons _)
theorem T5 {f:Fr} {fs:List Fr} {d:Done} {mu':Mu} (h:St mu b S t (f::fs)) (hd:d.fit) (H:Holds mu' ((S,.lst (stk (f::fs)))::FS (⟨f.n,f.s,f.ds++[d],f.kd⟩::fs) [])):St mu' b S (t+1) (⟨f.n,f.s,f.ds++[d],f.kd⟩::fs):=by
 obtain ⟨_,fit,sh,ln,sz⟩:=h
 refine ⟨?_,fun x hx=>?_,um sh,by simpa using ln,fun x hx=>?_⟩
 . have e:stk (⟨f.n,f.s,f.ds++[d],f.kd⟩::fs)=stk (f::fs):=by rw [jt,jt]
   rw [e]
   exact H
 . rcases List.mem_cons.mp hx with rfl | hx
   . obtain ⟨g1,g2⟩:=fit f (by simp)
     refine ⟨fun y hy=>?_,g2⟩
     rcases List.mem_append.mp hy with hy | hy
     . exact g1 y hy
     . rw [List.mem_singleton.mp hy]
       exact hd
   . exact fit x (by simp [hx])
 . rcases List.mem_cons.mp hx with rfl | hx
   . have:=sz f (by simp)
     simp only [List.length_append,List.length_cons,List.length_nil]
     omega
   . have:=sz x (by simp [hx])
     omega
end
section
variable [HK]
variable {X:PV} {own ls:List Str} {hs:Hd} {ws:List Str} {b S t:Nat} {o7 o8:Option Lc} {mu:Mu}
theorem Mx {f F:Fr} {fs:List Fr} (hF:F.ds=[]) (hC:Holds mu (((F.n,.lst [])::F.kd.st)++((S,.lst (stk (f::fs)))::FS (f::fs) []))) (hs:F.s=mu.length):
 Holds ((mu.set f.n (some (PV.lst (cV f.ds++[F.op])))++[some (PV.lst F.sc)]).set S (some (PV.lst (stk (F::f::fs))))) ((S,.lst (stk (F::f::fs)))::FS (F::f::fs) []):=by
 rw [jV] at hC
 let K:=F.kd.st
 let A:Nat×PV:=(F.n,.lst [])
 let E:Nat×PV:=(f.s,.lst f.sc)
 let R:=(f.kd.st++dL f.ds)++FS fs [f.op]
 have p1:List.Perm ((f.n,PV.lst (cV f.ds))::((S,.lst (stk (f::fs)))::((A::K)++(E::R)))) (((F.n,.lst [])::F.kd.st)++((S,.lst (stk (f::fs)))::(f.n,.lst (cV f.ds))::E::R)):=by
  refine List.Perm.trans ?_ (List.perm_middle (l₁:=A::K) (a:=(S,PV.lst (stk (f::fs)))) (l₂:=(f.n,.lst (cV f.ds))::E::R)).symm
  refine (List.Perm.swap _ _ _).trans ((List.perm_middle (l₁:=A::K) (a:=(f.n,PV.lst (cV f.ds))) (l₂:=E::R)).symm.cons _)
 have H1:=(hC.perm p1).set (q:=.lst (cV f.ds++[F.op]))
 have H2:=H1.push (.lst F.sc)
 rw [List.length_set,← hs] at H2
 let B:Nat×PV:=(F.s,.lst F.sc)
 let D:Nat×PV:=(f.n,.lst (cV f.ds++[F.op]))
 have H3:=H2.perm (List.perm_middle (l₁:=[B,D]) (a:=(S,PV.lst (stk (f::fs)))) (l₂:=(A::K)++(E::R))).symm
 have H4:=H3.set (q:=.lst (stk (F::f::fs)))
 refine H4.perm (List.Perm.cons _ ?_)
 rw [jV,hF]
 show List.Perm (A::B::((K++[])++(D::E::R))) (B::D::((A::K)++(E::R)))
 rw [List.append_nil]
 exact (List.Perm.swap _ _ _).trans ((((List.perm_middle (l₁:=K) (a:=D) (l₂:=E::R)).cons A).trans (List.Perm.swap _ _ _)).cons B)
theorem wZ {w:Str} {ps:List PV}:aM (aa 8) (eC (.int 0)) (ZE X own ls hs ws b S o7 (zS (.tup (.str w::ps))) mu)=some (.sh (.str w),ZE X own ls hs ws b S o7 (zS (.tup (.str w::ps))) mu):=
 d9 (p:=.tup (.str w::ps)) (q:=.int 0) (l:=.sh (.tup (.str w::ps))) (m:=.sh (.int 0)) rfl rfl rfl rfl (fun n h=>by cases h) (by show (fW (PV.str w::ps) 0).map _=_; rw [at0]; rfl)
theorem Di {w:Str} {ps:List PV} {fs:List Fr} (h:mu[S]?=some (some (.lst (stk fs)))):cC (tT (aq lH (aM (aa 8) (eC (.int 0))) (bc (aj (eC (.str "if")) (aj (eC (.str "while")) ao)))) aU) (tT (aq BJ (lA (aa 6)) (eC (.int 5))) aU) (ZE X own ls hs ws b S o7 (zS (.tup (.str w::ps))) mu)=some (iU w&&decide ((fs.length:Int)<5),ZE X own ls hs ws b S o7 (zS (.tup (.str w::ps))) mu):=
 kO (gR (l:=.sh (.bl (iU w))) (aP wZ rfl rfl) rfl) (gR (l:=.sh (.bl (decide ((fs.length:Int)<5)))) (gk (p:=.int (fs.length:Nat)) (q:=.int 5) (l:=.sh (.int (fs.length:Nat))) (m:=.sh (.int 5)) (Oc h) rfl rfl rfl rfl) rfl)
theorem vM {c:Int} {f:Fr} {fs:List Fr} {d:Dr} {D:Done} {w:Str} {ps:List PV} (er:fP [.int c,.lst (SS own),.lst (SS ls),.lst (gC hs),.lst (SS ws)] mu=some (.sh (d.pv mu.length),mu++d.cl)) (h:St mu b S t (f::fs)) (ht:t<=1000)
 (hp:d.pv mu.length=.tup (.str w::ps)) (hD:D.p=d.pv mu.length) (hf:D.fit) (hL:Holds (mu++d.cl) (D.L++((S,.lst (stk (f::fs)))::FS (f::fs) []))) (hb:(iU w&&decide (((f::fs).length:Int)<5))=false):
 ∃ mu' p8,Ob (ZE X own ls hs ws b S (zI c) o8 mu)=some (.nx (ZE X own ls hs ws b S (zI c) p8 mu'))/\St mu' b S (t+1) (⟨f.n,f.s,f.ds++[D],f.kd⟩::fs):=by
 have Hg:=h.h.grow d.cl
 have hz:=h.sz f List.mem_cons_self
 let C:Option Lc:=zI c
 let P:Option Lc:=zS (d.pv mu.length)
 have H5:=Qz Hg hL rfl
 rw [hD] at H5
 refine ⟨(mu++d.cl).set f.n (some (PV.lst (cV f.ds++[d.pv mu.length]))),P,?_,T5 h hf H5⟩
 refine aJ (ρ':=ZE X own ls hs ws b S C P (mu++d.cl)) (bu (l:=.sh (d.pv mu.length)) (ρ1:=ZE X own ls hs ws b S C o8 (mu++d.cl)) (aV (ls:=[.sh (.int c),.sh (.lst (SS own)),.sh (.lst (SS ls)),.sh (.lst (gC hs)),.sh (.lst (SS ws))]) (ps:=[.int c,.lst (SS own),.lst (SS ls),.lst (gC hs),.lst (SS ws)]) (ρ1:=ZE X own ls hs ws b S C o8 mu) rfl rfl rfl rfl er) rfl rfl) ?_
 refine aJ (Od (t:=t) Hg (by omega)) ?_
 have tt:=Di (X:=X) (own:=own) (ls:=ls) (hs:=hs) (ws:=ws) (b:=b) (o7:=C) (w:=w) (ps:=ps) (fs:=f::fs) H5.head
 rw [hb] at tt
 show Vl (ZE X own ls hs ws b S C (zS (d.pv mu.length)) _)=_
 rw [show P=zS (.tup (.str w::ps)) from congrArg (fun x=>some (Lc.sh x)) hp,hp]
 rw [hp] at tt
 exact (jj tt).trans rfl
theorem Dj {c:Int} {f F:Fr} {fs:List Fr} {d:Dr} {w:Str} {ps:List PV} (er:fP [.int c,.lst (SS own),.lst (SS ls),.lst (gC hs),.lst (SS ws)] mu=some (.sh (d.pv mu.length),mu++d.cl)) (h:St mu b S t (f::fs)) (ht:t<=1000)
 (hp:d.pv mu.length=.tup (.str w::ps)) (hF:F.ds=[]) (hop:F.op=d.pv mu.length) (hk:F.fit) (hr:F.kd≠.root) (hs':F.s=(mu++d.cl).length) (hL:Holds (mu++d.cl) (((F.n,.lst [])::F.kd.st)++((S,.lst (stk (f::fs)))::FS (f::fs) []))) (hb:(iU w&&decide (((f::fs).length:Int)<5))=true)
 (hc:∀ mu:Mu,du (fK (lB (aa 8) (bU (eC (.int 2))) fH) cD) 1 [] (aD 0) bH (aa 0) (ZE X own ls hs ws b S (zI c) (zS F.op) mu)=some (.own (.lst F.sc),ZE X own ls hs ws b S (zI c) (zS F.op) mu)):
 ∃ mu' p8,Ob (ZE X own ls hs ws b S (zI c) o8 mu)=some (.nx (ZE X own ls hs ws b S (zI c) p8 mu'))/\St mu' b S (t+1) (F::f::fs):=by
 have Hg:=h.h.grow d.cl
 have hz:=h.sz f List.mem_cons_self
 let C:Option Lc:=zI c
 let P:Option Lc:=zS F.op
 have H5:=Mx hF hL hs'
 obtain ⟨_,fit,sh,ln,sz⟩:=h
 have hlen:(f::fs).length<5:=by
  have h2:decide (((f::fs).length:Int)<5)=true:=(Bool.and_eq_true _ _▸hb).2
  have h3:=of_decide_eq_true h2
  omega
 let mu2:=(mu++d.cl).set f.n (some (PV.lst (cV f.ds++[F.op])))
 have hS2:mu2[S]?=some (some (.lst (stk (f::fs)))):=by
  have h2:=hL
  have ne:f.n≠S:=by
   have nd:=Hg.1
   rw [jV] at nd
   exact fun q=>(List.nodup_cons.mp nd).1 (by rw [← q]; exact List.mem_cons_self)
  show ((mu++d.cl).set f.n _)[S]?=_
  rw [List.getElem?_set_ne ne]
  exact Hg.head
 refine ⟨(mu2++[some (PV.lst F.sc)]).set S (some (PV.lst (stk (F::f::fs)))),P,?_,⟨H5,fun x hx=>?_,⟨hr,sh⟩,by simp only [List.length_cons] at hlen ⊢; omega,fun x hx=>?_⟩⟩
 . refine aJ (ρ':=ZE X own ls hs ws b S C P (mu++d.cl)) (bu (l:=.sh F.op) (ρ1:=ZE X own ls hs ws b S C o8 (mu++d.cl)) (aV (ls:=[.sh (.int c),.sh (.lst (SS own)),.sh (.lst (SS ls)),.sh (.lst (gC hs)),.sh (.lst (SS ws))]) (ps:=[.int c,.lst (SS own),.lst (SS ls),.lst (gC hs),.lst (SS ws)]) (ρ1:=ZE X own ls hs ws b S C o8 mu) rfl rfl rfl rfl (by rw [hop]; exact er)) rfl rfl) ?_
   refine aJ (Od (t:=t) Hg (by omega)) ?_
   have tt:=Di (X:=X) (own:=own) (ls:=ls) (hs:=hs) (ws:=ws) (b:=b) (o7:=C) (w:=w) (ps:=ps) (fs:=f::fs) hS2
   rw [hb] at tt
   have e9:P=zS (.tup (.str w::ps)):=congrArg (fun x=>some (Lc.sh x)) (hop.trans hp)
   have tt2:cC (tT (aq lH (aM (aa 8) (eC (.int 0))) (bc (aj (eC (.str "if")) (aj (eC (.str "while")) ao)))) aU) (tT (aq BJ (lA (aa 6)) (eC (.int 5))) aU) (ZE X own ls hs ws b S C P mu2)=some (true,ZE X own ls hs ws b S C P mu2):=by
    rw [e9]
    exact tt
   refine (jZ tt2).trans ?_
   have lt:S<mu2.length:=(List.getElem?_eq_some_iff.mp hS2).1
   refine qT (n:=S) (ws0:=stk (f::fs)) (ws:=stk (f::fs)) (p:=.ptr F.s) (o:=.sh (.ptr S)) (ρ1:=ZE X own ls hs ws b S C P mu2) (y:=.sh (.ptr F.s)) (ρ2:=ZE X own ls hs ws b S C P (mu2++[some (PV.lst F.sc)])) rfl rfl hS2 (Qx (hc mu2) (by rw [hs']; exact List.length_set ..)) rfl ?_ (by rw [Ga]; omega) ?_
   . show (mu2++[some (PV.lst F.sc)])[S]?=_
     rw [List.getElem?_append_left lt]
     exact hS2
   . rw [← jt]
 . rcases List.mem_cons.mp hx with rfl | hx
   . exact hk
   . exact fit x hx
 . rcases List.mem_cons.mp hx with rfl | hx
   . rw [hF]; exact Nat.zero_le _
   . have:=sz x hx
     omega
theorem My {c:Int} {f:Fr} {fs:List Fr} {d:Dr} (hd:d.ok) (er:∀ mu,fP [.int c,.lst (SS own),.lst (SS ls),.lst (gC hs),.lst (SS ws)] mu=some (.sh (d.pv mu.length),mu++d.cl)) (h:St mu b S t (f::fs)) (ht:t<=1000):
 ∃ mu' fs' p8,Ob (ZE X own ls hs ws b S (zI c) o8 mu)=some (.nx (ZE X own ls hs ws b S (zI c) p8 mu'))/\St mu' b S (t+1) fs'/\fs'.map Fr.u=pH d ((f::fs).map Fr.u):=by
 have hl:(fs.map Fr.u).length=fs.length:=List.length_map _
 cases d with
 | row r=>
  have hr:r.low:=hd
  obtain ⟨w,ps,e,hw⟩:∃ w ps,r.pv=.tup (.str w::ps)/\iU w=false:=by
   cases r with
   | leaf w ps=>exact ⟨w,ps,rfl,yo hr.1⟩
   | call x n as=>exact ⟨"call",_,rfl,by decide +kernel⟩
   | wh x c=>cases hr
   | iff x c d=>cases hr
  obtain ⟨mu',p8,e1,e2⟩:=vM (X:=X) (o8:=o8) (D:=⟨r.pv,r,[]⟩) (er mu) h ht e rfl (Qv hr) (by rw [show mu++Dr.cl (.row r)=mu from List.append_nil _]; exact h.h) (by rw [hw]; rfl)
  refine ⟨mu',_,p8,e1,e2,?_⟩
  show (gK (f.ds++[⟨r.pv,r,[]⟩]),f.kd.u)::fs.map Fr.u=(gK f.ds++[r],f.kd.u)::fs.map Fr.u
  rw [gK,List.map_append]
  rfl
 | wh e=>
  have he:fl e:=hd
  have H1:=h.h.push (.lst [])
  by_cases hb:fs.length+1<5
  . obtain ⟨mu',p8,e1,e2⟩:=Dj (X:=X) (o8:=o8) (F:=⟨mu.length,mu.length+1,[],.W e⟩) (er mu) h ht (w := "while") (ps:=[e,.ptr mu.length]) rfl rfl rfl ⟨(fun d hd=>(by cases hd)),he⟩ (by intro q; cases q) (by simp [Dr.cl]) H1 (by
     rw [show iU "while" = true by decide +kernel,Bool.true_and]
     exact decide_eq_true (by simp only [List.length_cons]; omega)) (fun mu=>rfl)
    refine ⟨mu',_,p8,e1,e2,?_⟩
    show _=if (fs.map Fr.u).length+1<5 then _ else _
    rw [hl,if_pos hb]
    rfl
  . obtain ⟨mu',p8,e1,e2⟩:=vM (X:=X) (o8:=o8) (D:=⟨.tup [.str "while",e,.ptr mu.length],.wh e .nil,[(mu.length,.lst [])]⟩) (er mu) h ht (w := "while") (ps:=[e,.ptr mu.length]) rfl rfl (J7 (ds:=[]) he fun d hd=>by cases hd) H1 (by
     rw [show iU "while" = true by decide +kernel,Bool.true_and]
     exact decide_eq_false (by simp only [List.length_cons]; omega))
    refine ⟨mu',_,p8,e1,e2,?_⟩
    show _=if (fs.map Fr.u).length+1<5 then _ else _
    rw [hl,if_neg hb]
    show (gK (f.ds++[_]),f.kd.u)::fs.map Fr.u=_
    rw [gK,List.map_append]
    rfl
 | iff e=>
  have he:fl e:=hd
  have Hq0:=(h.h.push (.lst [])).push (.lst [])
  have e2:(mu++[some (PV.lst [])])++[some (PV.lst [])]=mu++Dr.cl (.iff e):=by simp [Dr.cl]
  rw [e2,show (mu++[some (PV.lst [])]).length=mu.length+1 by simp] at Hq0
  have H1:Holds (mu++Dr.cl (.iff e)) ((mu.length,.lst [])::(mu.length+1,.lst [])::((S,.lst (stk (f::fs)))::FS (f::fs) [])):=Hq0.perm (List.Perm.swap _ _ _)
  by_cases hb:fs.length+1<5
  . obtain ⟨mu',p8,e1,e2⟩:=Dj (X:=X) (o8:=o8) (F:=⟨mu.length,mu.length+2,[],.I1 e (mu.length+1)⟩) (er mu) h ht (w := "if") (ps:=[e,.ptr mu.length,.ptr (mu.length+1)]) rfl rfl rfl ⟨(fun d hd=>(by cases hd)),he⟩ (by intro q; cases q) (by simp [Dr.cl]) H1 (by
     rw [show iU "if" = true by decide +kernel,Bool.true_and]
     exact decide_eq_true (by simp only [List.length_cons]; omega)) (fun mu=>rfl)
    refine ⟨mu',_,p8,e1,e2,?_⟩
    show _=if (fs.map Fr.u).length+1<5 then _ else _
    rw [hl,if_pos hb]
    rfl
  . obtain ⟨mu',p8,e1,e2⟩:=vM (X:=X) (o8:=o8) (D:=⟨.tup [.str "if",e,.ptr mu.length,.ptr (mu.length+1)],.iff e .nil .nil,[(mu.length,.lst []),(mu.length+1,.lst [])]⟩) (er mu) h ht (w := "if") (ps:=[e,.ptr mu.length,.ptr (mu.length+1)]) rfl rfl (yr (bs:=[]) (ds:=[]) he (fun d hd=>by cases hd) fun d hd=>by cases hd) H1 (by
     rw [show iU "if" = true by decide +kernel,Bool.true_and]
     exact decide_eq_false (by simp only [List.length_cons]; omega))
    refine ⟨mu',_,p8,e1,e2,?_⟩
    show _=if (fs.map Fr.u).length+1<5 then _ else _
    rw [hl,if_neg hb]
    show (gK (f.ds++[_]),f.kd.u)::fs.map Fr.u=_
    rw [gK,List.map_append]
    rfl
end
noncomputable def Dk (lev:Nat) (r:Row):Prop:=r.ok/\r.dep<=10-2*lev/\r.bl+1<=3*2 ^ (4-lev)
noncomputable def UK.ok (lev:Nat):UK->Prop
 | .root=>lev=0
 | .W e=>0<lev/\fl e
 | .I1 e=>0<lev/\fl e
 | .I2 e b=>0<lev/\fl e/\∀ r∈b,Dk lev r
noncomputable def pI:List U->Prop
 | []=>True
 | u::us=>(∀ r∈u.1,Dk us.length r)/\u.2.ok us.length/\pI us
noncomputable def UK.cnt:UK->Nat
 | .root=>0
 | .W _=>1
 | .I1 _=>1
 | .I2 _ b=>d7 b+1
noncomputable def gw:List U->Nat
 | []=>0
 | u::us=>d7 u.1+u.2.cnt+gw us
theorem vN {lev:Nat} {rs:List Row} (hl:lev<=4) (h:∀ r∈rs,Dk lev r):(rowsOf rs).ok/\(rowsOf rs).dep<=11-2*lev/\(rowsOf rs).bl+1<=3*2 ^ (4-lev):=by
 have hp:1<=2 ^ (4-lev):=Nat.one_le_two_pow
 refine ⟨nO _ fun r hr=>(h r hr).1,sJ (by omega) _ fun r hr=>?_,?_⟩
 . have:=(h r hr).2.1
   omega
 . have:=uh (n:=3*2 ^ (4-lev)-1) rs fun r hr=>by
    have:=(h r hr).2.2
    omega
   omega
theorem zp {lev:Nat} {k:UK} {rs:List Row} (hl:lev+1<=4) (hk:k.ok (lev+1)) (h:∀ r∈rs,Dk (lev+1) r):Dk lev (k.close rs)/\(k.close rs).cnt=d7 rs+k.cnt:=by
 obtain ⟨g1,g2,g3⟩:=vN hl h
 have e:2 ^ (4-lev)=2*2 ^ (4-(lev+1)):=by
  rw [show 4-lev=(4-(lev+1))+1 by omega,Nat.pow_succ,Nat.mul_comm]
 have hp:1<=2 ^ (4-(lev+1)):=Nat.one_le_two_pow
 have hnd:Rows.dep .nil=1:=rfl
 cases k with
 | root=>cases hk
 | W e=>
  refine ⟨⟨⟨hk.2,g1⟩,?_,?_⟩,?_⟩
  . show (rowsOf rs).dep+1<=_
    omega
  . show 1+1<=_
    omega
  . show (rowsOf rs).cnt+1=_
    rw [j6]; rfl
 | I1 e=>
  refine ⟨⟨⟨hk.2,g1,True.intro⟩,?_,?_⟩,?_⟩
  . show max (rowsOf rs).dep (Rows.dep .nil)+1<=_
    omega
  . show 1+(rowsOf rs).bl+0+1<=_
    omega
  . show (rowsOf rs).cnt+0+1=_
    rw [j6]; rfl
 | I2 e b=>
  obtain ⟨b1,b2,b3⟩:=vN hl hk.2.2
  refine ⟨⟨⟨hk.2.1,b1,g1⟩,?_,?_⟩,?_⟩
  . show max (rowsOf b).dep (rowsOf rs).dep+1<=_
    omega
  . show 1+(rowsOf b).bl+(rowsOf rs).bl+1<=_
    omega
  . show (rowsOf b).cnt+(rowsOf rs).cnt+1=d7 rs+(d7 b+1)
    rw [j6,j6]
    omega
theorem QB {us:List U} {d:Dr} (hd:d.ok) (h:pI us) (hl:us.length<=5) (hn:us≠[]):pI (pH d us)/\(pH d us).length<=5/\pH d us≠[]/\gw (pH d us)<=gw us+1:=by
 cases us with
 | nil=>exact absurd rfl hn
 | cons u us=>
  obtain ⟨rs,k⟩:=u
  obtain ⟨h1,h2,h3⟩:=h
  simp only [List.length_cons] at hl
  have hp:1<=2 ^ (4-us.length):=Nat.one_le_two_pow
  have put:∀ r:Row,Dk us.length r->r.cnt=1->pI ((rs++[r],k)::us)/\((rs++[r],k)::us).length<=5/\((rs++[r],k)::us)≠[]/\gw ((rs++[r],k)::us)<=gw ((rs,k)::us)+1:=fun r hr hc=>by
   refine ⟨⟨fun x hx=>?_,h2,h3⟩,(by simp only [List.length_cons]; omega),(by intro q; cases q),?_⟩
   . rcases List.mem_append.mp hx with hx | hx
     . exact h1 x hx
     . rw [List.mem_singleton.mp hx]; exact hr
   . show d7 (rs++[r])+k.cnt+gw us<=d7 rs+k.cnt+gw us+1
     rw [vL]
     have:d7 [r]=r.cnt:=by simp [d7]
     omega
  have push:∀ k':UK,k'.ok (us.length+1)->k'.cnt=1->us.length+1<5->pI (([],k')::(rs,k)::us)/\(([],k')::(rs,k)::us).length<=5/\(([],k')::(rs,k)::us)≠[]/\gw (([],k')::(rs,k)::us)<=gw ((rs,k)::us)+1:=fun k' hk hc hb=>by
   refine ⟨⟨fun x hx=>(by cases hx),hk,h1,h2,h3⟩,(by simp only [List.length_cons]; omega),(by intro q; cases q),?_⟩
   show d7 []+k'.cnt+gw ((rs,k)::us)<=_
   have:d7 []=0:=rfl
   omega
  cases d with
  | row r=>
   have hr:r.low:=hd
   refine put r ?_ ?_
   . cases r with
     | leaf w ps=>exact ⟨hr,by show 1<=_; omega,by show 1+1<=_; omega⟩
     | call x n as=>exact ⟨hr,by show 1<=_; omega,by show 2+1<=_; omega⟩
     | wh x c=>cases hr
     | iff x c d=>cases hr
   . cases r with
     | leaf w ps=>rfl
     | call x n as=>rfl
     | wh x c=>cases hr
     | iff x c d=>cases hr
  | wh e=>
   show pI (if us.length+1<5 then _ else _)/\_
   by_cases hb:us.length+1<5
   . rw [pH,if_pos hb]
     exact push (.W e) ⟨by omega,hd⟩ rfl hb
   . rw [pH,if_neg hb]
     exact put (.wh e .nil) ⟨⟨hd,True.intro⟩,by show 1+1<=_; omega,by show 1+1<=_; omega⟩ rfl
  | iff e=>
   show pI (if us.length+1<5 then _ else _)/\_
   by_cases hb:us.length+1<5
   . rw [pH,if_pos hb]
     exact push (.I1 e) ⟨by omega,hd⟩ rfl hb
   . rw [pH,if_neg hb]
     exact put (.iff e .nil .nil) ⟨⟨hd,True.intro,True.intro⟩,by show max 1 1+1<=_; omega,by show 1+0+0+1<=_; omega⟩ rfl
theorem QC {us:List U} (h:pI us) (hl:us.length<=5) (hn:us.length>1):pI (sy us)/\(sy us).length<=5/\sy us≠[]/\gw (sy us)<=gw us+1:=by
 match us,h,hl,hn with
 | (rs,k)::(rs',k')::us,h,hl,hn=>
  obtain ⟨h1,h2,h3,h4,h5⟩:=h
  simp only [List.length_cons] at hl h1 h2
  have low:pI ((rs'++[k.close rs],k')::us)/\((rs'++[k.close rs],k')::us).length<=5/\((rs'++[k.close rs],k')::us)≠[]/\gw ((rs'++[k.close rs],k')::us)<=gw ((rs,k)::(rs',k')::us)+1:=by
   obtain ⟨c1,c2⟩:=zp (lev:=us.length) (by omega) h2 h1
   refine ⟨⟨fun x hx=>?_,h4,h5⟩,(by simp only [List.length_cons]; omega),(by intro q; cases q),?_⟩
   . rcases List.mem_append.mp hx with hx | hx
     . exact h3 x hx
     . rw [List.mem_singleton.mp hx]; exact c1
   . show d7 (rs'++[k.close rs])+k'.cnt+gw us<=d7 rs+k.cnt+(d7 rs'+k'.cnt+gw us)+1
     rw [vL]
     have:d7 [k.close rs]=(k.close rs).cnt:=by simp [d7]
     omega
  cases k with
  | root=>cases h2
  | W e=>exact low
  | I2 e b=>exact low
  | I1 e=>
   refine ⟨⟨fun x hx=>(by cases hx),⟨h2.1,h2.2,h1⟩,h3,h4,h5⟩,hl,(by intro q; cases q),?_⟩
   show d7 []+(d7 rs+1)+gw ((rs',k')::us)<=d7 rs+1+gw ((rs',k')::us)+1
   have:d7 []=0:=rfl
   omega
noncomputable def oH:List U->List Int->List Dr->List U
 | us,c::cs,d::ds=>oH (mF us c d) cs ds
 | us,_,_=>us
theorem Mz {us:List U} {c:Int} {d:Dr} (hd:d.ok) (h:pI us) (hl:us.length<=5) (hn:us≠[]):pI (mF us c d)/\(mF us c d).length<=5/\mF us c d≠[]/\gw (mF us c d)<=gw us+1:=by
 unfold mF
 split
 . rename_i hb
   have h2:decide ((us.length:Int)>1)=true:=(Bool.and_eq_true _ _▸hb).2
   have h3:=of_decide_eq_true h2
   exact QC h hl (by omega)
 . exact QB hd h hl hn
theorem Dl:∀ (cs:List Int) (ds:List Dr) (us:List U),(∀ d∈ds,d.ok)->pI us->us.length<=5->us≠[]->pI (oH us cs ds)/\(oH us cs ds).length<=5/\oH us cs ds≠[]/\gw (oH us cs ds)<=gw us+cs.length
 | [],ds,us,_,h,hl,hn=>⟨h,hl,hn,Nat.le_refl _⟩
 | c::cs,[],us,_,h,hl,hn=>⟨h,hl,hn,Nat.le_add_right _ _⟩
 | c::cs,d::ds,us,hd,h,hl,hn=>by
  obtain ⟨g1,g2,g3,g4⟩:=Mz (c:=c) (hd d List.mem_cons_self) h hl hn
  obtain ⟨k1,k2,k3,k4⟩:=Dl cs ds (mF us c d) (fun x hx=>hd x (List.mem_cons_of_mem _ hx)) g1 g2 g3
  refine ⟨k1,k2,k3,?_⟩
  simp only [List.length_cons]
  show gw (oH (mF us c d) cs ds)<=_
  omega
noncomputable def uK (u v:U):U:=(v.1++[u.2.close u.1],v.2)
noncomputable def uo:List U->List Row
 | []=>[]
 | u::us=>(us.foldl uK u).1
theorem zq:∀ (us:List U) (u:U),pI (u::us)->(u::us).length<=5->(∀ r∈uo (u::us),Dk 0 r)/\d7 (uo (u::us))<=gw (u::us)
 | [],u,h,_=>⟨h.1,by show d7 u.1<=d7 u.1+u.2.cnt+0; omega⟩
 | v::us,u,h,hl=>by
  obtain ⟨h1,h2,h3,h4,h5⟩:=h
  simp only [List.length_cons] at hl h1 h2
  obtain ⟨c1,c2⟩:=zp (lev:=us.length) (by omega) h2 h1
  have ih:=zq us (uK u v) ⟨fun x hx=>by
   rcases List.mem_append.mp hx with hx | hx
   . exact h3 x hx
   . rw [List.mem_singleton.mp hx]; exact c1,h4,h5⟩ (by simp only [List.length_cons]; omega)
  refine ⟨ih.1,Nat.le_trans ih.2 ?_⟩
  show d7 (v.1++[u.2.close u.1])+v.2.cnt+gw us<=d7 u.1+u.2.cnt+(d7 v.1+v.2.cnt+gw us)
  rw [vL]
  have:d7 [u.2.close u.1]=(u.2.close u.1).cnt:=by simp [d7]
  omega
theorem zr {mu:Mu} {b:Nat}:∀ (fs:List Fr) (f:Fr),Holds mu (FS (f::fs) [])->(∀ x∈f::fs,x.fit)->Shape b (f::fs)->∃ F:Fr,Holds mu (FS [F] [])/\F.fit/\F.n=b/\gK F.ds=uo ((f::fs).map Fr.u)
 | [],f,h,hf,hs=>⟨f,h,hf f List.mem_cons_self,hs.2,rfl⟩
 | g::fs,f,h,hf,hs=>by
  have hr:f.kd≠.root:=hs.1
  have H:=Ed hr h
  obtain ⟨F,k1,k2,k3,k4⟩:=zr (b:=b) fs ⟨g.n,g.s,g.ds++[f.cls],g.kd⟩ H (fun x hx=>by
   rcases List.mem_cons.mp hx with rfl | hx
   . obtain ⟨g1,g2⟩:=hf g (by simp)
     refine ⟨fun d hd=>?_,g2⟩
     rcases List.mem_append.mp hd with hd | hd
     . exact g1 d hd
     . rw [List.mem_singleton.mp hd]
       exact FZ (hf f List.mem_cons_self) hr
   . exact hf x (by simp [hx])) (um hs.2)
  refine ⟨F,k1,k2,k3,k4.trans ?_⟩
  show ((fs.map Fr.u).foldl uK (Fr.u ⟨g.n,g.s,g.ds++[f.cls],g.kd⟩)).1=((fs.map Fr.u).foldl uK (uK f.u g.u)).1
  have e:Fr.u ⟨g.n,g.s,g.ds++[f.cls],g.kd⟩=uK f.u g.u:=by
   show (gK (g.ds++[f.cls]),g.kd.u)=(gK g.ds++[f.kd.u.close (gK f.ds)],g.kd.u)
   rw [gK,List.map_append,List.map_singleton,Oa]
  rw [e]
section
variable [HK]
variable {X:PV} {own ls:List Str} {hs:Hd} {ws:List Str}
theorem QD {c:Int} {d:Dr} {b S t:Nat} {o8:Option Lc} {mu:Mu} {fs:List Fr} (hd:d.ok) (er:∀ mu,fP [.int c,.lst (SS own),.lst (SS ls),.lst (gC hs),.lst (SS ws)] mu=some (.sh (d.pv mu.length),mu++d.cl)) (h:St mu b S t fs) (ht:t<=1000):
 ∃ mu' fs' p8,Vm (ZE X own ls hs ws b S (zI c) o8 mu)=some (.nx (ZE X own ls hs ws b S (zI c) p8 mu'))/\St mu' b S (t+1) fs'/\fs'.map Fr.u=mF (fs.map Fr.u) c d:=by
 have tt:=Qy (X:=X) (own:=own) (ls:=ls) (hs:=hs) (ws:=ws) (b:=b) (o8:=o8) (c:=c) (fs:=fs) h.h.head
 have eu:mF (fs.map Fr.u) c d=if ((c%8==0)&&decide ((fs.length:Int)>1))=true then sy (fs.map Fr.u) else pH d (fs.map Fr.u):=by
  unfold mF
  rw [List.length_map]
 cases hb:((c%8==0)&&decide ((fs.length:Int)>1)) with
 | true=>
  rw [hb] at tt eu
  have h2:decide ((fs.length:Int)>1)=true:=(Bool.and_eq_true _ _▸hb).2
  have h3:=of_decide_eq_true h2
  match fs,h,h3,tt,eu with
  | f::g::fs,h,h3,tt,eu=>
   obtain ⟨mu',fs',e1,e2,e3⟩:=Mw (X:=X) (own:=own) (ls:=ls) (hs:=hs) (ws:=ws) (o7:=zI c) (o8:=o8) h
   exact ⟨mu',fs',o8,(jZ tt).trans e1,e2,e3.trans (by rw [eu,if_pos rfl])⟩
  | [f],h,h3,tt,eu=>simp at h3
  | [],h,h3,tt,eu=>simp at h3
 | false=>
  rw [hb] at tt eu
  match fs,h,tt,eu with
  | f::fs,h,tt,eu=>
   obtain ⟨mu',fs',p8,e1,e2,e3⟩:=My (X:=X) (o8:=o8) hd er h ht
   exact ⟨mu',fs',p8,(jj tt).trans e1,e2,e3.trans (by rw [eu,if_neg (by simp)])⟩
  | [],h,tt,eu=>exact h.sh.elim
theorem Gd (hh:∀ h∈hs,h.1.length<=1000/\h.2.length<=50):∀ (cs:List Int),∃ ds:List Dr,(∀ d∈ds,d.ok)/\∀ (X:PV) (b S t:Nat) (o7 o8:Option Lc) (mu:Mu) (fs:List Fr),St mu b S t fs->t+cs.length<=1000->
 ∃ mu' fs' p7 p8,dh (aD 7) Vm (cs.map PV.int) (ZE X own ls hs ws b S o7 o8 mu)=some (.nx (ZE X own ls hs ws b S p7 p8 mu'))/\St mu' b S (t+cs.length) fs'/\fs'.map Fr.u=oH (fs.map Fr.u) cs ds
 | []=>⟨[],fun d hd=>(by cases hd),fun X b S t o7 o8 mu fs h _=>⟨mu,fs,o7,o8,rfl,h,rfl⟩⟩
 | c::cs=>by
  obtain ⟨d,hd,er⟩:=T3 c own ls hs ws hh
  obtain ⟨ds,hds,ih⟩:=Gd hh cs
  refine ⟨d::ds,fun x hx=>?_,fun X b S t o7 o8 mu fs h hl=>?_⟩
  . rcases List.mem_cons.mp hx with rfl | hx
    . exact hd
    . exact hds x hx
  . simp only [List.length_cons] at hl
    obtain ⟨mu1,fs1,q8,e1,e2,e3⟩:=QD (X:=X) (o8:=o8) hd er h (by omega)
    obtain ⟨mu2,fs2,p7,p8,k1,k2,k3⟩:=ih X b S (t+1) (zI c) q8 mu1 fs1 e2 (by omega)
    refine ⟨mu2,fs2,p7,p8,eZ (ρ1:=ZE X own ls hs ws b S (zI c) o8 mu) rfl e1 k1,?_,k3.trans (by rw [e3]; rfl)⟩
    rw [show t+(c::cs).length=t+1+cs.length by simp only [List.length_cons]; omega]
    exact k2
theorem Ge (hh:∀ h∈hs,h.1.length<=1000/\h.2.length<=50) (cs:List Int) (hc:cs.length<=900):∃ rs:Rows,rs.ok/\rs.dep<=11/\rs.bl<=47/\rs.cnt<=cs.length/\∀ mu,∃ mu',kW [.lst (cs.map PV.int),.lst (SS own),.lst (SS ls),.lst (gC hs),.lst (SS ws)] mu=some (.sh (.lst rs.pvs),mu'):=by
 obtain ⟨ds,hds,lp⟩:=Gd (own:=own) (ls:=ls) (ws:=ws) hh cs
 obtain ⟨g1,g2,g3,g4⟩:=Dl cs ds [([],.root)] hds ⟨fun x hx=>(by cases hx),rfl,True.intro⟩ (by decide) (by intro q; cases q)
 obtain ⟨u,us,eu⟩:∃ u us,oH [([],.root)] cs ds=u::us:=by
  cases h:oH [([],.root)] cs ds with
  | nil=>exact absurd h g3
  | cons u us=>exact ⟨u,us,rfl⟩
 rw [eu] at g1 g2 g4
 obtain ⟨k1,k2⟩:=zq us u g1 g2
 obtain ⟨r1,r2,r3⟩:=vN (lev:=0) (by decide) k1
 refine ⟨rowsOf (uo (u::us)),r1,r2,?_,?_,fun mu=>?_⟩
 . have:3*2 ^ (4-0)=48:=by decide
   omega
 . rw [j6]
   have:gw [(([],.root):U)]=0:=rfl
   omega
 . let b:=mu.length
   let mu1:Mu:=mu++[some (.lst [])]
   let mu2:Mu:=mu1++[some (.lst [.ptr b])]
   let mu3:Mu:=mu2++[some (.lst [.ptr mu1.length])]
   let f0:Fr:=⟨b,mu1.length,[],.root⟩
   let X:PV:=.lst (cs.map PV.int)
   have H:Holds mu3 ((mu2.length,.lst [.ptr mu1.length])::(mu1.length,.lst [.ptr b])::(b,.lst [])::[]):=((Holds.push (L:=[]) ⟨List.nodup_nil,fun x hx=>(by cases hx)⟩ _).push _).push _
   have st:St mu3 b mu2.length 0 [f0]:=⟨H.perm ((List.Perm.swap _ _ _).cons _),fun x hx=>(by
    rw [List.mem_singleton.mp hx]
    exact ⟨fun d hd=>(by cases hd),True.intro⟩),⟨rfl,rfl⟩,(by simp),fun x hx=>(by
    rw [List.mem_singleton.mp hx]
    exact Nat.le_refl _)⟩
   obtain ⟨mu',fs',p7,p8,e1,e2,e3⟩:=lp X b mu2.length 0 none none mu3 [f0] st (by omega)
   obtain ⟨f,fs,ef⟩:∃ f fs,fs'=f::fs:=by
    cases fs' with
    | nil=>exact e2.sh.elim
    | cons f fs=>exact ⟨f,fs,rfl⟩
   subst ef
   obtain ⟨F,c1,c2,c3,c4⟩:=zr fs f e2.h.tail e2.fit e2.sh
   have e4:(f::fs).map Fr.u=u::us:=e3.trans eu
   rw [e4] at c4
   rw [jV] at c1
   have res:d8 mu' 40 (.ptr b)=.lst (rowsOf (uo (u::us))).pvs:=by
    rw [← c4,← c3]
    refine uJ (k:=38) c2.1 c1.head (c1.tail.tail.sub ?_) fun d hd=>?_
    . exact (List.sublist_append_right _ _).trans (List.sublist_append_left _ _)
    . have:=(k1 d.r (by rw [← c4]; exact List.mem_map.mpr ⟨d,hd,rfl⟩)).2.1
      omega
   refine ⟨mu'.map fun _=>none,?_⟩
   let A:Mu->Option Lc->Option Lc->Option Lc->Option Lc->Ev:=fun m o5 o6 o7 o8=>⟨[zS X,zL (SS own),zL (SS ls),zL (gC hs),zL (SS ws),o5,o6,o7,o8],m⟩
   refine bj (ρ:=A (mu'.map fun _=>none) (zS (.ptr b)) (zS (.ptr mu2.length)) p7 p8) ?_
   refine aJ (ρ':=A mu1 (zS (.ptr b)) none none none) rfl (aJ (ρ':=ZE X own ls hs ws b mu2.length none none mu3) rfl (aJ (ρ':=ZE X own ls hs ws b mu2.length p7 p8 mu') (eN (xs:=cs.map PV.int) (ρ1:=ZE X own ls hs ws b mu2.length none none mu3) (di (l:=.sh X) rfl rfl) e1) (gn (Ml (l:=.sh (.ptr b)) (ρ1:=ZE X own ls hs ws b mu2.length p7 p8 mu') rfl res))))
end
theorem uq {f:PV->PV->Option Bool}:∀ ps:List PV,(∀ p∈ps,f p p=some true)->oZ f ps ps=some true
 | [],_=>rfl
 | p::ps,h=>by
  show (f p p).bind _=_
  rw [h p List.mem_cons_self,Option.bind_some,uq ps fun q hq=>h q (List.mem_cons_of_mem _ hq)]
  rfl
theorem jW {n:Nat} {ps:List PV} (h:∀ p∈ps,dF n p p=some true):dF (n+1) (.tup ps) (.tup ps)=some true:=by
 show (oZ (dF n) ps ps).map _=_
 rw [uq ps h]
 show some (true&&(ps.length==ps.length))=_
 rw [beq_self_eq_true]
 rfl
theorem iz {n:Nat} {ps:List PV} (h:∀ p∈ps,dF n p p=some true):dF (n+1) (.lst ps) (.lst ps)=some true:=by
 show (if ps.length=ps.length then oZ (dF n) ps ps else some false)=_
 rw [if_pos rfl,uq ps h]
mutual
theorem Gf:∀ (p:PV) (n:Nat),bD p=true->jw p<=n->dF n p p=some true
 | .non,n,_,h=>by
  obtain ⟨m,rfl⟩:∃ m,n=m+1:=⟨n-1,by simp only [jw] at h; omega⟩
  rfl
 | .bl x,n,_,h=>by
  obtain ⟨m,rfl⟩:∃ m,n=m+1:=⟨n-1,by simp only [jw] at h; omega⟩
  show some (x==x)=_
  rw [beq_self_eq_true]
 | .int x,n,_,h=>by
  obtain ⟨m,rfl⟩:∃ m,n=m+1:=⟨n-1,by simp only [jw] at h; omega⟩
  show some (x==x)=_
  rw [beq_self_eq_true]
 | .str x,n,_,h=>by
  obtain ⟨m,rfl⟩:∃ m,n=m+1:=⟨n-1,by simp only [jw] at h; omega⟩
  show some (x==x)=_
  rw [beq_self_eq_true]
 | .tup ps,n,f,h=>by
  simp only [jw] at h
  obtain ⟨m,rfl⟩:∃ m,n=m+1:=⟨n-1,by omega⟩
  exact jW (mZ ps m (by simpa [bD] using f) (by omega))
 | .lst _,n,f,_=>by simp [bD] at f
 | .dk _ _,n,f,_=>by simp [bD] at f
 | .dt _ _,n,f,_=>by simp [bD] at f
 | .obj _ _ _,n,f,_=>by simp [bD] at f
 | .df _ _,n,f,_=>by simp [bD] at f
 | .dtf _ _,n,f,_=>by simp [bD] at f
 | .dx _ _ _,n,f,_=>by simp [bD] at f
 | .ptr _,n,f,_=>by simp [bD] at f
theorem mZ:∀ (ps:List PV) (n:Nat),fM ps=true->nU ps<=n->∀ p∈ps,dF n p p=some true
 | [],n,_,_,p,hp=>by cases hp
 | q::ps,n,f,h,p,hp=>by
  simp only [fM,Bool.and_eq_true] at f
  simp only [nU] at h
  rcases List.mem_cons.mp hp with e | hp
  . rw [e]
    exact Gf q n f.1 (by omega)
  . exact mZ ps n f.2 (by omega) p hp
end
theorem gm {f:PV->Prop} {p:PV} {ps:List PV} (h:f p) (t:∀ q∈ps,f q):∀ q∈p::ps,f q:=fun q hq=>by
 rcases List.mem_cons.mp hq with rfl | hq
 . exact h
 . exact t q hq
theorem uL {f:PV->Prop}:∀ q∈([]:List PV),f q:=fun q hq=>by cases hq
theorem ig {n:Nat} {p:PV} (h:fl p) (hn:20<=n):dF n p p=some true:=Gf p n h.1 (Nat.le_trans h.2 hn)
mutual
theorem MF:∀ (r:Row) (n:Nat),r.ok->2*r.dep+22<=n->dF n r.pv r.pv=some true
 | .leaf w ps,n,ok,h=>by
  simp only [Row.dep] at h
  obtain ⟨m,rfl⟩:∃ m,n=m+1:=⟨n-1,by omega⟩
  exact jW (gm (ig gH (by omega)) (mZ ps m ok.2.1 (by have:=ok.2.2; omega)))
 | .call b x as,n,ok,h=>by
  simp only [Row.dep] at h
  obtain ⟨m,rfl⟩:∃ m,n=m+2:=⟨n-2,by omega⟩
  exact jW (gm (ig gH (by omega)) (gm (ig ok.1 (by omega)) (gm (ig gH (by omega)) (gm (iz (mZ as m ok.2.2.1.1 (by have:=ok.2.2.1.2; omega))) uL))))
 | .wh e b,n,ok,h=>by
  simp only [Row.dep] at h
  obtain ⟨m,rfl⟩:∃ m,n=m+2:=⟨n-2,by omega⟩
  exact jW (gm (ig gH (by omega)) (gm (ig ok.1 (by omega)) (gm (iz (lL b m ok.2 (by omega))) uL)))
 | .iff e b c,n,ok,h=>by
  simp only [Row.dep] at h
  obtain ⟨m,rfl⟩:∃ m,n=m+2:=⟨n-2,by omega⟩
  exact jW (gm (ig gH (by omega)) (gm (ig ok.1 (by omega)) (gm (iz (lL b m ok.2.1 (by omega))) (gm (iz (lL c m ok.2.2 (by omega))) uL))))
theorem lL:∀ (rs:Rows) (n:Nat),rs.ok->2*rs.dep+20<=n->∀ p∈rs.pvs,dF n p p=some true
 | .nil,n,_,_,p,hp=>by cases hp
 | .cons r rs,n,ok,h,p,hp=>by
  simp only [Rows.dep] at h
  rcases List.mem_cons.mp hp with e | hp
  . rw [e]
    exact MF r n ok.1 (by omega)
  . exact lL rs n ok.2 (by omega) p hp
end
structure Pg.fine (P:Pg):Prop where
 ok:P.ok
 bx:qR P.boxes
 gr:qR P.grants
 rk:∀ f∈P.fns,fl f.rank
 dd:P.rows.dep<=11
 fd:∀ f∈P.fns,f.rows.dep<=11
theorem QF {P:Pg} (h:P.fine):eqP P.pv P.pv=zS (.bl true):=by
 have e:dF 150 P.pv P.pv=some true:=by
  refine jW (n:=149) (gm (iz (mZ _ 148 h.bx.1 (by have:=h.bx.2; omega))) (gm (iz (mZ _ 148 h.gr.1 (by have:=h.gr.2; omega))) (gm (iz fun p hp=>?_) (gm (iz (lL P.rows 148 h.ok.rw (by have:=h.ok.dp; omega))) uL))))
  obtain ⟨f,hf,rfl⟩:=List.mem_map.mp hp
  obtain ⟨xs,ex,_⟩:=h.ok.pm f hf
  obtain ⟨k1,k2⟩:=h.ok.fn f hf
  refine jW (n:=147) (gm (ig gH (by omega)) (gm (ig (h.rk f hf) (by omega)) (gm (iz fun q hq=>?_) (gm (iz (lL f.rows 146 k1 (by omega))) uL))))
  rw [ex] at hq
  obtain ⟨x,_,rfl⟩:=List.mem_map.mp hq
  exact jW (n:=145) (gm (ig gH (by omega)) (gm (ig Cy (by omega)) uL))
 show (dF 150 P.pv P.pv).map _=_
 rw [e]
 rfl
theorem J8 {α β:Type} (f:α->β) (xs:List α) (lo hi st:Option Int):pk (xs.map f) lo hi st=(pk xs lo hi st).map f:=by
 unfold pk
 rw [List.length_map,List.map_filterMap]
 congr 1
 funext i
 rw [List.getElem?_map]
theorem J9 {α:Type} (xs:List α) {a n:Int} (ha:0<=a) (hn:0<n):(pk xs (some a) none (some n)).length<=xs.length:=by
 unfold pk
 refine Nat.le_trans (List.length_filterMap_le _ _) ?_
 unfold sliceRange
 rw [List.length_map,List.length_range]
 have e1:(sliceBounds (some a) none (some n) xs.length).2.1=(xs.length:Int):=by
  show (if n>0 then (xs.length:Int) else -1)=_
  rw [if_pos hn]
 have e2:(sliceBounds (some a) none (some n) xs.length).2.2=n:=rfl
 have e3:0<=(sliceBounds (some a) none (some n) xs.length).1:=by
  show 0<=(let i:=if a<0 then a+xs.length else a; if n>0 then max 0 (min i xs.length) else max (-1) (min i ((xs.length:Int)-1)))
  rw [if_pos hn]
  omega
 rw [e1,e2,if_pos hn]
 generalize (sliceBounds (some a) none (some n) xs.length).1=s at e3
 split
 . have h1:((xs.length:Int)-s+n-1)/n<(xs.length:Int)-s+1:=by
    refine Int.ediv_lt_of_lt_mul hn ?_
    have h2:(xs.length:Int)-s<=((xs.length:Int)-s)*n:=by
     have:=Int.mul_le_mul_of_nonneg_left (a:=1) (b:=n) (c:=(xs.length:Int)-s) (by omega) (by omega)
     rwa [Int.mul_one] at this
    rw [Int.add_mul,Int.one_mul]
    omega
   omega
 . omega
noncomputable def ni {α:Type} (xs:List α) (lo hi:Option Int):List α:=(xs.drop (HT.sIx xs.length 0 lo)).take (HT.sIx xs.length xs.length hi-HT.sIx xs.length 0 lo)
theorem uM {α:Type} (f:α->PV) (xs:List α) (lo hi:Option Int):nT (xs.map f) lo hi=(ni xs lo hi).map f:=by
 unfold nT ni
 rw [List.length_map,List.map_take,List.map_drop]
theorem vO {α:Type} (xs:List α) (lo hi:Option Int):(ni xs lo hi).length<=xs.length:=by
 unfold ni
 rw [List.length_take,List.length_drop]
 omega
noncomputable abbrev HE (c:Int) (nm:List Str) (acc:List PV) (o3 o4:Option Lc) (mu:Mu):Ev:=⟨[zI c,zL (SS nm),zO acc,o3,o4],mu⟩
theorem four (j:Int) (h0:0<=j) (h:j<4):∃ q:Int,0<q/\q<10000/\nM (.lst [.int 75,.int 375,.int 1875,.int 9375]) (.int j)=zI q:=by
 rcases (by omega:j=0\/j=1\/j=2\/j=3) with rfl | rfl | rfl | rfl
 . exact ⟨75,by decide,by decide,rfl⟩
 . exact ⟨375,by decide,by decide,rfl⟩
 . exact ⟨1875,by decide,by decide,rfl⟩
 . exact ⟨9375,by decide,by decide,rfl⟩
theorem nl {ps:List PV}:∀ n,PV.lst ps≠.ptr n:=fun n h=>by cases h
theorem uN {f:EF} {lo hi:OF} {ρ ρ1 ρ2 ρ3:Ev} {l:Lc} {ps:List PV} {a b:Option Int} (h1:f ρ=some (l,ρ1)) (hl:l.pv=.lst ps) (h2:lo ρ1=some (a,ρ2)) (h3:hi ρ2=some (b,ρ3)):lW f lo hi ρ=some (.own (.lst (nT ps a b)),ρ3):=by
 unfold lW
 rw [h1,Option.bind_some,h2,Option.bind_some,h3,Option.bind_some,hl]
theorem lE {f:EF} {ρ ρ1:Ev} {l:Lc} {i:Int} (h:f ρ=some (l,ρ1)) (hl:l.pv=.int i):bU f ρ=some (some i,ρ1):=by
 unfold bU
 rw [h,Option.bind_some,hl]
theorem MJ {c j:Int} {nm:List Str} (h0:0<=j) (h1:j<4) (hl:nm.length=26):∃ h:Str×List Str,h.1∈nm/\h.2.length<=26/\∃ z:Int,∀ (acc:List PV) (o4:Option Lc) (mu:Mu),acc.length<=100->Te (HE c nm acc (zI j) o4 mu)=some (.nx (HE c nm (acc++[.tup [.str h.1,.lst (SS h.2)]]) (zI j) (zI z) mu)):=by
 obtain ⟨q,hq0,hq1,eq⟩:=four j h0 h1
 obtain ⟨x,hx,ex⟩:=J0 (ns:=nm) (i:=6+j) (by omega) (by omega)
 let z:Int:=c/q%5
 let xs:=ni nm (some (10+4*j)) (some (10+4*j+z))
 refine ⟨(x,xs),hx,(by
  have:=vO nm (some (10+4*j)) (some (10+4*j+z))
  show (ni nm (some (10+4*j)) (some (10+4*j+z))).length<=26
  omega),z,fun acc o4 mu ha=>?_⟩
 let E:=HE c nm acc (zI j) o4 mu
 let E2:=HE c nm acc (zI j) (zI z) mu
 refine aJ (ρ':=E2) (bu (l:=.sh (.int z)) (ρ1:=E) (aP (x:=.sh (.int (c/q))) (aP (ρ1:=E) (x:=.sh (.int c)) (y:=.sh (.int q)) rfl (d9 (p:=.lst [.int 75,.int 375,.int 1875,.int 9375]) (q:=.int j) (l:=.own (.lst [.int 75,.int 375,.int 1875,.int 9375])) (m:=.sh (.int j)) rfl rfl rfl rfl nl eq) (fX hq0 (by omega))) rfl (cz (by decide))) rfl rfl) ?_
 refine lV (i:=2) (ws0:=acc) (ws:=acc) (p:=.tup [.str x,.lst (SS xs)]) (l:=.sh (.tup [.str x,.lst (SS xs)])) (ρ1:=E2) rfl (fB (ls:=[.sh (.str x),.own (.lst (SS xs))]) (aC (ρ1:=E2) (d9 (p:=.lst (SS nm)) (q:=.int (6+j)) (l:=.sh (.lst (SS nm))) (m:=.sh (.int (6+j))) rfl rfl rfl rfl nl ex) (aC (ρ1:=E2) ?_ rfl)) rfl rfl) rfl rfl (by omega) rfl
 have em:fL (.int 4) (.int j)=zI (4*j):=BV (by decide) (by decide)
 have e1:aq aY (eC (.int 10)) (aq fL (eC (.int 4)) (aa 3)) E2=some (.sh (.int (10+4*j)),E2):=aP (x:=.sh (.int 10)) (y:=.sh (.int (4*j))) rfl (aP (x:=.sh (.int 4)) (y:=.sh (.int j)) rfl rfl em) rfl
 have e2:aq aY (aq aY (eC (.int 10)) (aq fL (eC (.int 4)) (aa 3))) (aa 4) E2=some (.sh (.int (10+4*j+z)),E2):=aP (x:=.sh (.int (10+4*j))) (y:=.sh (.int z)) e1 rfl rfl
 refine (uN (ρ1:=E2) (ρ2:=E2) (ρ3:=E2) (l:=.sh (.lst (SS nm))) (ps:=SS nm) (a:=some (10+4*j)) (b:=some (10+4*j+z)) rfl rfl (lE e1 rfl) (lE e2 rfl)).trans ?_
 rw [uM]
theorem Dm {c:Int} {nm:List Str} (hl:nm.length=26):∀ (js:List Int),(∀ j∈js,0<=j/\j<4)->∃ hs:Hd,hs.length=js.length/\(∀ h∈hs,h.1∈nm/\h.2.length<=26)/\∀ (acc:List PV) (o3 o4:Option Lc) (mu:Mu),acc.length+js.length<=100->∃ p3 p4,dh (aD 3) Te (js.map PV.int) (HE c nm acc o3 o4 mu)=some (.nx (HE c nm (acc++gC hs) p3 p4 mu))
 | [],_=>⟨[],rfl,fun h hh=>(by cases hh),fun acc o3 o4 mu _=>⟨o3,o4,by simp [dh,gC]⟩⟩
 | j::js,h=>by
  obtain ⟨h0,h1⟩:=h j List.mem_cons_self
  obtain ⟨d,hd1,hd2,z,e1⟩:=MJ (c:=c) h0 h1 hl
  obtain ⟨hs,hl2,hh,ih⟩:=Dm (c:=c) hl js fun x hx=>h x (List.mem_cons_of_mem _ hx)
  refine ⟨d::hs,by simp [hl2],fun x hx=>?_,fun acc o3 o4 mu ha=>?_⟩
  . rcases List.mem_cons.mp hx with rfl | hx
    . exact ⟨hd1,hd2⟩
    . exact hh x hx
  . simp only [List.length_cons] at ha
    obtain ⟨p3,p4,e2⟩:=ih (acc++[.tup [.str d.1,.lst (SS d.2)]]) (zI j) (zI z) mu (by rw [List.length_append]; simp only [List.length_cons,List.length_nil]; omega)
    refine ⟨p3,p4,eZ (ρ1:=HE c nm acc (zI j) o4 mu) rfl (e1 acc o4 mu (by omega)) (e2.trans ?_)⟩
    simp [gC]
theorem MK (c:Int) {nm:List Str} (hl:nm.length=26):∃ hs:Hd,hs.length<=4/\(∀ h∈hs,h.1∈nm/\h.2.length<=26)/\∀ mu,mq [.int c,.lst (SS nm)] mu=some (.own (.lst (gC hs)),mu):=by
 have h0:=Int.emod_nonneg (c/15) (b:=5) (by decide)
 have h1:=Int.emod_lt_of_pos (c/15) (b:=5) (by decide)
 obtain ⟨hs,l1,hh,lp⟩:=Dm (c:=c) hl ((List.range (c/15%5).toNat).map fun i:Nat=>(0+(i:Int))) fun j hj=>by
  obtain ⟨i,hi,rfl⟩:=List.mem_map.mp hj
  have:=List.mem_range.mp hi
  omega
 rw [List.length_map,List.length_range] at l1
 refine ⟨hs,by omega,hh,fun mu=>?_⟩
 obtain ⟨p3,p4,e⟩:=lp [] none none mu (by rw [List.length_map,List.length_range]; simp only [List.length_nil]; omega)
 rw [← vK,List.nil_append] at e
 refine bj (ρ:=⟨[zI c,zL (SS nm),none,p3,p4],mu⟩) ?_
 refine aJ (ρ':=HE c nm [] none none mu) rfl (aJ (ρ':=HE c nm (gC hs) p3 p4 mu) (eN (xs:=iu 0 (c/15%5).toNat) (ρ1:=HE c nm [] none none mu) ?_ e) rfl)
 exact j0 (ρ1:=HE c nm [] none none mu) (l:=.sh (.int (c/15%5))) (aC (aP (x:=.sh (.int (c/15))) (aP (x:=.sh (.int c)) rfl rfl (fX (by decide) (by decide))) rfl (cz (by decide))) rfl) rfl (by omega) (by omega)
noncomputable abbrev rk:List PV:=[.non,.str "low",.str "high"]
theorem U7 (a:Int):∃ r,fl r/\nM (.lst rk) (.int (a%3))=zS r:=by
 have h0:=Int.emod_nonneg a (b:=3) (by decide)
 have h1:=Int.emod_lt_of_pos a (b:=3) (by decide)
 generalize a%3=r at h0 h1
 rcases (by omega:r=0\/r=1\/r=2) with rfl | rfl | rfl
 . exact ⟨.non,Cy,rfl⟩
 . exact ⟨.str "low",gH,rfl⟩
 . exact ⟨.str "high",gH,rfl⟩
theorem Ka {x:Str} {i:Int} {r:PV} (h:fl r) (hd:jw r<=1):fl (.tup [.str x,.int i,r]):=by
 refine ⟨?_,?_⟩
 . simp [bD,fM,h.1]
 . simp only [jw,nU]
   omega
theorem Kc (a:Int):∃ r,(fl r/\jw r<=1)/\nM (.lst rk) (.int (a%3))=zS r:=by
 have h0:=Int.emod_nonneg a (b:=3) (by decide)
 have h1:=Int.emod_lt_of_pos a (b:=3) (by decide)
 generalize a%3=r at h0 h1
 rcases (by omega:r=0\/r=1\/r=2) with rfl | rfl | rfl
 . exact ⟨.non,⟨Cy,Nat.le_refl _⟩,rfl⟩
 . exact ⟨.str "low",⟨gH,Nat.le_refl _⟩,rfl⟩
 . exact ⟨.str "high",⟨gH,Nat.le_refl _⟩,rfl⟩
noncomputable abbrev We:EF:=bc (aj (aa 1) (aj (eC (.int 0)) (aj (aM (aa 2) (aq aO (aq aY (aq aZ (aa 3) (eC (.int 3072))) (aa 0)) (eC (.int 3)))) ao)))
theorem Gg (c:Int):∀ (xs:List Str) (i:Nat),∃ bs:List PV,qR bs/\bs.length=xs.length/\∀ (o0 o1:Option Lc) (mu:Mu) (acc:List PV),acc.length+xs.length<=1000->
 cI (iG 2 (bh (aD 0) (bh (aD 1) iD))) bH We (uf i (SS xs)) ⟨[o0,o1,zL rk,zI c],mu⟩ acc=some (acc++bs,mu)
 | [],i=>⟨[],oM,rfl,fun o0 o1 mu acc _=>by simp [uf,cI]⟩
 | x::xs,i=>by
  obtain ⟨r,⟨fr,dr⟩,er⟩:=Kc (c/3072+(i:Nat))
  obtain ⟨bs,fb,lb,ih⟩:=Gg c xs (i+1)
  refine ⟨.tup [.str x,.int 0,r]::bs,gO (Ka fr dr) fb,by simp [lb],fun o0 o1 mu acc ha=>?_⟩
  simp only [List.length_cons] at ha
  let E:Ev:=⟨[zI (i:Nat),zT x,zL rk,zI c],mu⟩
  refine eV (ρ1:=E) (ρ2:=E) (l:=.sh (.tup [.str x,.int 0,r])) rfl (fB (ls:=[.sh (.str x),.sh (.int 0),.sh r]) (aC (ρ1:=E) rfl (aC (ρ1:=E) rfl (aC (ρ1:=E) (d9 (p:=.lst rk) (q:=.int ((c/3072+(i:Nat))%3)) (l:=.sh (.lst rk)) (m:=.sh (.int ((c/3072+(i:Nat))%3))) rfl rfl (aP (x:=.sh (.int (c/3072+(i:Nat)))) (aP (x:=.sh (.int (c/3072))) (aP (x:=.sh (.int c)) rfl rfl (fX (by decide) (by decide))) rfl rfl) rfl (cz (by decide))) rfl nl er) rfl))) rfl rfl) (by omega) ((ih _ _ mu (acc++[.tup [.str x,.int 0,r]]) (by rw [List.length_append]; simp only [List.length_cons,List.length_nil]; omega)).trans ?_)
  simp
noncomputable abbrev Wf:EF:=bc (aj (aa 0) (aj (aq aY (eC (.int 1)) (aq aO (aq aZ (aa 1) (eC (.int 48))) (eC (.int 8)))) (aj (aM (aa 2) (aq aO (aq aZ (aa 1) (eC (.int 9216))) (eC (.int 3)))) ao)))
theorem Gh (c:Int):∀ (xs:List Str),∃ bs:List PV,qR bs/\bs.length=xs.length/\∀ (o0:Option Lc) (mu:Mu) (acc:List PV),acc.length+xs.length<=1000->
 cI (aD 0) bH Wf (SS xs) ⟨[o0,zI c,zL rk],mu⟩ acc=some (acc++bs,mu)
 | []=>⟨[],oM,rfl,fun o0 mu acc _=>by simp [cI]⟩
 | x::xs=>by
  obtain ⟨r,⟨fr,dr⟩,er⟩:=Kc (c/9216)
  obtain ⟨bs,fb,lb,ih⟩:=Gh c xs
  refine ⟨.tup [.str x,.int (1+c/48%8),r]::bs,gO (Ka fr dr) fb,by simp [lb],fun o0 mu acc ha=>?_⟩
  simp only [List.length_cons] at ha
  let E:Ev:=⟨[zT x,zI c,zL rk],mu⟩
  refine eV (ρ1:=E) (ρ2:=E) (l:=.sh (.tup [.str x,.int (1+c/48%8),r])) rfl (fB (ls:=[.sh (.str x),.sh (.int (1+c/48%8)),.sh r]) (aC (ρ1:=E) rfl (aC (ρ1:=E) (aP (x:=.sh (.int 1)) (y:=.sh (.int (c/48%8))) rfl (aP (x:=.sh (.int (c/48))) (aP (x:=.sh (.int c)) rfl rfl (fX (by decide) (by decide))) rfl (cz (by decide))) rfl) (aC (ρ1:=E) (d9 (p:=.lst rk) (q:=.int (c/9216%3)) (l:=.sh (.lst rk)) (m:=.sh (.int (c/9216%3))) rfl rfl (aP (x:=.sh (.int (c/9216))) (aP (x:=.sh (.int c)) rfl rfl (fX (by decide) (by decide))) rfl (cz (by decide))) rfl nl er) rfl))) rfl rfl) (by omega) ((ih _ mu (acc++[.tup [.str x,.int (1+c/48%8),r]]) (by rw [List.length_append]; simp only [List.length_cons,List.length_nil]; omega)).trans ?_)
  simp
theorem Gi:∀ (xs:List Int) (o:Option Lc) (mu:Mu) (acc:List PV),acc.length+xs.length<=1000->cI (aD 0) bH (aq aO (aa 0) (eC (.int 1000000007))) (xs.map PV.int) ⟨[o],mu⟩ acc=some (acc++(xs.map fun x=>x%1000000007).map PV.int,mu)
 | [],o,mu,acc,_=>by simp [cI]
 | x::xs,o,mu,acc,ha=>by
  simp only [List.length_cons] at ha
  refine eV (ρ1:=⟨[zI x],mu⟩) (ρ2:=⟨[zI x],mu⟩) (l:=.sh (.int (x%1000000007))) rfl (aP (x:=.sh (.int x)) rfl rfl (cz (by decide))) (by omega) ((Gi xs _ mu (acc++[.int (x%1000000007)]) (by rw [List.length_append]; simp only [List.length_cons,List.length_nil]; omega)).trans ?_)
  simp
theorem Gj {mu:Mu}:∀ (xs:List Str) (o:Option Lc) (acc:List PV),acc.length+xs.length<=1000->cI (aD 0) bH (bc (aj (aa 0) (aj (eC .non) ao))) (SS xs) ⟨[o],mu⟩ acc=some (acc++xs.map (fun x=>.tup [.str x,.non]),mu)
 | [],o,acc,_=>by simp [cI]
 | x::xs,o,acc,ha=>by
  simp only [List.length_cons] at ha
  refine eV (ρ1:=⟨[zT x],mu⟩) (ρ2:=⟨[zT x],mu⟩) (l:=.sh (.tup [.str x,.non])) rfl rfl (by omega) ((Gj xs _ (acc++[.tup [.str x,.non]]) (by rw [List.length_append]; simp only [List.length_cons,List.length_nil]; omega)).trans ?_)
  simp
noncomputable abbrev QE (S:PV) (c:Int) (nm nb ls:List Str) (hs:Hd) (bx:List PV) (l8 l9:Lc) (fns:List PV) (o11 o12 o13:Option Lc) (mu:Mu):Ev:=⟨[zS S,zI c,zL (SS nm),zL rk,zL (SS nb),zL (SS ls),zL (gC hs),zO bx,some l8,some l9,zO fns,o11,o12,o13],mu⟩
noncomputable abbrev qe:List Str:=["somebody"]
section
variable [HK]
variable {S:PV} {c:Int} {nm nb ls:List Str} {hs:Hd} {bx:List PV} {cs:List Int}
theorem Ke {f:EF} {lo hi st:OF} {ρ ρ1 ρ2 ρ3 ρ4:Ev} {l:Lc} {ps:List PV} {a b:Option Int} {n:Int} (h1:f ρ=some (l,ρ1)) (hl:l.pv=.lst ps) (h2:lo ρ1=some (a,ρ2)) (h3:hi ρ2=some (b,ρ3)) (h4:st ρ3=some (some n,ρ4)) (hn:0<n):vG f lo hi st ρ=some (.own (.lst (pk ps a b (some n))),ρ4):=by
 unfold vG
 rw [h1,Option.bind_some,h2,Option.bind_some,h3,Option.bind_some,h4,Option.bind_some,hl]
 show (if some n≠some 0 then _ else _)=_
 rw [if_pos (by intro q; injection q with q; omega)]
structure Oe (f:Fn):Prop where
 ok:f.rows.ok
 dp:f.rows.dep<=11
 bl:f.rows.bl<=47
 ct:f.rows.cnt<=40
 pm:∃ xs:List Str,f.params=xs.map (fun x=>.tup [.str x,.non])/\xs.length<=100
 rk:fl f.rank
theorem v8 {l8 l9:Lc} {fns:List PV} {o11 o12 o13:Option Lc} {mu:Mu} {p:PV} (h:l8.pv=p):aa 8 (QE S c nm nb ls hs bx l8 l9 fns o11 o12 o13 mu)=some (.sh p,QE S c nm nb ls hs bx (.sh p) l9 fns o11 o12 o13 mu):=by
 subst h
 cases l8<;>rfl
theorem v9 {l8 l9:Lc} {fns:List PV} {o11 o12 o13:Option Lc} {mu:Mu} {p:PV} (h:l9.pv=p):aa 9 (QE S c nm nb ls hs bx l8 l9 fns o11 o12 o13 mu)=some (.sh p,QE S c nm nb ls hs bx l8 (.sh p) fns o11 o12 o13 mu):=by
 subst h
 cases l9<;>rfl
theorem T6 {l8 l9:Lc} {fns:List PV} {o11 o12 o13:Option Lc} {mu:Mu}:aq aY (eB bC (aj (aa 6) ao)) (eC (.int 1)) (QE S c nm nb ls hs bx l8 l9 fns o11 o12 o13 mu)=some (.sh (.int ((gC hs).length+1)),QE S c nm nb ls hs bx l8 l9 fns o11 o12 o13 mu):=rfl
theorem QG {j:Nat} {h:Str×List Str} (hh:∀ h∈hs,h.1.length<=1000/\h.2.length<=50) (hm:h∈hs) (h26:h.2.length<=26) (hnb:nb.length<=26) (hc:cs.length<=40):∃ f:Fn,Oe f/\∀ (l8 l9:Lc) (fns:List PV) (o13:Option Lc) (mu:Mu),l8.pv=.lst (cs.map PV.int)->l9.pv=.lst (SS qe)->fns.length<=100->
 ∃ mu' p13,Tf (QE S c nm nb ls hs bx l8 l9 fns (zI (j:Nat)) (zS (.tup [.str h.1,.lst (SS h.2)])) o13 mu)=some (.nx (QE S c nm nb ls hs bx (.sh (.lst (cs.map PV.int))) (.sh (.lst (SS qe))) (fns++[f.pv]) (zI (j:Nat)) (zS (.tup [.str h.1,.lst (SS h.2)])) p13 mu')):=by
 let n:Int:=(gC hs).length+1
 let c2:=pk cs (some (j:Int)) none (some n)
 have hn:0<n:=by show (0:Int)<(gC hs).length+1; omega
 have hl2:=J9 cs (a:=(j:Int)) (n:=n) (by omega) hn
 let own:=nb++[h.1]++h.2
 obtain ⟨rs,r1,r2,r3,r4,er⟩:=Ge (own:=own) (ls:=ls) (ws:=qe) hh c2 (by show (pk cs (some (j:Int)) none (some n)).length<=900; omega)
 obtain ⟨r,fr,err⟩:=U7 (c+(j:Nat))
 let f:Fn:=⟨h.1,r,h.2.map (fun x=>.tup [.str x,.non]),rs⟩
 refine ⟨f,⟨r1,r2,r3,Nat.le_trans r4 (Nat.le_trans hl2 hc),⟨h.2,rfl,by omega⟩,fr⟩,fun l8 l9 fns o13 mu h8 h9 hf=>?_⟩
 obtain ⟨mu',er⟩:=er mu
 let J:Option Lc:=zI (j:Nat)
 let T:PV:=.tup [.str h.1,.lst (SS h.2)]
 let C8:Lc:=.sh (.lst (cs.map PV.int))
 let C9:Lc:=.sh (.lst (SS qe))
 let Ea:=QE S c nm nb ls hs bx C8 l9 fns J (zS T) o13 mu
 let Eb:=QE S c nm nb ls hs bx C8 C9 fns J (zS T) o13 mu
 let Ec:=QE S c nm nb ls hs bx C8 C9 fns J (zS T) (zL rs.pvs) mu'
 have sl:vG (aa 8) (bU (aa 11)) fH (bU (aq aY (eB bC (aj (aa 6) ao)) (eC (.int 1)))) (QE S c nm nb ls hs bx l8 l9 fns J (zS T) o13 mu)=some (.own (.lst (c2.map PV.int)),Ea):=by
  refine (Ke (ρ1:=Ea) (ρ2:=Ea) (ρ3:=Ea) (ρ4:=Ea) (l:=C8) (ps:=cs.map PV.int) (a:=some (j:Int)) (b:=none) (n:=n) (v8 h8) rfl rfl rfl (lE T6 rfl) hn).trans ?_
  rw [J8]
 have ow:aq aY (aq aY (aa 4) (cU (aj (aM (aa 12) (eC (.int 0))) ao))) (aM (aa 12) (eC (.int 1))) Ea=some (.own (.lst (SS own)),Ea):=by
  refine aP (ρ1:=Ea) (x:=.own (.lst (SS nb++[.str h.1]))) (y:=.sh (.lst (SS h.2))) (aP (ρ1:=Ea) (x:=.sh (.lst (SS nb))) (y:=.own (.lst [.str h.1])) rfl rfl ?_) rfl ?_
  . show (if (SS nb).length+1<=100000 then _ else _)=_
    rw [if_pos (by rw [pG]; omega)]
  . show (if (SS nb++[PV.str h.1]).length+(SS h.2).length<=100000 then _ else _)=_
    rw [if_pos (by rw [List.length_append,pG,pG]; simp only [List.length_cons,List.length_nil]; omega)]
    simp [own]
 refine ⟨mu',zL rs.pvs,?_⟩
 refine aJ (ρ':=Ec) (bu (l:=.sh (.lst rs.pvs)) (ρ1:=QE S c nm nb ls hs bx C8 C9 fns J (zS T) o13 mu') (aV (ls:=[.own (.lst (c2.map PV.int)),.own (.lst (SS own)),.sh (.lst (SS ls)),.sh (.lst (gC hs)),.sh (.lst (SS qe))]) (ps:=[.lst (c2.map PV.int),.lst (SS own),.lst (SS ls),.lst (gC hs),.lst (SS qe)]) (ρ1:=Eb) (aC sl (aC ow (aC (ρ1:=Ea) rfl (aC (ρ1:=Ea) rfl (aC (v9 h9) rfl))))) rfl rfl rfl er) rfl rfl) ?_
 have ec:=Gj (mu:=mu') h.2 none [] (by simp only [List.length_nil]; omega)
 rw [List.nil_append] at ec
 refine lV (i:=10) (ws0:=fns) (ws:=fns) (p:=f.pv) (l:=.sh f.pv) (ρ1:=Ec) rfl (fB (ls:=[.sh (.str h.1),.sh r,.own (.lst (h.2.map fun x=>.tup [.str x,.non])),.sh (.lst rs.pvs)]) (aC (ρ1:=Ec) rfl (aC (ρ1:=Ec) (d9 (p:=.lst rk) (q:=.int ((c+(j:Nat))%3)) (l:=.sh (.lst rk)) (m:=.sh (.int ((c+(j:Nat))%3))) rfl rfl (aP (x:=.sh (.int (c+(j:Nat)))) rfl rfl (cz (by decide))) rfl nl err) (aC (ρ1:=Ec) ((eY (ρ1:=Ec) (xs:=SS h.2) (di (l:=.sh (.lst (SS h.2))) rfl rfl) ec).trans rfl) (aC (ρ1:=Ec) rfl rfl)))) rfl rfl) rfl rfl (by omega) rfl
theorem Gk (hh:∀ h∈hs,h.1.length<=1000/\h.2.length<=26) (hnb:nb.length<=26) (hc:cs.length<=40):∀ (gs:Hd) (i:Nat),(∀ h∈gs,h∈hs)->∃ fs:List Fn,fs.length=gs.length/\(∀ f∈fs,Oe f)/\∀ (l8 l9:Lc) (fns:List PV) (o11 o12 o13:Option Lc) (mu:Mu),l8.pv=.lst (cs.map PV.int)->l9.pv=.lst (SS qe)->fns.length+gs.length<=100->
 ∃ m8 m9 mu' p11 p12 p13,m8.pv=.lst (cs.map PV.int)/\m9.pv=.lst (SS qe)/\dh (iG 2 (bh (aD 11) (bh (aD 12) iD))) Tf (uf i (gC gs)) (QE S c nm nb ls hs bx l8 l9 fns o11 o12 o13 mu)=some (.nx (QE S c nm nb ls hs bx m8 m9 (fns++fs.map Fn.pv) p11 p12 p13 mu'))
 | [],i,_=>⟨[],rfl,fun f hf=>(by cases hf),fun l8 l9 fns o11 o12 o13 mu h8 h9 _=>⟨l8,l9,mu,o11,o12,o13,h8,h9,by simp [gC,uf,dh]⟩⟩
 | h::gs,i,hg=>by
  obtain ⟨f,ff,st⟩:=QG (S:=S) (c:=c) (nm:=nm) (ls:=ls) (bx:=bx) (j:=i) (fun x hx=>⟨(hh x hx).1,by have:=(hh x hx).2; omega⟩) (hg h List.mem_cons_self) (hh h (hg h List.mem_cons_self)).2 hnb hc
  obtain ⟨fs,lf,ffs,ih⟩:=Gk hh hnb hc gs (i+1) fun x hx=>hg x (List.mem_cons_of_mem _ hx)
  refine ⟨f::fs,by simp [lf],fun x hx=>?_,fun l8 l9 fns o11 o12 o13 mu h8 h9 hl=>?_⟩
  . rcases List.mem_cons.mp hx with rfl | hx
    . exact ff
    . exact ffs x hx
  . simp only [List.length_cons] at hl
    obtain ⟨mu1,p13,e1⟩:=st l8 l9 fns o13 mu h8 h9 (by omega)
    obtain ⟨m8,m9,mu',q11,q12,q13,k8,k9,e2⟩:=ih (.sh (.lst (cs.map PV.int))) (.sh (.lst (SS qe))) (fns++[f.pv]) (zI (i:Nat)) (zS (.tup [.str h.1,.lst (SS h.2)])) p13 mu1 rfl rfl (by rw [List.length_append]; simp only [List.length_cons,List.length_nil]; omega)
    refine ⟨m8,m9,mu',q11,q12,q13,k8,k9,eZ (ρ1:=QE S c nm nb ls hs bx l8 l9 fns (zI (i:Nat)) (zS (.tup [.str h.1,.lst (SS h.2)])) o13 mu) rfl e1 (e2.trans ?_)⟩
    simp
end
theorem Gm:∀ {a b:List PV},qR a->qR b->qR (a++b)
 | [],b,_,h=>h
 | p::a,b,h,g=>by
  obtain ⟨h1,h2⟩:=h
  simp only [fM,Bool.and_eq_true] at h1
  simp only [nU] at h2
  exact gO ⟨h1.1,by omega⟩ (Gm ⟨h1.2,by omega⟩ g)
theorem U8 {α:Type} (xs:List α):(ni xs (some 2) (some 42)).length<=40:=by
 unfold ni
 rw [List.length_take,List.length_drop]
 have e1:HT.sIx xs.length 0 (some 2)=min 2 xs.length:=HT.sIx_nat xs.length 0 2
 have e2:HT.sIx xs.length xs.length (some 42)=min 42 xs.length:=HT.sIx_nat xs.length xs.length 42
 rw [e1,e2]
 omega
theorem Gn:∀ fs:List Fn,(∀ f∈fs,f.rows.cnt<=40)->cY fs<=40*fs.length
 | [],_=>Nat.le_refl _
 | f::fs,h=>by
  have h1:=h f List.mem_cons_self
  have h2:=Gn fs fun g hg=>h g (List.mem_cons_of_mem _ hg)
  simp only [cY,List.length_cons]
  omega
noncomputable abbrev lM (S:PV) (a1 a2 a3 a4 a5 a6 a7 a8 a9 a10 a11 a12 a13:Option Lc) (mu:Mu):Ev:=⟨[zS S,a1,a2,a3,a4,a5,a6,a7,a8,a9,a10,a11,a12,a13],mu⟩
section
variable [HK]
theorem Hq (ns:List Int) (hl:ns.length<=63):∃ P:Pg,P.fine/\∀ mu,∃ mu',jf [.lst (ns.map PV.int)] mu=some (.sh P.pv,mu'):=by
 obtain ⟨c,_,ec⟩:=cell_eq (ns:=ns) (k:=0) (by decide)
 obtain ⟨c1,_,ec1⟩:=cell_eq (ns:=ns) (k:=1) (by decide)
 obtain ⟨nm,lnm,hnm,en⟩:=Ms (c:=c1) (n:=26) (by decide) (by decide)
 have lnm:nm.length=26:=lnm
 let nb:=ni nm none (some (c%5))
 let ls:=ni nm (some 4) (some (4+c/5%3))
 have lnb:nb.length<=26:=by have:=vO nm none (some (c%5)); show (ni nm none (some (c%5))).length<=26; omega
 have lls:ls.length<=26:=by have:=vO nm (some 4) (some (4+c/5%3)); show (ni nm (some 4) (some (4+c/5%3))).length<=26; omega
 obtain ⟨hs,lhs,hhs,eh⟩:=MK c lnm
 have hh:∀ h∈hs,h.1.length<=1000/\h.2.length<=26:=fun h hm=>⟨by have:=hnm h.1 (hhs h hm).1; omega,(hhs h hm).2⟩
 obtain ⟨bs1,f1,l1,e7⟩:=Gg c nb 0
 obtain ⟨bs2,f2,l2,e8⟩:=Gh c ls
 let xs:=ni ns (some 2) (some 42)
 have lxs:xs.length<=40:=U8 ns
 let cs:=xs.map fun x=>x%1000000007
 have lcs:cs.length<=40:=by show (xs.map _).length<=40; rw [List.length_map]; exact lxs
 let S:PV:=.lst (ns.map PV.int)
 let bx:=bs1++bs2
 obtain ⟨fs,lf,ffs,elp⟩:=Gk (S:=S) (c:=c) (nm:=nm) (nb:=nb) (ls:=ls) (hs:=hs) (bx:=bx) (cs:=cs) hh lnb lcs hs 0 fun h hm=>hm
 let n:Int:=(gC hs).length
 have hn0:0<=n:=by show (0:Int)<=(gC hs).length; omega
 let c2:=pk cs (some n) none (some (n+1))
 have lc2:=J9 cs (a:=n) (n:=n+1) hn0 (by omega)
 obtain ⟨rs,r1,r2,r3,r4,er⟩:=Ge (own:=nb) (ls:=ls) (ws:=qe) (fun h hm=>⟨(hh h hm).1,by have:=(hh h hm).2; omega⟩) c2 (by show (pk cs (some n) none (some (n+1))).length<=900; omega)
 let gr:List PV:=[.tup [.str "somebody",.str "high",.str "low"]]
 let P:Pg:=⟨bx,gr,fs,rs⟩
 have hfc:=Gn fs fun f hf=>(ffs f hf).ct
 have hrc:rs.cnt<=40:=Nat.le_trans r4 (Nat.le_trans lc2 lcs)
 refine ⟨P,⟨⟨fun f hf=>⟨(ffs f hf).ok,by have:=(ffs f hf).dp; omega⟩,r1,by show rs.dep<=30; omega,by show cY fs+rs.cnt<=250; omega,fun f hf=>(ffs f hf).pm,by show fs.length<=100; omega⟩,Gm f1 f2,⟨rfl,by show (2:Nat)<=20; decide⟩,fun f hf=>(ffs f hf).rk,r2,fun f hf=>(ffs f hf).dp⟩,fun mu=>?_⟩
 let C:Option Lc:=zI c
 let N:Option Lc:=zL (SS nm)
 let R:Option Lc:=zL rk
 let B4:Option Lc:=zL (SS nb)
 let B5:Option Lc:=zL (SS ls)
 let O4:Option Lc:=zO (SS nb)
 let O5:Option Lc:=zO (SS ls)
 let O6:Option Lc:=zO (gC hs)
 let OR:Option Lc:=zO rk
 let L8:Lc:=.own (.lst (cs.map PV.int))
 let L9:Lc:=.own (.lst (SS qe))
 let E0:=lM S none none none none none none none none none none none none none mu
 let E1':=lM S C none none none none none none none none none none none none mu
 let E2:=lM S C (zO (SS nm)) none none none none none none none none none none none mu
 let E3:=lM S C (zO (SS nm)) OR none none none none none none none none none none mu
 let E4:=lM S C N OR O4 none none none none none none none none none mu
 let E5:=lM S C N OR O4 O5 none none none none none none none none mu
 let E6:=lM S C N OR O4 O5 O6 none none none none none none none mu
 let E7:=lM S C N R B4 O5 O6 (zO bs1) none none none none none none mu
 let E8:=lM S C N R B4 B5 O6 (zO bx) none none none none none none mu
 let E9:=lM S C N R B4 B5 O6 (zO bx) (some L8) none none none none none mu
 let E10:=lM S C N R B4 B5 O6 (zO bx) (some L8) (some L9) none none none none mu
 let E11:=lM S C N R B4 B5 O6 (zO bx) (some L8) (some L9) (zO []) none none none mu
 obtain ⟨m8,m9,mu1,p11,p12,p13,k8,k9,elp⟩:=elp L8 L9 [] none none none mu rfl rfl (by simp only [List.length_nil]; omega)
 rw [List.nil_append] at elp
 obtain ⟨mu2,er⟩:=er mu1
 let Q1:=QE S c nm nb ls hs bx m8 m9 (fs.map Fn.pv) p11 p12 p13 mu1
 let C8:Lc:=.sh (.lst (cs.map PV.int))
 let C9:Lc:=.sh (.lst (SS qe))
 let Qa:=QE S c nm nb ls hs bx C8 m9 (fs.map Fn.pv) p11 p12 p13 mu1
 let Qb:=QE S c nm nb ls hs bx C8 C9 (fs.map Fn.pv) p11 p12 p13 mu1
 let Qc:=QE S c nm nb ls hs bx C8 C9 (fs.map Fn.pv) p11 p12 (zL rs.pvs) mu2
 refine ⟨mu2,?_⟩
 refine bj (r:=.sh P.pv) (ρ:=lM S C N R B4 B5 (zL (gC hs)) (zL bx) (some C8) (some C9) (zL (fs.map Fn.pv)) p11 p12 (zL rs.pvs) mu2) ?_
 refine aJ (ρ':=E1') (bu (l:=.sh (.int c)) (ρ1:=E0) (aV (ls:=[.sh S,.sh (.int 0)]) (ps:=[S,.int 0]) (ρ1:=E0) rfl rfl rfl rfl (ec mu)) rfl rfl) ?_
 refine aJ (ρ':=E2) (bu (l:=.own (.lst (SS nm))) (ρ1:=E1') (aV (ls:=[.sh (.int c1),.sh (.int 26)]) (ps:=[.int c1,.int 26]) (ρ1:=E1') (aC (ρ1:=E1') (aV (ls:=[.sh S,.sh (.int 1)]) (ps:=[S,.int 1]) (ρ1:=E1') rfl rfl rfl rfl (ec1 mu)) rfl) rfl rfl rfl (en mu)) rfl rfl) ?_
 refine aJ (ρ':=E3) rfl ?_
 refine aJ (ρ':=E4) (bu (l:=.own (.lst (SS nb))) (ρ1:=lM S C N OR none none none none none none none none none none mu) ((uN (ps:=SS nm) (l:=.sh (.lst (SS nm))) (ρ1:=lM S C N OR none none none none none none none none none none mu) (a:=none) (b:=some (c%5)) rfl rfl rfl (lE (l:=.sh (.int (c%5))) (aP (x:=.sh (.int c)) rfl rfl (cz (by decide))) rfl)).trans (by rw [uM]<;>rfl)) rfl rfl) ?_
 refine aJ (ρ':=E5) (bu (l:=.own (.lst (SS ls))) (ρ1:=E4) ((uN (ps:=SS nm) (l:=.sh (.lst (SS nm))) (ρ1:=E4) (a:=some 4) (b:=some (4+c/5%3)) rfl rfl rfl (lE (l:=.sh (.int (4+c/5%3))) (aP (x:=.sh (.int 4)) (y:=.sh (.int (c/5%3))) rfl (aP (x:=.sh (.int (c/5))) (aP (x:=.sh (.int c)) rfl rfl (fX (by decide) (by decide))) rfl (cz (by decide))) rfl) rfl)).trans (by rw [uM]<;>rfl)) rfl rfl) ?_
 refine aJ (ρ':=E6) (bu (l:=.own (.lst (gC hs))) (ρ1:=E5) (aV (ls:=[.sh (.int c),.sh (.lst (SS nm))]) (ps:=[.int c,.lst (SS nm)]) (ρ1:=E5) rfl rfl rfl rfl (eh mu)) rfl rfl) ?_
 refine aJ (ρ':=E7) (bu (l:=.own (.lst bs1)) (ρ1:=lM S C N R B4 O5 O6 none none none none none none none mu) ((eY (ρ1:=lM S C N OR B4 O5 O6 none none none none none none none mu) (xs:=uf 0 (SS nb)) (by rw [← vJ]; rfl) (e7 none none mu [] (by simp only [List.length_nil]; omega))).trans rfl) rfl rfl) ?_
 refine aJ (ρ':=E8) (bu (l:=.own (.lst bx)) (ρ1:=lM S C N R B4 B5 O6 (zL bs1) none none none none none none mu) (aP (x:=.sh (.lst bs1)) (y:=.own (.lst bs2)) (ρ1:=lM S C N R B4 O5 O6 (zL bs1) none none none none none none mu) rfl ((eY (ρ1:=lM S C N R B4 B5 O6 (zL bs1) none none none none none none mu) (xs:=SS ls) (di (l:=.sh (.lst (SS ls))) rfl rfl) (e8 none mu [] (by simp only [List.length_nil]; omega))).trans rfl) ?_) rfl rfl) ?_
 . show (if bs1.length+bs2.length<=100000 then _ else _)=_
   rw [if_pos (by omega)]
 have ecl:=Gi xs none mu [] (by simp only [List.length_nil]; omega)
 rw [List.nil_append] at ecl
 refine aJ (ρ':=E9) (bu (l:=L8) (ρ1:=E8) ((eY (ρ1:=E8) (xs:=xs.map PV.int) (di (l:=.own (.lst (xs.map PV.int))) ((uN (ps:=ns.map PV.int) (l:=.sh S) (ρ1:=E8) (a:=some 2) (b:=some 42) rfl rfl rfl rfl).trans (by rw [uM]<;>rfl)) rfl) ecl).trans rfl) rfl rfl) ?_
 refine aJ (ρ':=E10) rfl ?_
 refine aJ (ρ':=E11) rfl ?_
 refine aJ (ρ':=Q1) (eN (xs:=uf 0 (gC hs)) (ρ1:=QE S c nm nb ls hs bx L8 L9 [] none none none mu) (by rw [← vJ]; rfl) elp) ?_
 have sl:vG (aa 8) (bU (eB bC (aj (aa 6) ao))) fH (bU (aq aY (eB bC (aj (aa 6) ao)) (eC (.int 1)))) Q1=some (.own (.lst (c2.map PV.int)),Qa):=by
  refine (Ke (ρ1:=Qa) (ρ2:=Qa) (ρ3:=Qa) (ρ4:=Qa) (l:=C8) (ps:=cs.map PV.int) (a:=some n) (b:=none) (n:=n+1) (v8 k8) rfl (lE (l:=.sh (.int n)) rfl rfl) rfl (lE T6 rfl) (by omega)).trans ?_
  rw [J8]
 refine aJ (ρ':=Qc) (bu (l:=.sh (.lst rs.pvs)) (ρ1:=QE S c nm nb ls hs bx C8 C9 (fs.map Fn.pv) p11 p12 p13 mu2) (aV (ls:=[.own (.lst (c2.map PV.int)),.sh (.lst (SS nb)),.sh (.lst (SS ls)),.sh (.lst (gC hs)),.sh (.lst (SS qe))]) (ps:=[.lst (c2.map PV.int),.lst (SS nb),.lst (SS ls),.lst (gC hs),.lst (SS qe)]) (ρ1:=Qb) (aC sl (aC (ρ1:=Qa) rfl (aC (ρ1:=Qa) rfl (aC (ρ1:=Qa) rfl (aC (v9 k9) rfl))))) rfl rfl rfl er) rfl rfl) ?_
 rfl
end
mutual
theorem Row.dep_pos:∀ r:Row,1<=r.dep
 | .leaf _ _=>Nat.le_refl _
 | .call _ _ _=>Nat.le_refl _
 | .wh _ b=>by simp only [Row.dep]; omega
 | .iff _ b c=>by simp only [Row.dep]; omega
end
theorem Rows.nil_of {rs:Rows} (h:rs.dep<=1):rs=.nil:=by
 cases rs with
 | nil=>rfl
 | cons r rs=>
  have:=r.dep_pos
  simp only [Rows.dep] at h
  omega
theorem rD {a b:Nat} (h:a<=b):2 ^ a<=2 ^ b:=Nat.pow_le_pow_right (by decide) h
mutual
theorem Row.bl_le:∀ r:Row,r.bl+1<=3*2 ^ ((r.dep-1)/2)
 | .leaf _ _=>by simp only [Row.bl,Row.dep]; decide
 | .call _ _ _=>by simp only [Row.bl,Row.dep]; decide
 | .wh _ b=>by
  have:1<=2 ^ (((b.dep+1)-1)/2):=Nat.one_le_two_pow
  simp only [Row.bl,Row.dep]
  omega
 | .iff _ b c=>by
  have hb:=Rows.bl_le b
  have hc:=Rows.bl_le c
  have db:=Rows.dep_pos b
  have dc:=Rows.dep_pos c
  simp only [Row.bl,Row.dep]
  by_cases h:max b.dep c.dep<=1
  . have e1:=Rows.nil_of (rs:=b) (by omega)
    have e2:=Rows.nil_of (rs:=c) (by omega)
    rw [e1,e2]
    decide
  . have m1:=rD (a:=(b.dep-2)/2) (b:=(max b.dep c.dep-2)/2) (by omega)
    have m2:=rD (a:=(c.dep-2)/2) (b:=(max b.dep c.dep-2)/2) (by omega)
    have e:2 ^ ((max b.dep c.dep+1-1)/2)=2*2 ^ ((max b.dep c.dep-2)/2):=by
     rw [show (max b.dep c.dep+1-1)/2=(max b.dep c.dep-2)/2+1 by omega,Nat.pow_succ,Nat.mul_comm]
    rw [e]
    omega
theorem Rows.bl_le:∀ rs:Rows,rs.bl+1<=3*2 ^ ((rs.dep-2)/2)
 | .nil=>by simp only [Rows.bl,Rows.dep]; decide
 | .cons r rs=>by
  have h1:=Row.bl_le r
  have h2:=Rows.bl_le rs
  have m1:=rD (a:=(r.dep-1)/2) (b:=(max (r.dep+1) rs.dep-2)/2) (by omega)
  have m2:=rD (a:=(rs.dep-2)/2) (b:=(max (r.dep+1) rs.dep-2)/2) (by omega)
  simp only [Rows.bl,Rows.dep]
  omega
end
theorem MN {r:Row} (h:r.dep<=10):r.bl<=47:=by
 have h1:=r.bl_le
 have m:=rD (a:=(r.dep-1)/2) (b:=4) (by omega)
 have:(2:Nat) ^ 4=16:=by decide
 omega
mutual
theorem Row.subs:∀ r:Row,r.ok->∀ x∈r.rws,x.ok/\x.dep<=r.dep
 | .leaf w ps,ok,x,hx=>by rw [List.mem_singleton.mp hx]; exact ⟨ok,Nat.le_refl _⟩
 | .call b n as,ok,x,hx=>by rw [List.mem_singleton.mp hx]; exact ⟨ok,Nat.le_refl _⟩
 | .wh e b,ok,x,hx=>by
  rcases List.mem_cons.mp hx with h | h
  . rw [h]; exact ⟨ok,Nat.le_refl _⟩
  . obtain ⟨g1,g2⟩:=Rows.subs b ok.2 x h
    exact ⟨g1,by simp only [Row.dep]; omega⟩
 | .iff e b c,ok,x,hx=>by
  rcases List.mem_cons.mp hx with h | h
  . rw [h]; exact ⟨ok,Nat.le_refl _⟩
  . rcases List.mem_append.mp h with h | h
    . obtain ⟨g1,g2⟩:=Rows.subs b ok.2.1 x h
      exact ⟨g1,by simp only [Row.dep]; omega⟩
    . obtain ⟨g1,g2⟩:=Rows.subs c ok.2.2 x h
      exact ⟨g1,by simp only [Row.dep]; omega⟩
theorem Rows.subs:∀ rs:Rows,rs.ok->∀ x∈rs.rws,x.ok/\x.dep+1<=rs.dep
 | .nil,_,x,hx=>by cases hx
 | .cons r rs,ok,x,hx=>by
  simp only [Rows.dep]
  rcases List.mem_append.mp hx with h | h
  . obtain ⟨g1,g2⟩:=Row.subs r ok.1 x h
    exact ⟨g1,by omega⟩
  . obtain ⟨g1,g2⟩:=Rows.subs rs ok.2 x h
    exact ⟨g1,by omega⟩
end
theorem Dn:∀ fs:List Fn,(∀ f∈fs,f.rows.ok/\f.rows.dep<=11)->∀ x∈jH fs,x.ok/\x.dep<=10
 | [],_,x,hx=>by cases hx
 | f::fs,h,x,hx=>by
  rcases List.mem_append.mp hx with hx | hx
  . obtain ⟨h1,h2⟩:=h f List.mem_cons_self
    obtain ⟨g1,g2⟩:=Rows.subs f.rows h1 x hx
    exact ⟨g1,by omega⟩
  . exact Dn fs (fun g hg=>h g (List.mem_cons_of_mem _ hg)) x hx
theorem sS {P:Pg} (h:P.fine):∀ x∈P.rws,x.ok/\x.dep<=10:=fun x hx=>by
 rcases List.mem_append.mp hx with hx | hx
 . exact Dn P.fns (fun f hf=>⟨(h.ok.fn f hf).1,h.fd f hf⟩) x hx
 . obtain ⟨g1,g2⟩:=Rows.subs P.rows h.ok.rw x hx
   have:=h.dd
   exact ⟨g1,by omega⟩
noncomputable abbrev zu (ss:List Str):List PV:=(oE (qJ ss)).map PV.str
theorem zx:∀ ss:List Str,uB (ss.map PV.str)=some ss
 | []=>rfl
 | x::ss=>by
  show (uB (ss.map PV.str)).map _=_
  rw [zx ss]
  rfl
theorem Og {f:EF} {ρ ρ1:Ev} {l:Lc} {ss:List Str} (h:f ρ=some (l,ρ1)) (hl:l.pv=.lst (fQ ss)) (hn:ss.length<64):mV f ρ=some (.own (.lst (zu ss)),ρ1):=by
 unfold mV
 rw [h,Option.bind_some,hl]
 show ((uB (ss.map PV.str)).bind _)=_
 rw [zx,Option.bind_some,if_pos hn]
section
variable [HK]
theorem MP {es:List Ent} {k:Nat} {r:Row} (h:Spot es k r):k+r.cnt<=es.length:=by
 obtain ⟨w,ab,bl,⟨⟨pre,post,e,hl,_⟩,_⟩⟩:=h
 rw [e,List.length_append,List.length_append,Row.es_len]
 omega
structure Here (P:Pg) (k:Nat) (r:Row):Prop where
 sp:Spot P.es k r
 ok:r.ok
 dp:r.dep<=10
theorem QH {P:Pg} (h:P.fine) {k:Nat} {r:Row} (hx:P.rws[k]?=some r):Here P k r:=by
 obtain ⟨g1,g2⟩:=sS h r (List.mem_of_getElem? hx)
 exact ⟨Mr P k r hx,g1,g2⟩
theorem Do {P:Pg} (h:P.fine) {k:Nat} {r:Row} (H:Here P k r):k+r.cnt<=256:=by
 have h1:=MP H.sp
 have h2:=es_len P
 have h3:=h.ok.ct
 omega
theorem zy {P:Pg} (h:P.fine) {k:Nat} {r:Row} (H:Here P k r) (mu:Mu):∃ mu',jT [P.pv,.int (k:Nat)] mu=some (.own (.lst (zu (r.bt k))),mu'):=by
 obtain ⟨hd,B,ei⟩:=Ql h.ok mu
 let mu1:=mu++some (eO "Plan" (JN P.es (mu.length+1) hd))::B
 have pa:mD mu1 mu.length P.es:=⟨_,_,Hl⟩
 have hl:=Do h H
 have hb:=MN H.dp
 obtain ⟨w,ab,bl,hs⟩:=H.sp
 have hd:=H.dp
 have e1:=JR pa r 40 k w ab bl hs H.ok (by omega) (by omega) hl (by omega)
 have lb:=r.bt_len k
 let E:Ev:=⟨[zS P.pv,zI (k:Nat)],mu⟩
 let E':Ev:=⟨[zS P.pv,zI (k:Nat)],mu1⟩
 refine ⟨mu1,bj (ρ:=E') (gn (Og (l:=.own (.lst (fQ (r.bt k)))) (ρ1:=E') (aV (ls:=[.sh (.ptr mu.length),.sh (.int (k:Nat))]) (ps:=[.ptr mu.length,.int (k:Nat)]) (ρ1:=E') (aC (ρ1:=E') (Qj (ρ1:=E) (ls:=[.sh P.pv]) rfl rfl ei) rfl) rfl rfl rfl e1) rfl (by omega)))⟩
theorem T7 {P:Pg} (h:P.fine) {k:Nat} {r:Row} (H:Here P k r) (mu:Mu):cM 40 [r.pv,.int (k:Nat)] mu=some (.own (.lst (fQ (r.bt k))),mu):=by
 have hb:=MN H.dp
 have hd:=H.dp
 exact JX r 40 k H.ok (by omega) (by omega) (Do h H) (by omega)
noncomputable abbrev LW (S P:PV) (a2 a3 a4 a5 a6 a7 a8 a9 a10:Option Lc) (mu:Mu):Ev:=⟨[zS S,zS P,a2,a3,a4,a5,a6,a7,a8,a9,a10],mu⟩
noncomputable abbrev T8:SF:=uy 2 (qM 2 (aL 3 (aN (dH 40) (aj (aa 7) (aj (aa 3) (aj (aa 2) ao))))))
theorem Gp {mu:Mu} {acc:List PV}:MA (mu++[some (.lst acc)]) mu.length acc=mu++[some (.lst acc)]:=Hm
theorem QJ {S P:PV} {acc:List PV} {k:Nat} {rs:Rows} {a4 a5 a6 a8 a9 a10:Option Lc} {mu:Mu} (ok:rs.ok) (hd:rs.dep<=40) (hc:acc.length+rs.cnt<=1000):∃ mu',T8 (LW S P (zO acc) (zI (k:Nat)) a4 a5 a6 (zL rs.pvs) a8 a9 a10 mu)=some (.nx (LW S P (zO (acc++eE k rs.rws)) (zI ((k+rs.cnt:Nat):Int)) a4 a5 a6 (zL rs.pvs) a8 a9 a10 mu')):=by
 let mu1:Mu:=mu++[some (.lst acc)]
 have lt:mu.length<mu1.length:=by simp [mu1]
 have e:=JZ (mu:=mu1) (t:=mu.length) (k:=k) (acc:=acc) (rs:=rs) lt ok hd hc
 rw [Gp] at e
 let mu2:=MA mu1 mu.length (acc++eE k rs.rws)
 refine ⟨mu2.set mu.length none,?_⟩
 have st:qM 2 (aL 3 (aN (dH 40) (aj (aa 7) (aj (aa 3) (aj (aa 2) ao))))) (LW S P (zO acc) (zI (k:Nat)) a4 a5 a6 (zL rs.pvs) a8 a9 a10 mu)=some (.nx (LW S P (zS (.ptr mu.length)) (zI ((k+rs.cnt:Nat):Int)) a4 a5 a6 (zL rs.pvs) a8 a9 a10 mu2)):=by
  show aL 3 _ (LW S P (zS (.ptr mu.length)) (zI (k:Nat)) a4 a5 a6 (zL rs.pvs) a8 a9 a10 mu1)=_
  exact bu (l:=.sh (.int ((k+rs.cnt:Nat):Int))) (ρ1:=LW S P (zS (.ptr mu.length)) (zI (k:Nat)) a4 a5 a6 (zL rs.pvs) a8 a9 a10 mu2) (aV (ls:=[.sh (.lst rs.pvs),.sh (.int (k:Nat)),.sh (.ptr mu.length)]) (ps:=[.lst rs.pvs,.int (k:Nat),.ptr mu.length]) (ρ1:=LW S P (zS (.ptr mu.length)) (zI (k:Nat)) a4 a5 a6 (zL rs.pvs) a8 a9 a10 mu1) rfl rfl rfl rfl e) rfl rfl
 unfold T8 uy
 rw [st,Option.bind_some]
 show (match mu2[mu.length]? with | some (some p)=>some (Ev.mk _ _) | _=>none).map _=_
 rw [show mu2[mu.length]?=some (some (.lst (acc++eE k rs.rws))) from w5 lt]
 rfl
theorem Kf {S P:PV}:∀ (fs:List Fn) (acc:List PV) (k:Nat) (a4 a5 a6 a7 a8 a9 a10:Option Lc) (mu:Mu),(∀ f∈fs,f.rows.ok/\f.rows.dep<=11)->acc.length+cY fs<=1000->∃ p4 p5 p6 p7 mu',dh (iG 4 (bh (aD 4) (bh (aD 5) (bh (aD 6) (bh (aD 7) iD))))) T8 (fs.map Fn.pv) (LW S P (zO acc) (zI (k:Nat)) a4 a5 a6 a7 a8 a9 a10 mu)=some (.nx (LW S P (zO (acc++eE k (jH fs))) (zI ((k+cY fs:Nat):Int)) p4 p5 p6 p7 a8 a9 a10 mu'))
 | [],acc,k,a4,a5,a6,a7,a8,a9,a10,mu,_,_=>⟨a4,a5,a6,a7,mu,by simp [dh,jH,eE,cY]⟩
 | f::fs,acc,k,a4,a5,a6,a7,a8,a9,a10,mu,h,hl=>by
  simp only [cY] at hl
  obtain ⟨h1,h2⟩:=h f List.mem_cons_self
  obtain ⟨mu1,e1⟩:=QJ (S:=S) (P:=P) (acc:=acc) (k:=k) (rs:=f.rows) (a4:=zT f.name) (a5:=zS f.rank) (a6:=zL f.params) (a8:=a8) (a9:=a9) (a10:=a10) (mu:=mu) h1 (by omega) (by omega)
  obtain ⟨p4,p5,p6,p7,mu',e2⟩:=Kf (S:=S) (P:=P) fs (acc++eE k f.rows.rws) (k+f.rows.cnt) (zT f.name) (zS f.rank) (zL f.params) (zL f.rows.pvs) a8 a9 a10 mu1 (fun g hg=>h g (List.mem_cons_of_mem _ hg)) (by rw [List.length_append,rA,Rows.rws_len]; omega)
  refine ⟨p4,p5,p6,p7,mu',eZ (ρ1:=LW S P (zO acc) (zI (k:Nat)) (zT f.name) (zS f.rank) (zL f.params) (zL f.rows.pvs) a8 a9 a10 mu) rfl e1 (e2.trans ?_)⟩
  have e3:k+f.rows.cnt+cY fs=k+cY (f::fs):=by simp only [cY]; omega
  have e4:acc++eE k f.rows.rws++eE (k+f.rows.cnt) (jH fs)=acc++eE k (jH (f::fs)):=by simp [jH,rm,Rows.rws_len]
  rw [e3,e4]
theorem Kg {ss:List Str}:wj (.lst (zu ss)) (.lst (zu ss))=zS (.bl false):=by
 show (dF 150 (.lst (zu ss)) (.lst (zu ss))).map _=_
 rw [iz (n:=149) fun p hp=>by
  obtain ⟨x,_,rfl⟩:=List.mem_map.mp hp
  exact ig gH (by omega)]
 rfl
end
theorem Kh:∀ ss:List Str,(qJ ss).length<=ss.length
 | []=>Nat.le_refl _
 | x::ss=>by
  have:=Kh ss
  unfold qJ
  split<;>simp only [List.length_cons]<;>omega
theorem T9 (ss:List Str):(zu ss).length<=ss.length:=by
 rw [List.length_map,rT.length_eq]
 exact Kh ss
theorem U9 {c d:TF} {ρ ρ1 ρ2:Ev} {b:Bool} (h:c ρ=some (true,ρ1)) (h2:d ρ1=some (b,ρ2)):cC c d ρ=some (b,ρ2):=by
 unfold cC
 rw [h,Option.bind_some]
 exact h2
theorem Va {c d:TF} {ρ ρ1:Ev} (h:c ρ=some (false,ρ1)):cC c d ρ=some (false,ρ1):=by
 unfold cC
 rw [h,Option.bind_some]
 rfl
section
variable [HK]
theorem QK {P:Pg} (h:P.fine) {ns:List Int} {k:Nat} {r:Row} (H:Here P k r) (p2:PV) (a4 a5 a6 a7 a9 a10:Option Lc) (mu:Mu):∃ p9 p10 mu',Tg (LW (.lst (ns.map PV.int)) P.pv (zS p2) (zI (k:Nat)) a4 a5 a6 a7 (zS r.pv) a9 a10 mu)=some (.nx (LW (.lst (ns.map PV.int)) P.pv (zS p2) (zI (k:Nat)) a4 a5 a6 a7 (zS r.pv) p9 p10 mu')):=by
 let S:PV:=.lst (ns.map PV.int)
 let K:Option Lc:=zI (k:Nat)
 let R:Option Lc:=zS r.pv
 let T:Option Lc:=zS p2
 let L:=zu (r.bt k)
 have lb:=r.bt_len k
 have hb:=MN H.dp
 have hL:L.length<=47:=Nat.le_trans (T9 _) (Nat.le_trans lb hb)
 obtain ⟨mu1,e1⟩:=zy h H mu
 let O:Option Lc:=zO L
 let E0:=LW S P.pv T K a4 a5 a6 a7 R a9 a10 mu
 let E1':=LW S P.pv T K a4 a5 a6 a7 R O a10 mu
 let E2:=LW S P.pv T K a4 a5 a6 a7 R O O mu1
 have s1:aL 9 (mV (aN (cM 40) (aj (aa 8) (aj (aa 3) ao)))) E0=some (.nx E1'):=bu (l:=.own (.lst L)) (ρ1:=E0) (Og (l:=.own (.lst (fQ (r.bt k)))) (ρ1:=E0) (aV (ls:=[.sh r.pv,.sh (.int (k:Nat))]) (ps:=[r.pv,.int (k:Nat)]) (ρ1:=E0) rfl rfl rfl rfl (T7 h H mu)) rfl (by omega)) rfl rfl
 have s2:aL 10 (aN jT (aj (aa 1) (aj (aa 3) ao))) E1'=some (.nx E2):=bu (l:=.own (.lst L)) (ρ1:=LW S P.pv T K a4 a5 a6 a7 R O a10 mu1) (aV (ls:=[.sh P.pv,.sh (.int (k:Nat))]) (ps:=[P.pv,.int (k:Nat)]) (ρ1:=E1') rfl rfl rfl rfl e1) rfl rfl
 have t3:ux (qm (ut (tT (Jh "list" (aa 10)) oX)) (tT (aq wj (aa 10) (aa 9)) aU)) E2=some (false,E2):=by
  refine BW (ρ1:=E2.peek) (Hf (b:=false) (b2:=false) (ρ1:=E2.peek) (Ji (b:=true) (gR (l:=.sh (.bl true)) (Nz (l:=.sh (.lst L)) (ρ1:=E2.peek) rfl rfl rfl) rfl)) (gR (l:=.sh (.bl false)) (aP (x:=.sh (.lst L)) (y:=.sh (.lst L)) (ρ1:=E2.peek) rfl rfl Kg) rfl))
 let L2:=L++[.str "at 0"]
 let E3:=LW S P.pv T K a4 a5 a6 a7 R O (zO L2) mu1
 have s4:iR 10 (eC (.str "at 0")) E2=some (.nx E3):=lV (i:=10) (ws0:=L) (ws:=L) (p:=.str "at 0") (l:=.sh (.str "at 0")) (ρ1:=E2) rfl rfl rfl rfl (by omega) rfl
 let E4:=LW S P.pv T K a4 a5 a6 a7 R O (some (.own (.lst (L2.set 0 (.str "leave main"))))) mu1
 have s5:pP 10 (eC (.int 0)) (eC (.str "leave main")) E3=some (.nx E4):=by
  refine Fe (k:=0) (j:=0) (x:=.sh (.str "leave main")) (ρ1:=E3) (ρ2:=E3) (ws0:=L2) (ws:=L2) rfl rfl rfl rfl rfl rfl ?_ rfl
  unfold nY
  rw [if_pos (by decide),if_pos (by simp [L2])]
  rfl
 obtain ⟨c,_,ec⟩:=cell_eq (ns:=ns) (k:=0) (by decide)
 have t6:tT (aq eqP (aq aO (aN fC (aj (aa 0) (aj (eC (.int 0)) ao))) (eC (.int 5))) (eC (.int 1))) aU E4=some (c%5==1,E4):=gR (l:=.sh (.bl (c%5==1))) (aP (x:=.sh (.int (c%5))) (y:=.sh (.int 1)) (ρ1:=E4) (aP (x:=.sh (.int c)) (ρ1:=E4) (aV (ls:=[.sh S,.sh (.int 0)]) (ps:=[S,.int 0]) (ρ1:=E4) rfl rfl rfl rfl (ec mu1)) rfl (cz (by decide))) rfl rfl) rfl
 obtain ⟨mu2,e2⟩:=zy h H mu1
 let E5:=LW S P.pv T K a4 a5 a6 a7 R (zL L) (some (.own (.lst (L2.set 0 (.str "leave main"))))) mu2
 have t7:tT (aq wj (aN jT (aj (aa 1) (aj (aa 3) ao))) (aa 9)) aU E4=some (false,E5):=gR (l:=.sh (.bl false)) (aP (x:=.own (.lst L)) (y:=.sh (.lst L)) (ρ1:=LW S P.pv T K a4 a5 a6 a7 R O (some (.own (.lst (L2.set 0 (.str "leave main"))))) mu2) (aV (ls:=[.sh P.pv,.sh (.int (k:Nat))]) (ps:=[P.pv,.int (k:Nat)]) (ρ1:=E4) rfl rfl rfl rfl e2) rfl Kg) rfl
 have fin:∃ p9 p10 mu',cJ (cC (tT (aq eqP (aq aO (aN fC (aj (aa 0) (aj (eC (.int 0)) ao))) (eC (.int 5))) (eC (.int 1))) aU) (tT (aq wj (aN jT (aj (aa 1) (aj (aa 3) ao))) (aa 9)) aU))
  (dM (eC (.bl false)))
  b8 E4=some (.nx (LW S P.pv T K a4 a5 a6 a7 R p9 p10 mu')):=by
  cases hb:(c%5==1) with
  | true=>
   rw [hb] at t6
   exact ⟨_,_,_,(jj (U9 t6 t7)).trans rfl⟩
  | false=>
   rw [hb] at t6
   exact ⟨_,_,_,(jj (Va t6)).trans rfl⟩
 obtain ⟨p9,p10,mu',e9⟩:=fin
 exact ⟨p9,p10,mu',aJ s1 (aJ s2 ((cA t3 rfl).trans (aJ s4 (aJ s5 e9))))⟩
theorem Gq {P:Pg} (h:P.fine) {ns:List Int} (p2:PV):∀ (rs:List Row) (i:Nat),(∀ (j:Nat) x,rs[j]?=some x->Here P (i+j) x)->∀ (a3 a4 a5 a6 a7 a8 a9 a10:Option Lc) (mu:Mu),∃ p3 p8 p9 p10 mu',dh (iG 2 (bh (aD 3) (bh (aD 8) iD))) Tg (eE i rs) (LW (.lst (ns.map PV.int)) P.pv (zS p2) a3 a4 a5 a6 a7 a8 a9 a10 mu)=some (.nx (LW (.lst (ns.map PV.int)) P.pv (zS p2) p3 a4 a5 a6 a7 p8 p9 p10 mu'))
 | [],i,_,a3,a4,a5,a6,a7,a8,a9,a10,mu=>⟨a3,a8,a9,a10,mu,rfl⟩
 | r::rs,i,H,a3,a4,a5,a6,a7,a8,a9,a10,mu=>by
  obtain ⟨q9,q10,mu1,e1⟩:=QK h (ns:=ns) (H 0 r rfl) p2 a4 a5 a6 a7 a9 a10 mu
  obtain ⟨p3,p8,p9,p10,mu',e2⟩:=Gq h (ns:=ns) p2 rs (i+1) (fun j x hx=>by
   have:=H (j+1) x (by simpa using hx)
   rwa [show i+(j+1)=i+1+j by omega] at this) (zI (i:Nat)) a4 a5 a6 a7 (zS r.pv) q9 q10 mu1
  exact ⟨p3,p8,p9,p10,mu',eZ (ρ1:=LW (.lst (ns.map PV.int)) P.pv (zS p2) (zI (i:Nat)) a4 a5 a6 a7 (zS r.pv) a9 a10 mu) rfl e1 e2⟩
theorem law_true (ns:List Int) (hl:ns.length<=63):∃ mu,Hj [.lst (ns.map PV.int)] []=some (.sh (.bl true),mu):=by
 obtain ⟨P,h,ep⟩:=Hq ns hl
 obtain ⟨mu1,e1⟩:=ep []
 let S:PV:=.lst (ns.map PV.int)
 have hct:=h.ok.ct
 obtain ⟨p4,p5,p6,p7,mu2,e4⟩:=Kf (S:=S) (P:=P.pv) P.fns [] 0 none none none none none none none mu1 (fun f hf=>⟨(h.ok.fn f hf).1,h.fd f hf⟩) (by simp only [List.length_nil]; omega)
 rw [List.nil_append,Nat.zero_add] at e4
 let A1:=eE 0 (jH P.fns)
 have hA1:A1.length=cY P.fns:=by show (eE 0 (jH P.fns)).length=_; rw [rA,sr]
 let mu3:Mu:=mu2++[some (.lst A1)]
 have lt:mu2.length<mu3.length:=by simp [mu3]
 have e5:=JZ (mu:=mu3) (t:=mu2.length) (k:=cY P.fns) (acc:=A1) (rs:=P.rows) lt h.ok.rw (by have:=h.dd; omega) (by omega)
 rw [Gp] at e5
 let A2:=A1++eE (cY P.fns) P.rows.rws
 have eA2:A2=eE 0 P.rws:=by
  show eE 0 (jH P.fns)++eE (cY P.fns) P.rows.rws=eE 0 (jH P.fns++P.rows.rws)
  rw [rm,sr,Nat.zero_add]
 let mu4:=MA mu3 mu2.length A2
 let K:Option Lc:=zI (cY P.fns:Nat)
 let mu5:=mu4.set mu2.length none
 obtain ⟨q3,q8,q9,q10,mu6,e6⟩:=Gq h (ns:=ns) (.lst A2) P.rws 0 (fun j x hx=>by rw [Nat.zero_add]; exact QH h hx) K p4 p5 p6 p7 none none none mu5
 rw [← eA2] at e6
 obtain ⟨mu7,e7⟩:=ep mu6
 refine ⟨mu7,?_⟩
 refine bj (ρ:=LW S P.pv (zL A2) q3 p4 p5 p6 p7 q8 q9 q10 mu7) ?_
 refine aJ (ρ':=⟨[zS S,zS P.pv,none,none,none,none,none,none,none,none,none],mu1⟩) (bu (l:=.sh P.pv) (ρ1:=⟨[zS S,none,none,none,none,none,none,none,none,none,none],mu1⟩) (aV (ls:=[.sh S]) (ps:=[S]) (ρ1:=⟨[zS S,none,none,none,none,none,none,none,none,none,none],[]⟩) rfl rfl rfl rfl e1) rfl rfl) ?_
 refine aJ (ρ':=LW S P.pv (zO []) none none none none none none none none mu1) rfl ?_
 refine aJ (ρ':=LW S P.pv (zO []) (zI ((0:Nat):Int)) none none none none none none none mu1) rfl ?_
 refine aJ (ρ':=LW S P.pv (zO A1) K p4 p5 p6 p7 none none none mu2) (eN (xs:=P.fns.map Fn.pv) (ρ1:=LW S P.pv (zO []) (zI ((0:Nat):Int)) none none none none none none none mu1) (di (l:=.sh (.lst (P.fns.map Fn.pv))) rfl rfl) e4) ?_
 refine aJ (ρ':=LW S P.pv (zO A2) K p4 p5 p6 p7 none none none mu5) ?_ ?_
 . have st:qM 2 (nq (aN (dH 40) (aj (aM (aa 1) (eC (.int 3))) (aj (aa 3) (aj (aa 2) ao))))) (LW S P.pv (zO A1) K p4 p5 p6 p7 none none none mu2)=some (.nx (LW S P.pv (zS (.ptr mu2.length)) K p4 p5 p6 p7 none none none mu4)):=by
    show nq _ (LW S P.pv (zS (.ptr mu2.length)) K p4 p5 p6 p7 none none none mu3)=_
    exact xn (aV (ls:=[.sh (.lst P.rows.pvs),.sh (.int (cY P.fns:Nat)),.sh (.ptr mu2.length)]) (ps:=[.lst P.rows.pvs,.int (cY P.fns:Nat),.ptr mu2.length]) (ρ1:=LW S P.pv (zS (.ptr mu2.length)) K p4 p5 p6 p7 none none none mu3) rfl rfl rfl rfl e5)
   unfold uy
   rw [st,Option.bind_some]
   show (match mu4[mu2.length]? with | some (some p)=>some (Ev.mk _ _) | _=>none).map _=_
   rw [show mu4[mu2.length]?=some (some (.lst A2)) from w5 lt]
   rfl
 refine aJ (ρ':=LW S P.pv (zL A2) q3 p4 p5 p6 p7 q8 q9 q10 mu6) (eN (xs:=A2) (ρ1:=LW S P.pv (zL A2) K p4 p5 p6 p7 none none none mu5) (di (l:=.sh (.lst A2)) rfl rfl) e6) ?_
 exact gn (aP (x:=.sh P.pv) (y:=.sh P.pv) (ρ1:=LW S P.pv (zL A2) q3 p4 p5 p6 p7 q8 q9 q10 mu6) rfl (aV (ls:=[.sh S]) (ps:=[S]) (ρ1:=LW S P.pv (zL A2) q3 p4 p5 p6 p7 q8 q9 q10 mu6) rfl rfl rfl rfl e7) (QF h))
end
theorem kY {K:FG} {h:Heap} {mg:Str->Option Value} {x:Str} {st:Stmt} {ps:List Str} {f:Addr} {oc kV doc pm cdv ct:Value} {od an:Option Addr} {osl:Array (Option Value)} (X:K.In h) (G:h.Ns mainGlobals mg) (a:W.nsIn K mainGlobals x=some (some (.ref f))) (l:K.lookup f=some ⟨oc,od,.func (W.fnOf x x (bM st) (bz st) (aA st) .none kV doc pm an cdv ct),osl⟩) (c:W.codeIn K cdv x=true) (k:W.keepIn K (.ref f)=true)
 (hb:∀ (kV doc pm:Value) (an:Option Addr) (cdv ct:Value) (us:List Value),us.length=ps.length->bindArgs (W.fnOf x x (bM st) (bz st) (aA st) .none kV doc pm an cdv ct) ⟨us,[]⟩=pure (ps.zip us)):bw K mg x st ps:=⟨_,_,jL l c k,W.mg_of X G a,(jL l c k).binds hb⟩
theorem all_mk {l:W.OpenLaw} {w:World} {K:FG} {h:Heap} {mg:Str->Option Value} {fa f1 f2 f3 f4 f5 f6 f7 f8 f9 f10 f11 f12 f13 f14 f15 f16 f17 f18 f19 f20 f21 f22 f23 f24 f25:Addr} (X:K.In h) (G:h.Ns mainGlobals mg) (hfa:mg "law" = some (.ref fa))
 {od1 an1 od2 an2 od3 an3 od4 an4 od5 an5 od6 an6 od7 an7 od8 an8 od9 an9 od10 an10 od11 an11 od12 an12 od13 an13 od14 an14 od15 an15 od16 an16 od17 an17 od18 an18 od19 an19 od20 an20 od21 an21 od22 an22 od23 an23 od24 an24 od25 an25:Option Addr} {sl1 sl2 sl3 sl4 sl5 sl6 sl7 sl8 sl9 sl10 sl11 sl12 sl13 sl14 sl15 sl16 sl17 sl18 sl19 sl20 sl21 sl22 sl23 sl24 sl25:Array (Option Value)} {oc1 kV1 dc1 pm1 cd1 ct1 oc2 kV2 dc2 pm2 cd2 ct2 oc3 kV3 dc3 pm3 cd3 ct3 oc4 kV4 dc4 pm4 cd4 ct4 oc5 kV5 dc5 pm5 cd5 ct5 oc6 kV6 dc6 pm6 cd6 ct6 oc7 kV7 dc7 pm7 cd7 ct7 oc8 kV8 dc8 pm8 cd8 ct8 oc9 kV9 dc9 pm9 cd9 ct9 oc10 kV10 dc10 pm10 cd10 ct10 oc11 kV11 dc11 pm11 cd11 ct11 oc12 kV12 dc12 pm12 cd12 ct12 oc13 kV13 dc13 pm13 cd13 ct13 oc14 kV14 dc14 pm14 cd14 ct14 oc15 kV15 dc15 pm15 cd15 ct15 oc16 kV16 dc16 pm16 cd16 ct16 oc17 kV17 dc17 pm17 cd17 ct17 oc18 kV18 dc18 pm18 cd18 ct18 oc19 kV19 dc19 pm19 cd19 ct19 oc20 kV20 dc20 pm20 cd20 ct20 oc21 kV21 dc21 pm21 cd21 ct21 oc22 kV22 dc22 pm22 cd22 ct22 oc23 kV23 dc23 pm23 cd23 ct23 oc24 kV24 dc24 pm24 cd24 ct24 oc25 kV25 dc25 pm25 cd25 ct25:Value}
 {c_Plan:Addr} (aC_Plan:W.nsIn K mainGlobals "Plan" = some (some (.ref c_Plan))) (pg_Plan:W.plainGet K c_Plan Str.empty=true) (hd_Plan:W.hasDictIn K c_Plan=true) (po_Plan:W.plainOver K c_Plan=true) (sa_Plan:W.findIn K (.ref c_Plan) "__setattr__" = some (some (.builtin "object.__setattr__"))) (mk_Plan:W.makesIn K c_Plan=true) (kc_Plan:W.keepIn K (.ref c_Plan)=true)
 (n_Plan_told:W.findIn K (.ref c_Plan) "told" = some none)
 (n_Plan_lists:W.findIn K (.ref c_Plan) "lists" = some none)
 (n_Plan_heads:W.findIn K (.ref c_Plan) "heads" = some none)
 (a1:W.nsIn K mainGlobals "blocks_of" = some (some (.ref f1))) (l1:K.lookup f1=some ⟨oc1,od1,.func (W.fnOf "blocks_of" "blocks_of" (bM jB) (bz jB) (aA jB) .none kV1 dc1 pm1 an1 cd1 ct1),sl1⟩) (c1:W.codeIn K cd1 "blocks_of" = true) (k1:W.keepIn K (.ref f1)=true)
 (a2:W.nsIn K mainGlobals "copied" = some (some (.ref f2))) (l2:K.lookup f2=some ⟨oc2,od2,.func (W.fnOf "copied" "copied" (bM lC) (bz lC) (aA lC) .none kV2 dc2 pm2 an2 cd2 ct2),sl2⟩) (c2:W.codeIn K cd2 "copied" = true) (k2:W.keepIn K (.ref f2)=true)
 (a3:W.nsIn K mainGlobals "all_copied" = some (some (.ref f3))) (l3:K.lookup f3=some ⟨oc3,od3,.func (W.fnOf "all_copied" "all_copied" (bM gF) (bz gF) (aA gF) .none kV3 dc3 pm3 an3 cd3 ct3),sl3⟩) (c3:W.codeIn K cd3 "all_copied" = true) (k3:W.keepIn K (.ref f3)=true)
 (a4:W.nsIn K mainGlobals "in_order" = some (some (.ref f4))) (l4:K.lookup f4=some ⟨oc4,od4,.func (W.fnOf "in_order" "in_order" (bM jl) (bz jl) (aA jl) .none kV4 dc4 pm4 an4 cd4 ct4),sl4⟩) (c4:W.codeIn K cd4 "in_order" = true) (k4:W.keepIn K (.ref f4)=true)
 (a5:W.nsIn K mainGlobals "laid_out" = some (some (.ref f5))) (l5:K.lookup f5=some ⟨oc5,od5,.func (W.fnOf "laid_out" "laid_out" (bM jm) (bz jm) (aA jm) .none kV5 dc5 pm5 an5 cd5 ct5),sl5⟩) (c5:W.codeIn K cd5 "laid_out" = true) (k5:W.keepIn K (.ref f5)=true)
 (a6:W.nsIn K mainGlobals "numbered" = some (some (.ref f6))) (l6:K.lookup f6=some ⟨oc6,od6,.func (W.fnOf "numbered" "numbered" (bM j5) (bz j5) (aA j5) .none kV6 dc6 pm6 an6 cd6 ct6),sl6⟩) (c6:W.codeIn K cd6 "numbered" = true) (k6:W.keepIn K (.ref f6)=true)
 (a7:W.nsIn K mainGlobals "spends" = some (some (.ref f7))) (l7:K.lookup f7=some ⟨oc7,od7,.func (W.fnOf "spends" "spends" (bM lD) (bz lD) (aA lD) .none kV7 dc7 pm7 an7 cd7 ct7),sl7⟩) (c7:W.codeIn K cd7 "spends" = true) (k7:W.keepIn K (.ref f7)=true)
 (a8:W.nsIn K mainGlobals "behind" = some (some (.ref f8))) (l8:K.lookup f8=some ⟨oc8,od8,.func (W.fnOf "behind" "behind" (bM mW) (bz mW) (aA mW) .none kV8 dc8 pm8 an8 cd8 ct8),sl8⟩) (c8:W.codeIn K cd8 "behind" = true) (k8:W.keepIn K (.ref f8)=true)
 (a9:W.nsIn K mainGlobals "behind_row" = some (some (.ref f9))) (l9:K.lookup f9=some ⟨oc9,od9,.func (W.fnOf "behind_row" "behind_row" (bM iy) (bz iy) (aA iy) .none kV9 dc9 pm9 an9 cd9 ct9),sl9⟩) (c9:W.codeIn K cd9 "behind_row" = true) (k9:W.keepIn K (.ref f9)=true)
 (a10:W.nsIn K mainGlobals "_law_cell_at" = some (some (.ref f10))) (l10:K.lookup f10=some ⟨oc10,od10,.func (W.fnOf "_law_cell_at" "_law_cell_at" (bM gZ) (bz gZ) (aA gZ) .none kV10 dc10 pm10 an10 cd10 ct10),sl10⟩) (c10:W.codeIn K cd10 "_law_cell_at" = true) (k10:W.keepIn K (.ref f10)=true)
 (a11:W.nsIn K mainGlobals "_law_names" = some (some (.ref f11))) (l11:K.lookup f11=some ⟨oc11,od11,.func (W.fnOf "_law_names" "_law_names" (bM gG) (bz gG) (aA gG) .none kV11 dc11 pm11 an11 cd11 ct11),sl11⟩) (c11:W.codeIn K cd11 "_law_names" = true) (k11:W.keepIn K (.ref f11)=true)
 (a12:W.nsIn K mainGlobals "_law_expression" = some (some (.ref f12))) (l12:K.lookup f12=some ⟨oc12,od12,.func (W.fnOf "_law_expression" "_law_expression" (bM fV) (bz fV) (aA fV) .none kV12 dc12 pm12 an12 cd12 ct12),sl12⟩) (c12:W.codeIn K cd12 "_law_expression" = true) (k12:W.keepIn K (.ref f12)=true)
 (a13:W.nsIn K mainGlobals "_law_row" = some (some (.ref f13))) (l13:K.lookup f13=some ⟨oc13,od13,.func (W.fnOf "_law_row" "_law_row" (bM jn) (bz jn) (aA jn) .none kV13 dc13 pm13 an13 cd13 ct13),sl13⟩) (c13:W.codeIn K cd13 "_law_row" = true) (k13:W.keepIn K (.ref f13)=true)
 (a14:W.nsIn K mainGlobals "_law_rows" = some (some (.ref f14))) (l14:K.lookup f14=some ⟨oc14,od14,.func (W.fnOf "_law_rows" "_law_rows" (bM iT) (bz iT) (aA iT) .none kV14 dc14 pm14 an14 cd14 ct14),sl14⟩) (c14:W.codeIn K cd14 "_law_rows" = true) (k14:W.keepIn K (.ref f14)=true)
 (a15:W.nsIn K mainGlobals "_law_heads" = some (some (.ref f15))) (l15:K.lookup f15=some ⟨oc15,od15,.func (W.fnOf "_law_heads" "_law_heads" (bM jd) (bz jd) (aA jd) .none kV15 dc15 pm15 an15 cd15 ct15),sl15⟩) (c15:W.codeIn K cd15 "_law_heads" = true) (k15:W.keepIn K (.ref f15)=true)
 (a16:W.nsIn K mainGlobals "_law_program" = some (some (.ref f16))) (l16:K.lookup f16=some ⟨oc16,od16,.func (W.fnOf "_law_program" "_law_program" (bM dB) (bz dB) (aA dB) .none kV16 dc16 pm16 an16 cd16 ct16),sl16⟩) (c16:W.codeIn K cd16 "_law_program" = true) (k16:W.keepIn K (.ref f16)=true)
 (a17:W.nsIn K mainGlobals "_law_spends" = some (some (.ref f17))) (l17:K.lookup f17=some ⟨oc17,od17,.func (W.fnOf "_law_spends" "_law_spends" (bM fY) (bz fY) (aA fY) .none kV17 dc17 pm17 an17 cd17 ct17),sl17⟩) (c17:W.codeIn K cd17 "_law_spends" = true) (k17:W.keepIn K (.ref f17)=true)
 (a18:W.nsIn K mainGlobals "_law_size" = some (some (.ref f18))) (l18:K.lookup f18=some ⟨oc18,od18,.func (W.fnOf "_law_size" "_law_size" (bM gU) (bz gU) (aA gU) .none kV18 dc18 pm18 an18 cd18 ct18),sl18⟩) (c18:W.codeIn K cd18 "_law_size" = true) (k18:W.keepIn K (.ref f18)=true)
 (a19:W.nsIn K mainGlobals "_law_behind" = some (some (.ref f19))) (l19:K.lookup f19=some ⟨oc19,od19,.func (W.fnOf "_law_behind" "_law_behind" (bM fZ) (bz fZ) (aA fZ) .none kV19 dc19 pm19 an19 cd19 ct19),sl19⟩) (c19:W.codeIn K cd19 "_law_behind" = true) (k19:W.keepIn K (.ref f19)=true)
 (a20:W.nsIn K mainGlobals "_law_all" = some (some (.ref f20))) (l20:K.lookup f20=some ⟨oc20,od20,.func (W.fnOf "_law_all" "_law_all" (bM jo) (bz jo) (aA jo) .none kV20 dc20 pm20 an20 cd20 ct20),sl20⟩) (c20:W.codeIn K cd20 "_law_all" = true) (k20:W.keepIn K (.ref f20)=true)
 (a21:W.nsIn K mainGlobals "law" = some (some (.ref f21))) (l21:K.lookup f21=some ⟨oc21,od21,.func (W.fnOf "law" "law" (bM nD) (bz nD) (aA nD) .none kV21 dc21 pm21 an21 cd21 ct21),sl21⟩) (c21:W.codeIn K cd21 "law" = true) (k21:W.keepIn K (.ref f21)=true)
 (a22:W.findIn K (.ref c_Plan) "__init__" = some (some (.ref f22))) (i22:W.isFn K (.ref f22)=true) (l22:K.lookup f22=some ⟨oc22,od22,.func (W.fnOf "__init__" "Plan.__init__" (bM cW) (bz cW) (aA cW) .none kV22 dc22 pm22 an22 cd22 ct22),sl22⟩) (c22:W.codeIn K cd22 "Plan.__init__" = true) (k22:W.keepIn K (.ref f22)=true)
 (a23:W.findIn K (.ref c_Plan) "row" = some (some (.ref f23))) (i23:W.isFn K (.ref f23)=true) (l23:K.lookup f23=some ⟨oc23,od23,.func (W.fnOf "row" "Plan.row" (bM gW) (bz gW) (aA gW) .none kV23 dc23 pm23 an23 cd23 ct23),sl23⟩) (c23:W.codeIn K cd23 "Plan.row" = true) (k23:W.keepIn K (.ref f23)=true)
 (a24:W.findIn K (.ref c_Plan) "block" = some (some (.ref f24))) (i24:W.isFn K (.ref f24)=true) (l24:K.lookup f24=some ⟨oc24,od24,.func (W.fnOf "block" "Plan.block" (bM gb) (bz gb) (aA gb) .none kV24 dc24 pm24 an24 cd24 ct24),sl24⟩) (c24:W.codeIn K cd24 "Plan.block" = true) (k24:W.keepIn K (.ref f24)=true)
 (a25:W.findIn K (.ref c_Plan) "spending" = some (some (.ref f25))) (i25:W.isFn K (.ref f25)=true) (l25:K.lookup f25=some ⟨oc25,od25,.func (W.fnOf "spending" "Plan.spending" (bM cX) (bz cX) (aA cX) .none kV25 dc25 pm25 an25 cd25 ct25),sl25⟩) (c25:W.codeIn K cd25 "Plan.spending" = true) (k25:W.keepIn K (.ref f25)=true)
 (z0:W.nsIn K mainGlobals "any" = some none)
 (z1:W.nsIn K mainGlobals "enumerate" = some none)
 (z2:W.nsIn K mainGlobals "isinstance" = some none)
 (z3:W.nsIn K mainGlobals "len" = some none)
 (z4:W.nsIn K mainGlobals "list" = some none)
 (z5:W.nsIn K mainGlobals "range" = some none)
 (z6:W.nsIn K mainGlobals "set" = some none)
 (z7:W.nsIn K mainGlobals "sorted" = some none)
 (z8:W.nsIn K mainGlobals "str" = some none)
 (z9:W.nsIn K mainGlobals "sum" = some none)
 (HL:∀ [HK] (ns:List Int),ns.length<=63->∃ mu,Hj [.lst (ns.map PV.int)] []=some (.sh (.bl true),mu))
 : ∃ fd:FuncData,(∀ (s:Shared) (v:Value),BindsTo s fd ⟨[v],[]⟩ [("_law_script",v)])/\∀ base:Heap,K.In base->base.Ns mainGlobals mg->iC l.prog w K mg base mG 85 fa fd ["_law_script"] (Ab K):=by
 letI:HK:=⟨v5 l.prog w⟩
 have hkx:HK.hk=v5 l.prog w:=rfl
 have T_Plan:tW K mg "Plan" c_Plan:=⟨aC_Plan,⟨pg_Plan,hd_Plan,po_Plan,sa_Plan⟩,W.mg_of X G aC_Plan⟩
 have N_Plan:∀ f∈(["told", "lists", "heads"]:List Str),kh K c_Plan f:=by
  intro x hx
  rcases List.mem_cons.mp hx with e | hx
  . rw [e]; exact n_Plan_told
  rcases List.mem_cons.mp hx with e | hx
  . rw [e]; exact n_Plan_lists
  rcases List.mem_cons.mp hx with e | hx
  . rw [e]; exact n_Plan_heads
  cases hx
 have F_blocks_of:bw K mg "blocks_of" jB ["row"]:=kY X G a1 l1 c1 k1 fun _ _ _ _ _ _ us hl=>by obtain ⟨_,rfl⟩:=mH hl; rfl
 have F_copied:bw K mg "copied" lC ["row"]:=kY X G a2 l2 c2 k2 fun _ _ _ _ _ _ us hl=>by obtain ⟨_,rfl⟩:=mH hl; rfl
 have F_all_copied:bw K mg "all_copied" gF ["rows"]:=kY X G a3 l3 c3 k3 fun _ _ _ _ _ _ us hl=>by obtain ⟨_,rfl⟩:=mH hl; rfl
 have F_in_order:bw K mg "in_order" jl ["rows"]:=kY X G a4 l4 c4 k4 fun _ _ _ _ _ _ us hl=>by obtain ⟨_,rfl⟩:=mH hl; rfl
 have F_laid_out:bw K mg "laid_out" jm ["where", "above", "block", "rows", "start"]:=kY X G a5 l5 c5 k5 fun _ _ _ _ _ _ us hl=>by obtain ⟨_,_,_,_,_,rfl⟩:=R1 hl; rfl
 have F_numbered:bw K mg "numbered" j5 ["program"]:=kY X G a6 l6 c6 k6 fun _ _ _ _ _ _ us hl=>by obtain ⟨_,rfl⟩:=mH hl; rfl
 have F_spends:bw K mg "spends" lD ["row"]:=kY X G a7 l7 c7 k7 fun _ _ _ _ _ _ us hl=>by obtain ⟨_,rfl⟩:=mH hl; rfl
 have F_behind:bw K mg "behind" mW ["program", "k"]:=kY X G a8 l8 c8 k8 fun _ _ _ _ _ _ us hl=>by obtain ⟨_,_,rfl⟩:=ln2 hl; rfl
 have F_behind_row:bw K mg "behind_row" iy ["plan", "k"]:=kY X G a9 l9 c9 k9 fun _ _ _ _ _ _ us hl=>by obtain ⟨_,_,rfl⟩:=ln2 hl; rfl
 have F__law_cell_at:bw K mg "_law_cell_at" gZ ["_law_script", "_law_k"]:=kY X G a10 l10 c10 k10 fun _ _ _ _ _ _ us hl=>by obtain ⟨_,_,rfl⟩:=ln2 hl; rfl
 have F__law_names:bw K mg "_law_names" gG ["_law_cell", "_law_count"]:=kY X G a11 l11 c11 k11 fun _ _ _ _ _ _ us hl=>by obtain ⟨_,_,rfl⟩:=ln2 hl; rfl
 have F__law_expression:bw K mg "_law_expression" fV ["_law_cell", "_law_own", "_law_lists"]:=kY X G a12 l12 c12 k12 fun _ _ _ _ _ _ us hl=>by obtain ⟨_,_,_,rfl⟩:=Nq hl; rfl
 have F__law_row:bw K mg "_law_row" jn ["_law_cell", "_law_own", "_law_lists", "_law_heads_here", "_law_whos"]:=kY X G a13 l13 c13 k13 fun _ _ _ _ _ _ us hl=>by obtain ⟨_,_,_,_,_,rfl⟩:=R1 hl; rfl
 have F__law_rows:bw K mg "_law_rows" iT ["_law_cells", "_law_own", "_law_lists", "_law_heads_here", "_law_whos"]:=kY X G a14 l14 c14 k14 fun _ _ _ _ _ _ us hl=>by obtain ⟨_,_,_,_,_,rfl⟩:=R1 hl; rfl
 have F__law_heads:bw K mg "_law_heads" jd ["_law_cell", "_law_names_here"]:=kY X G a15 l15 c15 k15 fun _ _ _ _ _ _ us hl=>by obtain ⟨_,_,rfl⟩:=ln2 hl; rfl
 have F__law_program:bw K mg "_law_program" dB ["_law_script"]:=kY X G a16 l16 c16 k16 fun _ _ _ _ _ _ us hl=>by obtain ⟨_,rfl⟩:=mH hl; rfl
 have F__law_spends:bw K mg "_law_spends" fY ["_law_row_here"]:=kY X G a17 l17 c17 k17 fun _ _ _ _ _ _ us hl=>by obtain ⟨_,rfl⟩:=mH hl; rfl
 have F__law_size:bw K mg "_law_size" gU ["_law_rows_here"]:=kY X G a18 l18 c18 k18 fun _ _ _ _ _ _ us hl=>by obtain ⟨_,rfl⟩:=mH hl; rfl
 have F__law_behind:bw K mg "_law_behind" fZ ["_law_row_here", "_law_k"]:=kY X G a19 l19 c19 k19 fun _ _ _ _ _ _ us hl=>by obtain ⟨_,_,rfl⟩:=ln2 hl; rfl
 have F__law_all:bw K mg "_law_all" jo ["_law_rows_here", "_law_first", "_law_told"]:=kY X G a20 l20 c20 k20 fun _ _ _ _ _ _ us hl=>by obtain ⟨_,_,_,rfl⟩:=Nq hl; rfl
 have F_law:bw K mg "law" nD ["_law_script"]:=kY X G a21 l21 c21 k21 fun _ _ _ _ _ _ us hl=>by obtain ⟨_,rfl⟩:=mH hl; rfl
 have F_Plan____init__:uZ K c_Plan "__init__" "Plan.__init__" cW ["self", "program"]:=⟨_,_,jL (st:=cW) l22 c22 k22,a22,i22,(jL (st:=cW) l22 c22 k22).binds (ps:=["self", "program"]) fun _ _ _ _ _ _ us hl=>by obtain ⟨_,_,rfl⟩:=ln2 hl; rfl⟩
 have F_Plan__row:uZ K c_Plan "row" "Plan.row" gW ["self", "k"]:=⟨_,_,jL (st:=gW) l23 c23 k23,a23,i23,(jL (st:=gW) l23 c23 k23).binds (ps:=["self", "k"]) fun _ _ _ _ _ _ us hl=>by obtain ⟨_,_,rfl⟩:=ln2 hl; rfl⟩
 have F_Plan__block:uZ K c_Plan "block" "Plan.block" gb ["self", "k", "which"]:=⟨_,_,jL (st:=gb) l24 c24 k24,a24,i24,(jL (st:=gb) l24 c24 k24).binds (ps:=["self", "k", "which"]) fun _ _ _ _ _ _ us hl=>by obtain ⟨_,_,_,rfl⟩:=Nq hl; rfl⟩
 have F_Plan__spending:uZ K c_Plan "spending" "Plan.spending" cX ["self", "numbers"]:=⟨_,_,jL (st:=cX) l25 c25 k25,a25,i25,(jL (st:=cX) l25 c25 k25).binds (ps:=["self", "numbers"]) fun _ _ _ _ _ _ us hl=>by obtain ⟨_,_,rfl⟩:=ln2 hl; rfl⟩
 have B:SJ mg BL:=by
  intro x hx
  rcases List.mem_cons.mp hx with e | hx
  . rw [e]; exact W.mg_none_of X G z0
  rcases List.mem_cons.mp hx with e | hx
  . rw [e]; exact W.mg_none_of X G z1
  rcases List.mem_cons.mp hx with e | hx
  . rw [e]; exact W.mg_none_of X G z2
  rcases List.mem_cons.mp hx with e | hx
  . rw [e]; exact W.mg_none_of X G z3
  rcases List.mem_cons.mp hx with e | hx
  . rw [e]; exact W.mg_none_of X G z4
  rcases List.mem_cons.mp hx with e | hx
  . rw [e]; exact W.mg_none_of X G z5
  rcases List.mem_cons.mp hx with e | hx
  . rw [e]; exact W.mg_none_of X G z6
  rcases List.mem_cons.mp hx with e | hx
  . rw [e]; exact W.mg_none_of X G z7
  rcases List.mem_cons.mp hx with e | hx
  . rw [e]; exact W.mg_none_of X G z8
  rcases List.mem_cons.mp hx with e | hx
  . rw [e]; exact W.mg_none_of X G z9
  cases hx
 have e:=hfa.symm.trans (W.mg_of X G a21)
 cases e
 refine ⟨W.fnOf "law" "law" (bM nD) (bz nD) (aA nD) .none kV21 dc21 pm21 an21 cd21 ct21,fun s v=>.of_eq rfl,fun base _ _=>?_⟩
 have D_blocks_of:=Cr (P:=l.prog) (w:=w) (base:=base) B T_Plan N_Plan hkx F_blocks_of
 have R_copied:=wQ (P:=l.prog) (w:=w) (base:=base) B T_Plan N_Plan hkx F_copied F_all_copied 40
 have D_copied:=R_copied.1
 have D_all_copied:=R_copied.2
 have R_in_order:=t8 (P:=l.prog) (w:=w) (base:=base) B T_Plan N_Plan hkx F_in_order D_blocks_of 40
 have D_in_order:=R_in_order
 have R_laid_out:=uc (P:=l.prog) (w:=w) (base:=base) B T_Plan N_Plan hkx F_laid_out D_blocks_of D_copied 40
 have D_laid_out:=R_laid_out
 have D_numbered:=DQ (P:=l.prog) (w:=w) (base:=base) B T_Plan N_Plan hkx F_numbered D_laid_out
 have D_spends:=JB (P:=l.prog) (w:=w) (base:=base) B T_Plan N_Plan hkx F_spends D_in_order
 have D_Plan____init__:=Uy (uQ (P:=l.prog) (w:=w) (base:=base) B T_Plan N_Plan hkx F_Plan____init__ D_numbered) mk_Plan kc_Plan
 have D_Plan__block:=ye (P:=l.prog) (w:=w) (base:=base) B T_Plan N_Plan hkx F_Plan__block
 have D_Plan__row:=Cu (P:=l.prog) (w:=w) (base:=base) B T_Plan N_Plan hkx F_Plan__row
 have D_Plan__spending:=uR (P:=l.prog) (w:=w) (base:=base) B T_Plan N_Plan hkx F_Plan__spending D_Plan__row D_spends
 have R_behind_row:=qQ (P:=l.prog) (w:=w) (base:=base) B T_Plan N_Plan hkx F_behind_row D_Plan__block D_Plan__row D_Plan__spending 40
 have D_behind_row:=R_behind_row
 have D_behind:=JC (P:=l.prog) (w:=w) (base:=base) B T_Plan N_Plan hkx F_behind D_Plan____init__ D_behind_row
 have D__law_cell_at:=wR (P:=l.prog) (w:=w) (base:=base) B T_Plan N_Plan hkx F__law_cell_at
 have D__law_names:=zM (P:=l.prog) (w:=w) (base:=base) B T_Plan N_Plan hkx F__law_names
 have D__law_expression:=ud (P:=l.prog) (w:=w) (base:=base) B T_Plan N_Plan hkx F__law_expression
 have D__law_row:=DR (P:=l.prog) (w:=w) (base:=base) B T_Plan N_Plan hkx F__law_row D__law_expression
 have D__law_rows:=Cv (P:=l.prog) (w:=w) (base:=base) B T_Plan N_Plan hkx F__law_rows D__law_row
 have D__law_heads:=zN (P:=l.prog) (w:=w) (base:=base) B T_Plan N_Plan hkx F__law_heads
 have D__law_program:=wU (P:=l.prog) (w:=w) (base:=base) B T_Plan N_Plan hkx F__law_program D__law_cell_at D__law_heads D__law_names D__law_rows
 have R__law_spends:=pW (P:=l.prog) (w:=w) (base:=base) B T_Plan N_Plan hkx F__law_spends 40
 have D__law_spends:=R__law_spends
 have R__law_size:=sI (P:=l.prog) (w:=w) (base:=base) B T_Plan N_Plan hkx F__law_size 40
 have D__law_size:=R__law_size
 have R__law_behind:=pX (P:=l.prog) (w:=w) (base:=base) B T_Plan N_Plan hkx F__law_behind D__law_size D__law_spends 40
 have D__law_behind:=R__law_behind
 have R__law_all:=ue (P:=l.prog) (w:=w) (base:=base) B T_Plan N_Plan hkx F__law_all 40
 have D__law_all:=R__law_all
 exact SM (Th (P:=l.prog) (w:=w) (base:=base) B T_Plan N_Plan hkx (jL (st:=nD) l21 c21 k21) D__law_all D__law_behind D__law_cell_at D__law_program D_behind) HL
theorem walk {l:W.OpenLaw} {q:Program} {loose:List Str} {XP:(Str->Option Value)->Heap->Prop} {YP:World->Heap->Prop} {d:DefRec} {K:Params->FG} (hn:l.most=some 63) (hdf:d.params.defaults=[])
 (hY:∀ (w:World) (h:Heap),YP w h->(K w.params).In h)
 (F:∀ (w:World) (mg:Str->Option Value) (fa:Addr) (h:Heap),(K w.params).In h->h.Ns mainGlobals mg->mg d.name=some (.ref fa)->
   ∃ fd:FuncData,(∀ (s:Shared) (u:Value),BindsTo s fd ⟨[u],[]⟩ [("_law_script",u)])/\∀ base:Heap,(K w.params).In base->base.Ns mainGlobals mg->iC l.prog w (K w.params) mg base mG 85 fa fd ["_law_script"] (Ab (K w.params))):
 W.WalkO q loose XP YP l.row.toRowW d [] (fun f vs=>PySem.call f vs):=
 L2.walk_of (n:=63) (k:=85) (x := "_law_script") (CX:=fun _=>mG) (sp:=fun w=>Ab (K w.params)) hn (by decide) hdf ⟨rfl,by decide,by decide⟩ hY F (fun _ _ a ns hl _ hS=>⟨a,ns,rfl,hS,hl,fun _=>rfl⟩) fun _ _ _ _ _ z=>z
end Law
namespace PySem.W.Fast
def tw4528666822773415362:=0
def tw4299835250277229280:=0
def tw16132229268795447911:=0
def tw8447274555207768370:=0
def tw4037319700588410313:=0
def tw17669729148168137851:=0
def tw17289478601259142927:=0
def tw8909030276181017895:=0
end PySem.W.Fast
open PySem PySem.W PyProof.Rows
set_option maxRecDepth 100000 in
set_option maxHeartbeats 0 in
theorem PySem.Challenge.cw_hushwise_k31_behind_a_row_holds : PySem.Challenge.rw_hushwise_k31_behind_a_row.Holds := by
 w_on; o_law; k_head; (case hw=>w_witness2)
 k_fill
 refine Law.walk (l:=PySem.Challenge.rw_hushwise_k31_behind_a_row) rfl rfl (fun w h Y=>W.kIn_of Y) ?F
 case F=>
  intro w mg fa h KX G hmg
  refine' Law.all_mk KX G hmg ?aC_Plan ?pg_Plan ?hd_Plan ?po_Plan ?sa_Plan ?mk_Plan ?kc_Plan ?n_Plan_told ?n_Plan_lists ?n_Plan_heads ?a1 ?l1 ?c1 ?k1 ?a2 ?l2 ?c2 ?k2 ?a3 ?l3 ?c3 ?k3 ?a4 ?l4 ?c4 ?k4 ?a5 ?l5 ?c5 ?k5 ?a6 ?l6 ?c6 ?k6 ?a7 ?l7 ?c7 ?k7 ?a8 ?l8 ?c8 ?k8 ?a9 ?l9 ?c9 ?k9 ?a10 ?l10 ?c10 ?k10 ?a11 ?l11 ?c11 ?k11 ?a12 ?l12 ?c12 ?k12 ?a13 ?l13 ?c13 ?k13 ?a14 ?l14 ?c14 ?k14 ?a15 ?l15 ?c15 ?k15 ?a16 ?l16 ?c16 ?k16 ?a17 ?l17 ?c17 ?k17 ?a18 ?l18 ?c18 ?k18 ?a19 ?l19 ?c19 ?k19 ?a20 ?l20 ?c20 ?k20 ?a21 ?l21 ?c21 ?k21 ?a22 ?i22 ?l22 ?c22 ?k22 ?a23 ?i23 ?l23 ?c23 ?k23 ?a24 ?i24 ?l24 ?c24 ?k24 ?a25 ?i25 ?l25 ?c25 ?k25 ?z0 ?z1 ?z2 ?z3 ?z4 ?z5 ?z6 ?z7 ?z8 ?z9 Law.law_true
  case aC_Plan=>k_is
  case pg_Plan=>k_is
  case hd_Plan=>k_is
  case po_Plan=>k_is
  case sa_Plan=>k_is
  case mk_Plan=>k_is
  case kc_Plan=>k_is
  case n_Plan_told=>k_is
  case n_Plan_lists=>k_is
  case n_Plan_heads=>k_is
  case a1=>k_is
  case l1=>k_is
  case c1=>k_is
  case k1=>k_is
  case a2=>k_is
  case l2=>k_is
  case c2=>k_is
  case k2=>k_is
  case a3=>k_is
  case l3=>k_is
  case c3=>k_is
  case k3=>k_is
  case a4=>k_is
  case l4=>k_is
  case c4=>k_is
  case k4=>k_is
  case a5=>k_is
  case l5=>k_is
  case c5=>k_is
  case k5=>k_is
  case a6=>k_is
  case l6=>k_is
  case c6=>k_is
  case k6=>k_is
  case a7=>k_is
  case l7=>k_is
  case c7=>k_is
  case k7=>k_is
  case a8=>k_is
  case l8=>k_is
  case c8=>k_is
  case k8=>k_is
  case a9=>k_is
  case l9=>k_is
  case c9=>k_is
  case k9=>k_is
  case a10=>k_is
  case l10=>k_is
  case c10=>k_is
  case k10=>k_is
  case a11=>k_is
  case l11=>k_is
  case c11=>k_is
  case k11=>k_is
  case a12=>k_is
  case l12=>k_is
  case c12=>k_is
  case k12=>k_is
  case a13=>k_is
  case l13=>k_is
  case c13=>k_is
  case k13=>k_is
  case a14=>k_is
  case l14=>k_is
  case c14=>k_is
  case k14=>k_is
  case a15=>k_is
  case l15=>k_is
  case c15=>k_is
  case k15=>k_is
  case a16=>k_is
  case l16=>k_is
  case c16=>k_is
  case k16=>k_is
  case a17=>k_is
  case l17=>k_is
  case c17=>k_is
  case k17=>k_is
  case a18=>k_is
  case l18=>k_is
  case c18=>k_is
  case k18=>k_is
  case a19=>k_is
  case l19=>k_is
  case c19=>k_is
  case k19=>k_is
  case a20=>k_is
  case l20=>k_is
  case c20=>k_is
  case k20=>k_is
  case a21=>k_is
  case l21=>k_is
  case c21=>k_is
  case k21=>k_is
  case a22=>k_is
  case i22=>k_is
  case l22=>k_is
  case c22=>k_is
  case k22=>k_is
  case a23=>k_is
  case i23=>k_is
  case l23=>k_is
  case c23=>k_is
  case k23=>k_is
  case a24=>k_is
  case i24=>k_is
  case l24=>k_is
  case c24=>k_is
  case k24=>k_is
  case a25=>k_is
  case i25=>k_is
  case l25=>k_is
  case c25=>k_is
  case k25=>k_is
  case z0=>k_is
  case z1=>k_is
  case z2=>k_is
  case z3=>k_is
  case z4=>k_is
  case z5=>k_is
  case z6=>k_is
  case z7=>k_is
  case z8=>k_is
  case z9=>k_is
