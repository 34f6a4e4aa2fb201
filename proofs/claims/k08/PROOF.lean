import PyProof.Rows.All
import Wide.All
import OpenK.AllK
import Wide.FinOn
import Lean
import PyProof.EqAt
import PyProof.EqKinds
import PyProof.TupleCall
import PyProof.NeKinds
import PyProof.StrBlockI
import PyProof.WalksEnum
import PyProof.EnumMake
import PyProof.ZipIter
import PyProof.Rows.SortStr
import PyProof.Rows.SetFrom
import PyProof.CollectWalk
import PyProof.SetRoads
import PyProof.DictWalks
import PyProof.SumWalk
import PyProof.Rows.SumGenD
import PyProof.DictItems
import KE.KRevIter
import PyProof.Rows.FStrParts
import PyProof.StationsW
import PyProof.ReprRoads
import PyProof.ReprLen
import PyProof.ReprStr
import PyProof.StrLawsRepr
import PyProof.FString
import KE.KIsAll
import KE.KEqDict
import PyProof.AutoSeq1
import PyProof.StrCalls
import PySem.Challenge.RW_hushwise_k08_strangers
set_option Elab.async false
set_option linter.all false
set_option bootstrap.genMatcherCode false
set_option genSizeOf false
set_option compiler.extract_closed false
set_option maxRecDepth 100000
set_option maxHeartbeats 8000000
noncomputable abbrev FG:=PySem.W.Frag
namespace L2
open PySem PySem.Spec PyProof.Rows
variable {pins:List (Addr×Obj)} {E:Value->Shared->Prop} {s:Shared} {A:Around} {w:World} {P:Program}
noncomputable abbrev Key:=Sum Int Str
noncomputable def u9:Key->Value->Bool
 | .inl k,v=>Value.isInt k v
 | .inr x,v=>Value.isStrOf x v
noncomputable def V3 (w:World):Key->Int
 | .inl k=>hashInt k
 | .inr x=>hashStr w x
theorem d8:∀ {k:Key} {v:Value},u9 k v=true->(∃ i t,k=Sum.inl i/\v=Value.int i t)\/(∃ x t,k=Sum.inr x/\v=Value.str x t)
 | .inl i,v,h=>by
  obtain ⟨t,e⟩:=Value.isInt_shape (k:=i) (v:=v) h
  exact .inl ⟨i,t,rfl,e⟩
 | .inr x,v,h=>by
  obtain ⟨t,e⟩:=Value.isStrOf_shape (x:=x) (v:=v) h
  exact .inr ⟨x,t,rfl,e⟩
theorem Jd (i:Int) (t:Tok):u9 (.inl i) (.int i t)=true:=by simp [u9,Value.isInt]
theorem Je (x:Str) (t:Tok):u9 (.inr x) (.str x t)=true:=by simp [u9,Value.isStrOf]
theorem Rk (a b:Int):decide ((Sum.inl a:Key)=Sum.inl b)=(a==b):=by
 by_cases e:a=b
 . subst e; simp
 . have h:¬ (Sum.inl a:Key)=Sum.inl b:=fun q=>e (Sum.inl.inj q)
   rw [decide_eq_false h]
   exact (beq_eq_false_iff_ne.mpr e).symm
theorem Rm (a b:Str):decide ((Sum.inr a:Key)=Sum.inr b)=decide (a=b):=by
 by_cases e:a=b
 . subst e; simp
 . have h:¬ (Sum.inr a:Key)=Sum.inr b:=fun q=>e (Sum.inr.inj q)
   rw [decide_eq_false h,decide_eq_false e]
theorem Rn (a:Int) (b:Str):decide ((Sum.inl a:Key)=Sum.inr b)=false:=decide_eq_false (fun q=>nomatch q)
theorem Ro (a:Str) (b:Int):decide ((Sum.inr a:Key)=Sum.inl b)=false:=decide_eq_false (fun q=>nomatch q)
noncomputable def cR (prog:Program) (w:World):PySem.KeyKind prog w Key where
 is:=u9
 hash:=V3 w
 inj:=fun v a b ha hb=>by
  rcases d8 ha with ⟨i,t,rfl,rfl⟩ | ⟨x,t,rfl,rfl⟩
  . rcases d8 hb with ⟨j,u,rfl,e⟩ | ⟨y,u,rfl,e⟩
    . injection e with e1 _; rw [e1]
    . exact nomatch e
  . rcases d8 hb with ⟨j,u,rfl,e⟩ | ⟨y,u,rfl,e⟩
    . exact nomatch e
    . injection e with e1 _; rw [e1]
 byValue:=fun k v h=>by
  rcases d8 h with ⟨i,t,rfl,rfl⟩ | ⟨x,t,rfl,rfl⟩<;>rfl
 pyHash:=fun hv h=>by
  rcases d8 hv with ⟨i,t,rfl,rfl⟩ | ⟨x,t,rfl,rfl⟩
  . exact wpAny_pyHash_int h
  . exact wpAny_pyHash_str h
 eqBool:=fun hu hv h=>by
  rcases d8 hu with ⟨i,t,rfl,rfl⟩ | ⟨x,t,rfl,rfl⟩
  . rcases d8 hv with ⟨j,u,rfl,rfl⟩ | ⟨y,u,rfl,rfl⟩
    . rw [Rk] at h; exact wpAny_eqBool_int h
    . rw [Rn] at h; exact SeqAt.EqAt.int_str i t y u _ _ _ _ h
  . rcases d8 hv with ⟨j,u,rfl,rfl⟩ | ⟨y,u,rfl,rfl⟩
    . rw [Ro] at h; exact SeqAt.EqAt.str_int x t j u _ _ _ _ h
    . rw [Rm] at h; exact wpAny_eqBool_str h
 «strs»:=fun k x t v h=>by
  rcases d8 h with ⟨i,u,rfl,e⟩ | ⟨y,u,rfl,e⟩
  . exact nomatch e
  . injection e with e1 _
    subst e1
    cases v<;>rfl
theorem Fd (prog:Program) (w:World) (i:Int) (t:Tok):(cR prog w).is (.inl i) (.int i t)=true:=Jd i t
theorem Fe (prog:Program) (w:World) (x:Str) (t:Tok):(cR prog w).is (.inr x) (.str x t)=true:=Je x t
inductive V where
 | non | bl (b:Bool) | int (i:Int) | str (x:Str) | byt (b:Array UInt8) | flt (b:UInt64) | ref (a:Addr) | ty (n:String)
 deriving DecidableEq
noncomputable def RelV:V->Value->Prop
 | .non,u=>u=Value.none
 | .bl b,u=>u=Value.bool b
 | .int i,u=>∃ t,u=Value.int i t
 | .str x,u=>∃ t,u=Value.str x t
 | .byt b,u=>∃ t,u=Value.bytes b t
 | .flt b,u=>∃ t,u=Value.float b t
 | .ref a,u=>u=Value.ref a
 | .ty n,u=>u=Value.type n
noncomputable abbrev Vals:List V->List Value->Prop:=Paired RelV
theorem Vals.length {xs:List V} {us:List Value} (r:Vals xs us):xs.length=us.length:=Paired.length r
theorem Vals.get:∀ {xs:List V} {us:List Value} {i:Nat} {x:V},Vals xs us->xs[i]?=some x->∃ u,us[i]?=some u/\RelV x u
 | _,_,_,_,.nil,e=>by simp at e
 | _,_,0,_,.cons r _,e=>by simp at e; subst e; exact ⟨_,rfl,r⟩
 | _,_,i+1,x,.cons _ t,e=>by
  obtain ⟨u,h1,h2⟩:=Vals.get (i:=i) (x:=x) t (by simpa using e)
  exact ⟨u,by simpa using h1,h2⟩
theorem Vals.set {x:V} {u:Value} (r:RelV x u):∀ {xs:List V} {us:List Value} (i:Nat),Vals xs us->Vals (xs.set i x) (us.set i u)
 | _,_,_,.nil=>.nil
 | _,_,0,.cons _ t=>.cons r t
 | _,_,i+1,.cons q t=>.cons q (Vals.set r i t)
theorem Vals.append:∀ {xs ys:List V} {us ws:List Value},Vals xs us->Vals ys ws->Vals (xs++ys) (us++ws)
 | _,_,_,_,.nil,s=>s
 | _,_,_,_,.cons r t,s=>.cons r (Vals.append t s)
theorem Vals.take:∀ {xs:List V} {us:List Value} (n:Nat),Vals xs us->Vals (xs.take n) (us.take n)
 | _,_,0,_=>.nil
 | _,_,_+1,.nil=>.nil
 | _,_,n+1,.cons r t=>.cons r (Vals.take n t)
theorem Vals.drop:∀ {xs:List V} {us:List Value} (n:Nat),Vals xs us->Vals (xs.drop n) (us.drop n)
 | _,_,0,r=>r
 | _,_,_+1,.nil=>.nil
 | _,_,n+1,.cons _ t=>Vals.drop n t
noncomputable def kW:Option V->Option Value->Prop
 | some v,some u=>RelV v u
 | none,none=>True
 | _,_=>False
noncomputable def KV {κ:Type}:List (κ×V)->List (κ×Value)->Prop:=Paired fun (p:κ×V) (q:κ×Value)=>p.1=q.1/\RelV p.2 q.2
noncomputable def kV:Key->V
 | .inl i=>.int i
 | .inr x=>.str x
inductive HO where
 | lst (xs:List V)
 | tup (xs:List V)
 | dK (kvs:List (Key×V)) | dT (kvs:List (List Key×V))
 | set (S:Int->Bool) (n:Nat)
 | ins (C dx:Addr) (fs:List (Str×V))
 | own (x:Addr)
 | xd (fs:List (Str×V))
 | met (f x:Addr)
 | rng (lo hi:Int)
 | frz (o:Obj) (u:HO)
 | tbl (ps:Array Value)
 | ext (φ:Heap->Prop)
noncomputable abbrev Hp:=Addr->Option HO
noncomputable def upd (H:Hp) (a:Addr) (o:HO):Hp:=fun b=>if b=a then some o else H b
theorem bj {H:Hp} {a:Addr} {o:HO}:upd H a o a=some o:=by unfold upd; rw [if_pos rfl]
theorem aP {H:Hp} {a b:Addr} {o:HO} (h:b≠a):upd H a o b=H b:=by unfold upd; rw [if_neg h]
theorem UW {H:Hp} {a b:Addr} {o u:HO} (h:H a=some o) (h':H b=some u) (d:o≠u):a≠b:=by
 intro e; subst e; rw [h] at h'; exact d (Option.some.inj h')
theorem bN {H:Hp} {a b:Addr} {o:HO} (h:H a=some o) (h':H b=none):a≠b:=by
 intro e; subst e; rw [h] at h'; cases h'
section
variable (P:Program) (w:World)
noncomputable def dw (H:Hp) (h:Heap) (a:Addr):HO->Prop
 | .lst xs=>xs.length<=sizeLine/\∃ (its:List Value) (n:Nat),Vals xs its/\h.get? a=some { cls:=.type "list",data:=.seq its.toArray n }
 | .tup xs=>xs.length<=sizeLine/\∃ its:List Value,Vals xs its/\IsTup h a its.toArray
 | .dK kvs=>kvs.length<=sizeLine/\(a==sysModules)=false/\∃ vs,KV kvs vs/\h.DictOf (cR P w) a vs
 | .dT kvs=>kvs.length<=sizeLine/\(a==sysModules)=false/\∃ xs:List (List Key×Addr×Value),
  Paired (fun (p:List Key×V) (q:List Key×Addr×Value)=>p.1=q.1/\H q.2.1=some (.tup (p.1.map kV))/\RelV p.2 q.2.2) kvs xs/\
  ∃ o es ep,h.get? a=some o/\o.ExactDict/\o.data=.dict es ep/\es.toList=xs.map (entryOfKey (tupleKind (cR P w)))/\(xs.map (·.1)).Nodup
 | .set S n=>h.SetOf (intKind P w) a S n
 | .ins C dx fs=>H dx=some (.own a)/\fs.length<=1000/\dx≠a/\h.get? a=some (W.instObj C dx)/\
  ∃ mA,h.Ns1 dx mA/\(∀ f,kW (fs.lookup f) (mA f))/\PySem.Within mA (fs.map (·.1))
 | .own _=>∃ o,h.get? a=some o
 | .xd fs=>∃ mA,h.Ns1 a mA/\∀ f,kW (fs.lookup f) (mA f)
 | .rng lo hi=>∃ t u v,h.get? a=some { cls:=.type "range",data:=.fields #[.int lo t,.int hi u,.int 1 v] }
 | .frz o u=>h.get? a=some o/\dw H h a u
 | .tbl ps=>h.get? a=some { cls:=.none,data:=.fields ps }
 | .met f x=>h.get? a=some (W.methodObj (.ref f) (.ref x))
 | .ext φ=>φ h/\(∃ o,h.get? a=some o)/\∀ h1 h2:Heap,φ h1->(∀ o,h1.get? a=some o->h2.get? a=some o)->φ h2
noncomputable def eU (H:Hp) (h:Heap):Prop:=∀ a o,H a=some o->dw P w H h a o
end
section
variable {P:Program} {w:World} {H H':Hp} {h h':Heap} {a:Addr} {o:HO}
theorem dw.lt (x:dw P w H h a o):a<h.objs.size:=by
 cases o with
 | lst xs=>obtain ⟨_,_,_,_,e⟩:=x; exact Heap.lt_size e
 | tup xs=>obtain ⟨_,_,_,p⟩:=x; exact p.lt
 | dK kvs=>obtain ⟨_,_,_,_,o,_,_,e,_⟩:=x; exact Heap.lt_size e
 | dT kvs=>obtain ⟨_,_,_,_,o,_,_,e,_⟩:=x; exact Heap.lt_size e
 | set S n=>obtain ⟨o,_,_,_,e,_⟩:=x; exact Heap.lt_size e
 | ins C dx fs=>obtain ⟨_,_,_,e,_⟩:=x; exact Heap.lt_size e
 | own y=>obtain ⟨_,e⟩:=x; exact Heap.lt_size e
 | xd fs=>obtain ⟨_,⟨_,_,_,e,_⟩,_⟩:=x; exact Heap.lt_size e
 | rng lo hi=>obtain ⟨_,_,_,e⟩:=x; exact Heap.lt_size e
 | frz ob u=>obtain ⟨e,_⟩:=x; exact Heap.lt_size e
 | tbl ps=>exact Heap.lt_size (show h.get? a=some _ from x)
 | met f y=>exact Heap.lt_size (show h.get? a=some _ from x)
 | ext φ=>obtain ⟨_,⟨_,e⟩,_⟩:=x; exact Heap.lt_size e
theorem Paired.mapP {α β:Type} {F G:α->β->Prop}:∀ {l₁:List α} {l₂:List β},Paired F l₁ l₂->(∀ a b,F a b->G a b)->Paired G l₁ l₂
 | _,_,.nil,_=>.nil
 | _,_,.cons r t,f=>.cons (f _ _ r) (Paired.mapP t f)
theorem dw.stay (x:dw P w H h a o) (k:∀ b u,(b=a\/H b=some (.own a))->h.get? b=some u->h'.get? b=some u)
 (ho:∀ b,H b=some (.own a)->H' b=some (.own a)) (ht:∀ b xs,H b=some (.tup xs)->H' b=some (.tup xs)):dw P w H' h' a o:=by
 induction o with
 | lst xs=>obtain ⟨z,its,n,r,e⟩:=x; exact ⟨z,its,n,r,k _ _ (.inl rfl) e⟩
 | tup xs=>obtain ⟨z,its,r,ob,e,c⟩:=x; exact ⟨z,its,r,ob,k _ _ (.inl rfl) e,c⟩
 | dK kvs=>obtain ⟨z,y,vs,r,ob,es,ep,e,c⟩:=x; exact ⟨z,y,vs,r,ob,es,ep,k _ _ (.inl rfl) e,c⟩
 | dT kvs=>
  obtain ⟨z,y,xs,r,ob,es,ep,e,c⟩:=x
  exact ⟨z,y,xs,Paired.mapP r fun p q z=>⟨z.1,ht _ _ z.2.1,z.2.2⟩,ob,es,ep,k _ _ (.inl rfl) e,c⟩
 | set S n=>obtain ⟨ob,es,ep,t,e,c⟩:=x; exact ⟨ob,es,ep,t,k _ _ (.inl rfl) e,c⟩
 | ins C dx fs=>
  obtain ⟨d,z,ne,e,mA,⟨od,es,ep,e2,c⟩,r⟩:=x
  exact ⟨ho _ d,z,ne,k _ _ (.inl rfl) e,mA,⟨od,es,ep,k _ _ (.inr d) e2,c⟩,r⟩
 | own y=>obtain ⟨ob,e⟩:=x; exact ⟨ob,k _ _ (.inl rfl) e⟩
 | xd fs=>obtain ⟨mA,⟨od,es,ep,e,c⟩,r⟩:=x; exact ⟨mA,⟨od,es,ep,k _ _ (.inl rfl) e,c⟩,r⟩
 | rng lo hi=>obtain ⟨t,u,v,e⟩:=x; exact ⟨t,u,v,k _ _ (.inl rfl) e⟩
 | frz ob u ih=>obtain ⟨e,q⟩:=x; exact ⟨k _ _ (.inl rfl) e,ih q⟩
 | tbl ps=>
  have e:h.get? a=some { cls:=.none,data:=.fields ps }:=x
  show h'.get? a=some { cls:=.none,data:=.fields ps }
  exact k a _ (.inl rfl) e
 | met f y=>
  have e:h.get? a=some (W.methodObj (.ref f) (.ref y)):=x
  show h'.get? a=some (W.methodObj (.ref f) (.ref y))
  exact k a _ (.inl rfl) e
 | ext φ=>obtain ⟨p,⟨o,e⟩,st⟩:=x; exact ⟨st _ _ p fun o q=>k _ _ (.inl rfl) q,⟨o,k _ _ (.inl rfl) e⟩,st⟩
theorem eU.lt (x:eU P w H h) (e:H a=some o):a<h.objs.size:=(x a o e).lt
theorem eU.fresh (x:eU P w H h) (e:h.objs.size<=a):H a=none:=by
 cases q:H a with
 | none=>rfl
 | some u=>exact absurd (Nat.lt_of_lt_of_le (x.lt q) e) (Nat.lt_irrefl _)
theorem eU.kept (x:eU P w H h) (k:∀ b u,h.get? b=some u->h'.get? b=some u):eU P w H h':=fun a o e=>
 (x a o e).stay (fun b u _ q=>k b u q) (fun _ q=>q) fun _ _ q=>q
theorem eU.laid (x:eU P w H h) (k:∀ b u,h.get? b=some u->h'.get? b=some u) (hp:h.objs.size<=a) (new:dw P w (upd H a o) h' a o):eU P w (upd H a o) h':=fun b u e=>by
 have hn:=x.fresh hp
 by_cases hb:b=a
 . subst hb; rw [bj] at e; cases e; exact new
 . rw [aP hb] at e
   exact (x b u e).stay (fun c v _ q=>k c v q) (fun c q=>by rw [aP (bN q hn)]; exact q) fun c xs q=>by rw [aP (bN q hn)]; exact q
end
noncomputable def Rd (H:Hp) (a:Addr) (u:HO):Prop:=H a=some u\/∃ o,H a=some (.frz o u)
theorem Rd.ok {H:Hp} {h:Heap} {a:Addr} {u:HO} (r:Rd H a u) (x:eU P w H h):dw P w H h a u:=by
 rcases r with r | ⟨o,r⟩
 . exact x a u r
 . obtain ⟨_,q⟩:=x a _ r
   exact q
noncomputable def Jf:Option HO->Prop
 | some (.lst _)=>True
 | some (.dK _)=>True
 | some (.dT _)=>True
 | some (.set _ _)=>True
 | some (.ins _ _ _)=>True
 | some (.ext _)=>True
 | _=>False
section
variable {P:Program} {w:World} {H:Hp} {h h':Heap} {x e:Addr} {o':HO}
theorem eU.write (ok:eU P w H h) (mu:Jf (H x)) (he:e=x\/H e=some (.own x)) (k:∀ b u,b≠e->h.get? b=some u->h'.get? b=some u) (heo:∃ u,h'.get? e=some u)
 (new:dw P w (upd H x o') h' x o'):eU P w (upd H x o') h':=fun b u q=>by
 have nown:∀ c y,H c=some (.own y)->c≠x:=fun c y r z=>by subst z; rw [r] at mu; exact mu
 have ntup:∀ c xs,H c=some (.tup xs)->c≠x:=fun c xs r z=>by subst z; rw [r] at mu; exact mu
 by_cases hb:b=x
 . subst hb; rw [bj] at q; cases q; exact new
 . rw [aP hb] at q
   by_cases hbe:b=e
   . have q':H b=some (.own x):=by
      rcases he with z | z
      . exact absurd (hbe.trans z) hb
      . rw [hbe]; exact z
     rw [q] at q'; cases q'
     obtain ⟨v,hv⟩:=heo
     exact ⟨v,by rw [hbe]; exact hv⟩
   . refine (ok b u q).stay (fun c v hc r=>k c v ?_ r) (fun c r=>by rw [aP (nown c b r)]; exact r) fun c xs r=>by rw [aP (ntup c xs r)]; exact r
     rcases hc with rfl | hc
     . exact hbe
     . rintro rfl
       rcases he with z | z
       . exact nown c b hc z
       . rw [hc] at z; cases z; exact hb rfl
end
structure Un (fs ex:List Addr) (H H':Hp) (h h':Heap):Prop where
 keep:∀ b o,h.get? b=some o->H b=none->b∉fs->b∉ex->h'.get? b=some o
 slot:∀ b o,h.get? b=some o->H b=none->b∈fs->b∉ex->∃ sl,h'.get? b=some { o with slots:=sl }
 free:∀ b o,h.get? b=some o->H b=none->b∉ex->H' b=none
 there:∀ b o,h.get? b=some o->b∉ex->∃ o',h'.get? b=some o'
 tups:∀ b xs,H b=some (.tup xs)->H' b=some (.tup xs)
 frzs:∀ b o u,H b=some (.frz o u)->H' b=some (.frz o u)
 tbls:∀ b ps,H b=some (.tbl ps)->∃ more,H' b=some (.tbl (ps++more))
section
variable {fs fs' ex ex':List Addr} {H H1 H2:Hp} {h h1 h2 h':Heap} {a x e:Addr} {o:HO}
theorem Un.any (u:Un fs ex H H1 h h1) {b:Addr} {ob:Obj} (q:h.get? b=some ob) (n:H b=none) (hx:b∉ex):∃ sl,h1.get? b=some { ob with slots:=sl }:=by
 by_cases hb:b∈fs
 . exact u.slot b ob q n hb hx
 . exact ⟨ob.slots,u.keep b ob q n hb hx⟩
theorem Un.kept (k:∀ b u,h.get? b=some u->h'.get? b=some u):Un fs ex H H h h':=
 ⟨fun b ob q _ _ _=>k b ob q,fun b ob q _ _ _=>⟨ob.slots,k b ob q⟩,fun _ _ _ n _=>n,fun b ob q _=>⟨ob,k b ob q⟩,fun _ _ q=>q,fun _ _ _ q=>q,fun _ ps q=>⟨#[],by rw [q]; simp⟩⟩
theorem Un.refl:Un fs ex H H h h:=Un.kept fun _ _ q=>q
theorem Un.laid (k:∀ b u,h.get? b=some u->h'.get? b=some u) (hp:h.objs.size<=a) (hn:H a=none):Un fs ex H (upd H a o) h h' where
 keep:=fun b u q _ _ _=>k b u q
 slot:=fun b u q _ _ _=>⟨u.slots,k b u q⟩
 free:=fun b u q n _=>by rw [aP (Nat.ne_of_lt (Nat.lt_of_lt_of_le (Heap.lt_size q) hp))]; exact n
 there:=fun b u q _=>⟨u,k b u q⟩
 tups:=fun b xs q=>by rw [aP (bN q hn)]; exact q
 frzs:=fun b u xs q=>by rw [aP (bN q hn)]; exact q
 tbls:=fun b ps q=>⟨#[],by rw [aP (bN q hn),q]; simp⟩
theorem Un.write (mu:Jf (H x)) (he:e=x\/H e=some (.own x)) (k:∀ b u,b≠e->h.get? b=some u->h'.get? b=some u) (heo:∃ u,h'.get? e=some u):Un fs ex H (upd H x o) h h':=by
 have hx:∀ b,H b=none->b≠x:=fun b n z=>by subst z; rw [n] at mu; exact mu
 have hb:∀ b,H b=none->b≠e:=fun b n z=>by
  subst z
  rcases he with r | r
  . exact hx b n r
  . rw [n] at r; cases r
 have hm:∀ b u,H b=some u->¬ Jf (some u)->b≠x:=fun b u q nm z=>by subst z; rw [q] at mu; exact nm mu
 refine ⟨fun b u q n _ _=>k b u (hb b n) q,fun b u q n _ _=>⟨u.slots,k b u (hb b n) q⟩,fun b u q n _=>by rw [aP (hx b n)]; exact n,fun b u q _=>?_,
  fun b xs q=>by rw [aP (hm b _ q fun z=>z)]; exact q,fun b u xs q=>by rw [aP (hm b _ q fun z=>z)]; exact q,fun b ps q=>⟨#[],by rw [aP (hm b _ q fun z=>z),q]; simp⟩⟩
 by_cases hbe:b=e
 . subst hbe; exact heo
 . exact ⟨u,k b u hbe q⟩
end
noncomputable def Od (h:Heap) (H:Hp):List Addr:=(List.range h.objs.size).filter fun a=>(H a).isSome
noncomputable def sy (h:Heap) (H:Hp):Heap:=W.hideAll h (Od h H)
theorem Jg (h:Heap) (H:Hp):(sy h H).objs.size=h.objs.size:=W.hideAll_size _ _
theorem Le {h:Heap} {H:Hp} {b:Addr} {o:Obj} (e:h.get? b=some o) (n:H b=none):(sy h H).get? b=some o:=
 W.hideAll_get _ e fun hm=>by
  have q:(H b).isSome=true:=(List.mem_filter.mp hm).2
  rw [n] at q; simp at q
theorem Px {h:Heap} {H:Hp} {b:Addr} {o:Obj} (e:(sy h H).get? b=some o):h.get? b=some o/\H b=none:=by
 have e':h.get? b=some o:=W.of_hideAll (Od h H) e
 refine ⟨e',?_⟩
 cases q:H b with
 | none=>rfl
 | some x=>
  have hm:b∈Od h H:=List.mem_filter.mpr ⟨List.mem_range.mpr (Heap.lt_size e'),by simp [q]⟩
  have z:(sy h H).get? b=none:=W.hideAll_none (Od h H) hm
  rw [z] at e; cases e
noncomputable def Py (g h:Heap) (L:Addr):List (Addr×Obj):=(List.range h.objs.size).filterMap fun a=>if a=L\/(g.get? a).isSome=true then none else (h.get? a).map fun o=>(a,o)
noncomputable def rest (g h:Heap) (L d:Addr):List (Addr×Obj):=(Py g h L).filter fun p=>decide (p.1≠d)
structure Mod (K:FG) (mg:Str->Option Value) (base:Heap):Prop where
 kin:K.In base
 glob:base.Ns mainGlobals mg
 blt:∃ mb,base.Ns builtinsNs mb/\∀ x:Str,x ≠ "__name__" -> mb x=bootBuiltins x
 nolimit:base.NoLimit
structure Cx where
 prog:Program
 w:World
 K:FG
 mg:Str->Option Value
 base:Heap
 A:Around
 N:List Str
 s₀:Shared
 H0:Hp
 env:Env
 outer:List Env
 stack:List Env
 ex:List Addr
 fn:Str->Bool
 calm:Bool
 pn:List (Addr×Obj)
 xe:Value->Shared->Prop
noncomputable def frs (l:List Env):List Addr:=l.filterMap (·.frame)
noncomputable abbrev Cx.fs (X:Cx):List Addr:=frs X.outer
noncomputable def Jh (sc:Scope) (x:Str):Prop:=sc.names.lookup x=some .local\/sc.names.lookup x=some .cell\/sc.names.lookup x=some .free
noncomputable def Loc (sc:Scope) (x:Str):Prop:=sc.names.lookup x=some .local\/sc.names.lookup x=some .cell
noncomputable def Look (env:Env) (h:Heap) (m:Str->Option Value) (x:Str) (u:Value):Prop:=
 (env.kindOf x=some .local/\m x=some u)\/((env.kindOf x=some .cell\/env.kindOf x=some .free)/\∃ c,env.cells.lookup x=some c/\h.IsCell c (some u))
structure Cx.Ok (X:Cx):Prop where
 mod:Mod X.K X.mg X.base
 kind:X.env.scope.kind=.function
 glob:X.env.globals=mainGlobals
 blt:X.env.builtins=builtinsNs
 above:X.s₀.heap.objs.size<=X.env.locals
 inj:∀ x y c,X.env.cells.lookup x=some c->X.env.cells.lookup y=some c->x=y
 has:∀ x,(X.env.kindOf x=some .cell\/X.env.kindOf x=some .free)->∃ c,X.env.cells.lookup x=some c
 cab:∀ x c,X.fn x=true->X.env.cells.lookup x=some c->X.s₀.heap.objs.size<=c
 hd:X.calm=true->X.A.handled=none
 frames:X.A.frames=some X.stack
 stk:X.stack=X.outer\/(X.stack=X.env::X.outer/\X.env.frame=some X.env.locals)
 exf:∀ b∈X.ex,b≠X.env.locals/\∀ x c,X.env.cells.lookup x=some c->c≠b
 bs:∀ b o,X.base.get? b=some o->X.s₀.heap.get? b=some o/\X.H0 b=none
 bsz:X.base.objs.size<=X.s₀.heap.objs.size
 noex:∀ b o,X.base.get? b=some o->b∉X.ex
 exfs:∀ b∈X.ex,b∉X.fs
 funs:X.s₀.heap.FunFrames X.base X.outer
 frf:∀ b∈X.fs,X.H0 b=none
structure Inv (X:Cx) (pins:List (Addr×Obj)) (σ:List (Option V)) (H:Hp) (s:Shared):Prop where
 ok:X.Ok
 os:s.os=X.s₀.os
 bare:AllBare s.gens
 base:Un X.fs X.ex X.H0 H X.s₀.heap s.heap
 loc:∃ m,s.heap.Ns X.env.locals m/\∀ (i:Nat) (x:Str) (v:V),X.N[i]?=some x->σ[i]?=some (some v)->Jh X.env.scope x->∃ u,RelV v u/\Look X.env s.heap m x u
 cell:∀ x c,X.env.cells.lookup x=some c->∃ v,s.heap.IsCell c v
 free:H X.env.locals=none
 freeC:∀ x c,X.env.cells.lookup x=some c->H c=none
 pin:∀ p∈X.pn++pins,s.heap.get? p.1=some p.2/\H p.1=none/\p.1≠X.env.locals/\p.1∉X.fs/\∀ v,p.2.data≠.cell v
 hok:eU X.prog X.w H s.heap
 len:σ.length=X.N.length
section
variable {X:Cx} {pins:List (Addr×Obj)} {σ:List (Option V)} {H H':Hp} {s:Shared} {h':Heap}
theorem Cx.Ok.nofr (ok:X.Ok) {b:Addr} {o:Obj} (e:X.base.get? b=some o):b∉X.fs:=fun hb=>by
 have:=(ok.funs.mem hb).1
 rw [e] at this; cases this
theorem Inv.bs (I:Inv X pins σ H s):∀ b o,X.base.get? b=some o->s.heap.get? b=some o/\H b=none:=fun b o e=>
 ⟨I.base.keep b o (I.ok.bs b o e).1 (I.ok.bs b o e).2 (I.ok.nofr e) (I.ok.noex b o e),I.base.free b o (I.ok.bs b o e).1 (I.ok.bs b o e).2 (I.ok.noex b o e)⟩
theorem Inv.bk (I:Inv X pins σ H s):∀ b o,X.base.get? b=some o->s.heap.get? b=some o:=fun b o e=>(I.bs b o e).1
theorem Inv.mod (I:Inv X pins σ H s):Mod X.K X.mg X.base:=I.ok.mod
theorem Inv.kIn (I:Inv X pins σ H s):X.K.In s.heap:=I.ok.mod.kin.keeps I.bk
theorem Inv.lt (I:Inv X pins σ H s):X.env.locals<s.heap.objs.size:=let ⟨_,hn,_⟩:=I.loc; hn.lt
theorem Inv.sz (I:Inv X pins σ H s):X.s₀.heap.objs.size<=s.heap.objs.size:=Nat.le_trans I.ok.above (Nat.le_of_lt I.lt)
theorem Inv.nofs (I:Inv X pins σ H s) {a:Addr} (h:s.heap.objs.size<=a):a∉X.fs:=fun hb=>by
 obtain ⟨_,o,ho,_⟩:=I.ok.funs.mem hb
 exact absurd (Nat.lt_of_lt_of_le (Heap.lt_size ho) (Nat.le_trans I.sz h)) (Nat.lt_irrefl _)
theorem Inv.cne (I:Inv X pins σ H s):∀ x c,X.env.cells.lookup x=some c->c≠X.env.locals:=fun x c e z=>by
 obtain ⟨v,o,ho,hd⟩:=I.cell x c e
 obtain ⟨m,⟨o',es,ep,ho',hd',_⟩,_⟩:=I.loc
 rw [z,ho'] at ho; cases ho; rw [hd'] at hd; cases hd
theorem Inv.funs (I:Inv X pins σ H s):s.heap.FunFrames X.base X.outer:=by
 have all:∀ (l:List Env),(∀ b∈frs l,b∈X.fs)->X.s₀.heap.FunFrames X.base l->s.heap.FunFrames X.base l:=by
  intro l
  induction l with
  | nil=>intro _ _; trivial
  | cons env r ih=>
   intro hs hl
   obtain ⟨hk,⟨L,o,hf,hn,ho,hd⟩,hr⟩:=hl
   have hL:L∈X.fs:=hs L (by unfold frs; rw [List.filterMap_cons,hf]; exact List.mem_cons_self)
   obtain ⟨sl,e⟩:=I.base.slot L o ho (I.ok.frf L hL) hL fun z=>I.ok.exfs L z hL
   exact ⟨hk,⟨L,_,hf,hn,e,hd⟩,ih (fun b hb=>hs b (by unfold frs; rw [List.filterMap_cons,hf]; exact List.mem_cons_of_mem _ hb)) hr⟩
 exact all X.outer (fun _ hb=>hb) I.ok.funs
theorem Inv.stack (I:Inv X pins σ H s):s.heap.FunFrames X.base X.stack:=by
 rcases I.ok.stk with e | ⟨e,hf⟩
 . rw [e]; exact I.funs
 . rw [e]
   obtain ⟨m,hn,_⟩:=I.loc
   refine .cons (by rw [I.ok.kind]; decide) hf hn ?_ I.funs
   exact Heap.get?_none_of_le (Nat.le_trans I.ok.bsz I.ok.above)
theorem Inv.stkSub (I:Inv X pins σ H s):∀ b∈frs X.stack,b∈X.env.locals::X.fs:=fun b hb=>by
 rcases I.ok.stk with e | ⟨e,hf⟩
 . rw [e] at hb; exact List.mem_cons_of_mem _ hb
 . rw [e] at hb
   unfold frs at hb
   rw [List.filterMap_cons,hf] at hb
   exact hb
theorem Inv.stkFree (I:Inv X pins σ H s):∀ b∈frs X.stack,H b=none:=fun b hb=>by
 rcases List.mem_cons.mp (I.stkSub b hb) with e | hb
 . rw [e]; exact I.free
 . obtain ⟨_,o,ho,_⟩:=I.ok.funs.mem hb
   exact I.base.free b o ho (I.ok.frf b hb) fun z=>I.ok.exfs b z hb
theorem Inv.step {g':Array GenState} {t':Nat} {d':Drawn} {ch:List Addr} (I:Inv X pins σ H s)
 (hch:∀ b∈ch,(b∈X.ex\/X.s₀.heap.objs.size<=b)/\b≠X.env.locals/\(∀ x c,X.env.cells.lookup x=some c->c≠b)/\∀ p∈X.pn++pins,p.1≠b)
 (keep:∀ b o,b≠X.env.locals->b∉X.fs->b∉ch->s.heap.get? b=some o->H b=none->h'.get? b=some o)
 (slot:∀ b o,b≠X.env.locals->b∈X.fs->b∉ch->s.heap.get? b=some o->H b=none->∃ sl,h'.get? b=some { o with slots:=sl }) (free:∀ b o,b∉ch->s.heap.get? b=some o->H b=none->H' b=none)
 (there:∀ b o,b∉ch->s.heap.get? b=some o->∃ o',h'.get? b=some o')
 (tups:∀ b xs,H b=some (.tup xs)->H' b=some (.tup xs)) (frzs:∀ b o u,H b=some (.frz o u)->H' b=some (.frz o u)) (tbls:∀ b ps,H b=some (.tbl ps)->∃ more,H' b=some (.tbl (ps++more)))
 (ns:∀ m,s.heap.Ns X.env.locals m->h'.Ns X.env.locals m) (hok:eU X.prog X.w H' h') (hg:AllBare g'):
 Inv X pins σ H' { s with heap:=h',gens:=g',drawn:=d',toks:=t' }:=by
 have neL:∀ b o,X.s₀.heap.get? b=some o->b≠X.env.locals:=fun b o e=>Nat.ne_of_lt (Nat.lt_of_lt_of_le (Heap.lt_size e) I.ok.above)
 have neC:∀ b o,X.s₀.heap.get? b=some o->b∉X.ex->b∉ch:=fun b o e hx hb=>by
  rcases (hch b hb).1 with z | z
  . exact hx z
  . exact absurd (Nat.lt_of_lt_of_le (Heap.lt_size e) z) (Nat.lt_irrefl _)
 have cellK:∀ x c,X.env.cells.lookup x=some c->∀ v,s.heap.IsCell c v->h'.IsCell c v:=fun x c e v ⟨o,ho,hd⟩=>by
  have nch:c∉ch:=fun z=>(hch c z).2.2.1 x c e rfl
  by_cases hc:c∈X.fs
  . obtain ⟨sl,q⟩:=slot c o (I.cne x c e) hc nch ho (I.freeC x c e)
    exact ⟨_,q,hd⟩
  . exact ⟨o,keep c o (I.cne x c e) hc nch ho (I.freeC x c e),hd⟩
 refine ⟨I.ok,I.os,hg,⟨fun b o e n hb hx=>?_,fun b o e n hb hx=>?_,fun b o e n hx=>?_,fun b o e hx=>?_,fun b xs e=>tups b xs (I.base.tups b xs e),fun b o xs e=>frzs b o xs (I.base.frzs b o xs e),fun b ps e=>?_⟩,?_,fun x c e=>?_,?_,fun x c e=>?_,fun p hp=>?_,hok,I.len⟩
 . exact keep b o (neL b o e) hb (neC b o e hx) (I.base.keep b o e n hb hx) (I.base.free b o e n hx)
 . obtain ⟨sl,e1⟩:=I.base.slot b o e n hb hx
   obtain ⟨sl',e2⟩:=slot b _ (neL b o e) hb (neC b o e hx) e1 (I.base.free b o e n hx)
   exact ⟨sl',e2⟩
 . obtain ⟨o',e1⟩:=I.base.there b o e hx
   exact free b o' (neC b o e hx) e1 (I.base.free b o e n hx)
 . obtain ⟨o',e1⟩:=I.base.there b o e hx
   exact there b o' (neC b o e hx) e1
 . obtain ⟨m1,e1⟩:=I.base.tbls b ps e
   obtain ⟨m2,e2⟩:=tbls b _ e1
   exact ⟨m1++m2,by rw [e2,Array.append_assoc]⟩
 . obtain ⟨m,hn,hl⟩:=I.loc
   refine ⟨m,ns m hn,fun i x v e1 e2 e3=>?_⟩
   obtain ⟨u,r,l⟩:=hl i x v e1 e2 e3
   refine ⟨u,r,?_⟩
   rcases l with l | ⟨k,c,e,z⟩
   . exact .inl l
   . exact .inr ⟨k,c,e,cellK x c e _ z⟩
 . obtain ⟨v,z⟩:=I.cell x c e
   exact ⟨v,cellK x c e v z⟩
 . obtain ⟨m,⟨o,_,_,ho,_⟩,_⟩:=I.loc
   exact free _ o (fun z=>(hch _ z).2.1 rfl) ho I.free
 . obtain ⟨v,o,ho,hd⟩:=I.cell x c e
   exact free c o (fun z=>(hch c z).2.2.1 x c e rfl) ho (I.freeC x c e)
 . obtain ⟨e,n,ne,nf,d⟩:=I.pin p hp
   have nch:p.1∉ch:=fun z=>(hch p.1 z).2.2.2 p hp rfl
   exact ⟨keep p.1 p.2 ne nf nch e n,free p.1 p.2 nch e n,ne,nf,d⟩
theorem Inv.un {t':Nat} (I:Inv X pins σ H s) (u:Un X.fs [] H H' s.heap h') (hok:eU X.prog X.w H' h'):Inv X pins σ H' { s with heap:=h',toks:=t' }:=by
 obtain ⟨m,⟨o,es,ep,ho,r⟩,_⟩:=id I.loc
 obtain ⟨sl,hL⟩:=u.any ho I.free (by simp)
 exact I.step (g':=s.gens) (d':=s.drawn) (ch:=[]) (fun _ z=>nomatch z) (fun b o _ hb _ e n=>u.keep b o e n hb (by simp)) (fun b o _ hb _ e n=>u.slot b o e n hb (by simp)) (fun b o _ e n=>u.free b o e n (by simp)) (fun b o _ e=>u.there b o e (by simp)) u.tups u.frzs u.tbls (fun m' hm=>by
  obtain ⟨o',es',ep',ho',r'⟩:=hm
  rw [ho] at ho'; cases ho'
  exact ⟨_,es',ep',hL,r'⟩) hok I.bare
theorem Inv.call {g':Array GenState} {t':Nat} {d':Drawn} {ch:List Addr} (I:Inv X pins σ H s) (u:Un (frs X.stack) ch H H' s.heap h') (hok:eU X.prog X.w H' h') (hg:AllBare g')
 (hch:∀ b∈ch,(b∈X.ex\/X.s₀.heap.objs.size<=b)/\b≠X.env.locals/\(∀ x c,X.env.cells.lookup x=some c->c≠b)/\∀ p∈X.pn++pins,p.1≠b):
 Inv X pins σ H' { s with heap:=h',gens:=g',drawn:=d',toks:=t' }:=by
 obtain ⟨m,⟨o,es,ep,ho,r⟩,_⟩:=id I.loc
 obtain ⟨sl,hL⟩:=u.any ho I.free fun z=>(hch _ z).2.1 rfl
 exact I.step (ch:=ch) hch (fun b o hL hb hc e n=>u.keep b o e n (fun z=>(List.mem_cons.mp (I.stkSub b z)).elim hL hb) hc) (fun b o _ _ hc e n=>u.any e n hc) (fun b o hc e n=>u.free b o e n hc) (fun b o hc e=>u.there b o e hc) u.tups u.frzs u.tbls (fun m' hm=>by
  obtain ⟨o',es',ep',ho',r'⟩:=hm
  rw [ho] at ho'; cases ho'
  exact ⟨_,es',ep',hL,r'⟩) hok hg
theorem Inv.turned {t':Nat} {it:Addr} (I:Inv X pins σ H s) (k:∀ b o,b≠it->s.heap.get? b=some o->h'.get? b=some o) (hn:H it=none) (hL:it≠X.env.locals)
 (h1:it∈X.ex\/X.s₀.heap.objs.size<=it) (h2:∀ x c,X.env.cells.lookup x=some c->c≠it) (h3:∀ p∈X.pn++pins,p.1≠it):Inv X pins σ H { s with heap:=h',toks:=t' }:=by
 have nit:∀ b u,H b=some u->b≠it:=fun b u e z=>by rw [z,hn] at e; cases e
 refine I.step (g':=s.gens) (d':=s.drawn) (ch:=[it]) (fun b hb=>?_) (fun b o _ _ hc e _=>k b o (fun z=>hc (by simp [z])) e) (fun b o _ _ hc e _=>⟨o.slots,k b o (fun z=>hc (by simp [z])) e⟩) (fun _ _ _ _ n=>n)
  (fun b o hc e=>⟨o,k b o (fun z=>hc (by simp [z])) e⟩) (fun _ _ e=>e) (fun _ _ _ e=>e) (fun b ps e=>⟨#[],by rw [e]; simp⟩) (fun m hm=>?_) (fun b u e=>?_) I.bare
 . have e:b=it:=by simpa using hb
   subst e
   exact ⟨h1,hL,h2,h3⟩
 . obtain ⟨o,es,ep,ho,r⟩:=hm
   exact ⟨o,es,ep,k _ o (Ne.symm hL) ho,r⟩
 . refine (I.hok b u e).stay (fun c v hc q=>k c v ?_ q) (fun _ q=>q) fun _ _ q=>q
   rcases hc with z | z
   . rw [z]; exact nit b u e
   . exact nit c _ z
theorem Inv.tok (I:Inv X pins σ H s) (t:Nat):Inv X pins σ H { s with toks:=t }:=I.un (h':=s.heap) (t':=t) Un.refl I.hok
theorem Inv.kept {t':Nat} (I:Inv X pins σ H s) (k:∀ b u,s.heap.get? b=some u->h'.get? b=some u):Inv X pins σ H { s with heap:=h',toks:=t' }:=I.un (Un.kept k) (I.hok.kept k)
theorem Inv.laid {a:Addr} {o:HO} {t':Nat} (I:Inv X pins σ H s) (k:∀ b u,s.heap.get? b=some u->h'.get? b=some u) (hp:s.heap.objs.size<=a) (new:dw X.prog X.w (upd H a o) h' a o):
 Inv X pins σ (upd H a o) { s with heap:=h',toks:=t' }:=I.un (Un.laid k hp (I.hok.fresh hp)) (I.hok.laid k hp new)
theorem Inv.write {x e:Addr} {o:HO} {t':Nat} (I:Inv X pins σ H s) (mu:Jf (H x)) (he:e=x\/H e=some (.own x)) (k:∀ b u,b≠e->s.heap.get? b=some u->h'.get? b=some u) (heo:∃ u,h'.get? e=some u)
 (new:dw X.prog X.w (upd H x o) h' x o):Inv X pins σ (upd H x o) { s with heap:=h',toks:=t' }:=I.un (Un.write mu he k heo) (I.hok.write mu he k heo new)
theorem Inv.pins_of {pins':List (Addr×Obj)} (I:Inv X pins σ H s) (h:∀ p∈pins',s.heap.get? p.1=some p.2/\H p.1=none/\p.1≠X.env.locals/\p.1∉X.fs/\∀ v,p.2.data≠.cell v):Inv X pins' σ H s:=
 ⟨I.ok,I.os,I.bare,I.base,I.loc,I.cell,I.free,I.freeC,fun p hp=>(List.mem_append.mp hp).elim (fun z=>I.pin p (List.mem_append_left _ z)) (h p),I.hok,I.len⟩
theorem vW {N:List Str} (hN:N.Nodup) {i j:Nat} {x:Str} (a:N[i]?=some x) (b:N[j]?=some x):i=j:=by
 obtain ⟨h1,e1⟩:=List.getElem?_eq_some_iff.mp a
 obtain ⟨h2,e2⟩:=List.getElem?_eq_some_iff.mp b
 exact (List.getElem_inj hN).mp (e1.trans e2.symm)
theorem z8 {M:Model} {i:Nat} {x:Str} {v:V} {u:Value} {Q:Unit->Shared->Prop} (I:Inv X pins σ H s) (hN:X.N.Nodup) (hi:X.N[i]?=some x) (hx:Loc X.env.scope x) (r:RelV v u)
 (h:∀ s',Inv X pins (σ.set i (some v)) H s'->(∃ a,Heap.SameBut a s.heap s'.heap/\(a=X.env.locals\/X.env.cells.lookup x=some a))->Q () s') (hf:X.fn x=true\/X.env.scope.names.lookup x=some .local:=by first | exact .inl rfl | exact .inr rfl | assumption):wpAny M A (storeName X.env x u) Q E s:=by
 obtain ⟨m,hn,hl⟩:=id I.loc
 have hcls:(X.env.scope.kind==.class||(X.env.scope.kind==.module&&X.env.locals != X.env.globals))=false:=by rw [I.ok.kind]; rfl
 have hiσ:i<σ.length:=by rw [I.len]; exact (List.getElem?_eq_some_iff.mp hi).1
 have cne:=I.cne
 have tracked:∀ {a:Addr} {h':Heap},(∃ o,s.heap.get? a=some o/\H a=none)->Heap.SameBut a s.heap h'->eU X.prog X.w H h':=fun {a h'} ha hs b ob e=>by
  obtain ⟨_,_,hfree⟩:=ha
  refine (I.hok b ob e).stay (fun c w' hc q=>(hs.2 c ?_).trans q) (fun _ q=>q) fun _ _ q=>q
  rintro rfl
  rcases hc with rfl | hc
  . rw [hfree] at e; cases e
  . rw [hfree] at hc; cases hc
 rcases hx with hk | hk
 . refine wpAny_storeName_local hk hn (fun h' hn' hs=>?_) hcls
   obtain ⟨oL,_,_,hoL,_⟩:=id hn
   refine h _ ⟨I.ok,I.os,I.bare,⟨fun b o e n hb hx=>?_,fun b o e n hb hx=>?_,I.base.free,fun b o e hx=>?_,I.base.tups,I.base.frzs,I.base.tbls⟩,⟨_,hn',fun j y v' e1 e2 e3=>?_⟩,fun y c e=>?_,I.free,I.freeC,fun p hp=>?_,tracked ⟨oL,hoL,I.free⟩ hs,by simpa using I.len⟩ ⟨_,hs,.inl rfl⟩
   . exact (hs.2 b (Nat.ne_of_lt (Nat.lt_of_lt_of_le (Heap.lt_size e) I.ok.above))).trans (I.base.keep b o e n hb hx)
   . obtain ⟨sl,e1⟩:=I.base.slot b o e n hb hx
     exact ⟨sl,(hs.2 b (Nat.ne_of_lt (Nat.lt_of_lt_of_le (Heap.lt_size e) I.ok.above))).trans e1⟩
   . obtain ⟨o',e1⟩:=I.base.there b o e hx
     exact ⟨o',(hs.2 b (Nat.ne_of_lt (Nat.lt_of_lt_of_le (Heap.lt_size e) I.ok.above))).trans e1⟩
   . by_cases hj:j=i
     . subst hj
       rw [hi] at e1; cases e1
       rw [List.getElem?_set_self hiσ] at e2
       cases e2
       exact ⟨u,r,.inl ⟨hk,by simp⟩⟩
     . rw [List.getElem?_set_ne (Ne.symm hj)] at e2
       obtain ⟨u',r',q⟩:=hl j y v' e1 e2 e3
       refine ⟨u',r',?_⟩
       rcases q with ⟨k,e⟩ | ⟨k,c,e,z⟩
       . refine .inl ⟨k,?_⟩
         have:y≠x:=fun e=>hj (vW hN e1 (e▸hi))
         simp [this,e]
       . exact .inr ⟨k,c,e,z.sameBut hs (cne y c e)⟩
   . obtain ⟨w',z⟩:=I.cell y c e
     exact ⟨w',z.sameBut hs (cne y c e)⟩
   . obtain ⟨e,n,ne,nf,d⟩:=I.pin p hp
     exact ⟨(hs.2 p.1 ne).trans e,n,ne,nf,d⟩
 . have hfn:X.fn x=true:=by
    rcases hf with z | z
    . exact z
    . rw [z] at hk; cases hk
   obtain ⟨c,hc⟩:=I.ok.has x (.inl hk)
   obtain ⟨w',z⟩:=I.cell x c hc
   refine wpAny_storeName_cell I.ok.kind hk hc z (fun h' hc' hs=>?_)
   obtain ⟨oc,hoc,hocd⟩:=id z
   refine h { s with heap:=h' } ⟨I.ok,I.os,I.bare,⟨fun b o e n hb hx=>?_,fun b o e n hb hx=>?_,I.base.free,fun b o e hx=>?_,I.base.tups,I.base.frzs,I.base.tbls⟩,⟨m,hn.sameBut hs (Ne.symm (cne x c hc)),fun j y v' e1 e2 e3=>?_⟩,fun y c' e=>?_,I.free,I.freeC,fun p hp=>?_,tracked ⟨oc,hoc,I.freeC x c hc⟩ hs,by simpa using I.len⟩ ⟨c,hs,.inr hc⟩
   . exact (hs.2 b (Nat.ne_of_lt (Nat.lt_of_lt_of_le (Heap.lt_size e) (I.ok.cab x c hfn hc)))).trans (I.base.keep b o e n hb hx)
   . obtain ⟨sl,e1⟩:=I.base.slot b o e n hb hx
     exact ⟨sl,(hs.2 b (Nat.ne_of_lt (Nat.lt_of_lt_of_le (Heap.lt_size e) (I.ok.cab x c hfn hc)))).trans e1⟩
   . obtain ⟨o',e1⟩:=I.base.there b o e hx
     exact ⟨o',(hs.2 b (Nat.ne_of_lt (Nat.lt_of_lt_of_le (Heap.lt_size e) (I.ok.cab x c hfn hc)))).trans e1⟩
   . by_cases hj:j=i
     . subst hj
       rw [hi] at e1; cases e1
       rw [List.getElem?_set_self hiσ] at e2
       cases e2
       exact ⟨u,r,.inr ⟨.inl hk,c,hc,hc'⟩⟩
     . rw [List.getElem?_set_ne (Ne.symm hj)] at e2
       obtain ⟨u',r',q⟩:=hl j y v' e1 e2 e3
       refine ⟨u',r',?_⟩
       rcases q with q | ⟨k,c',e,z'⟩
       . exact .inl q
       . refine .inr ⟨k,c',e,z'.sameBut hs ?_⟩
         rintro rfl
         exact hj (vW hN e1 (I.ok.inj _ _ _ e hc▸hi))
   . by_cases hcc:c'=c
     . subst hcc; exact ⟨_,hc'⟩
     . obtain ⟨w2,z2⟩:=I.cell y c' e
       exact ⟨w2,z2.sameBut hs hcc⟩
   . obtain ⟨e,n,ne,nf,d⟩:=I.pin p hp
     refine ⟨(hs.2 p.1 ?_).trans e,n,ne,nf,d⟩
     intro q
     rw [q,hoc] at e
     have q':oc=p.2:=Option.some.inj e
     exact d w' (by rw [← q']; exact hocd)
theorem pG {M:Model} {i:Nat} {x:Str} {v:V} {u:Value} {Q:Unit->Shared->Prop} (I:Inv X pins σ H s) (hN:X.N.Nodup) (hi:X.N[i]?=some x) (hx:Loc X.env.scope x) (r:RelV v u)
 (h:∀ s',Inv X pins (σ.set i (some v)) H s'->Q () s') (hf:X.fn x=true\/X.env.scope.names.lookup x=some .local:=by first | exact .inl rfl | exact .inr rfl | assumption):wpAny M A (storeName X.env x u) Q E s:=
 z8 I hN hi hx r (fun s' I' _=>h s' I') hf
theorem Inv.call' {s':Shared} {ch:List Addr} (I:Inv X pins σ H s) (ho:s'.os=s.os) (u:Un (frs X.stack) ch H H' s.heap s'.heap) (hok:eU X.prog X.w H' s'.heap) (hg:AllBare s'.gens)
 (hch:∀ b∈ch,(b∈X.ex\/X.s₀.heap.objs.size<=b)/\b≠X.env.locals/\(∀ x c,X.env.cells.lookup x=some c->c≠b)/\∀ p∈X.pn++pins,p.1≠b):Inv X pins σ H' s':=by
 obtain ⟨h',g',d',t',o'⟩:=s'
 have e:o'=s.os:=ho
 subst e
 exact I.call (g':=g') (t':=t') (d':=d') u hok hg hch
end
noncomputable abbrev XK:=Value->Option Addr->Hp->Prop
noncomputable abbrev St:=List (Option V)
noncomputable abbrev VK:=V->Hp->Prop
noncomputable abbrev TE:=St->Hp->VK->Prop
noncomputable abbrev TT:=St->Hp->(Bool->Hp->Prop)->Prop
noncomputable abbrev TA:=St->Hp->(List V->Hp->Prop)->Prop
structure Ends where
 nx:St->Hp->Prop
 rt:VK
 bk:St->Hp->Prop:=fun _ _=>False
 ct:St->Hp->Prop:=fun _ _=>False
noncomputable abbrev TS:=Ends->St->Hp->Prop
noncomputable def EP (X:Cx) (pins:List (Addr×Obj)) (σ:St) (Q:VK) (u:Value) (s':Shared):Prop:=∃ v H',Inv X pins σ H' s'/\RelV v u/\Q v H'
noncomputable def TP (X:Cx) (pins:List (Addr×Obj)) (σ:St) (Q:Bool->Hp->Prop) (b:Bool) (s':Shared):Prop:=∃ H',Inv X pins σ H' s'/\Q b H'
noncomputable def AP (X:Cx) (pins:List (Addr×Obj)) (σ:St) (Q:List V->Hp->Prop) (us:List Value) (s':Shared):Prop:=∃ vs H',Inv X pins σ H' s'/\Vals vs us/\Q vs H'
noncomputable def SP (X:Cx) (pins:List (Addr×Obj)) (D:Ends) (f:Flow) (s':Shared):Prop:=
 match f with
 | .next=>∃ σ' H',Inv X pins σ' H' s'/\D.nx σ' H'
 | .brk=>∃ σ' H',Inv X pins σ' H' s'/\D.bk σ' H'
 | .cont=>∃ σ' H',Inv X pins σ' H' s'/\D.ct σ' H'
 | .ret u=>∃ v σ' H',Inv X pins σ' H' s'/\RelV v u/\D.rt v H'
noncomputable def PE (X:Cx) (e:Expr) (t:TE):Prop:=
 ∀ (pins:List (Addr×Obj)) (s:Shared) (σ:St) (H:Hp) (Q:VK),Inv X pins σ H s->t σ H Q->wpAny (model X.prog X.w) X.A (eval e X.env) (EP X pins σ Q) X.xe s
noncomputable def PT (X:Cx) (e:Expr) (t:TT):Prop:=
 ∀ (pins:List (Addr×Obj)) (s:Shared) (σ:St) (H:Hp) (Q:Bool->Hp->Prop),Inv X pins σ H s->t σ H Q->wpAny (model X.prog X.w) X.A (isTrue e X.env (eval e X.env)) (TP X pins σ Q) X.xe s
noncomputable def PW (X:Cx) (e:Expr) (t:TT):Prop:=
 ∀ (whole:Sem Value) (pins:List (Addr×Obj)) (s:Shared) (σ:St) (H:Hp) (Q:Bool->Hp->Prop),Inv X pins σ H s->t σ H Q->wpAny (model X.prog X.w) X.A (isTrue e X.env whole) (TP X pins σ Q) X.xe s
theorem PW.pt {X:Cx} {e:Expr} {t:TT} (h:PW X e t):PT X e t:=h _
noncomputable def PA (X:Cx) (es:List Expr) (t:TA):Prop:=
 ∀ (pos:Pos) (pins:List (Addr×Obj)) (s:Shared) (σ:St) (H:Hp) (Q:List V->Hp->Prop),Inv X pins σ H s->t σ H Q->wpAny (model X.prog X.w) X.A (spliced (backTo pos (starEach es X.env))) (AP X pins σ Q) X.xe s
noncomputable def PS (X:Cx) (st:Stmt) (t:TS):Prop:=
 ∀ (pins:List (Addr×Obj)) (s:Shared) (σ:St) (H:Hp) (D:Ends),Inv X pins σ H s->t D σ H->wpAny (model X.prog X.w) X.A (exec st X.env) (SP X pins D) X.xe s
noncomputable def dg (X:Cx) (st:List Stmt) (t:TS):Prop:=
 ∀ (pins:List (Addr×Obj)) (s:Shared) (σ:St) (H:Hp) (D:Ends),Inv X pins σ H s->t D σ H->wpAny (model X.prog X.w) X.A (execs st X.env) (SP X pins D) X.xe s
theorem bu {α:Type} {t:Sem α} {Q Q':α->Shared->Prop} {M:Model} (h:wpAny M A t Q E s) (hQ:∀ a s,Q a s->Q' a s):wpAny M A t Q' E s:=wpAny_mono h hQ fun _ _ x=>x
section
variable {X:Cx}
theorem bin {a b:Expr} {ta tb:TE} (ha:PE X a ta) (hb:PE X b tb) {σ:St} {H:Hp} {R:V->V->Hp->Prop} (I:Inv X pins σ H s) (h:ta σ H fun x H1=>tb σ H1 fun y H2=>R x y H2)
 {α:Type} {Q:α->Shared->Prop} {f:Value->Value->Sem α}
 (hf:∀ v u s2 x y H2,Inv X pins σ H2 s2->RelV x v->RelV y u->R x y H2->wpAny (model X.prog X.w) X.A (f v u) Q X.xe s2):
 wpAny (model X.prog X.w) X.A (eval a X.env) (fun v s₁=>wpAny (model X.prog X.w) X.A (eval b X.env) (fun u s₂=>wpAny (model X.prog X.w) X.A (f v u) Q X.xe s₂) X.xe s₁) X.xe s:=by
 refine bu (ha pins s σ H _ I h) fun v s1 ⟨x,H1,I1,r1,q1⟩=>?_
 refine bu (hb pins s1 σ H1 _ I1 q1) fun u s2 ⟨y,H2,I2,r2,q2⟩=>?_
 exact hf v u s2 x y H2 I2 r1 r2 q2
noncomputable def sE (i:Nat):TE:=fun σ H Q=>∃ v,σ[i]?=some (some v)/\Q v H
noncomputable def tC (v:V):TE:=fun _ H Q=>Q v H
theorem Rp {i:Nat} {x:Str} {pos:Pos} (hN:X.N[i]?=some x) (hv:Jh X.env.scope x) (hd:(x==("__debug__" : Str))=false:=by decide) (hcd:(x==("__classdict__" : Str))=false:=by decide):PE X (.Name x pos) (sE i):=by
 intro pins s σ H Q I h
 obtain ⟨v,e,h⟩:=h
 obtain ⟨m,hn,hl⟩:=I.loc
 obtain ⟨u,r,l⟩:=hl i x v hN e hv
 have fin:EP X pins σ Q u s:=⟨v,H,I,r,h⟩
 rcases l with ⟨hk,hm⟩ | ⟨hk,c,hc,hcell⟩
 . exact wpAny_Name (wpAny_loadName_local I.ok.kind hk hn hm fin) hd
 . rcases hk with hk | hk
   . exact wpAny_Name (wpAny_loadName_cell I.ok.kind hk hc hcell fin) hd
   . exact wpAny_Name (wpAny_loadName_free I.ok.kind hk hc hcell fin hcd) hd
theorem Rq {i j pos}:PE X (.Constant (.int i) j pos) (tC (.int i)):=fun _ _ _ H _ I h=>wpAny_Constant_int ⟨.int i,H,I.tok _,⟨_,rfl⟩,h⟩
theorem wL {b j pos}:PE X (.Constant (.bool b) j pos) (tC (.bl b)):=fun _ _ _ H _ I h=>Constant_bool ⟨.bl b,H,I,rfl,h⟩
theorem Rr {j pos}:PE X (.Constant .none j pos) (tC .non):=fun _ _ _ H _ I h=>Constant_none ⟨.non,H,I,rfl,h⟩
theorem Ru {x j pos}:PE X (.Constant (.str x) j pos) (tC (.str x)):=fun _ _ _ H _ I h=>Calls.Constant_str ⟨.str x,H,I.tok _,⟨_,rfl⟩,h⟩
noncomputable def Gl (X:Cx) (x:Str):Prop:=X.env.kindOf x=some .globalImplicit
theorem oY {σ:St} {H:Hp} {x:Str} {u:Value} {pos:Pos} {Q:Value->Shared->Prop} (I:Inv X pins σ H s) (hg:Gl X x) (hm:X.mg x=some u) (h:Q u s)
 (hd:(x==("__debug__" : Str))=false:=by decide):wpAny (model X.prog X.w) X.A (eval (.Name x pos) X.env) Q E s:=
 Calls.Name_function_global I.ok.kind hg (Calls.loadGlobal_global (by rw [I.ok.glob]; exact I.mod.glob.keeps I.bk) hm h) hd
theorem t7 {σ:St} {H:Hp} {x:Str} {u:Value} {pos:Pos} {Q:Value->Shared->Prop} (I:Inv X pins σ H s) (hg:Gl X x) (hm:X.mg x=none) (hv:bootBuiltins x=some u) (h:Q u s)
 (hn:x ≠ "__name__" := by decide) (hd:(x==("__debug__" : Str))=false:=by decide):wpAny (model X.prog X.w) X.A (eval (.Name x pos) X.env) Q E s:=by
 obtain ⟨mb,h1,h2⟩:=I.mod.blt
 exact Calls.Name_function_global I.ok.kind hg (Calls.loadGlobal_builtin (by rw [I.ok.glob]; exact I.mod.glob.keeps I.bk) hm (by rw [I.ok.blt]; exact h1.keeps I.bk) ((h2 x hn).trans hv) h) hd
theorem m6 {x:Str} {v:V} {u:Value} {pos:Pos} (hg:Gl X x) (hm:X.mg x=some u) (r:RelV v u) (hd:(x==("__debug__" : Str))=false:=by decide):PE X (.Name x pos) (tC v):=
 fun _ _ _ H _ I h=>oY I hg hm ⟨v,H,I,r,h⟩ hd
theorem yU {x:Str} {v:V} {u:Value} {pos:Pos} (hg:Gl X x) (hm:X.mg x=none) (hv:bootBuiltins x=some u) (r:RelV v u) (hn:x ≠ "__name__" := by decide) (hd:(x==("__debug__" : Str))=false:=by decide):PE X (.Name x pos) (tC v):=
 fun _ _ _ H _ I h=>t7 I hg hm hv ⟨v,H,I,r,h⟩ hn hd
variable {a b:Expr} {ta tb:TE} {pos:Pos}
variable {tA tB':TT} {rest:List Expr}
noncomputable def Rv (t u:TT):TT:=fun σ H Q=>t σ H fun c H1=>if c=true then u σ H1 Q else Q false H1
noncomputable def VD (t u:TT):TT:=fun σ H Q=>t σ H fun c H1=>if c=true then Q true H1 else u σ H1 Q
noncomputable def V4 (t:TT):TT:=fun σ H Q=>t σ H fun c H1=>Q (!c) H1
theorem Pz (ha:PT X a tA):PW X (.BoolOp .And [a] pos) tA:=by
 intro wh pins s σ H Q I h
 refine isTrue_and (bu (ha pins s σ H Q I h) fun c s1 e=>?_)
 cases c with
 | true=>exact isTrue_and_nil e
 | false=>exact e
theorem Rw (ha:PT X a tA):PW X (.BoolOp .Or [a] pos) tA:=by
 intro wh pins s σ H Q I h
 refine isTrue_or (bu (ha pins s σ H Q I h) fun c s1 e=>?_)
 cases c with
 | false=>exact isTrue_or_nil e
 | true=>exact e
theorem Rx (ha:PT X a tA) (hb:PW X (.BoolOp .And (b::rest) pos) tB'):PW X (.BoolOp .And (a::b::rest) pos) (Rv tA tB'):=by
 intro wh pins s σ H Q I h
 refine isTrue_and (bu (ha pins s σ H _ I h) fun c s1 ⟨H1,I1,q1⟩=>?_)
 cases c with
 | true=>exact hb wh pins s1 σ H1 Q I1 q1
 | false=>exact ⟨H1,I1,q1⟩
theorem U0 (ha:PT X a tA) (hb:PW X (.BoolOp .Or (b::rest) pos) tB'):PW X (.BoolOp .Or (a::b::rest) pos) (VD tA tB'):=by
 intro wh pins s σ H Q I h
 refine isTrue_or (bu (ha pins s σ H _ I h) fun c s1 ⟨H1,I1,q1⟩=>?_)
 cases c with
 | true=>exact ⟨H1,I1,q1⟩
 | false=>exact hb wh pins s1 σ H1 Q I1 q1
theorem Ry (ha:PT X a tA):PT X (.UnaryOp .Not a pos) (V4 tA):=by
 intro pins s σ H Q I h
 exact isTrue_not (ha pins s σ H (fun c H1=>Q (!c) H1) I h)
noncomputable def U3 (ta tb:TE):TE:=fun σ H Q=>ta σ H fun x H1=>∃ c,x=.bl c/\if c=true then tb σ H1 Q else Q (.bl false) H1
noncomputable def V5 (ta tb:TE):TE:=fun σ H Q=>ta σ H fun x H1=>∃ c,x=.bl c/\if c=true then Q (.bl true) H1 else tb σ H1 Q
theorem Rz {op} {t:TE} (h:PE X a t):PE X (.BoolOp op [a] pos) t:=fun pins s σ H Q I hw=>BoolOp_one (h pins s σ H Q I hw)
theorem RB (ha:PE X a ta) (hb:PE X (.BoolOp .And (b::rest) pos) tb):PE X (.BoolOp .And (a::b::rest) pos) (U3 ta tb):=by
 intro pins s σ H Q I h
 refine BoolOp_and (bu (ha pins s σ H _ I h) fun v s1 ⟨x,H1,I1,r1,q1⟩=>?_)
 obtain ⟨c,rfl,q1⟩:=q1
 cases r1
 refine wpAny_truthy_bool ?_
 cases c with
 | true=>exact hb pins s1 σ H1 Q I1 q1
 | false=>exact ⟨.bl false,H1,I1,rfl,q1⟩
theorem U4 (ha:PE X a ta) (hb:PE X (.BoolOp .Or (b::rest) pos) tb):PE X (.BoolOp .Or (a::b::rest) pos) (V5 ta tb):=by
 intro pins s σ H Q I h
 refine BoolOp_or (bu (ha pins s σ H _ I h) fun v s1 ⟨x,H1,I1,r1,q1⟩=>?_)
 obtain ⟨c,rfl,q1⟩:=q1
 cases r1
 refine wpAny_truthy_bool ?_
 cases c with
 | false=>exact hb pins s1 σ H1 Q I1 q1
 | true=>exact ⟨.bl true,H1,I1,rfl,q1⟩
noncomputable def Wx (t:TT) (ta tb:TE):TE:=fun σ H Q=>t σ H fun c H1=>if c=true then ta σ H1 Q else tb σ H1 Q
theorem Lf {c:Expr} (hc:PT X c tA) (ha:PE X a ta) (hb:PE X b tb):PE X (.IfExp c a b pos) (Wx tA ta tb):=by
 intro pins s σ H Q I h
 refine wpAny_IfExp (bu (hc pins s σ H _ I h) fun d s1 ⟨H1,I1,q1⟩=>?_)
 cases d with
 | true=>exact ha pins s1 σ H1 Q I1 q1
 | false=>exact hb pins s1 σ H1 Q I1 q1
end
noncomputable def bY (K:FG) (H:Hp) (a:Addr) (xs:List V):Prop:=
 Rd H a (.lst xs)\/
  ∃ (o:Obj) (its:Array Value) (n:Nat),K.lookup a=some o/\o.cls=.type "list" /\ o.dict=none/\o.data=.seq its n/\its.size<=sizeLine/\Vals xs its.toList
noncomputable def cW (K:FG) (H:Hp) (a:Addr) (xs:List V):Prop:=
 Rd H a (.tup xs)\/
  ∃ (o:Obj) (its:Array Value) (n:Nat),K.lookup a=some o/\o.cls=.type "tuple" /\ o.data=.seq its n/\its.size<=sizeLine/\Vals xs its.toList
noncomputable def V6:Value->Option V
 | .none=>some .non
 | .bool b=>some (.bl b)
 | .int i _=>some (.int i)
 | .str x _=>some (.str x)
 | .bytes b _=>some (.byt b)
 | .float b _=>some (.flt b)
 | .ref a=>some (.ref a)
 | .type n=>some (.ty n)
 | _=>none
theorem RelV.abs {x:V} {u:Value} (r:RelV x u):V6 u=some x:=by
 cases x with
 | non=>cases r; rfl
 | bl _=>cases r; rfl
 | int _=>obtain ⟨t,rfl⟩:=r; rfl
 | str _=>obtain ⟨t,rfl⟩:=r; rfl
 | byt _=>obtain ⟨t,rfl⟩:=r; rfl
 | flt _=>obtain ⟨t,rfl⟩:=r; rfl
 | ref _=>cases r; rfl
 | ty _=>cases r; rfl
theorem RelV.inj {x y:V} {u:Value} (r:RelV x u) (q:RelV y u):x=y:=Option.some.inj (r.abs.symm.trans q.abs)
theorem Vals.inj:∀ {xs ys:List V} {us:List Value},Vals xs us->Vals ys us->xs=ys
 | _,_,_,.nil,.nil=>rfl
 | _,_,_,.cons r t,.cons r' t'=>by rw [r.inj r',Vals.inj t t']
section
variable {X:Cx} {pins:List (Addr×Obj)} {σ:St} {H:Hp} {s:Shared} {a:Addr} {xs ys:List V}
theorem bY.of {K:FG} (h:H a=some (.lst xs)):bY K H a xs:=.inl (.inl h)
theorem cW.of {K:FG} (h:H a=some (.tup xs)):cW K H a xs:=.inl (.inl h)
theorem Inv.list (I:Inv X pins σ H s) (h:bY X.K H a xs):∃ its:List Value,Vals xs its/\PlainL s.heap a its.toArray/\xs.length<=sizeLine:=by
 rcases h with h | ⟨o,its,n,hk,hc,hd,hs,hz,r⟩
 . obtain ⟨z,its,n,r,e⟩:=h.ok I.hok
   exact ⟨its,r,⟨_,n,e,rfl,rfl,rfl⟩,z⟩
 . refine ⟨its.toList,r,⟨o,n,I.kIn a o hk,hc,hd,by simpa using hs⟩,?_⟩
   have e:=r.length
   simp only [Array.length_toList] at e
   omega
theorem Inv.tuple (I:Inv X pins σ H s) (h:cW X.K H a xs):∃ its:List Value,Vals xs its/\IsTup s.heap a its.toArray/\xs.length<=sizeLine:=by
 rcases h with h | ⟨o,its,n,hk,hc,hs,hz,r⟩
 . obtain ⟨z,its,r,p⟩:=h.ok I.hok
   exact ⟨its,r,p,z⟩
 . refine ⟨its.toList,r,⟨o,I.kIn a o hk,hc,n,by simpa using hs⟩,?_⟩
   have e:=r.length
   simp only [Array.length_toList] at e
   omega
theorem Inv.list_inj (I:Inv X pins σ H s) (h:bY X.K H a xs) (h':bY X.K H a ys):xs=ys:=by
 obtain ⟨its,r,⟨o,n,e,_,_,d⟩,_⟩:=I.list h
 obtain ⟨its',r',⟨o',n',e',_,_,d'⟩,_⟩:=I.list h'
 rw [e] at e'; cases e'
 rw [d] at d'
 injection d' with d1 _
 have:its=its':=by simpa using congrArg Array.toList d1
 subst this
 exact r.inj r'
theorem Inv.tuple_inj (I:Inv X pins σ H s) (h:cW X.K H a xs) (h':cW X.K H a ys):xs=ys:=by
 obtain ⟨its,r,⟨o,e,_,n,d⟩,_⟩:=I.tuple h
 obtain ⟨its',r',⟨o',e',_,n',d'⟩,_⟩:=I.tuple h'
 rw [e] at e'; cases e'
 rw [d] at d'
 injection d' with d1 _
 have:its=its':=by simpa using congrArg Array.toList d1
 subst this
 exact r.inj r'
end
noncomputable abbrev Cx.wish (X:Cx) (E:Value->Shared->Prop):Cx:={ X with xe:=E }
noncomputable abbrev Cx.nox (X:Cx):Cx:=X.wish fun _ _=>False
theorem Cx.Ok.wish {X:Cx} (ok:X.Ok) (E:Value->Shared->Prop):(X.wish E).Ok:=
 ⟨ok.mod,ok.kind,ok.glob,ok.blt,ok.above,ok.inj,ok.has,ok.cab,ok.hd,ok.frames,ok.stk,ok.exf,ok.bs,ok.bsz,ok.noex,ok.exfs,ok.funs,ok.frf⟩
theorem Cx.Ok.unwish {X:Cx} (ok:(X.wish E).Ok):X.Ok:=
 ⟨ok.mod,ok.kind,ok.glob,ok.blt,ok.above,ok.inj,ok.has,ok.cab,ok.hd,ok.frames,ok.stk,ok.exf,ok.bs,ok.bsz,ok.noex,ok.exfs,ok.funs,ok.frf⟩
section
variable {X:Cx} {pins:List (Addr×Obj)} {σ:St} {H:Hp} {s:Shared} {E:Value->Shared->Prop}
theorem Inv.wish (I:Inv X pins σ H s) (E:Value->Shared->Prop):Inv (X.wish E) pins σ H s:=⟨I.ok.wish E,I.os,I.bare,I.base,I.loc,I.cell,I.free,I.freeC,I.pin,I.hok,I.len⟩
theorem Inv.unwish (I:Inv (X.wish E) pins σ H s):Inv X pins σ H s:=⟨I.ok.unwish,I.os,I.bare,I.base,I.loc,I.cell,I.free,I.freeC,I.pin,I.hok,I.len⟩
theorem SP.unwish {D:Ends} {f:Flow} {s':Shared} (h:SP (X.wish E) pins D f s'):SP X pins D f s':=by
 cases f with
 | next=>obtain ⟨σ',H',I,q⟩:=h; exact ⟨σ',H',I.unwish,q⟩
 | brk=>obtain ⟨σ',H',I,q⟩:=h; exact ⟨σ',H',I.unwish,q⟩
 | cont=>obtain ⟨σ',H',I,q⟩:=h; exact ⟨σ',H',I.unwish,q⟩
 | ret u=>obtain ⟨v,σ',H',I,r,q⟩:=h; exact ⟨v,σ',H',I.unwish,r,q⟩
theorem dg.nox {st:List Stmt} {t:TS} (h:dg X.nox st t):dg X st t:=fun pins s σ H D I hw=>
 wpAny_mono (h pins s σ H D (I.wish _) hw) (fun _ _ q=>q.unwish) fun _ _ z=>False.elim z
end
section
variable {X:Cx} {st:Stmt} {rest:List Stmt} {t u:TS} {e:Expr} {te:TE} {pos:Pos}
noncomputable def U5:TS:=fun D σ H=>D.nx σ H
noncomputable def V7 (t u:TS):TS:=fun D σ H=>t { D with nx:=u D } σ H
theorem Ft:dg X [] U5:=fun _ _ σ H _ I h=>wpAny_execs_nil ⟨σ,H,I,h⟩
theorem BZ (h1:PS X st t) (h2:dg X rest u):dg X (st::rest) (V7 t u):=by
 intro pins s σ H D I h
 refine wpAny_execs_cons (bu (h1 pins s σ H { D with nx:=u D } I h) fun f s1 q=>?_)
 cases f with
 | next=>
  obtain ⟨σ',H',I',q⟩:=q
  exact h2 pins s1 σ' H' D I' q
 | ret v=>exact q
 | brk=>exact q
 | cont=>exact q
theorem Fv (h1:PS X st t):dg X [st] t:=by
 intro pins s σ H D I h
 refine wpAny_execs_cons (bu (h1 pins s σ H D I h) fun f s1 q=>?_)
 cases f with
 | next=>exact wpAny_execs_nil q
 | ret v=>exact q
 | brk=>exact q
 | cont=>exact q
theorem Inv.quiet {σ:St} {H:Hp} (I:Inv X pins σ H s):interactive X.env=false:=by simp [interactive,I.ok.kind]
noncomputable def Oe (te:TE):TS:=fun D σ H=>te σ H fun _ H1=>D.nx σ H1
theorem yV (he:PE X e te) (hs:swapsWith e none pos.line X.env=pure false:=by rfl):PS X (.Expr e pos) (Oe te):=by
 intro pins s σ H D I h
 exact wpAny_Expr_any (bu (he pins s σ H _ I h) fun v s1 ⟨x,H1,I1,r1,q1⟩=>⟨σ,H1,I1,q1⟩) I.quiet hs
noncomputable def V8 (te:TE):TS:=fun D σ H=>te σ H D.rt
theorem Ca (he:PE X e te):PS X (.Return (some e) pos) (V8 te):=by
 intro pins s σ H D I h
 exact wpAny_Return_some (bu (he pins s σ H _ I h) fun v s1 ⟨x,H1,I1,r1,q1⟩=>⟨x,σ,H1,I1,r1,q1⟩)
noncomputable def V9 (c:TT) (t u:TS):TS:=fun D σ H=>c σ H fun b H1=>if b=true then t D σ H1 else u D σ H1
theorem Og {c:Expr} {a b:List Stmt} {tc:TT} (hc:PT X c tc) (ha:dg X a t) (hb:dg X b u):PS X (.If c a b pos) (V9 tc t u):=by
 intro pins s σ H D I h
 refine wpAny_If (bu (hc pins s σ H _ I h) fun d s1 ⟨H1,I1,q1⟩=>?_)
 cases d with
 | true=>exact ha pins s1 σ H1 D I1 q1
 | false=>exact hb pins s1 σ H1 D I1 q1
end
noncomputable abbrev TG:=V->St->Hp->(St->Hp->Prop)->Prop
noncomputable abbrev tW:=List V->St->Hp->(St->Hp->Prop)->Prop
noncomputable def PG (X:Cx) (target:Expr) (t:TG):Prop:=
 ∀ (pins:List (Addr×Obj)) (s:Shared) (σ:St) (H:Hp) (v:V) (u:Value) (Q:St->Hp->Prop),Inv X pins σ H s->RelV v u->t v σ H Q->
  wpAny (model X.prog X.w) X.A (assign target X.env u) (fun _ s'=>∃ σ' H',Inv X pins σ' H' s'/\Q σ' H') X.xe s
noncomputable def Ji (X:Cx) (ts:List Expr) (t:tW):Prop:=
 ∀ (pins:List (Addr×Obj)) (s:Shared) (σ:St) (H:Hp) (vs:List V) (us:List Value) (Q:St->Hp->Prop),Inv X pins σ H s->Vals vs us->t vs σ H Q->
  wpAny (model X.prog X.w) X.A (assignInOrder ((assignEach ts X.env).map (·.2)) us) (fun _ s'=>∃ σ' H',Inv X pins σ' H' s'/\Q σ' H') X.xe s
noncomputable abbrev Lg:=V->V->V->Hp->(Hp->Prop)->Prop
noncomputable def Lh (X:Cx) (t:Lg):Prop:=
 ∀ (pins:List (Addr×Obj)) (s:Shared) (σ:St) (H:Hp) (o i v:V) (ov iv u:Value) (Q:Hp->Prop),Inv X pins σ H s->RelV o ov->RelV i iv->RelV v u->t o i v H Q->
  wpAny (model X.prog X.w) X.A (setItem ov iv u) (fun _ s'=>∃ H',Inv X pins σ H' s'/\Q H') X.xe s
section
variable {X:Cx} {pos:Pos}
noncomputable def wM (i:Nat):TG:=fun v σ H Q=>Q (σ.set i (some v)) H
theorem Fw {i:Nat} {x:Str} (hN:X.N.Nodup) (hi:X.N[i]?=some x) (hx:Loc X.env.scope x) (hf:X.fn x=true\/X.env.scope.names.lookup x=some .local:=by first | exact .inl rfl | exact .inr rfl | assumption):PG X (.Name x pos) (wM i):=by
 intro pins s σ H v u Q I r h
 exact wpAny_assign_Name (pG I hN hi hx r (fun s' I'=>⟨_,H,I',h⟩) hf)
noncomputable def RC:tW:=fun vs σ H Q=>vs=[]/\Q σ H
noncomputable def Oh (t:TG) (u:tW):tW:=fun vs σ H Q=>∃ v r,vs=v::r/\t v σ H fun σ' H'=>u r σ' H' Q
theorem oZ:Ji X [] RC:=by
 intro pins s σ H vs us Q I r h
 obtain ⟨e,h⟩:=h
 subst e
 cases r
 exact assignInOrder_nil ⟨σ,H,I,h⟩
theorem fV {e:Expr} {es:List Expr} {t:TG} {u:tW} (h1:PG X e t) (h2:Ji X es u)
 (hs:(assignEach (e::es) X.env).map (·.2)=assign e X.env::(assignEach es X.env).map (·.2):=by rfl):Ji X (e::es) (Oh t u):=by
 intro pins s σ H vs us Q I r h
 obtain ⟨v,vr,e1,h⟩:=h
 subst e1
 cases r with
 | cons r rr=>
  rw [hs]
  refine assignInOrder_cons (bu (h1 pins s σ H _ _ _ I r h) fun _ s1 ⟨σ1,H1,I1,q1⟩=>?_)
  exact h2 pins s1 σ1 H1 _ _ Q I1 rr q1
noncomputable def Wa (K:FG) (n:Nat) (t:tW):TG:=fun v σ H Q=>∃ a xs,v=.ref a/\cW K H a xs/\xs.length=n/\t xs σ H Q
theorem RD {es:List Expr} {k:Nat} {t:tW} {n:Nat} (hc:X.calm=true) (h:Ji X es t)
 (hn:(assignEach es X.env).length=n:=by rfl) (hst:(assignEach es X.env).findIdx? (·.1)=none:=by rfl):PG X (.Tuple es k pos) (Wa X.K n t):=by
 intro pins s σ H v u Q I r hw
 obtain ⟨a,xs,e1,hq,hl,hw⟩:=hw
 subst e1
 cases r
 obtain ⟨its,rv,ht,hz⟩:=I.tuple hq
 refine assign_Tuple_tuple (I.ok.hd hc) ht (by simp [hn,← hl,rv.length]) hst fun h' hx=>?_
 have I1:Inv X pins σ H { s with heap:=h' }:=I.kept (t':=s.toks) fun b o e=>hx b o (Nat.ne_of_lt (Heap.lt_size e)) e
 exact h pins _ σ H xs _ Q I1 (by simpa using rv) hw
noncomputable def G8 (to ti:TE) (t:Lg):TG:=fun v σ H Q=>to σ H fun o H1=>ti σ H1 fun i H2=>t o i v H2 fun H3=>Q σ H3
theorem wN {o i:Expr} {to ti:TE} {t:Lg} (ho:PE X o to) (hi:PE X i ti) (hs:Lh X t)
 (ha:∀ v,assign (.Subscript o i pos) X.env v=(do
   let ov ← holding [v] (eval o X.env)
   let iv ← holding [v,ov] (eval i X.env)
   standAt pos
   holding [v,ov,iv] (setItem ov iv v)
   release [v,ov,iv] []):=by intro _; rfl):PG X (.Subscript o i pos) (G8 to ti t):=by
 intro pins s σ H v u Q I r h
 rw [ha]
 refine wpAny_bind (wpAny_holding (bu (ho pins s σ H _ I h) fun ov s1 ⟨x,H1,I1,r1,q1⟩=>?_))
 refine wpAny_bind (wpAny_holding (bu (hi pins s1 σ H1 _ I1 q1) fun iv s2 ⟨y,H2,I2,r2,q2⟩=>?_))
 refine wpAny_bind (wpAny_standAt (wpAny_bind (wpAny_holding (bu (hs pins s2 σ H2 x y v ov iv u _ I2 r1 r2 r q2) fun _ s3 ⟨H3,I3,q3⟩=>?_))))
 exact wpAny_release ⟨σ,H3,I3,q3⟩
noncomputable def yW (te:TE) (g:TG):TS:=fun D σ H=>te σ H fun x H1=>g x σ H1 D.nx
theorem uc {tg e:Expr} {te:TE} {g:TG} (he:PE X e te) (hg:PG X tg g) (hs:swapsWithSole [tg] e pos.line X.env=pure false:=by rfl) (hw:swappedStores [tg] e X.env=pure none:=by rfl)
 (h1:(assignEach [tg] X.env).map (·.2)=[assign tg X.env]:=by rfl):PS X (.Assign [tg] e pos) (yW te g):=by
 intro pins s σ H D I h
 refine wpAny_Assign_stores (bu (he pins s σ H _ I h) fun v s1 ⟨x,H1,I1,r1,q1⟩=>?_) hs hw
 rw [h1]
 exact bu (hg pins s1 σ H1 x v _ I1 r1 q1) fun _ s2 q=>q
theorem Jj {i:Nat} {x:Str} {e:Expr} {te:TE} {pos':Pos} (hN:X.N.Nodup) (hi:X.N[i]?=some x) (hx:Loc X.env.scope x) (he:PE X e te) (hs:swapsWith e (some (.Name x pos')) pos.line X.env=pure false:=by rfl) (hf:X.fn x=true\/X.env.scope.names.lookup x=some .local:=by first | exact .inl rfl | exact .inr rfl | assumption):
 PS X (.Assign [.Name x pos'] e pos) (yW te (wM i)):=by
 intro pins s σ H D I h
 refine wpAny_Assign_Name (bu (he pins s σ H _ I h) fun v s1 ⟨y,H1,I1,r1,q1⟩=>?_) hs
 exact pG I1 hN hi hx r1 (fun s2 I2=>⟨_,H1,I2,q1⟩) hf
noncomputable def RG (c:TT) (tb:TS):TS:=fun D σ H=>∃ W:Nat->St->Hp->Prop,(∃ m,W m σ H)/\∀ m σ H,W m σ H->
 c σ H fun b H1=>if b=true then ∃ N:St->Hp->Prop,(∀ σ' H',N σ' H'->∃ m',m'<m/\W m' σ' H')/\tb { D with nx:=N,ct:=N,bk:=D.nx } σ H1 else D.nx σ H1
theorem Li {c:Expr} {body:List Stmt} {tc:TT} {tb:TS} (hp:PassesOwn (model X.prog X.w) X.A X.env X.xe) (hc:PT X c tc) (hb:dg X body tb):PS X (.While c body [] pos) (RG tc tb):=by
 intro pins s σ H D I h
 obtain ⟨W,⟨m0,w0⟩,turn⟩:=h
 refine wpAny_While (codeAny_whileLoop (fun n s'=>∃ σ' H',Inv X pins σ' H' s'/\W n σ' H') ?_ m0 ⟨σ,H,I,w0⟩)
 rintro n s1 ⟨σ1,H1,I1,w1⟩
 refine wpAny_passesOwn hp (bu (hc pins s1 σ1 H1 _ I1 (turn n σ1 H1 w1)) fun b s2 ⟨H2,I2,q2⟩=>?_)
 cases b with
 | true=>
  obtain ⟨N,hN,q2⟩:=q2
  rw [if_pos rfl]
  refine wpAny_passesOwn hp (bu (hb pins s2 σ1 H2 _ I2 q2) fun f s3 q3=>?_)
  cases f with
  | next=>
   obtain ⟨σ3,H3,I3,n3⟩:=q3
   obtain ⟨m',hm,w3⟩:=hN σ3 H3 n3
   exact ⟨m',hm,σ3,H3,I3,w3⟩
  | cont=>
   obtain ⟨σ3,H3,I3,n3⟩:=q3
   obtain ⟨m',hm,w3⟩:=hN σ3 H3 n3
   exact ⟨m',hm,σ3,H3,I3,w3⟩
  | brk=>exact q3
  | ret v=>exact q3
 | false=>
  rw [if_neg Bool.false_ne_true]
  exact wpAny_execs_nil ⟨σ1,H2,I2,q2⟩
end
structure It where
 go:Nat->Hp->Prop
 yld:Nat->Hp->V->Hp->Prop
 stop:Nat->Hp->Prop
noncomputable def mD (X:Cx) (pins:List (Addr×Obj)) (H:Hp) (b:Addr):Prop:=
 H b=none/\b≠X.env.locals/\b∉X.fs/\(b∈X.ex\/X.s₀.heap.objs.size<=b)/\(∀ x c,X.env.cells.lookup x=some c->c≠b)/\∀ p∈X.pn++pins,p.1≠b
theorem Inv.fpOk {X:Cx} {σ:St} {H H':Hp} {b:Addr} (I:Inv X pins σ H s) (hb:s.heap.objs.size<=b) (hn:H' b=none):mD X pins H' b:=by
 refine ⟨hn,Nat.ne_of_gt (Nat.lt_of_lt_of_le I.lt hb),I.nofs hb,.inr (Nat.le_trans I.sz hb),fun x c e z=>?_,fun p hp z=>?_⟩
 . obtain ⟨v,q⟩:=I.cell x c e
   exact absurd (Nat.lt_of_lt_of_le q.lt (by rw [z]; exact hb)) (Nat.lt_irrefl _)
 . exact absurd (Nat.lt_of_lt_of_le (Heap.lt_size (I.pin p hp).1) (by rw [z]; exact hb)) (Nat.lt_irrefl _)
structure Turn (P:Program) (w:World) (K:FG) (tg:Expr) (J:It) (fp:List Addr) (it:Addr) (tn:Nat->Heap->Prop):Prop where
 mem:it∈fp
 obj:∀ i h,tn i h->∀ b∈fp,∃ o,h.get? b=some o/\∀ v,o.data≠.cell v
 keep:∀ i h h',tn i h->(∀ b∈fp,∀ o,h.get? b=some o->h'.get? b=some o)->tn i h'
 item:∀ (X:Cx),X.prog=P->X.w=w->X.K=K->X.calm=true->∀ (i:Nat) (pins:List (Addr×Obj)) (s:Shared) (σ:St) (H:Hp) (E:Value->Shared->Prop),Inv X pins σ H s->(∀ b∈fp,mD X pins H b)->tn i s.heap->J.go i H->
  wpAny (model P w) X.A (pyNext (.ref it)) (fun r s1=>∃ u,r=some u/\
   wpAny (model P w) X.A (letOwnedTupleGo tg (.ref it) u) (fun _ s2=>∃ x H',Inv X pins σ H' s2/\RelV x u/\J.yld i H x H'/\tn (i+1) s2.heap/\∀ b∈fp,H' b=none) E s1) E s
 done:∀ (X:Cx),X.prog=P->X.w=w->X.K=K->X.calm=true->∀ (i:Nat) (pins:List (Addr×Obj)) (s:Shared) (σ:St) (H:Hp) (E:Value->Shared->Prop),Inv X pins σ H s->(∀ b∈fp,mD X pins H b)->tn i s.heap->J.stop i H->
  wpAny (model P w) X.A (pyNext (.ref it)) (fun r s1=>r=none/\Inv X pins σ H s1) E s
 self:∀ (A:Around) (i:Nat) (s:Shared) (Q:Value->Shared->Prop) (E:Value->Shared->Prop),tn i s.heap->Q (.ref it) s->wpAny (model P w) A (pyIter (.ref it)) Q E s
noncomputable abbrev TI:=St->Hp->(It->Hp->Prop)->Prop
noncomputable def PIE (X:Cx) (pins:List (Addr×Obj)) (σ:St) (tg:Expr) (R:It->Hp->Prop) (itv:Value) (s2:Shared):Prop:=
 ∃ (it:Addr) (fp:List Addr) (tn:Nat->Heap->Prop) (J:It) (H':Hp),itv=.ref it/\Inv X pins σ H' s2/\Turn X.prog X.w X.K tg J fp it tn/\tn 0 s2.heap/\(∀ b∈fp,mD X pins H' b)/\R J H'
noncomputable def PI (X:Cx) (tg iter:Expr) (wi:TI):Prop:=
 ∀ (pins:List (Addr×Obj)) (s:Shared) (σ:St) (H:Hp) (R:It->Hp->Prop),Inv X pins σ H s->wi σ H R->
  wpAny (model X.prog X.w) X.A (eval iter X.env) (fun v s1=>wpAny (model X.prog X.w) X.A (pyIter v) (PIE X pins σ tg R) X.xe s1) X.xe s
theorem Bt {M:Model} {tg:Expr} {it:Addr} {u:Value} {o:Obj} {n:String} {vs:Array Value} {Q:Unit->Shared->Prop} (ho:s.heap.get? it=some o) (hc:o.cls=.type n) (hd:o.data=.fields vs)
 (hn:["enumerate", "zip", "dict_itemiterator", "dict_reverseitemiterator", "odict_iterator", "itertools.zip_longest", "itertools.pairwise"].contains n=false) (hQ:Q () s):wpAny M A (letOwnedTupleGo tg (.ref it) u) Q E s:=by
 unfold letOwnedTupleGo
 cases tg<;>first
  | exact wpAny_pure hQ
  | (cases u<;>first
      | exact wpAny_pure hQ
      | (refine wpAny_bind (wpAny_load ho ?_)
         rw [hc,hd]
         show wpAny M A (if (["enumerate", "zip", "dict_itemiterator", "dict_reverseitemiterator", "odict_iterator", "itertools.zip_longest", "itertools.pairwise"].contains n&&vs[0]?==some (rawInt _))=true then _ else _) Q E s
         rw [if_neg (by intro h; rw [hn,Bool.false_and] at h; cases h)]
         exact wpAny_pure hQ))
noncomputable def Oi (K:FG) (a:Addr):It:=
 ⟨fun i H=>∃ xs x,bY K H a xs/\xs[i]?=some x,fun i H x H'=>H'=H/\∀ xs,bY K H a xs->xs[i]?=some x,fun i H=>∃ xs,bY K H a xs/\xs.length<=i⟩
noncomputable def Oj (K:FG) (a:Addr):It:=
 ⟨fun i H=>∃ xs x,cW K H a xs/\xs[i]?=some x,fun i H x H'=>H'=H/\∀ xs,cW K H a xs->xs[i]?=some x,fun i H=>∃ xs,cW K H a xs/\xs.length<=i⟩
noncomputable def Jk (lo:Int) (n:Nat):It:=⟨fun i _=>i<n,fun i H x H'=>H'=H/\x=.int (lo+i),fun i _=>n<=i⟩
theorem Jl {K:FG} {tg:Expr} (a it:Addr):Turn P w K tg (Oi K a) [it] it (fun i h=>h.IsListIter it a i) where
 mem:=by simp
 obj:=fun i h st b hb=>by
  have e:b=it:=by simpa using hb
  subst e
  obtain ⟨o,e,c,d⟩:=st
  exact ⟨o,e,fun v z=>by rw [d] at z; cases z⟩
 keep:=fun i h h' st k=>st.at fun o e=>k it (by simp) o e
 item:=by
  intro X hP hw hK hc i pins s σ H E I hf st hg
  subst hP hw hK
  obtain ⟨xs,x,hq,hx⟩:=hg
  obtain ⟨its,rv,p,hz⟩:=I.list hq
  obtain ⟨u,hu,ru⟩:=rv.get hx
  obtain ⟨f0,f1,f2,f3,f4,f5⟩:=hf it (by simp)
  refine wpAny_pyNext_list_item st p.isList (x:=u) (by simpa using hu) fun h' st' sb=>?_
  have I1:Inv X pins σ H { s with heap:=h' }:=I.turned (t':=s.toks) (fun b o hb e=>(sb.2 b hb).trans e) f0 f1 f3 f4 f5
  obtain ⟨o,e,c,d⟩:=id st'
  exact ⟨u,rfl,Bt (s:={ s with heap:=h' }) e c d (by decide) ⟨x,H,I1,ru,⟨rfl,fun ys hy=>by rw [I.list_inj hy hq]; exact hx⟩,st',fun b hb=>(hf b hb).1⟩⟩
 done:=by
  intro X hP hw hK hc i pins s σ H E I hf st hg
  subst hP hw hK
  obtain ⟨xs,hq,hx⟩:=hg
  obtain ⟨its,rv,p,hz⟩:=I.list hq
  obtain ⟨f0,f1,f2,f3,f4,f5⟩:=hf it (by simp)
  have hl:=rv.length
  exact wpAny_pyNext_list_end (I.ok.hd hc) st p.isList (by simp; omega) fun h' eb=>⟨rfl,I.turned (t':=s.toks) (fun b o hb e=>eb b o hb e) f0 f1 f3 f4 f5⟩
 self:=fun _ _ _ _ _ st h=>wpAny_pyIter_listiter st h
theorem G9 {K:FG} {tg:Expr} (a it:Addr):Turn P w K tg (Oj K a) [it] it (fun i h=>h.IsTupleIter it a i) where
 mem:=by simp
 obj:=fun i h st b hb=>by
  have e:b=it:=by simpa using hb
  subst e
  obtain ⟨o,e,c,d⟩:=st
  exact ⟨o,e,fun v z=>by rw [d] at z; cases z⟩
 keep:=fun i h h' st k=>st.at fun o e=>k it (by simp) o e
 item:=by
  intro X hP hw hK hc i pins s σ H E I hf st hg
  subst hP hw hK
  obtain ⟨xs,x,hq,hx⟩:=hg
  obtain ⟨its,rv,p,hz⟩:=I.tuple hq
  obtain ⟨u,hu,ru⟩:=rv.get hx
  obtain ⟨f0,f1,f2,f3,f4,f5⟩:=hf it (by simp)
  refine wpAny_pyNext_tuple_item st (show s.heap.IsTuple a its.toArray from p) (x:=u) (by simpa using hu) fun h' st' sb=>?_
  have I1:Inv X pins σ H { s with heap:=h' }:=I.turned (t':=s.toks) (fun b o hb e=>(sb.2 b hb).trans e) f0 f1 f3 f4 f5
  obtain ⟨o,e,c,d⟩:=id st'
  exact ⟨u,rfl,Bt (s:={ s with heap:=h' }) e c d (by decide) ⟨x,H,I1,ru,⟨rfl,fun ys hy=>by rw [I.tuple_inj hy hq]; exact hx⟩,st',fun b hb=>(hf b hb).1⟩⟩
 done:=by
  intro X hP hw hK hc i pins s σ H E I hf st hg
  subst hP hw hK
  obtain ⟨xs,hq,hx⟩:=hg
  obtain ⟨its,rv,p,hz⟩:=I.tuple hq
  obtain ⟨f0,f1,f2,f3,f4,f5⟩:=hf it (by simp)
  have hl:=rv.length
  exact wpAny_pyNext_tuple_end (I.ok.hd hc) st (show s.heap.IsTuple a its.toArray from p) (by simp; omega) fun h' eb=>⟨rfl,I.turned (t':=s.toks) (fun b o hb e=>eb b o hb e) f0 f1 f3 f4 f5⟩
 self:=fun _ _ _ _ _ st h=>wpAny_pyIter_tupleiter st h
theorem Ha {K:FG} {tg:Expr} (it:Addr) (lo:Int) (n:Nat):Turn P w K tg (Jk lo n) [it] it (fun i h=>IsRangeIter h it (lo+(i:Nat)*1) ((n:Int)-(i:Nat)) 1) where
 mem:=by simp
 obj:=fun i h st b hb=>by
  have e:b=it:=by simpa using hb
  subst e
  exact ⟨_,st,fun v z=>by
   have z':Data.fields _=Data.cell v:=z
   cases z'⟩
 keep:=fun i h h' st k=>k it (by simp) _ st
 item:=by
  intro X hP hw hK hc i pins s σ H E I hf st hg
  subst hP hw hK
  obtain ⟨f0,f1,f2,f3,f4,f5⟩:=hf it (by simp)
  have W:=Walks.range (prog:=X.prog) (w:=X.w) (I.ok.hd hc) it lo 1 n
  refine W.item i s _ _ hg st fun v h' tk hv st' kk=>?_
  obtain ⟨t,rfl⟩:=hv
  have I1:Inv X pins σ H { s with heap:=h',toks:=tk }:=I.turned (fun b o hb e=>kk b o (by simpa using hb) e) f0 f1 f3 f4 f5
  refine ⟨_,rfl,Bt (s:={ s with heap:=h',toks:=tk }) (n := "range_iterator") st' rfl rfl (by decide) ⟨.int (lo+i),H,I1,⟨t,?_⟩,⟨rfl,rfl⟩,st',fun b hb=>(hf b hb).1⟩⟩
  rw [Int.mul_one]
 done:=by
  intro X hP hw hK hc i pins s σ H E I hf st hg
  subst hP hw hK
  obtain ⟨f0,f1,f2,f3,f4,f5⟩:=hf it (by simp)
  exact wpAny_pyNext_range_end (I.ok.hd hc) st (by have:n<=i:=hg; omega) fun h' eb=>⟨rfl,I.turned (t':=s.toks) (fun b o hb e=>eb b o hb e) f0 f1 f3 f4 f5⟩
 self:=fun _ _ _ _ _ st h=>wpAny_pyIter_rangeiter st h
section
variable {X:Cx} {tg:Expr}
theorem Cd {σ:St} {H:Hp} {R:It->Hp->Prop} {lo hi:Int} {t u v:Tok} {tk:Nat} (I:Inv X pins σ H s) (h1:-(2 ^ 62)<=lo) (h2:lo<2 ^ 62) (h3:-(2 ^ 62)<=hi) (h4:hi<2 ^ 62)
 (q:R (Jk lo (hi-lo).toNat) H):wpAny (model X.prog X.w) X.A (pyIter (.ref s.heap.objs.size)) (PIE X pins σ tg R) E { s with heap:=s.heap.push { cls:=.type "range",data:=.fields #[.int lo t,.int hi u,.int 1 v] },toks:=tk }:=by
 refine wpAny_pyIter_range (IsRange.new ..) (small_one h1 h2 h3 h4) ?_
 have I1:Inv X pins σ H { s with heap:=s.heap.push { cls:=.type "range",data:=.fields #[.int lo t,.int hi u,.int 1 v] },toks:=tk }:=I.kept fun b o e=>Heap.get?_push_of_some _ e
 refine ⟨(s.heap.push { cls:=.type "range",data:=.fields #[.int lo t,.int hi u,.int 1 v] }).objs.size,[(s.heap.push { cls:=.type "range",data:=.fields #[.int lo t,.int hi u,.int 1 v] }).objs.size],_,_,H,rfl,
  I1.kept (t':=tk) fun b o e=>Heap.get?_push_of_some _ e,Ha _ lo (hi-lo).toNat,?_,fun b hb=>?_,q⟩
 . have e1:lo+((0:Nat):Int)*1=lo:=by simp
   have e2:(((hi-lo).toNat:Nat):Int)-((0:Nat):Int)=Builtin.Range.rangeSize lo hi 1:=by rw [rangeSize_one]; split<;>omega
   show IsRangeIter _ _ (lo+((0:Nat):Int)*1) ((((hi-lo).toNat:Nat):Int)-((0:Nat):Int)) 1
   rw [e1,e2]
   exact Heap.get?_push_size _ rfl
 . have e:b=(s.heap.push { cls:=.type "range",data:=.fields #[.int lo t,.int hi u,.int 1 v] }).objs.size:=by simpa using hb
   subst e
   exact I1.fpOk (Nat.le_refl _) (I1.hok.fresh (Nat.le_refl _))
noncomputable def U6 (ta:TA):TI:=fun σ H R=>ta σ H fun vs H1=>∃ j:Int,vs=[.int j]/\-(2 ^ 62)<=j/\j<2 ^ 62/\R (Jk 0 j.toNat) H1
noncomputable def Ol (ta:TA):TI:=fun σ H R=>ta σ H fun vs H1=>∃ i j:Int,vs=[.int i,.int j]/\(-(2 ^ 62)<=i/\i<2 ^ 62/\-(2 ^ 62)<=j/\j<2 ^ 62)/\R (Jk i (j-i).toNat) H1
theorem Jm {a:Expr} {ta:TA} {p pos:Pos} (hg:Gl X "range") (hm:X.mg "range" = none) (ha:PA X [a] ta) (hs:starEach [a] X.env=[(false,eval a X.env)]:=by rfl):PI X tg (.Call (.Name "range" p) [a] [] pos) (U6 ta):=by
 intro pins s σ H R I h
 refine Call_ (t7 I hg hm boot_range (PyProof.Rows.callWith_type1 (bu (ha pos pins s σ H _ I h) fun us s1 ⟨vs,H1,I1,r1,q1⟩=>?_) hs rfl))
 obtain ⟨j,e,q1,q2,q⟩:=q1
 subst e
 cases r1 with
 | cons r rr=>
  cases rr
  obtain ⟨t,rfl⟩:=r
  exact call_range_1 (Cd I1 (by omega) (by omega) q1 q2 (by simpa using q))
theorem Jo {a b:Expr} {ta:TA} {p pos:Pos} (hg:Gl X "range") (hm:X.mg "range" = none) (ha:PA X [a,b] ta) (hs:starEach [a,b] X.env=[(false,eval a X.env),(false,eval b X.env)]:=by rfl) (hs2:starEach [b] X.env=[(false,eval b X.env)]:=by rfl):
 PI X tg (.Call (.Name "range" p) [a,b] [] pos) (Ol ta):=by
 intro pins s σ H R I h
 refine Call_ (t7 I hg hm boot_range (PyProof.Rows.callWith_type1 (bu (ha pos pins s σ H _ I h) fun us s1 ⟨vs,H1,I1,r1,q1⟩=>?_) (by rw [hs,hs2]) (by rw [hs2]; rfl)))
 obtain ⟨i,j,e,⟨q1,q2,q3,q4⟩,q⟩:=q1
 subst e
 cases r1 with
 | cons r rr=>
  cases rr with
  | cons r' rr=>
   cases rr
   obtain ⟨t,rfl⟩:=r
   obtain ⟨t',rfl⟩:=r'
   exact call_range_2 (Cd I1 q1 q2 q3 q4 q)
noncomputable def Wb (wi:TI) (g:TG) (tb:TS):TS:=fun D σ H=>wi σ H fun J H1=>∃ W:Nat->Nat->St->Hp->Prop,(∃ m,W 0 m σ H1)/\∀ i m σ H,W i m σ H->
 (J.stop i H/\D.nx σ H)\/(J.go i H/\∃ N:St->Hp->Prop,(∀ σ' H',N σ' H'->∃ m',m'<m/\W (i+1) m' σ' H')/\∀ x H',J.yld i H x H'->g x σ H' fun σ2 H2=>tb { D with nx:=N,ct:=N,bk:=D.nx } σ2 H2)
noncomputable def ud (fp:List Addr) (h:Heap):List (Addr×Obj):=fp.filterMap fun b=>(h.get? b).map fun o=>(b,o)
theorem sG {fp:List Addr} {h:Heap} {b:Addr} {o:Obj} (hb:b∈fp) (e:h.get? b=some o):(b,o)∈ud fp h:=List.mem_filterMap.mpr ⟨b,hb,by rw [e]; rfl⟩
theorem Jp {fp:List Addr} {h:Heap} {p:Addr×Obj} (hp:p∈ud fp h):p.1∈fp/\h.get? p.1=some p.2:=by
 obtain ⟨b,hb,e⟩:=List.mem_filterMap.mp hp
 cases q:h.get? b with
 | none=>rw [q] at e; cases e
 | some o=>
  rw [q] at e
  have e':(b,o)=p:=Option.some.inj e
  subst e'
  exact ⟨hb,q⟩
theorem Inv.pinned {σ:St} {H:Hp} {fp:List Addr} (I:Inv X pins σ H s) (hf:∀ b∈fp,mD X pins H b) (ho:∀ b∈fp,∃ o,s.heap.get? b=some o/\∀ v,o.data≠.cell v):Inv X (pins++ud fp s.heap) σ H s:=
 I.pins_of fun p hp=>(List.mem_append.mp hp).elim (fun z=>I.pin p (List.mem_append_right _ z)) fun z=>by
  obtain ⟨hb,e⟩:=Jp z
  obtain ⟨f0,f1,f2,_⟩:=hf p.1 hb
  obtain ⟨o,e',d⟩:=ho p.1 hb
  rw [e] at e'; cases e'
  exact ⟨e,f0,f1,f2,d⟩
theorem Inv.unpinned {pins pl:List (Addr×Obj)} {σ:St} {H:Hp} (I:Inv X (pins++pl) σ H s):Inv X pins σ H s:=I.pins_of fun p hp=>I.pin p (List.mem_append_right _ (List.mem_append_left _ hp))
theorem wO {iter:Expr} {body:List Stmt} {wi:TI} {g:TG} {tb:TS} {pos:Pos} (hp:PassesOwn (model X.prog X.w) X.A X.env X.xe) (hc:X.calm=true) (hi:PI X tg iter wi) (hg:PG X tg g) (hb:dg X body tb)
 (hs:∀ x,foldedSetIterable iter X.env x=pure x:=by intro _; rfl):PS X (.For tg iter body [] pos) (Wb wi g tb):=by
 intro pins s σ H D I h
 refine wpAny_For (bu (hi pins s σ H _ I h) fun v s1 h1=>bu h1 fun itv s2 h2=>?_) hs
 obtain ⟨it,fp,tn,J,H2,e,I2,T,st2,f2,W,⟨m0,w0⟩,turn⟩:=h2
 subst e
 have stat:∀ {H':Hp},(∀ b∈fp,H' b=none)->∀ b∈fp,mD X pins H' b:=fun hn b hb=>⟨hn b hb,(f2 b hb).2⟩
 refine codeAny_forLoop_any (fun n s'=>∃ i σ' H',Inv X pins σ' H' s'/\tn i s'.heap/\(∀ b∈fp,H' b=none)/\W i n σ' H') ?_ m0 ⟨0,σ,H2,I2,st2,fun b hb=>(f2 b hb).1,w0⟩
 rintro n s3 ⟨i,σ3,H3,I3,st3,fr3,w3⟩
 rcases turn i n σ3 H3 w3 with ⟨stop,qn⟩ | ⟨go,N,hN,step⟩
 . refine wpAny_passesOwn hp (bu (T.done X rfl rfl rfl hc i pins s3 σ3 H3 X.xe I3 (stat fr3) st3 stop) fun r s4 ⟨hr,I4⟩=>?_)
   subst hr
   exact wpAny_execs_nil ⟨σ3,H3,I4,qn⟩
 . refine wpAny_passesOwn hp (bu (T.item X rfl rfl rfl hc i pins s3 σ3 H3 X.xe I3 (stat fr3) st3 go) fun r s4 ⟨u,hr,h4⟩=>?_)
   subst hr
   refine wpAny_passesOwn hp (bu h4 fun _ s5 ⟨x,H5,I5,r5,y5,st5,fr5⟩=>?_)
   have I5':=I5.pinned (stat fr5) (T.obj _ _ st5)
   refine wpAny_passesOwn hp (bu (hg _ s5 σ3 H5 x u _ I5' r5 (step x H5 y5)) fun _ s6 ⟨σ6,H6,I6,q6⟩=>?_)
   refine wpAny_passesOwn hp (bu (hb _ s6 σ6 H6 _ I6 q6) fun f s7 q7=>?_)
   have again:∀ {σ7:St} {H7:Hp},Inv X (pins++ud fp s5.heap) σ7 H7 s7->N σ7 H7->∃ m,m<n/\∃ i σ' H',Inv X pins σ' H' s7/\tn i s7.heap/\(∀ b∈fp,H' b=none)/\W i m σ' H':=fun {σ7 H7} I7 n7=>by
    obtain ⟨m',hm,w7⟩:=hN σ7 H7 n7
    refine ⟨m',hm,i+1,σ7,H7,I7.unpinned,T.keep _ _ _ st5 fun b hb o e=>(I7.pin (b,o) (List.mem_append_right _ (List.mem_append_right _ (sG hb e)))).1,fun b hb=>?_,w7⟩
    obtain ⟨o,e,d⟩:=T.obj _ _ st5 b hb
    exact (I7.pin (b,o) (List.mem_append_right _ (List.mem_append_right _ (sG hb e)))).2.1
   cases f with
   | next=>obtain ⟨σ7,H7,I7,n7⟩:=q7; exact again I7 n7
   | cont=>obtain ⟨σ7,H7,I7,n7⟩:=q7; exact again I7 n7
   | brk=>obtain ⟨σ7,H7,I7,q7⟩:=q7; exact ⟨σ7,H7,I7.unpinned,q7⟩
   | ret v=>obtain ⟨x7,σ7,H7,I7,r7,q7⟩:=q7; exact ⟨x7,σ7,H7,I7.unpinned,r7,q7⟩
end
noncomputable abbrev R2:=V->V->Hp->VK->Prop
noncomputable def dY (X:Cx) (f:Value->Value->Sem Value) (r:R2):Prop:=
 ∀ (pins:List (Addr×Obj)) (s:Shared) (σ:St) (H:Hp) (x y:V) (v u:Value) (Q:VK),Inv X pins σ H s->RelV x v->RelV y u->r x y H Q->
  wpAny (model X.prog X.w) X.A (f v u) (EP X pins σ Q) X.xe s
noncomputable def RJ (X:Cx) (f:Value->Sem Value) (r:V->Hp->VK->Prop):Prop:=
 ∀ (pins:List (Addr×Obj)) (s:Shared) (σ:St) (H:Hp) (x:V) (v:Value) (Q:VK),Inv X pins σ H s->RelV x v->r x H Q->
  wpAny (model X.prog X.w) X.A (f v) (EP X pins σ Q) X.xe s
noncomputable def qz (X:Cx) (f:Value) (r:List V->Hp->VK->Prop):Prop:=
 ∀ (pins:List (Addr×Obj)) (s:Shared) (σ:St) (H:Hp) (xs:List V) (us:List Value) (Q:VK),Inv X pins σ H s->Vals xs us->r xs H Q->
  wpAny (model X.prog X.w) X.A (call f us) (EP X pins σ Q) X.xe s
noncomputable def Wc (X:Cx) (r:V->Hp->(Bool->Hp->Prop)->Prop):Prop:=
 ∀ (pins:List (Addr×Obj)) (s:Shared) (σ:St) (H:Hp) (x:V) (v:Value) (Q:Bool->Hp->Prop),Inv X pins σ H s->RelV x v->r x H Q->
  wpAny (model X.prog X.w) X.A (truthy v) (TP X pins σ Q) X.xe s
noncomputable def Jq (r:R2) (ta tb:TE):TE:=fun σ H Q=>ta σ H fun x H1=>tb σ H1 fun y H2=>r x y H2 Q
noncomputable def Wy (r:V->Hp->VK->Prop) (ta:TE):TE:=fun σ H Q=>ta σ H fun x H1=>r x H1 Q
noncomputable def rI (C:Int->Int->Prop) (g:Int->Int->V):R2:=fun x y H Q=>∃ i j,x=.int i/\y=.int j/\C i j/\Q (g i j) H
noncomputable def qX (g:Int->Int->V):R2:=fun x y H Q=>∃ i j,x=.int i/\y=.int j/\Q (g i j) H
noncomputable def rU (g:Int->V):V->Hp->VK->Prop:=fun x H Q=>∃ i,x=.int i/\Q (g i) H
section
variable {X:Cx} {a b c:Expr} {ta tb tc:TE} {pos:Pos}
theorem Lj (ha:PE X a ta) (hb:PE X b tb) {σ:St} {H:Hp} {R:V->V->Hp->Prop} (I:Inv X pins σ H s)
 (h:ta σ H fun x H1=>tb σ H1 fun y H2=>R x y H2) {Q:Value->Shared->Prop} {f:Value->Value->Sem Value}
 (hf:∀ v u s2 x y H2,Inv X pins σ H2 s2->RelV x v->RelV y u->R x y H2->wpAny (model X.prog X.w) X.A (f v u) Q X.xe s2):
 wpAny (model X.prog X.w) X.A (eval a X.env) (fun v s₁=>wpAny (model X.prog X.w) X.A (eval b X.env) (fun u s₂=>wpAny (model X.prog X.w) X.A (f v u) Q X.xe s₂) X.xe s₁) X.xe s:=by
 refine bu (ha pins s σ H _ I h) fun v s1 ⟨x,H1,I1,r1,q1⟩=>?_
 refine bu (hb pins s1 σ H1 _ I1 q1) fun u s2 ⟨y,H2,I2,r2,q2⟩=>?_
 exact hf v u s2 x y H2 I2 r1 r2 q2
theorem Om {op:Operator} {r:R2} (ho:dY X (binaryOp op) r) (ha:PE X a ta) (hb:PE X b tb):PE X (.BinOp a op b pos) (Jq r ta tb):=by
 intro pins s σ H Q I h
 exact wpAny_BinOp (Lj ha hb I h fun v u s2 x y H2 I2 rx ry q=>ho pins s2 σ H2 x y v u Q I2 rx ry q)
theorem U7 {op:UnaryOp} {r:V->Hp->VK->Prop} (ho:RJ X (unaryOp op) r) (ha:PE X a ta):PE X (.UnaryOp op a pos) (Wy r ta):=by
 intro pins s σ H Q I h
 exact UnaryOp_ (bu (ha pins s σ H _ I h) fun v s1 ⟨x,H1,I1,r1,q1⟩=>ho pins s1 σ H1 x v Q I1 r1 q1)
theorem RK {f:Value->Value->Sem Value} {C:Int->Int->Prop} {g:Int->Int->Int}
 (rule:∀ (i j:Int) (t u:Tok) (s:Shared) (Q:Value->Shared->Prop) (E:Value->Shared->Prop),C i j->Q (.int (g i j) s.toks) { s with toks:=s.toks+1 }->wpAny (model X.prog X.w) X.A (f (.int i t) (.int j u)) Q E s):
 dY X f (rI C fun i j=>.int (g i j)):=by
 intro pins s σ H x y v u Q I rx ry h
 obtain ⟨i,j,rfl,rfl,hc,q⟩:=h
 obtain ⟨t,rfl⟩:=rx
 obtain ⟨t',rfl⟩:=ry
 exact rule i j t t' s _ _ hc ⟨.int (g i j),H,I.tok _,⟨_,rfl⟩,q⟩
theorem RL {f:Value->Value->Sem Value} {g:Int->Int->Int}
 (rule:∀ (i j:Int) (t u:Tok) (s:Shared) (Q:Value->Shared->Prop) (E:Value->Shared->Prop),Q (.int (g i j) s.toks) { s with toks:=s.toks+1 }->wpAny (model X.prog X.w) X.A (f (.int i t) (.int j u)) Q E s):
 dY X f (qX fun i j=>.int (g i j)):=by
 intro pins s σ H x y v u Q I rx ry h
 obtain ⟨i,j,rfl,rfl,q⟩:=h
 obtain ⟨t,rfl⟩:=rx
 obtain ⟨t',rfl⟩:=ry
 exact rule i j t t' s _ _ ⟨.int (g i j),H,I.tok _,⟨_,rfl⟩,q⟩
theorem Lk {f:Value->Value->Sem Value} {g:Int->Int->Bool}
 (rule:∀ (i j:Int) (t u:Tok) (s:Shared) (Q:Value->Shared->Prop) (E:Value->Shared->Prop),Q (.bool (g i j)) s->wpAny (model X.prog X.w) X.A (f (.int i t) (.int j u)) Q E s):
 dY X f (qX fun i j=>.bl (g i j)):=by
 intro pins s σ H x y v u Q I rx ry h
 obtain ⟨i,j,rfl,rfl,q⟩:=h
 obtain ⟨t,rfl⟩:=rx
 obtain ⟨t',rfl⟩:=ry
 exact rule i j t t' s _ _ ⟨.bl (g i j),H,I,rfl,q⟩
noncomputable def RM (i j:Int):Prop:=0<j/\j<1073741824
noncomputable def Hb (i j:Int):Prop:=(-(2 ^ 64)<i/\i<2 ^ 64)\/(-(2 ^ 64)<j/\j<2 ^ 64)
theorem Hb.ok {i j:Int} (h:Hb i j):IntMulOk i j:=by
 rcases h with ⟨h1,h2⟩ | ⟨h1,h2⟩
 . exact .of_left (intBits_le_64 h1 h2)
 . exact .of_right (intBits_le_64 h1 h2)
theorem RN:dY X (binaryOp .Add) (qX fun i j=>.int (i+j)):=RL fun _ _ _ _ _ _ _ q=>add_int q
theorem RP:dY X (binaryOp .Sub) (qX fun i j=>.int (i-j)):=RL fun _ _ _ _ _ _ _ q=>sub_int q
theorem wQ:dY X (binaryOp .Mult) (rI Hb fun i j=>.int (i*j)):=RK fun _ _ _ _ _ _ _ hc q=>mul_int q hc.ok
theorem dI:dY X (binaryOp .FloorDiv) (rI RM fun i j=>.int (i/j)):=RK fun i j _ _ _ _ _ hc q=>by
 have h1:(0:Int)<j:=hc.1
 have h2:j<1073741824:=hc.2
 exact floordiv_int (by omega) (by rw [Int.fdiv_eq_ediv_of_nonneg i (by omega)]; exact q) (.inl (PyProof.noPylong_small (by omega)))
theorem dj:dY X (binaryOp .Mod) (rI (fun _ j=>0<j) fun i j=>.int (i%j)):=RK fun i j _ _ _ _ _ hc q=>by
 have h1:(0:Int)<j:=hc
 exact mod_int' (by omega) (by rw [Int.fmod_eq_emod_of_nonneg i (by omega)]; exact q)
theorem Wz {f:Value->Sem Value} {g:Int->Int}
 (rule:∀ (i:Int) (t:Tok) (s:Shared) (Q:Value->Shared->Prop) (E:Value->Shared->Prop),Q (.int (g i) s.toks) { s with toks:=s.toks+1 }->wpAny (model X.prog X.w) X.A (f (.int i t)) Q E s):
 RJ X f (rU fun i=>.int (g i)):=by
 intro pins s σ H x v Q I rx h
 obtain ⟨i,rfl,q⟩:=h
 obtain ⟨t,rfl⟩:=rx
 exact rule i t s _ _ ⟨.int (g i),H,I.tok _,⟨_,rfl⟩,q⟩
theorem RQ:RJ X (unaryOp .USub) (rU fun i=>.int (-i)):=Wz fun _ _ _ _ _ q=>neg_int q
end
noncomputable def scal:V->V->Bool
 | .non,.non=>true | .non,.int _=>true | .int _,.non=>true | .non,.bl _=>true | .bl _,.non=>true | .non,.str _=>true | .str _,.non=>true
 | .int _,.int _=>true | .bl _,.bl _=>true | .str _,.str _=>true | .byt _,.byt _=>true
 | .int _,.str _=>true | .str _,.int _=>true | .bl _,.str _=>true | .str _,.bl _=>true
 | _,_=>false
section
variable {X:Cx} {a b c:Expr} {ta tb tc:TE} {pos:Pos}
theorem wR {σ:St} {H:Hp} {Q:VK} {k k':Bool} (I:Inv X pins σ H s) (q:Q (.bl k) H) (e:k=k'):EP X pins σ Q (.bool k') s:=by
 subst e
 exact ⟨.bl k,H,I,rfl,q⟩
theorem Bu:dY X (compareOp .Lt) (qX fun i j=>.bl (decide (i<j))):=Lk fun _ _ _ _ _ _ _ q=>lt_int q
theorem Hc:dY X (compareOp .LtE) (qX fun i j=>.bl (decide (i<=j))):=Lk fun _ _ _ _ _ _ _ q=>le_int q
theorem Hd:dY X (compareOp .Gt) (qX fun i j=>.bl (decide (j<i))):=Lk fun _ _ _ _ _ _ _ q=>gt_int q
theorem Jr:dY X (compareOp .In) (fun x y H Q=>∃ i j,x=.str i/\y=.str j/\Q (.bl (!(Builtin.Str.occurrences j i 0 j.length 1).isEmpty)) H):=by
 intro pins s σ H x y v u Q I rx ry h
 obtain ⟨i,j,rfl,rfl,q⟩:=h
 obtain ⟨t,rfl⟩:=rx
 obtain ⟨t',rfl⟩:=ry
 exact in_str (wR I q rfl)
theorem RT:dY X (compareOp .Is) (fun x y H Q=>y=.non/\Q (.bl (decide (x=.non))) H):=by
 intro pins s σ H x y v u Q I rx ry h
 obtain ⟨rfl,q⟩:=h
 cases ry
 refine is_none_gen (wR I q ?_)
 cases x<;>first
  | (cases rx; rfl)
  | (obtain ⟨t,rfl⟩:=rx; rfl)
theorem vd:dY X (compareOp .IsNot) (fun x y H Q=>y=.non/\Q (.bl (!decide (x=.non))) H):=by
 intro pins s σ H x y v u Q I rx ry h
 obtain ⟨rfl,q⟩:=h
 cases ry
 refine isnot_none_gen (wR I q ?_)
 cases x<;>first
  | (cases rx; rfl)
  | (obtain ⟨t,rfl⟩:=rx; rfl)
theorem Ce:dY X (compareOp .NotIn) (fun x y H Q=>∃ i j,x=.str i/\y=.str j/\Q (.bl (!(!(Builtin.Str.occurrences j i 0 j.length 1).isEmpty))) H):=by
 intro pins s σ H x y v u Q I rx ry h
 obtain ⟨i,j,rfl,rfl,q⟩:=h
 obtain ⟨t,rfl⟩:=rx
 obtain ⟨t',rfl⟩:=ry
 exact notIn_str (wR I q rfl)
theorem dY.or {f:Value->Value->Sem Value} {r r':R2} (h:dY X f r) (h':dY X f r'):dY X f (fun x y H Q=>r x y H Q\/r' x y H Q):=by
 intro pins s σ H x y v u Q I rx ry q
 rcases q with q | q
 . exact h pins s σ H x y v u Q I rx ry q
 . exact h' pins s σ H x y v u Q I rx ry q
theorem bx (b:Expr) {op:CmpOp} (h:op≠.In:=by decide) (h2:op≠.NotIn:=by decide):behindInMarks op b=false:=by
 have e1:(op==CmpOp.In)=false:=by cases op<;>first | rfl | exact absurd rfl h
 have e2:(op==CmpOp.NotIn)=false:=by cases op<;>first | rfl | exact absurd rfl h2
 cases b<;>simp [behindInMarks,e1,e2]
theorem PB {op:CmpOp} {r:R2} (ho:dY X (compareOp op) r) (ha:PE X a ta) (hb:PE X b tb) (hm:behindInMarks op b=false):PE X (.Compare a [op] [b] pos) (Jq r ta tb):=by
 intro pins s σ H Q I h
 exact wpAny_Compare1 (Lj ha hb I h fun v u s2 x y H2 I2 rx ry q=>ho pins s2 σ H2 x y v u Q I2 rx ry q) hm
noncomputable def Oo (t:TE):TT:=fun σ H Q=>t σ H fun x H'=>∃ k,x=.bl k/\Q k H'
theorem PK {op:CmpOp} {r:R2} (ho:dY X (compareOp op) r) (ha:PE X a ta) (hb:PE X b tb) (hm:behindInMarks op b=false):PT X (.Compare a [op] [b] pos) (Oo (Jq r ta tb)):=by
 intro pins s σ H Q I h
 refine wpAny_isTrue_Compare1 (bu (ha pins s σ H _ I h) fun v s1 ⟨x,H1,I1,r1,q1⟩=>bu (hb pins s1 σ H1 _ I1 q1) fun u s2 ⟨y,H2,I2,r2,q2⟩=>
  bu (ho pins s2 σ H2 x y v u _ I2 r1 r2 q2) fun c s3 ⟨z,H3,I3,r3,k,e,q3⟩=>?_) hm
 subst e
 cases r3
 exact wpAny_truthy_bool ⟨H3,I3,q3⟩
noncomputable def Js (r r':R2) (ta tb tc:TE):TE:=fun σ H Q=>ta σ H fun x H1=>tb σ H1 fun y H2=>r x y H2 fun z H3=>∃ k,z=.bl k/\
 (if k=true then tc σ H3 fun w' H4=>r' y w' H4 Q else Q (.bl false) H3)
theorem Ln {op op':CmpOp} {r r':R2} (ho:dY X (compareOp op) r) (ho':dY X (compareOp op') r') (ha:PE X a ta) (hb:PE X b tb) (hc:PE X c tc)
 (hm:lastMarks [op,op'] [b,c]=false:=by with_unfolding_all rfl):PE X (.Compare a [op,op'] [b,c] pos) (Js r r' ta tb tc):=by
 intro pins s σ H Q I h
 refine Compare_chain (bu (ha pins s σ H _ I h) fun v s1 ⟨x,H1,I1,r1,q1⟩=>chain_link (bu (hb pins s1 σ H1 _ I1 q1) fun u s2 ⟨y,H2,I2,r2,q2⟩=>
  bu (ho pins s2 σ H2 x y v u _ I2 r1 r2 q2) fun d s3 ⟨z,H3,I3,r3,k,e,q3⟩=>?_)) hm
 subst e
 cases r3
 refine wpAny_truthy_bool ?_
 cases k with
 | false=>exact ite_ff ⟨.bl false,H3,I3,rfl,q3⟩
 | true=>exact ite_tt (chain_last (bu (hc pins s3 σ H3 _ I3 q3) fun w' s4 ⟨z',H4,I4,r4,q4⟩=>ho' pins s4 σ H4 y z' u w' Q I4 r2 r4 q4))
noncomputable def Lp (K:FG) (x:V) (H:Hp) (k:Bool):Prop:=
 match x with
 | .non=>k=false
 | .bl b=>k=b
 | .int i=>k=(i != 0)
 | .str y=>y.length<=sizeLine/\k=((y.length:Int) != 0)
 | .byt y=>y.size<=sizeLine/\k=((y.size:Int) != 0)
 | .ref p=>(∃ xs,bY K H p xs/\k=!xs.isEmpty)\/(∃ xs,cW K H p xs/\k=!xs.isEmpty)\/∃ kvs,H p=some (.dK kvs)/\k=!kvs.isEmpty
 | _=>False
theorem Hf {κ:Type} {kvs:List (κ×V)} {vs:List (κ×Value)} (r:KV kvs vs):(!vs.isEmpty)=!kvs.isEmpty:=by
 cases r<;>rfl
theorem wU {xs:List V} {its:List Value} (r:Vals xs its):(!its.toArray.isEmpty)=!xs.isEmpty:=by
 cases r<;>simp
theorem qY:(sizeLine:Nat)<2 ^ 63:=by rw [sizeLine_eq]; decide
theorem RV:Wc X (fun x H Q=>∃ k,Lp X.K x H k/\Q k H):=by
 intro pins s σ H x v Q I rx h
 obtain ⟨k,e,q⟩:=h
 have hl:=qY
 have hs:sizeLine=16777216:=sizeLine_eq
 cases x with
 | non=>
  cases rx
  have e':k=false:=e
  subst e'
  exact truthy_none ⟨H,I,q⟩
 | bl b=>
  cases rx
  have e':k=b:=e
  subst e'
  exact wpAny_truthy_bool ⟨H,I,q⟩
 | int i=>
  obtain ⟨t,rfl⟩:=rx
  have e':k=(i != 0):=e
  subst e'
  exact PySem.P.truthy_int ⟨H,I,q⟩
 | str y=>
  obtain ⟨t,rfl⟩:=rx
  obtain ⟨hy,e'⟩:y.length<=sizeLine/\k=((y.length:Int) != 0):=e
  subst e'
  exact PySem.P.truthy_str (by omega) ⟨H,I.tok _,q⟩
 | byt y=>
  obtain ⟨t,rfl⟩:=rx
  obtain ⟨hy,e'⟩:y.size<=sizeLine/\k=((y.size:Int) != 0):=e
  subst e'
  exact W.truthy_bytes (by omega) ⟨H,I.tok _,q⟩
 | ref p=>
  cases rx
  have e':(∃ xs,bY X.K H p xs/\k=!xs.isEmpty)\/(∃ xs,cW X.K H p xs/\k=!xs.isEmpty)\/∃ kvs,H p=some (.dK kvs)/\k=!kvs.isEmpty:=e
  rcases e' with ⟨xs,hx,e'⟩ | ⟨xs,hx,e'⟩ | ⟨kvs,hx,e'⟩
  . subst e'
    obtain ⟨its,r,pl,hz⟩:=I.list hx
    have hlen:=r.length
    exact wpAny_truthy_list pl.isList (by simp only [List.size_toArray]; omega) ⟨H,I.tok _,by rw [wU r]; exact q⟩
  . subst e'
    obtain ⟨its,r,pl,hz⟩:=I.tuple hx
    have hlen:=r.length
    exact truthy_tuple pl (by simp only [List.size_toArray]; omega) ⟨H,I.tok _,by rw [wU r]; exact q⟩
  . subst e'
    obtain ⟨hz,hS,vs,r,m⟩:kvs.length<=sizeLine/\(p==sysModules)=false/\∃ vs,KV kvs vs/\s.heap.DictOf (cR X.prog X.w) p vs:=I.hok p _ hx
    have hlen:kvs.length=vs.length:=Paired.length r
    exact wpAny_truthy_dict hS m (by omega) ⟨H,I.tok _,by rw [Hf r]; exact q⟩
 | _=>exact (show False from e).elim
theorem Lr (ha:PE X a ta) (he:∀ whole,isTrue a X.env whole=(do let v ← whole; standAt a.pos; holding [v] (truthy v))):
 PT X a (fun σ H Q=>ta σ H fun x H'=>∃ k,Lp X.K x H' k/\Q k H'):=by
 intro pins s σ H Q I h
 exact isTrue_plain (bu (ha pins s σ H _ I h) fun v s1 ⟨x,H1,I1,r1,q1⟩=>RV pins s1 σ H1 x v Q I1 r1 q1) (he _)
theorem Hg:dY X (binaryOp .Add) (fun x y H Q=>∃ i j,x=.str i/\y=.str j/\i.length+j.length<=sizeLine/\Q (.str (i++j)) H):=by
 intro pins s σ H x y v u Q I rx ry h
 obtain ⟨i,j,rfl,rfl,hz,q⟩:=h
 obtain ⟨t,rfl⟩:=rx
 obtain ⟨t',rfl⟩:=ry
 exact add_str (fun t' tk=>⟨.str (i++j),H,I.tok _,⟨_,rfl⟩,q⟩) hz
theorem vals1 {x:V} {us:List Value} (r:Vals [x] us):∃ u,us=[u]/\RelV x u:=by
 cases r with
 | cons r1 r2=>cases r2; exact ⟨_,rfl,r1⟩
theorem vals2 {x y:V} {us:List Value} (r:Vals [x,y] us):∃ u w',us=[u,w']/\RelV x u/\RelV y w':=by
 cases r with
 | cons r1 r2=>
  cases r2 with
  | cons r3 r4=>cases r4; exact ⟨_,_,rfl,r1,r3⟩
noncomputable def Ls (K:FG) (x:V) (H:Hp) (n:Nat):Prop:=
 match x with
 | .str y=>y.length<=sizeLine/\n=y.length
 | .byt y=>y.size<=sizeLine/\n=y.size
 | .ref p=>(∃ xs,bY K H p xs/\n=xs.length)\/∃ xs,cW K H p xs/\n=xs.length
 | _=>False
theorem pH:qz X (.builtin "len") (fun xs H Q=>∃ x n,xs=[x]/\Ls X.K x H n/\Q (.int n) H):=by
 intro pins s σ H xs us Q I r h
 obtain ⟨x,n,rfl,e,q⟩:=h
 obtain ⟨u,rfl,rx⟩:=vals1 r
 have hl:=qY
 have hs:sizeLine=16777216:=sizeLine_eq
 cases x with
 | str y=>
  obtain ⟨t,rfl⟩:=rx
  obtain ⟨hy,e'⟩:y.length<=sizeLine/\n=y.length:=e
  subst e'
  exact len_str (by omega) ⟨.int _,H,I.tok _,⟨_,rfl⟩,q⟩
 | byt y=>
  obtain ⟨t,rfl⟩:=rx
  obtain ⟨hy,e'⟩:y.size<=sizeLine/\n=y.size:=e
  subst e'
  exact W.len_bytes (by omega) ⟨.int _,H,I.tok _,⟨_,rfl⟩,q⟩
 | ref p=>
  cases rx
  have e':(∃ xs,bY X.K H p xs/\n=xs.length)\/∃ xs,cW X.K H p xs/\n=xs.length:=e
  rcases e' with ⟨xs,hx,e'⟩ | ⟨xs,hx,e'⟩
  . subst e'
    obtain ⟨its,r',pl,hz⟩:=I.list hx
    have hlen:=r'.length
    exact Calls.call_len_list pl.isList (by simp only [List.size_toArray]; omega) ⟨.int xs.length,H,I.tok _,⟨_,by simp only [List.size_toArray]; rw [hlen]⟩,q⟩
  . subst e'
    obtain ⟨its,r',pl,hz⟩:=I.tuple hx
    have hlen:=r'.length
    exact len_tuple pl (by simp only [List.size_toArray]; omega) ⟨.int xs.length,H,I.tok _,⟨_,by simp only [List.size_toArray]; rw [hlen]⟩,q⟩
 | _=>exact (show False from e).elim
end
structure vX (h:Heap) (x dx C:Addr) (mA:Str->Option Value):Prop where
 obj:h.get? x=some (W.instObj C dx)
 ns:h.Ns1 dx mA
 ne:dx≠x
theorem Jt {h:Heap} {dx:Addr} {mA:Str->Option Value} (n:h.Ns1 dx mA):∃ od,h.get? dx=some od/\∀ name,W.lookIn name od=some (mA name):=by
 obtain ⟨o,es,ep,ho,hd,hk,_,hm⟩:=n
 refine ⟨o,ho,fun name=>?_⟩
 have e:=hm name
 unfold nsFind findBy at e
 rw [← Array.find?_toList] at e
 unfold W.lookIn
 rw [hd]
 dsimp only
 split
 . rename_i y q
   rw [q] at e
   exact congrArg some e
 . rename_i q
   rw [q] at e
   have a:es.toList.any (·.refKey)=false:=by
    rw [List.any_eq_false]
    intro y hy
    obtain ⟨z,t,hkey⟩:=hk y (Array.mem_toList_iff.mp hy)
    simp [DictEntry.refKey,hkey]
   have a':¬ es.toList.any (·.refKey)=true:=by rw [a]; exact Bool.false_ne_true
   rw [if_neg a']
   exact congrArg some e
theorem vX.look {h:Heap} {x dx C:Addr} {mA:Str->Option Value} (I:vX h x dx C mA):∃ od,W.InstAt h x (W.instObj C dx) C (some od)/\∀ name,W.lookIn name od=some (mA name):=
 let ⟨od,ho,hl⟩:=Jt I.ns
 ⟨od,⟨I.obj,rfl,rfl,ho⟩,hl⟩
section
variable {prog:Program} {w:World} {A:Around} {E:Value->Shared->Prop} {s:Shared} {K:FG} {x dx C f:Addr} {mA:Str->Option Value} {name:Str} {v:Value}
theorem PN {expr:Bool} {Q:Value->Shared->Prop} (X:K.In s.heap) (I:vX s.heap x dx C mA) (hg:W.plainGet K C name=true) (hh:W.hasDictIn K C=true)
 (ha:W.findIn K (.ref C) name=some none) (hv:mA name=some v) (hv':W.handedIn v=true) (h:Q v { s with toks:=s.toks+1 }):
 wpAny (model prog w) A (getAttr (.ref x) name expr) Q E s:=by
 obtain ⟨od,J,hl⟩:=I.look
 exact W.get_value X J (W.plainGet_of hg).1 (W.findObj_own hh ha rfl (by rw [hl,hv])) hv' h
theorem Lw {pl:Sem Bool} {Q:Value×List Value->Shared->Prop} (X:K.In s.heap) (I:vX s.heap x dx C mA) (hg:W.plainGet K C name=true)
 (hf:W.findIn K (.ref C) name=some (some (.ref f))) (ht:W.isFn K (.ref f)=true) (hv:mA name=none) (h:Q (.ref f,[.ref x]) s):
 wpAny (model prog w) A (getMethod (.ref x) name pl) Q E s:=by
 obtain ⟨od,J,hl⟩:=I.look
 exact W.method_fn X J (W.plainGet_of hg).1 (W.plainGet_of hg).2 hf (beq_iff_eq.mp ht) (by show (W.lookIn name od).map (·.isSome)=some false; rw [hl,hv]; rfl) h
theorem PQ {ns:List Str} {Q:Unit->Shared->Prop} (X:K.In s.heap) (I:vX s.heap x dx C mA)
 (hs:W.findIn K (.ref C) "__setattr__" = some (some (.builtin "object.__setattr__"))) (hp:W.plainOver K C=true) (ht:W.takerIn K C name=some none) (hh:W.hasDictIn K C=true)
 (hw:PySem.Within mA ns) (hsz:ns.length<=sizeLine)
 (h:∀ h',vX h' x dx C (fun y=>if y=name then some v else mA y)->Heap.SameBut dx s.heap h'->Q () { s with heap:=h',toks:=s.toks+2 }):
 wpAny (model prog w) A (setAttr (.ref x) name v) Q E s:=by
 obtain ⟨od,J,hl⟩:=I.look
 refine W.set_plain X J hs (W.osa_open (s:={ s with toks:=s.toks+1 }) (r:=none) X J hp ht fun b=>?_)
 obtain ⟨cd,hc,hd'⟩:=W.any_some hh
 have hx:s.heap.get? x=some ⟨.ref C,some dx,.plain,#[]⟩:=I.obj
 refine wpAny_bind (wpAny_pure (wpAny_bind (wpAny_bind (wpAny_loadPart hx (wpAny_bind (W.Looks.here (s:={ s with toks:=s.toks+1 }) (W.looks_clsIn X hc) ?_))))))
 rw [hd']
 refine wpAny_pure (a:=some dx) (wpAny_bind (wpAny_pure (wpAny_bind ?_)))
 refine wpAny_nsSet1 (s:={ s with toks:=s.toks+1 }) I.ns fun h' hn2 hs2=>?_
 obtain ⟨oD,esD,epD,hoD,hdD,hcD⟩:=hn2.count (PySem.Within.cons name v hw)
 refine wpAny_bind (wpAny_lookBehind hoD (by rw [hdD]; exact pastItsLine_dict (Nat.le_trans hcD (by rw [List.length_cons]; omega))) ?_)
 exact wpAny_pure (h _ ⟨(hs2.2 _ (Ne.symm I.ne)).trans I.obj,hn2,I.ne⟩ hs2)
theorem Lx {R:Result->Shared->Prop} {vs:List Value} {kw:List (Str×Value)} (X:K.In s.heap) (hm:W.makesIn K C=true)
 (hi:W.findIn K (.ref C) "__init__" = some (some (.ref f))) (hf:W.typeIn K (.ref f)=some (.type "function"))
 (h:codeAny (model prog w) (A.under (.builtin "type.__call__" ⟨.ref C::vs,kw⟩)) (.call (.ref f) ⟨.ref (s.heap.objs.size+1)::vs,kw⟩) (W.InitBack (s.heap.objs.size+1) R)
   { s with heap:=(s.heap.push W.emptyDict).push (W.instObj C s.heap.objs.size) }):
 codeAny (model prog w) A (.call (.ref C) ⟨vs,kw⟩) R s:=by
 obtain ⟨hh,g,d,t,os⟩:=s
 exact W.make_core (W.makes_of X hm) (W.looks_findIn X hi) (fun self=>W.bind_fn X self hf) (.inl rfl) h
end
noncomputable def gO (f:Str) (v:V):List (Str×V)->List (Str×V)
 | []=>[(f,v)]
 | (g,x)::r=>if g=f then (g,v)::r else (g,x)::gO f v r
theorem vM (f g:Str) (v:V):∀ fs:List (Str×V),(gO f v fs).lookup g=if g=f then some v else fs.lookup g
 | []=>by
  show List.lookup g [(f,v)]=_
  by_cases h:g=f
  . have hb:(g==f)=true:=beq_iff_eq.mpr h
    simp only [List.lookup,hb,if_pos h]
  . have hb:(g==f)=false:=beq_eq_false_iff_ne.mpr h
    simp only [List.lookup,hb,if_neg h]
 | (k,x)::r=>by
  have ih:=vM f g v r
  rw [show gO f v ((k,x)::r)=(if k=f then (k,v)::r else (k,x)::gO f v r) from rfl]
  by_cases hk:k=f
  . rw [if_pos hk]
    by_cases h:g=k
    . have hb:(g==k)=true:=beq_iff_eq.mpr h
      simp only [List.lookup,hb,if_pos (h.trans hk)]
    . have hb:(g==k)=false:=beq_eq_false_iff_ne.mpr h
      simp only [List.lookup,hb,if_neg (fun e:g=f=>h (e.trans hk.symm))]
  . rw [if_neg hk]
    by_cases h:g=k
    . have hb:(g==k)=true:=beq_iff_eq.mpr h
      simp only [List.lookup,hb,if_neg (fun e:g=f=>hk (h.symm.trans e))]
    . have hb:(g==k)=false:=beq_eq_false_iff_ne.mpr h
      simp only [List.lookup,hb]
      exact ih
theorem ue (f:Str) (v:V):∀ fs:List (Str×V),f∈(gO f v fs).map (·.1)/\∀ g,g∈fs.map (·.1)->g∈(gO f v fs).map (·.1)
 | []=>⟨by simp [gO],fun g h=>by simp at h⟩
 | (k,x)::r=>by
  obtain ⟨i1,i2⟩:=ue f v r
  rw [show gO f v ((k,x)::r)=(if k=f then (k,v)::r else (k,x)::gO f v r) from rfl]
  by_cases hk:k=f
  . rw [if_pos hk]
    subst hk
    exact ⟨by simp,fun g h=>by simpa using h⟩
  . rw [if_neg hk]
    refine ⟨?_,fun g h=>?_⟩
    . rw [List.map_cons]
      exact List.mem_cons_of_mem _ i1
    . rw [List.map_cons] at h ⊢
      rcases List.mem_cons.mp h with e | e
      . exact List.mem_cons.mpr (.inl e)
      . exact List.mem_cons_of_mem _ (i2 g e)
theorem vN (f:Str) (v:V):∀ fs:List (Str×V),(gO f v fs).length<=fs.length+1
 | []=>by simp [gO]
 | (k,x)::r=>by
  have ih:=vN f v r
  rw [show gO f v ((k,x)::r)=(if k=f then (k,v)::r else (k,x)::gO f v r) from rfl]
  by_cases hk:k=f
  . rw [if_pos hk,List.length_cons,List.length_cons]; omega
  . rw [if_neg hk,List.length_cons,List.length_cons]; omega
theorem kW.some_of {v:V} {o:Option Value} (r:kW (some v) o):∃ u,o=some u/\RelV v u:=by
 cases o with
 | none=>exact (show False from r).elim
 | some u=>exact ⟨u,rfl,r⟩
theorem kW.none_of {o:Option Value} (r:kW none o):o=none:=by
 cases o with
 | none=>rfl
 | some u=>exact (show False from r).elim
theorem Ju {v:V} {u:Value} (r:RelV v u):W.handedIn u=true:=by
 cases v with
 | non=>cases (show u=Value.none from r); rfl
 | bl b=>cases (show u=Value.bool b from r); rfl
 | int i=>obtain ⟨t,e⟩:=(show ∃ t,u=Value.int i t from r); cases e; rfl
 | str x=>obtain ⟨t,e⟩:=(show ∃ t,u=Value.str x t from r); cases e; rfl
 | byt b=>obtain ⟨t,e⟩:=(show ∃ t,u=Value.bytes b t from r); cases e; rfl
 | flt b=>obtain ⟨t,e⟩:=(show ∃ t,u=Value.float b t from r); cases e; rfl
 | ref a=>cases (show u=Value.ref a from r); rfl
 | ty n=>cases (show u=Value.type n from r); rfl
section
variable {P:Program} {w:World} {H H':Hp} {h h':Heap} {a C dx:Addr} {fs fs':List (Str×V)}
theorem yX (hok:eU P w H h) (e:H a=some (.ins C dx fs)):∃ mA,vX h a dx C mA/\(∀ f,kW (fs.lookup f) (mA f))/\PySem.Within mA (fs.map (·.1))/\fs.length<=1000/\H dx=some (.own a):=by
 obtain ⟨d,z,ne,ob,mA,n,r,q⟩:=(show dw P w H h a (.ins C dx fs) from hok a _ e)
 exact ⟨mA,⟨ob,n,ne⟩,r,q,z,d⟩
end
structure uf (K:FG) (C:Addr):Prop where
 pg:W.plainGet K C Str.empty=true
 hd:W.hasDictIn K C=true
 po:W.plainOver K C=true
 sa:W.findIn K (.ref C) "__setattr__" = some (some (.builtin "object.__setattr__"))
theorem uf.get {K:FG} {C:Addr} (c:uf K C) (f:Str):W.plainGet K C f=true:=c.pg
noncomputable def lg (K:FG) (C:Addr) (f:Str):Prop:=W.findIn K (.ref C) f=some none
theorem lg.taker {K:FG} {C:Addr} {f:Str} (n:lg K C f):W.takerIn K C f=some none:=by
 unfold W.takerIn
 rw [show W.findIn K (.ref C) f=some none from n]
 rfl
structure Meth (K:FG) (C:Addr) (m:Str) (f:Addr):Prop where
 at_:W.findIn K (.ref C) m=some (some (.ref f))
 fn:W.isFn K (.ref f)=true
 kp:W.keepIn K (.ref f)=true
section
variable {X:Cx} {pins:List (Addr×Obj)} {σ:St} {H:Hp} {s:Shared} {a C dx:Addr} {fs:List (Str×V)} {f:Str} {v:V} {A:Around} {E:Value->Shared->Prop}
theorem Hi {b:Bool} {Q:Value->Shared->Prop} (I:Inv X pins σ H s) (e:H a=some (.ins C dx fs)) (c:uf X.K C) (n:lg X.K C f) (l:fs.lookup f=some v)
 (h:∀ u s',Inv X pins σ H s'->RelV v u->Q u s'):wpAny (model X.prog X.w) A (getAttr (.ref a) f b) Q E s:=by
 obtain ⟨mA,O,r,_,_,_⟩:=yX I.hok e
 obtain ⟨u,hu,ru⟩:=kW.some_of (v:=v) (o:=mA f) (by rw [← l]; exact r f)
 exact PN I.kIn O (c.get f) c.hd n hu (Ju ru) (h u _ (I.tok _) ru)
theorem sH {m:Str} {g:Addr} {pl:Sem Bool} {Q:Value×List Value->Shared->Prop} (I:Inv X pins σ H s) (e:H a=some (.ins C dx fs)) (c:uf X.K C) (k:Meth X.K C m g) (l:fs.lookup m=none)
 (h:Q (.ref g,[.ref a]) s):wpAny (model X.prog X.w) A (getMethod (.ref a) m pl) Q E s:=by
 obtain ⟨mA,O,r,_,_,_⟩:=yX I.hok e
 have hn:mA m=none:=kW.none_of (by rw [← l]; exact r m)
 exact Lw I.kIn O (c.get m) k.at_ k.fn hn h
theorem Hj {y:V} {u:Value} {Q:Unit->Shared->Prop} (I:Inv X pins σ H s) (e:H a=some (.ins C dx fs)) (c:uf X.K C) (n:lg X.K C f) (hl:fs.length<1000) (ry:RelV y u)
 (h:∀ s',Inv X pins σ (upd H a (.ins C dx (gO f y fs))) s'->Q () s'):wpAny (model X.prog X.w) A (setAttr (.ref a) f u) Q E s:=by
 obtain ⟨mA,O,r,wi,_,ho⟩:=yX I.hok e
 have hz:(fs.map (·.1)).length<=sizeLine:=by rw [List.length_map,sizeLine_eq]; omega
 refine PQ I.kIn O c.sa c.po n.taker c.hd wi hz fun h' O' sb=>h _ ?_
 have hd:∃ o,h'.get? dx=some o:=let ⟨o,_,_,e',_⟩:=O'.ns; ⟨o,e'⟩
 refine I.write (x:=a) (e:=dx) (by rw [e]; exact True.intro) (.inr ho) (fun b q hb z=>(sb.2 b hb).trans z) hd ?_
 refine ⟨by rw [aP O.ne]; exact ho,?_,O.ne,O'.obj,_,O'.ns,fun g=>?_,fun g hg=>?_⟩
 . have:=vN f y fs; omega
 . show kW ((gO f y fs).lookup g) (if g=f then some u else mA g)
   rw [vM]
   by_cases q:g=f
   . rw [if_pos q,if_pos q]; exact ry
   . rw [if_neg q,if_neg q]; exact r g
 . by_cases q:g=f
   . rw [q]; exact (ue f y fs).1
   . refine (ue f y fs).2 g (wi g fun z=>hg ?_)
     show (if g=f then some u else mA g)=none
     rw [if_neg q]; exact z
theorem Inv.made (I:Inv X pins σ H s):Inv X pins σ (upd (upd H s.heap.objs.size (.own (s.heap.objs.size+1))) (s.heap.objs.size+1) (.ins C s.heap.objs.size []))
 { s with heap:=(s.heap.push W.emptyDict).push (W.instObj C s.heap.objs.size) }:=by
 have e1:(s.heap.push W.emptyDict).get? s.heap.objs.size=some W.emptyDict:=Heap.get?_push_size s.heap rfl
 have e2:((s.heap.push W.emptyDict).push (W.instObj C s.heap.objs.size)).get? (s.heap.objs.size+1)=some (W.instObj C s.heap.objs.size):=by
  have:=Heap.get?_push_size (s.heap.push W.emptyDict) (o:=W.instObj C s.heap.objs.size) rfl
  rwa [Heap.size_push] at this
 have e3:(s.heap.push W.emptyDict).Ns s.heap.objs.size (fun _=>none):=⟨W.emptyDict,#[],_,e1,rfl,(fun e he=>absurd he (by simp)),fun _=>rfl⟩
 have I1:=I.laid (a:=s.heap.objs.size) (o:=.own (s.heap.objs.size+1)) (h':=s.heap.push W.emptyDict) (t':=s.toks) (fun b u q=>Heap.get?_push_of_some _ q) (Nat.le_refl _) ⟨_,e1⟩
 refine I1.laid (a:=s.heap.objs.size+1) (o:=.ins C s.heap.objs.size []) (t':=s.toks) (fun b u q=>Heap.get?_push_of_some _ q) (Nat.le_of_eq (Heap.size_push _ _)) ?_
 have ne:s.heap.objs.size≠s.heap.objs.size+1:=Nat.ne_of_lt (Nat.lt_succ_self _)
 refine ⟨by rw [aP ne,bj],Nat.zero_le _,ne,e2,fun _=>none,(Heap.Ns1.of_empty e3).at fun o q=>Heap.get?_push_of_some _ q,fun _=>True.intro,fun y hy=>absurd rfl hy⟩
theorem P0 {prog:Program} {env:Env} {e:Expr} {f:Str} {pos:Pos} {Q:Value->Shared->Prop} (hb:attributeBase e f env (eval e env)=eval e env)
 (h:wpAny (model prog w) A (eval e env) (fun o s₁=>wpAny (model prog w) A (getAttr o f true) Q E s₁) E s):wpAny (model prog w) A (eval (.Attribute e f pos) env) Q E s:=
 Attribute_any_ h (by rw [arm_eval_Attribute,hb])
end
noncomputable def Wd (K:FG) (ta:TE) (f:Str):TE:=fun σ H Q=>ta σ H fun x H1=>∃ a C dx fs v,x=.ref a/\H1 a=some (.ins C dx fs)/\uf K C/\lg K C f/\fs.lookup f=some v/\Q v H1
noncomputable def We (K:FG) (ta tv:TE) (f:Str):TS:=fun D σ H=>tv σ H fun y H1=>ta σ H1 fun x H2=>∃ a C dx fs,x=.ref a/\H2 a=some (.ins C dx fs)/\uf K C/\lg K C f/\fs.length<1000/\
 D.nx σ (upd H2 a (.ins C dx (gO f y fs)))
section
variable {X:Cx} {o e value:Expr} {f:Str} {pos pos' tpos:Pos} {ta tv:TE}
theorem RW (he:PE X e ta) (hb:attributeBase e f X.env (eval e X.env)=eval e X.env):PE X (.Attribute e f pos) (Wd X.K ta f):=by
 intro pins s σ H Q I h
 refine P0 hb (bu (he pins s σ H _ I h) fun u s1 ⟨x,H1,I1,rx,a,C,dx,fs,v,ex,ea,c,n,l,q⟩=>?_)
 subst ex
 obtain rfl:u=Value.ref a:=rx
 exact Hi I1 ea c n l fun u' s2 I2 ru=>⟨v,H1,I2,ru,q⟩
theorem RX (ha:PE X o ta) (hv:PE X value tv) (hs:swapsWith value (some (.Attribute o f pos')) pos.line X.env=pure false):PS X (.Assign [.Attribute o f pos'] value pos) (We X.K ta tv f):=by
 intro pins s σ H D I h
 refine plainObj_wpAny_Assign_Attribute (bu (hv pins s σ H _ I h) fun u s1 ⟨y,H1,I1,ry,q⟩=>bu (ha pins s1 σ H1 _ I1 q) fun ov s2 ⟨x,H2,I2,rx,a,C,dx,fs,ex,ea,c,n,l,q2⟩=>?_) hs
 subst ex
 obtain rfl:ov=Value.ref a:=rx
 exact Hj I2 ea c n l ry fun s3 I3=>⟨σ,_,I3,q2⟩
noncomputable def Ly:V->V->Hp->VK->Prop:=fun x y H Q=>∃ i j,x=.int i/\y=.int j/\Q (.int (i+j)) H
theorem UV {pl:Sem Bool} {m:Str} {apos:Pos} {args:List Expr} {σ:St} {H:Hp} {Q:Value->Shared->Prop} {te:TE} (he:PE X e te) (I:Inv X pins σ H s)
 (h:te σ H fun x H1=>∃ a C dx fs g,x=.ref a/\H1 a=some (.ins C dx fs)/\uf X.K C/\Meth X.K C m g/\fs.lookup m=none/\
   ∀ s1,Inv X pins σ H1 s1->wpAny (model X.prog X.w) X.A (callWith pos (.ref g) [.ref a] (backTo pos (starEach args X.env)) (backToKw pos (keywordEach [] X.env))) Q X.xe s1)
 (ht:eval (.Call (.Attribute e m apos) args [] pos) X.env=(do
   let ov ← eval e X.env
   standAt apos.atName
   let (f,first) ← holding [ov] (getMethod ov m pl)
   callWith pos f first (backTo pos (starEach args X.env)) (backToKw pos (keywordEach [] X.env)))):
 wpAny (model X.prog X.w) X.A (eval (.Call (.Attribute e m apos) args [] pos) X.env) Q X.xe s:=by
 refine W.methodCall_KW (pl:=pl) (bu (he pins s σ H _ I h) fun u s1 ⟨x,H1,I1,rx,a,C,dx,fs,g,ex,ea,c,k,l,q⟩=>?_) ht
 subst ex
 obtain rfl:u=Value.ref a:=rx
 exact sH I1 ea c k l (q s1 I1)
end
section
variable {X:Cx} {pins:List (Addr×Obj)} {σ:St} {H:Hp} {s:Shared} {A:Around} {E:Value->Shared->Prop} {Q:Value->Shared->Prop} {c:Value} {b:Bool}
end
structure cV (b:Bool) (k:Nat) (A:Around):Prop where
 hd:b=true->A.handled=none
 dp:A.depth+3*k+5<recursionLimit
 un:A.units+16*k+200<cLine
 gd:A.guards=some []
noncomputable abbrev eQ:=cV true
theorem cV.mono {b:Bool} {j k:Nat} (r:cV b k A) (h:j<=k):cV b j A:=⟨r.hd,by have:=r.dp; omega,by have:=r.un; omega,r.gd⟩
theorem cV.deeper {b:Bool} {k:Nat} (r:cV b (k+1) A) (env:Env):cV b k (A.deeper env):=
 ⟨r.hd,by have:=r.dp; show A.depth+1+3*k+5<_; omega,by have:=r.un; show A.units+3+16*k+200<_; omega,r.gd⟩
theorem Hk {C:Addr} {us:List Value} {kw:List (Str×Value)}:(A.under (.builtin "type.__call__" ⟨.ref C::us,kw⟩)).depth=A.depth+1:=by
 first | rfl | simp [Around.under,Code.weight,Code.isCreation,Code.isGuard,Code.isCaller,Code.frames,Code.isFrame,guardIds]
theorem Hl {C:Addr} {us:List Value} {kw:List (Str×Value)}:(A.under (.builtin "type.__call__" ⟨.ref C::us,kw⟩)).units=A.units+1:=by
 first | rfl | simp [Around.under,Code.cUnits,Code.frames,Code.isFrame]
theorem cV.make {b:Bool} {k:Nat} (r:cV b (k+1) A) (C:Addr) (us:List Value) (kw:List (Str×Value)):cV b k (A.under (.builtin "type.__call__" ⟨.ref C::us,kw⟩)):=
 ⟨r.hd,by have:=r.dp; rw [Hk]; omega,by have:=r.un; rw [Hl]; omega,by first | exact r.gd | (simpa [Around.under,Code.isGuard,guardIds] using r.gd)⟩
theorem cV.depth {b:Bool} {k:Nat} (r:cV b k A):A.depth<recursionLimit:=by have:=r.dp; omega
theorem cV.units {b:Bool} {k:Nat} (r:cV b k A):A.units+64<cLine:=by have:=r.un; omega
noncomputable def Cg:TA:=fun _ H Q=>Q [] H
noncomputable def vf (ta:TE) (tr:TA):TA:=fun σ H Q=>ta σ H fun x H1=>tr σ H1 fun xs H2=>Q (x::xs) H2
section
variable {X:Cx} {e:Expr} {es:List Expr} {te:TE} {t:TA} {pos:Pos}
theorem jV:PA X [] Cg:=fun _ _ _ _ H Q I h=>Calls.spliced_nil ⟨[],H,I,.nil,h⟩
theorem cT (ha:PE X e te) (hr:PA X es t) (hs:starEach (e::es) X.env=(false,eval e X.env)::starEach es X.env:=by rfl):PA X (e::es) (vf te t):=by
 intro pos pins s σ H Q I h
 rw [hs]
 show wpAny _ _ (spliced ((false,eval e X.env)::backTo pos (starEach es X.env))) _ _ s
 refine Calls.spliced_cons (bu (ha pins s σ H _ I h) fun u s1 ⟨x,H1,I1,r1,q1⟩=>?_)
 exact bu (hr pos pins s1 σ H1 _ I1 q1) fun us s2 ⟨xs,H2,I2,r2,q2⟩=>⟨x::xs,H2,I2,.cons r1 r2,q2⟩
noncomputable def RZ (t:TA):TE:=fun σ H Q=>t σ H fun xs H1=>xs.length<=sizeLine/\∀ p,H1 p=none->Q (.ref p) (upd H1 p (.tup xs))
noncomputable def Wf (t:TA):TE:=fun σ H Q=>t σ H fun xs H1=>xs.length<=sizeLine/\∀ p,H1 p=none->Q (.ref p) (upd H1 p (.lst xs))
theorem Ci {x1} (h:PA X es t):PE X (.Tuple es x1 pos) (RZ t):=by
 intro pins s σ H Q I hq
 refine wpAny_Tuple_spliced (bu (h pos pins s σ H _ I hq) fun us s1 ⟨xs,H1,I1,r,z,q⟩=>⟨by rw [← r.length]; exact z,?_⟩)
 have hf:H1 s1.heap.objs.size=none:=I1.hok.fresh (Nat.le_refl _)
 refine ⟨.ref s1.heap.objs.size,upd H1 s1.heap.objs.size (.tup xs),I1.laid (t':=s1.toks) (fun b u e=>Heap.get?_push_of_some _ e) (Nat.le_refl _) ?_,rfl,q _ hf⟩
 exact ⟨z,us,r,⟨_,Heap.get?_push_size _ rfl,rfl,_,rfl⟩⟩
theorem R0 (h:PA X es t):PE X (.List es pos) (Wf t):=by
 intro pins s σ H Q I hq
 refine wpAny_List_spliced (bu (h pos pins s σ H _ I hq) fun us s1 ⟨xs,H1,I1,r,z,q⟩=>⟨by rw [← r.length]; exact z,?_⟩)
 have hf:H1 s1.heap.objs.size=none:=I1.hok.fresh (Nat.le_refl _)
 refine ⟨.ref s1.heap.objs.size,upd H1 s1.heap.objs.size (.lst xs),I1.laid (t':=s1.toks) (fun b u e=>Heap.get?_push_of_some _ e) (Nat.le_refl _) ?_,rfl,q _ hf⟩
 exact ⟨z,us,0,r,Heap.get?_push_size _ rfl⟩
end
noncomputable abbrev Sp:=List V->Hp->VK->XK->Prop
noncomputable abbrev qZ:=List Env->Hp->Shared->XK->Value->Shared->Prop
structure vY (P:Program) (w:World) (K:FG) (mg:Str->Option Value) (base:Heap) (A:Around) (outer:List Env) (s:Shared) (H:Hp):Prop where
 frames:A.frames=some outer
 mod:Mod K mg base
 bs:∀ b o,base.get? b=some o->s.heap.get? b=some o/\H b=none
 bsz:base.objs.size<=s.heap.objs.size
 funs:s.heap.FunFrames base outer
 frf:∀ b∈frs outer,H b=none
 hok:eU P w H s.heap
 bare:AllBare s.gens
noncomputable def CE (outer:List Env) (P:Program) (w:World) (H:Hp) (s:Shared) (Q:VK) (u:Value) (s':Shared):Prop:=
 ∃ v H',s'.os=s.os/\AllBare s'.gens/\Un (frs outer) [] H H' s.heap s'.heap/\eU P w H' s'.heap/\RelV v u/\Q v H'
noncomputable def CR (CX:qZ) (outer:List Env) (P:Program) (w:World) (H:Hp) (s:Shared) (Q:VK) (E:XK) (r:Result) (s':Shared):Prop:=
 match r with
 | .ok (.ret u)=>CE outer P w H s Q u s'
 | .ok _=>False
 | .error e=>CX outer H s E e s'
structure oK (b:Bool) (P:Program) (w:World) (K:FG) (mg:Str->Option Value) (base:Heap) (CX:qZ) (k:Nat) (f:Addr) (fd:FuncData) (ps:List Str) (sp:Sp):Prop where
 len:∀ vs H Q E,sp vs H Q E->vs.length=ps.length
 run:∀ (A:Around) (outer:List Env) (s:Shared) (H:Hp) (args:Args) (us:List Value) (vs:List V) (Q:VK) (E:XK),cV b k A->vY P w K mg base A outer s H->BindsTo s fd args (ps.zip us)->Vals vs us->sp vs H Q E->
  codeAny (model P w) A (.call (.ref f) args) (CR CX outer P w H s Q E) s
noncomputable abbrev jr:=oK true
theorem oK.imp {b:Bool} {K:FG} {mg:Str->Option Value} {base:Heap} {CX:qZ} {k:Nat} {f:Addr} {fd:FuncData} {ps:List Str} {sp sp':Sp} (F:oK b P w K mg base CX k f fd ps sp)
 (h:∀ vs H Q E,sp' vs H Q E->sp vs H Q E):oK b P w K mg base CX k f fd ps sp':=
 ⟨fun vs H Q E q=>F.len vs H Q E (h _ _ _ _ q),fun A outer s H args us vs Q E hr he hb hv hs=>F.run A outer s H args us vs Q E hr he hb hv (h _ _ _ _ hs)⟩
theorem vY.make {K:FG} {mg:Str->Option Value} {base:Heap} {outer:List Env} {H:Hp} (e:vY P w K mg base A outer s H) (C:Addr) (us:List Value) (kw:List (Str×Value)):
 vY P w K mg base (A.under (.builtin "type.__call__" ⟨.ref C::us,kw⟩)) outer s H:=⟨by first | exact e.frames | (simpa [Around.under,Code.envs,Code.isFrame,pushEnvs] using e.frames),e.mod,e.bs,e.bsz,e.funs,e.frf,e.hok,e.bare⟩
section
variable {X:Cx} {pins:List (Addr×Obj)} {σ:St} {H:Hp} {s s':Shared}
theorem Inv.env0 (I:Inv X pins σ H s):vY X.prog X.w X.K X.mg X.base X.A X.stack s H:=
 ⟨I.ok.frames,I.ok.mod,I.bs,Nat.le_trans I.ok.bsz I.sz,I.stack,I.stkFree,I.hok,I.bare⟩
theorem Inv.after {Q:VK} {u:Value} (I:Inv X pins σ H s) (h:CE X.stack X.prog X.w H s Q u s'):EP X pins σ Q u s':=by
 obtain ⟨v,H',os,bare,un,hok,r,q⟩:=h
 obtain ⟨hh,g,d,t,os'⟩:=s'
 obtain rfl:os'=s.os:=os
 exact ⟨v,H',I.call (h':=hh) (g':=g) (d':=d) (t':=t) (ch:=[]) un hok bare (fun b z=>absurd z (by simp)),r,q⟩
end
noncomputable def Bv (sp:Sp) (dvs:List V) (E:XK) (t:TA):TE:=fun σ H Q=>t σ H fun vs H1=>sp (vs++dvs) H1 Q E
noncomputable def Bw (C:Addr) (m:Str) (sp:Sp) (dvs:List V) (E:XK) (ta:TE) (t:TA):TE:=fun σ H Q=>ta σ H fun x H1=>∃ a dx fs,x=.ref a/\H1 a=some (.ins C dx fs)/\fs.lookup m=none/\
 t σ H1 fun vs H2=>sp (x::(vs++dvs)) H2 Q E
noncomputable def Oq (C:Addr) (sp:Sp) (dvs:List V) (E:XK) (t:TA):TE:=fun σ H Q=>t σ H fun vs H1=>∀ x dx,H1 x=none->H1 dx=none->dx≠x->
 sp (.ref x::(vs++dvs)) (upd (upd H1 dx (.own x)) x (.ins C dx [])) (fun v H2=>v=.non/\Q (.ref x) H2) E
noncomputable def Binds (K:FG) (fd:FuncData) (ps:List Str) (ds:List Value):Prop:=
 ∀ (s:Shared) (us:List Value),K.In s.heap->(us++ds).length=ps.length->BindsTo s fd ⟨us,[]⟩ (ps.zip (us++ds))
theorem Binds.all {K:FG} {fd:FuncData} {ps:List Str} (h:∀ us:List Value,us.length=ps.length->bindArgs fd ⟨us,[]⟩=pure (ps.zip us)):Binds K fd ps []:=fun s us _ hl=>by
 rw [List.append_nil] at hl ⊢
 exact .of_eq (h us hl)
noncomputable def lq (CX:qZ) (X:Cx) (E:XK):Prop:=∀ (pins:List (Addr×Obj)) (σ:St) (H:Hp) (s:Shared) (e:Value) (s':Shared),Inv X pins σ H s->CX X.stack H s E e s'->X.xe e s'
section
variable {X:Cx} {CX:qZ} {k:Nat} {f C:Addr} {fd:FuncData} {ps:List Str} {sp:Sp} {dvs:List V} {ds:List Value} {E:XK} {x m:Str} {p pos apos:Pos} {e o:Expr} {es:List Expr} {ta:TE} {t:TA}
theorem wV {b:Bool} {σ:St} {H:Hp} {Q:VK} {us:List Value} {vs:List V} (F:oK b X.prog X.w X.K X.mg X.base CX k f fd ps sp) (hr:cV b k X.A) (hb:Binds X.K fd ps ds) (hd:Vals dvs ds) (hx:∀ H s e s',Inv X pins σ H s->CX X.stack H s E e s'->X.xe e s')
 (I:Inv X pins σ H s) (r:Vals vs us) (h:sp (vs++dvs) H Q E):wpAny (model X.prog X.w) X.A (call (.ref f) us) (EP X pins σ Q) X.xe s:=by
 have r2:Vals (vs++dvs) (us++ds):=r.append hd
 have hl:(us++ds).length=ps.length:=by rw [← r2.length]; exact F.len _ _ _ _ h
 refine wpAny_call (codeAny_mono (F.run X.A X.stack s H ⟨us,[]⟩ (us++ds) (vs++dvs) Q E hr I.env0 (hb s us I.kIn hl) r2 h) fun r s' hq=>?_)
 cases r with
 | error e=>exact hx H s e s' I hq
 | ok fl=>
  cases fl with
  | ret u=>exact I.after hq
  | next=>exact False.elim hq
  | brk=>exact False.elim hq
  | cont=>exact False.elim hq
theorem Qa {b:Bool} (F:oK b X.prog X.w X.K X.mg X.base CX k f fd ps sp) (hr:cV b k X.A) (hg:Gl X x) (hm:X.mg x=some (.ref f)) (hk:W.keepIn X.K (.ref f)=true) (hb:Binds X.K fd ps ds) (hd:Vals dvs ds) (hx:lq CX X E)
 (ha:PA X (e::es) t) (hdb:(x==("__debug__" : Str))=false:=by decide) (he:starEach (e::es) X.env=(false,eval e X.env)::starEach es X.env:=by rfl) (hpl:(backTo pos (starEach es X.env)).any (·.1)=false:=by rfl):
 PE X (.Call (.Name x p) (e::es) [] pos) (Bv sp dvs E t):=by
 intro pins s σ H Q I h
 refine wpAny_Call_Name_kw (oY I hg hm ?_ hdb)
 refine W.callWith_K (h₀:=X.base) I.ok.mod.kin hk (bu (ha pos pins s σ H _ I h) fun us s1 ⟨vs,H1,I1,r,q⟩=>⟨I1.kIn,?_⟩) he hpl
 exact wV F hr hb hd (hx _ _) I1 r q
theorem Fx {pl:Sem Bool} (he:PE X o ta) (c:uf X.K C) (hm:Meth X.K C m f) (F:jr X.prog X.w X.K X.mg X.base CX k f fd ps sp) (hr:eQ k X.A) (hb:Binds X.K fd ps ds) (hd:Vals dvs ds) (hx:lq CX X E) (ha:PA X (e::es) t)
 (hst:starEach (e::es) X.env=(false,eval e X.env)::starEach es X.env:=by rfl) (hpl:(backTo pos (starEach es X.env)).any (·.1)=false:=by rfl)
 (ht:eval (.Call (.Attribute o m apos) (e::es) [] pos) X.env=(do
   let ov ← eval o X.env
   standAt apos.atName
   let (f,first) ← holding [ov] (getMethod ov m pl)
   callWith pos f first (backTo pos (starEach (e::es) X.env)) (backToKw pos (keywordEach [] X.env))):=by rfl):
 PE X (.Call (.Attribute o m apos) (e::es) [] pos) (Bw C m sp dvs E ta t):=by
 intro pins s σ H Q I h
 refine W.methodCall_KW (pl:=pl) (bu (he pins s σ H _ I h) fun u s1 ⟨x,H1,I1,rx,a,dx,fs,ex,ea,l,q⟩=>?_) ht
 subst ex
 obtain rfl:u=Value.ref a:=rx
 refine sH I1 ea c hm l ?_
 refine W.callWith_K (first:=[.ref a]) (h₀:=X.base) I.ok.mod.kin hm.kp (bu (ha pos pins s1 σ H1 _ I1 q) fun us s2 ⟨vs,H2,I2,r,q2⟩=>⟨I2.kIn,?_⟩) hst hpl
 exact wV (us:=.ref a::us) (vs:=.ref a::vs) F hr hb hd (hx _ _) I2 (.cons rfl r) q2
theorem Lz {pl:Sem Bool} (he:PE X o ta) (c:uf X.K C) (hm:Meth X.K C m f) (F:jr X.prog X.w X.K X.mg X.base CX k f fd ps sp) (hr:eQ k X.A) (hb:Binds X.K fd ps ds) (hd:Vals dvs ds) (hx:lq CX X E)
 (ht:eval (.Call (.Attribute o m apos) [] [] pos) X.env=(do
   let ov ← eval o X.env
   standAt apos.atName
   let (f,first) ← holding [ov] (getMethod ov m pl)
   callWith pos f first (backTo pos (starEach [] X.env)) (backToKw pos (keywordEach [] X.env))):=by rfl):
 PE X (.Call (.Attribute o m apos) [] [] pos) (Bw C m sp dvs E ta Cg):=by
 intro pins s σ H Q I h
 refine W.methodCall_KW (pl:=pl) (bu (he pins s σ H _ I h) fun u s1 ⟨x,H1,I1,rx,a,dx,fs,ex,ea,l,q⟩=>?_) ht
 subst ex
 obtain rfl:u=Value.ref a:=rx
 refine sH I1 ea c hm l ?_
 exact W.callWith_K0 (first:=[.ref a]) I1.kIn hm.kp (wV (us:=[.ref a]) (vs:=[.ref a]) F hr hb hd (hx _ _) I1 (.cons rfl .nil) q)
structure Mk (K:FG) (C f:Addr):Prop where
 makes:W.makesIn K C=true
 init:W.findIn K (.ref C) "__init__" = some (some (.ref f))
 fn:W.isFn K (.ref f)=true
 kp:W.keepIn K (.ref C)=true
theorem LC {σ:St} {H:Hp} {Q:VK} {us:List Value} {vs:List V} (M:Mk X.K C f) (F:jr X.prog X.w X.K X.mg X.base CX k f fd ps sp) (hr:eQ (k+1) X.A) (hb:Binds X.K fd ps ds) (hd:Vals dvs ds)
 (hx:∀ H s e s',Inv X pins σ H s->CX X.stack H s E e s'->X.xe e s') (I:Inv X pins σ H s) (r:Vals vs us)
 (h:∀ x dx,H x=none->H dx=none->dx≠x->sp (.ref x::(vs++dvs)) (upd (upd H dx (.own x)) x (.ins C dx [])) (fun v H2=>v=.non/\Q (.ref x) H2) E):
 wpAny (model X.prog X.w) X.A (call (.ref C) us) (EP X pins σ Q) X.xe s:=by
 have hq:=h (s.heap.objs.size+1) s.heap.objs.size (I.hok.fresh (Nat.le_succ _)) (I.hok.fresh (Nat.le_refl _)) (Nat.ne_of_lt (Nat.lt_succ_self _))
 have I2:=Inv.made (C:=C) I
 have r2:Vals (V.ref (s.heap.objs.size+1)::(vs++dvs)) (Value.ref (s.heap.objs.size+1)::(us++ds)):=.cons rfl (r.append hd)
 have hl:(Value.ref (s.heap.objs.size+1)::us++ds).length=ps.length:=by
  have e:=r2.length
  rw [F.len _ _ _ _ hq] at e
  exact e.symm
 refine wpAny_call (Lx (f:=f) I.kIn M.makes M.init (beq_iff_eq.mp M.fn) (codeAny_mono (F.run _ X.stack _ _ ⟨Value.ref (s.heap.objs.size+1)::us,[]⟩ (Value.ref (s.heap.objs.size+1)::(us++ds)) _ _ E (hr.make C us [])
  (I2.env0.make C us []) (hb _ (Value.ref (s.heap.objs.size+1)::us) I2.kIn hl) r2 hq) fun r s' hq'=>?_))
 cases r with
 | error e=>exact hx _ _ e s' I2 hq'
 | ok fl=>
  cases fl with
  | ret u=>
   obtain ⟨v,H',I3,rv,ev,q3⟩:=I2.after hq'
   subst ev
   exact ⟨rv,⟨V.ref (s.heap.objs.size+1),H',I3,rfl,q3⟩⟩
  | next=>exact False.elim hq'
  | brk=>exact False.elim hq'
  | cont=>exact False.elim hq'
theorem Qc (M:Mk X.K C f) (F:jr X.prog X.w X.K X.mg X.base CX k f fd ps sp) (hr:eQ (k+1) X.A) (hg:Gl X x) (hm:X.mg x=some (.ref C)) (hb:Binds X.K fd ps ds) (hd:Vals dvs ds) (hx:lq CX X E)
 (ha:PA X (e::es) t) (hdb:(x==("__debug__" : Str))=false:=by decide) (he:starEach (e::es) X.env=(false,eval e X.env)::starEach es X.env:=by rfl) (hpl:(backTo pos (starEach es X.env)).any (·.1)=false:=by rfl):
 PE X (.Call (.Name x p) (e::es) [] pos) (Oq C sp dvs E t):=by
 intro pins s σ H Q I h
 refine wpAny_Call_Name_kw (oY I hg hm ?_ hdb)
 refine W.callWith_K (h₀:=X.base) I.ok.mod.kin M.kp (bu (ha pos pins s σ H _ I h) fun us s1 ⟨vs,H1,I1,r,q⟩=>⟨I1.kIn,?_⟩) he hpl
 exact LC M F hr hb hd (hx _ _) I1 r q
end
section
variable {X:Cx} {CX:qZ} {k:Nat} {f C:Addr} {fd:FuncData} {ps ks:List Str} {sp:Sp} {E:XK} {x m:Str} {p pos apos kpos:Pos} {e o:Expr} {es:List Expr} {kws:List Keyword} {te ta:TE} {t tk:TA} {nm:Option Str}
variable {g:List Value->List Value->List Value} {gV:List V->List V->List V}
end
structure aR (N P:List Str) (sc:Scope):Prop where
 kind:sc.kind=.function
 co:sc.isCoroutine=false
 gen:sc.isGenerator=false
 nd:N.Nodup
 pre:N.take P.length=P
 par:∀ x∈P,sc.names.lookup x=some .local\/sc.names.lookup x=some .cell
 nofree:∀ y∈sc.names,y.2≠.free
theorem z9 {kindOf:Str->Option NameKind} {x:Str}:∀ {binds:List (Str×Value)} {m:Str->Option Value},(∀ v,(x,v)∉binds)->bindL kindOf binds m x=m x
 | [],_,_=>rfl
 | (n,v)::r,m,h=>by
  unfold bindL
  rw [z9 fun w hw=>h w (List.mem_cons_of_mem _ hw)]
  split
  . have:x≠n:=by rintro rfl; exact h v List.mem_cons_self
    simp [this]
  . rfl
theorem Aa {kindOf:Str->Option NameKind} {x:Str}:∀ {binds:List (Str×Value)} {m:Str->Option Value},(∀ v,(x,v)∉binds)->bindC kindOf binds m x=m x
 | [],_,_=>rfl
 | (n,v)::r,m,h=>by
  unfold bindC
  rw [Aa fun w hw=>h w (List.mem_cons_of_mem _ hw)]
  split
  . rfl
  . have:x≠n:=by rintro rfl; exact h v List.mem_cons_self
    simp [this]
theorem Ab {kindOf:Str->Option NameKind} {x:Str} {v:Value}:∀ {P:List Str} {vs:List Value} {i:Nat} {m:Str->Option Value},P.Nodup->P[i]?=some x->vs[i]?=some v->kindOf x=some .local->
 bindL kindOf (P.zip vs) m x=some v
 | [],_,_,_,_,h,_,_=>by simp at h
 | _::_,[],_,_,_,_,h,_=>by simp at h
 | p::P,w::vs,0,m,nd,h1,h2,hk=>by
  simp at h1 h2; subst h1; subst h2
  show bindL kindOf ((p,w)::P.zip vs) m p=_
  unfold bindL
  rw [z9 fun v hv=>(List.nodup_cons.mp nd).1 (List.of_mem_zip hv).1,if_pos hk]
  simp
 | p::P,w::vs,i+1,m,nd,h1,h2,hk=>by
  show bindL kindOf ((p,w)::P.zip vs) m x=_
  unfold bindL
  exact Ab (i:=i) (List.nodup_cons.mp nd).2 (by simpa using h1) (by simpa using h2) hk
theorem Ac {kindOf:Str->Option NameKind} {x:Str} {v:Value}:∀ {P:List Str} {vs:List Value} {i:Nat} {m:Str->Option Value},P.Nodup->P[i]?=some x->vs[i]?=some v->kindOf x≠some .local->
 bindC kindOf (P.zip vs) m x=some v
 | [],_,_,_,_,h,_,_=>by simp at h
 | _::_,[],_,_,_,_,h,_=>by simp at h
 | p::P,w::vs,0,m,nd,h1,h2,hk=>by
  simp at h1 h2; subst h1; subst h2
  show bindC kindOf ((p,w)::P.zip vs) m p=_
  unfold bindC
  rw [Aa fun v hv=>(List.nodup_cons.mp nd).1 (List.of_mem_zip hv).1,if_neg hk]
  simp
 | p::P,w::vs,i+1,m,nd,h1,h2,hk=>by
  show bindC kindOf ((p,w)::P.zip vs) m x=_
  unfold bindC
  exact Ac (i:=i) (List.nodup_cons.mp nd).2 (by simpa using h1) (by simpa using h2) hk
noncomputable def start (N:List Str) (vs:List V):St:=vs.map some++List.replicate (N.length-vs.length) none
noncomputable def qD (b:Bool) (CX:qZ) (P:Program) (w:World) (K:FG) (mg:Str->Option Value) (base:Heap) (N:List Str) (qual:Str) (scope:Scope) (f:Addr) (cd:Value) (A:Around) (outer:List Env) (s:Shared) (H:Hp) (E:XK):Cx where
 prog:=P
 w:=w
 K:=K
 mg:=mg
 base:=base
 A:=A.deeper (envOfC qual scope s.heap.objs.size f cd)
 N:=N
 s₀:=s
 H0:=H
 env:=envOfC qual scope s.heap.objs.size f cd
 outer:=outer
 stack:=envOfC qual scope s.heap.objs.size f cd::outer
 ex:=[]
 calm:=b
 fn:=fun _=>true
 pn:=[]
 xe:=fun e s'=>wpAny (model P w) (A.deeper (envOfC qual scope s.heap.objs.size f cd)) (leaving (envOfC qual scope s.heap.objs.size f cd) e) (fun _ s''=>CX outer H s E e s'') (fun e' s''=>CX outer H s E e' s'') s'
noncomputable abbrev jW:=qD true
theorem Cj {sc:Scope} {n:Nat} {x:Str} (h:sc.names.lookup x=some .cell):∃ c,(cellsFrom n sc.names []).lookup x=some c:=by
 have q:=W.cellsFrom_some sc.names n [] (.inl h)
 exact Option.isSome_iff_exists.mp q
theorem Jv {cm:Bool} {CX:qZ} {K:FG} {mg:Str->Option Value} {base:Heap} {N ps:List Str} {qual:Str} {scope:Scope} {f:Addr} {cd:Value} {outer:List Env} {s s1:Shared} {H:Hp} {E:XK} {us:List Value} {vs:List V}
 (S:aR N ps scope) (hd:cm=true->A.handled=none) (e0:vY P w K mg base A outer s H) (hl:vs.length=ps.length) (r:Vals vs us)
 (x:InCallC s s.heap.objs.size (bindL (envOfC qual scope s.heap.objs.size f cd).kindOf (ps.zip us) fun _=>none) (cellsFrom (s.heap.objs.size+1) scope.names []) (bindC (envOfC qual scope s.heap.objs.size f cd).kindOf (ps.zip us) fun _=>none) s1):
 Inv (qD cm CX P w K mg base N qual scope f cd A outer s H E) [] (start N vs) H s1:=by
 have hpl:ps.length<=N.length:=by have:=congrArg List.length S.pre; rw [List.length_take] at this; omega
 obtain ⟨h1,tk,rfl,hk⟩:=x.done
 have noA:∀ b:Addr,b∉(qD cm CX P w K mg base N qual scope f cd A outer s H E).ex:=fun b z=>absurd (show b∈([]:List Addr) from z) (by simp)
 refine ⟨⟨e0.mod,S.kind,rfl,rfl,Nat.le_refl _,fun y z c h1 h2=>?_,fun y hy=>?_,fun y c _ h=>?_,hd,Around.frames_deeper e0.frames,.inr ⟨rfl,rfl⟩,fun b z=>absurd z (noA b),e0.bs,e0.bsz,fun b _ _=>noA b,fun b z=>absurd z (noA b),e0.funs,e0.frf⟩,
  rfl,e0.bare,Un.kept hk,⟨_,x.toInCall.ns,fun i y v h1 h2 h3=>?_⟩,fun y c h=>⟨_,x.cell y c h⟩,e0.hok.fresh (Nat.le_refl _),fun y c h=>?_,fun p hp=>absurd (show p∈([]:List (Addr×Obj)) from hp) (by simp),e0.hok.kept hk,?_⟩
 . exact name_of_addr x.apart (PySem.mem_of_lookup h1) (PySem.mem_of_lookup h2)
 . have hy:scope.names.lookup y=some .cell\/scope.names.lookup y=some .free:=hy
   rcases hy with hy | hy
   . exact Cj hy
   . exact absurd rfl (S.nofree _ (PySem.mem_of_lookup hy))
 . exact Nat.le_of_lt (x.above y c (PySem.mem_of_lookup h))
 . have hi:i<vs.length:=by
    unfold start at h2
    by_cases hi:i<vs.length
    . exact hi
    . rw [List.getElem?_append_right (by simpa using hi)] at h2
      rw [List.getElem?_replicate] at h2
      split at h2<;>cases h2
   have ha:vs[i]?=some v:=by
    unfold start at h2
    rw [List.getElem?_append_left (by simpa using hi),List.getElem?_map] at h2
    cases e:vs[i]? with
    | none=>rw [e] at h2; cases h2
    | some a=>rw [e] at h2; cases h2; rfl
   obtain ⟨u,hu,rv⟩:=r.get ha
   have hp:ps[i]?=some y:=by
    rw [← S.pre,List.getElem?_take_of_lt (by omega)]; exact h1
   have ndP:ps.Nodup:=by rw [← S.pre]; exact S.nd.sublist (List.take_sublist _ _)
   refine ⟨u,rv,?_⟩
   rcases S.par y (List.mem_of_getElem? hp) with k | k
   . exact .inl ⟨k,Ab ndP hp hu k⟩
   . obtain ⟨c,e⟩:=Cj (n:=s.heap.objs.size+1) k
     refine .inr ⟨.inl k,c,e,?_⟩
     have q:=x.cell y c e
     rw [Ac ndP hp hu (by show scope.names.lookup y≠_; rw [k]; decide)] at q
     exact q
 . exact e0.hok.fresh (Nat.le_of_lt (x.above y c (PySem.mem_of_lookup h)))
 . unfold start
   show _=N.length
   rw [List.length_append,List.length_map,List.length_replicate]
   omega
theorem Ot {b:Bool} {CX:qZ} {K:FG} {mg:Str->Option Value} {base:Heap} {k:Nat} {f:Addr} {name qual:Str} {params:Arguments} {body:List Stmt} {scope:Scope} {dV kV doc pm cdv ct oc:Value} {an od:Option Addr}
 {osl:Array (Option Value)} {N ps:List Str} {sp:Sp} (lk:K.lookup f=some ⟨oc,od,.func (W.fnOf name qual params body scope dV kV doc pm an cdv ct),osl⟩) (hcd:W.codeIn K cdv qual=true) (S:aR N ps scope)
 (len:∀ vs H Q E,sp vs H Q E->vs.length=ps.length)
 (hbody:∀ (A:Around) (outer:List Env) (s:Shared) (H:Hp) (vs:List V) (Q:VK) (E:XK),cV b k (A.deeper (envOfC qual scope s.heap.objs.size f cdv))->sp vs H Q E->
   ∃ t,dg (qD b CX P w K mg base N qual scope f cdv A outer s H E) body t/\t { nx:=fun _ H'=>Q .non H',rt:=Q } (start N vs) H):
 oK b P w K mg base CX (k+1) f (W.fnOf name qual params body scope dV kV doc pm an cdv ct) ps sp:=by
 refine ⟨len,fun A outer s H args us vs Q E hr e0 hb r hsp=>?_⟩
 have hl:=len _ _ _ _ hsp
 have KX:K.In s.heap:=e0.mod.kin.keeps fun b o e=>(e0.bs b o e).1
 have lim:s.heap.NoLimit:=e0.mod.nolimit.keeps fun b o e=>(e0.bs b o e).1
 have hkind:∀ y∈ps.zip us,scope.names.lookup y.1=some .local\/(scope.names.lookup y.1=some .cell/\((cellsFrom (s.heap.objs.size+1) scope.names []).lookup y.1).isSome=true):=fun ⟨n,v⟩ hy=>by
  rcases S.par n (List.of_mem_zip hy).1 with q | q
  . exact .inl q
  . exact .inr ⟨q,W.cellsFrom_some _ _ _ (.inl q)⟩
 refine codeAny_call_function hr.depth (KX _ _ lk) rfl S.co S.gen rfl (W.codeRec_of KX hcd) (hb _ _ _ _ ?_)
 refine wpAny_newFunctionEnv_cells S.kind hkind fun env he s1 x=>?_
 subst he
 refine ⟨lim.keeps x.toInCall.keep,codeAny_func ?_⟩
 obtain ⟨t,ht,hq⟩:=hbody A outer s H vs Q E (hr.deeper _) hsp
 have I:Inv (qD b CX P w K mg base N qual scope f cdv A outer s H E) [] (start N vs) H s1:=Jv S hr.hd e0 hl r x
 refine wpAny_mono (ht [] s1 (start N vs) H _ I hq) (fun fl s' hs=>?_) fun e s' hs=>hs
 have fin:∀ {σ':St} {H':Hp} {v:V} {u:Value},Inv (qD b CX P w K mg base N qual scope f cdv A outer s H E) [] σ' H' s'->RelV v u->Q v H'->CE outer P w H s Q u s':=
  fun {σ' H' v u} J rv q=>⟨v,H',J.os,J.bare,J.base,J.hok,rv,q⟩
 cases fl with
 | ret u=>
  obtain ⟨v,σ',H',J,rv,q⟩:=hs
  exact fin J rv q
 | next=>
  obtain ⟨σ',H',J,q⟩:=hs
  exact fin (v:=V.non) (u:=Value.none) J rfl q
 | brk=>
  obtain ⟨_,_,_,q⟩:=hs
  exact False.elim q
 | cont=>
  obtain ⟨_,_,_,q⟩:=hs
  exact False.elim q
section
variable {X:Cx} {x:Str} {p pos:Pos} {e:Expr} {es:List Expr} {t:TA} {id T:String} {r:List V->Hp->VK->Prop}
noncomputable def Ck (r:List V->Hp->VK->Prop) (t:TA):TE:=fun σ H Q=>t σ H fun vs H1=>r vs H1 Q
theorem dF (hc:qz X (.builtin id) r) (hg:Gl X x) (hm:X.mg x=none) (hv:bootBuiltins x=some (.builtin id)) (ha:PA X (e::es) t) (hn:x ≠ "__name__" := by decide) (hdb:(x==("__debug__" : Str))=false:=by decide)
 (he:starEach (e::es) X.env=(false,eval e X.env)::starEach es X.env:=by rfl) (hpl:(backTo pos (starEach es X.env)).any (·.1)=false:=by rfl):PE X (.Call (.Name x p) (e::es) [] pos) (Ck r t):=by
 intro pins s σ H Q I h
 refine wpAny_Call_Name_kw (t7 I hg hm hv ?_ hn hdb)
 exact PyProof.Rows.callWith_builtin1 (bu (ha pos pins s σ H _ I h) fun us s1 ⟨vs,H1,I1,r1,q1⟩=>hc pins s1 σ H1 vs us Q I1 r1 q1) he hpl
theorem nT (hc:qz X (.type T) r) (hg:Gl X x) (hm:X.mg x=none) (hv:bootBuiltins x=some (.type T)) (ha:PA X (e::es) t) (hn:x ≠ "__name__" := by decide) (hdb:(x==("__debug__" : Str))=false:=by decide)
 (he:starEach (e::es) X.env=(false,eval e X.env)::starEach es X.env:=by rfl) (hpl:(backTo pos (starEach es X.env)).any (·.1)=false:=by rfl):PE X (.Call (.Name x p) (e::es) [] pos) (Ck r t):=by
 intro pins s σ H Q I h
 refine wpAny_Call_Name_kw (t7 I hg hm hv ?_ hn hdb)
 exact PyProof.Rows.callWith_type1 (bu (ha pos pins s σ H _ I h) fun us s1 ⟨vs,H1,I1,r1,q1⟩=>hc pins s1 σ H1 vs us Q I1 r1 q1) he hpl
end
end L2
namespace HT
open PySem PyProof.Rows
section
open PySem.SeqAt
open PySem.AutoSeq1 (wpAny_loadPart')
open PySem.MeetsSeq PySem.MeetsSeq2 PySem.MeetsSeq3
end
section
variable {prog:Program} {w:World} {A:Around} {E:Value->Shared->Prop} {s:Shared}
theorem cat_tup {t b:Addr} {vs ws:List Value} {Q:Value->Shared->Prop} (ht:IsTup s.heap t vs.toArray) (hb:IsTup s.heap b ws.toArray) (hv:vs≠[])
 (h1:ws=[]->Q (.ref t) s) (h2:ws≠[]->Q (.ref s.heap.objs.size) { s with heap:=s.heap.push { cls:=.type "tuple",data:=.seq (vs++ws).toArray } })
 (hsz:vs.length+ws.length<=sizeLine):wpAny (model prog w) A (binaryOp .Add (.ref t) (.ref b)) Q E s:=by
 obtain ⟨⟨cls,dd,data,sl⟩,ho,hc,n,hd⟩:=id ht
 obtain ⟨⟨cls2,dd2,data2,sl2⟩,ho2,hc2,n2,hd2⟩:=id hb
 simp only at hc hd hc2 hd2
 subst hc hd hc2 hd2
 have e:vs.toArray++ws.toArray=(vs++ws).toArray:=by simp
 by_cases hw:ws=[]
 . exact concat_meets ⟨_,ho,rfl⟩ ⟨_,ho2,rfl⟩ noFill_tuple_add seq_tuple_add F.slot_tuple_add F.entry_tuple_add (F.args_tuple_add_2 _ _)
    (tuple_addW1 t b vs.toArray ws.toArray n n2 dd dd2 sl sl2 (by simpa using hv) (by simp [hw])) ⟨ho,ho2,h1 hw⟩
 . refine concat_meets ⟨_,ho,rfl⟩ ⟨_,ho2,rfl⟩ noFill_tuple_add seq_tuple_add F.slot_tuple_add F.entry_tuple_add (F.args_tuple_add_2 _ _)
    (tuple_addW2 t b vs.toArray ws.toArray n n2 dd dd2 sl sl2 (by simpa using hv) (by simpa using hw) (by rw [List.size_toArray,List.size_toArray]; exact hsz)) ⟨ho,ho2,?_⟩
   rw [e]
   exact h2 hw
noncomputable def sIx (n d:Nat):Option Int->Nat
 | none=>d
 | some v=>if v<0 then (v+(n:Int)).toNat else min v.toNat n
theorem sIx_none (n d:Nat):sIx n d none=d:=rfl
theorem sIx_nat (n d k:Nat):sIx n d (some (k:Int))=min k n:=by
 show (if (k:Int)<0 then ((k:Int)+(n:Int)).toNat else min (k:Int).toNat n)=min k n
 rw [if_neg (by omega),Int.toNat_natCast]
theorem sIx_le (n d:Nat) (hd:d<=n) (o:Option Int):sIx n d o<=n:=by
 cases o with
 | none=>exact hd
 | some v=>
  show (if v<0 then (v+(n:Int)).toNat else min v.toNat n)<=n
  by_cases hv:v<0
  . rw [if_pos hv]; omega
  . rw [if_neg hv]; exact Nat.min_le_right _ _
end
end HT
namespace L2
open PySem PySem.Spec PyProof.Rows
variable {pins:List (Addr×Obj)} {E:Value->Shared->Prop} {s:Shared} {A:Around} {w:World} {P:Program}
noncomputable abbrev TO:=St->Hp->(Option Int->Hp->Prop)->Prop
noncomputable def PO (X:Cx) (e:Option Expr) (t:TO):Prop:=
 ∀ (pins:List (Addr×Obj)) (s:Shared) (σ:St) (H:Hp) (Q:Option Int->Hp->Prop),Inv X pins σ H s->t σ H Q->
  wpAny (model X.prog X.w) X.A (evalPart e X.env) (fun u s'=>∃ o H',Inv X pins σ H' s'/\IsPart u o/\Q o H') X.xe s
noncomputable def Qd:TO:=fun _ H Q=>Q none H
noncomputable def U8 (t:TE):TO:=fun σ H Q=>t σ H fun x H1=>∃ i,x=.int i/\Q (some i) H1
section
variable {X:Cx} {e:Expr} {te:TE} {lo hi:Option Expr} {tl th:TO} {pos p2:Pos}
theorem Qe:PO X none Qd:=by
 intro pins s σ H Q I h
 rw [evalPart_none]
 exact wpAny_pure ⟨none,H,I,.none,h⟩
theorem Qf (h:PE X e te):PO X (some e) (U8 te):=by
 intro pins s σ H Q I hw
 rw [evalPart_some]
 refine bu (h pins s σ H _ I hw) fun u s1 ⟨x,H1,I1,r1,q1⟩=>?_
 obtain ⟨i,rfl,q⟩:=q1
 obtain ⟨t,rfl⟩:=r1
 exact ⟨some i,H1,I1,.int i t,q⟩
noncomputable def Cm (X:Cx) (r:V->Option Int->Option Int->Hp->VK->Prop):Prop:=
 ∀ (pins:List (Addr×Obj)) (s:Shared) (σ:St) (H:Hp) (x:V) (v vl vu:Value) (lo hi:Option Int) (sl:Addr) (Q:VK),Inv X pins σ H s->RelV x v->s.heap.IsSliceOf sl vl vu .none->IsPart vl lo->IsPart vu hi->r x lo hi H Q->
  ∃ T id,typeLookup (.type T) "__getitem__" = pure (some (.builtin id))/\s.TypeIs v T/\wpAny (model X.prog X.w) X.A (getItem v (.ref sl)) (EP X pins σ Q) X.xe s
theorem Cm.or {r r':V->Option Int->Option Int->Hp->VK->Prop} (h:Cm X r) (h':Cm X r'):Cm X (fun x lo hi H Q=>r x lo hi H Q\/r' x lo hi H Q):=by
 intro pins s σ H x v vl vu lo hi sl Q I rx hs pl pu q
 rcases q with q | q
 . exact h pins s σ H x v vl vu lo hi sl Q I rx hs pl pu q
 . exact h' pins s σ H x v vl vu lo hi sl Q I rx hs pl pu q
noncomputable def WD (r:V->Option Int->Option Int->Hp->VK->Prop) (te:TE) (tl th:TO):TE:=fun σ H Q=>te σ H fun x H1=>tl σ H1 fun l H2=>th σ H2 fun u H3=>r x l u H3 Q
theorem LK {r:V->Option Int->Option Int->Hp->VK->Prop} (hr:Cm X r) (he:PE X e te) (hl:PO X lo tl) (hu:PO X hi th):PE X (.Subscript e (.Slice lo hi none p2) pos) (WD r te tl th):=by
 intro pins s σ H Q I h
 refine Subscript_ (bu (he pins s σ H _ I h) fun v s1 ⟨x,H1,I1,r1,q1⟩=>?_)
 refine wpAny_Slice (bu (hl pins s1 σ H1 _ I1 q1) fun vl s2 ⟨l,H2,I2,pl,q2⟩=>bu (hu pins s2 σ H2 _ I2 q2) fun vu s3 ⟨u,H3,I3,pu,q3⟩=>?_)
 rw [evalPart_none]
 refine wpAny_pure ?_
 have I4:Inv X pins σ H3 { s3 with heap:=s3.heap.push { cls:=.type "slice",data:=.fields #[vl,vu,.none] } }:=I3.kept (t':=s3.toks) fun b ob q=>Heap.get?_push_of_some _ q
 obtain ⟨T,id,hT,ht,hg⟩:=hr pins { s3 with heap:=s3.heap.push { cls:=.type "slice",data:=.fields #[vl,vu,.none] } } σ H3 x v vl vu l u s3.heap.objs.size Q I4 r1 (Heap.IsSliceOf.new ..) pl pu q3
 show wpAny (model X.prog X.w) X.A (subscriptTail e (.Slice lo hi none p2) v (.ref s3.heap.objs.size)) (EP X pins σ Q) X.xe { s3 with heap:=s3.heap.push { cls:=.type "slice",data:=.fields #[vl,vu,.none] } }
 exact tail_any (ops:=[.ref s3.heap.objs.size,v]) ht hT hg (by with_unfolding_all rfl)
noncomputable def vZ (xs:List V) (lo hi:Option Int):List V:=(xs.drop (HT.sIx xs.length 0 lo)).take (HT.sIx xs.length xs.length hi-HT.sIx xs.length 0 lo)
theorem Ff (xs:List V) (lo hi:Option Int):(vZ xs lo hi).length<=xs.length:=by
 unfold vZ
 rw [List.length_take,List.length_drop]
 omega
noncomputable def Ou (K:FG):R2:=fun x y H Q=>∃ a b xs ys,x=.ref a/\y=.ref b/\cW K H a xs/\cW K H b ys/\xs≠[]/\xs.length+ys.length<=sizeLine/\
 (ys=[]->Q (.ref a) H)/\(ys≠[]->∀ p,H p=none->Q (.ref p) (upd H p (.tup (xs++ys))))
theorem Vals.nil_iff {xs:List V} {us:List Value} (r:Vals xs us):us=[] ↔ xs=[]:=by
 cases r with
 | nil=>simp
 | cons _ _=>simp
theorem Qg:dY X (binaryOp .Add) (Ou X.K):=by
 intro pins s σ H x y v u Q I rx ry h
 obtain ⟨a,b,xs,ys,rfl,rfl,ha,hb,hx,hz,q1,q2⟩:=h
 cases rx
 cases ry
 obtain ⟨its,r1,p1,_⟩:=I.tuple ha
 obtain ⟨its2,r2,p2,_⟩:=I.tuple hb
 refine HT.cat_tup p1 p2 (fun z=>hx (r1.nil_iff.mp z)) (fun z=>⟨.ref a,H,I,rfl,q1 (r2.nil_iff.mp z)⟩) (fun z=>?_) (by rw [← r1.length,← r2.length]; exact hz)
 refine ⟨.ref s.heap.objs.size,_,I.laid (t':=s.toks) (o:=.tup (xs++ys)) (fun b ob q=>Heap.get?_push_of_some _ q) (Nat.le_refl _) ?_,rfl,q2 (fun w=>z (r2.nil_iff.mpr w)) _ (I.hok.fresh (Nat.le_refl _))⟩
 exact ⟨by rw [List.length_append]; exact hz,_,r1.append r2,IsTup.new _ _⟩
end
noncomputable def qG (n:Nat) (i:Int):Option Nat:=if 0<=i then (if i<n then some i.toNat else none) else if -(n:Int)<=i then some (i+n).toNat else none
noncomputable def gj {α:Type} (xs:List α) (i:Int):Option α:=(qG xs.length i).bind fun j=>xs[j]?
theorem Fy {n:Nat} {i:Int} {j:Nat} (h:qG n i=some j):seqIndex? i n=some j/\j<n/\-(n:Int)<=i/\i<n:=by
 unfold qG at h
 by_cases h0:0<=i
 . rw [if_pos h0] at h
   by_cases h1:i<n
   . rw [if_pos h1] at h
     have e:i.toNat=j:=Option.some.inj h
     exact ⟨by rw [seqIndex_of h0 h1,e],by omega,by omega,h1⟩
   . rw [if_neg h1] at h; cases h
 . rw [if_neg h0] at h
   by_cases h1:-(n:Int)<=i
   . rw [if_pos h1] at h
     have e:(i+n).toNat=j:=Option.some.inj h
     exact ⟨by rw [seqIndex_neg (by omega) h1,e],by omega,h1,by omega⟩
   . rw [if_neg h1] at h; cases h
theorem yZ {α:Type} {xs:List α} {i:Int} {v:α} (h:gj xs i=some v):∃ j,seqIndex? i xs.length=some j/\xs[j]?=some v/\j<xs.length/\-(xs.length:Int)<=i/\i<xs.length:=by
 unfold gj at h
 cases e:qG xs.length i with
 | none=>rw [e] at h; cases h
 | some j=>
  rw [e] at h
  obtain ⟨h1,h2,h3,h4⟩:=Fy e
  exact ⟨j,h1,h,h2,h3,h4⟩
noncomputable def vg (b:Expr):Prop:=∀ o i,subscripted b false o i=operate [o,i] (getItem o i)
noncomputable def vO (X:Cx) (r:R2):Prop:=
 ∀ (value slice:Expr) (pins:List (Addr×Obj)) (s:Shared) (σ:St) (H:Hp) (x y:V) (v u:Value) (Q:VK),Inv X pins σ H s->RelV x v->RelV y u->r x y H Q->
  subscripted slice false v u=operate [v,u] (getItem v u)->wpAny (model X.prog X.w) X.A (subscriptTail value slice v u) (EP X pins σ Q) X.xe s
noncomputable def Fz (X:Cx) (id:String) (r:V->List V->Hp->VK->Prop):Prop:=
 ∀ (pins:List (Addr×Obj)) (s:Shared) (σ:St) (H:Hp) (x:V) (xs:List V) (v:Value) (us:List Value) (Q:VK),Inv X pins σ H s->RelV x v->Vals xs us->r x xs H Q->
  wpAny (model X.prog X.w) X.A (call (.builtin id) (v::us)) (EP X pins σ Q) X.xe s
section
variable {X:Cx} {a b:Expr} {ta tb:TE} {pos:Pos}
theorem vO.or {r r':R2} (h:vO X r) (h':vO X r'):vO X (fun x y H Q=>r x y H Q\/r' x y H Q):=by
 intro value slice pins s σ H x y v u Q I rx ry q hs
 rcases q with q | q
 . exact h value slice pins s σ H x y v u Q I rx ry q hs
 . exact h' value slice pins s σ H x y v u Q I rx ry q hs
theorem Hm {r:R2} (hr:vO X r) (ha:PE X a ta) (hb:PE X b tb) (hs:vg b):PE X (.Subscript a b pos) (Jq r ta tb):=by
 intro pins s σ H Q I h
 exact Subscript_ (Lj ha hb I h fun v u s2 x y H2 I2 rx ry q=>hr a b pins s2 σ H2 x y v u Q I2 rx ry q (hs _ _))
noncomputable def R1 (K:FG):R2:=fun x y H Q=>∃ p xs i v,x=.ref p/\y=.int i/\bY K H p xs/\gj xs i=some v/\Q v H
noncomputable def R3 (K:FG):R2:=fun x y H Q=>∃ p xs i v,x=.ref p/\y=.int i/\cW K H p xs/\gj xs i=some v/\Q v H
noncomputable def R4:R2:=fun x y H Q=>∃ z i c,x=.str z/\y=.int i/\z.length<=sizeLine/\gj z.cps.toList i=some c/\Q (.str ⟨#[c]⟩) H
theorem Qh:vO X (R1 X.K):=by
 intro value slice pins s σ H x y v u Q I rx ry h hs
 obtain ⟨p,xs,i,z,rfl,rfl,hq,he,q⟩:=h
 cases rx
 obtain ⟨t,rfl⟩:=ry
 obtain ⟨its,r,pl,hz⟩:=I.list hq
 obtain ⟨j,h1,h2,h3,h4,h5⟩:=yZ he
 obtain ⟨w,ew,rw'⟩:=r.get h2
 have hl:=r.length
 have hn:=qY
 have fin:EP X pins σ Q w s:=⟨z,H,I,rw',q⟩
 by_cases h0:0<=i
 . have hj:i.toNat=j:=by
    rw [seqIndex_of h0 h5] at h1
    exact Option.some.inj h1
   exact item_listR pl.isList h0 (by omega) (by rw [hj]; simpa using ew) fin hs
 . have hj:(i+(its.toArray.size:Int)).toNat=j:=by
    rw [seqIndex_neg (by omega) h4] at h1
    rw [List.size_toArray,← hl]
    exact Option.some.inj h1
   exact subscriptTail_builtinR (x:=w) pl.isList.typeIs slot_list_getitem.lookup
    (wpAny_getItem_list_neg (Q:=fun r s'=>r=w/\EP X pins σ Q r s') pl.isList (by omega) (by rw [List.size_toArray]<;>omega) (by omega) (by rw [hj]; simpa using ew) ⟨rfl,fin⟩) hs
theorem R5:vO X (R3 X.K):=by
 intro value slice pins s σ H x y v u Q I rx ry h hs
 obtain ⟨p,xs,i,z,rfl,rfl,hq,he,q⟩:=h
 cases rx
 obtain ⟨t,rfl⟩:=ry
 obtain ⟨its,r,pl,hz⟩:=I.tuple hq
 obtain ⟨j,h1,h2,h3,h4,h5⟩:=yZ he
 obtain ⟨w,ew,rw'⟩:=r.get h2
 have hl:=r.length
 have hn:=qY
 have fin:EP X pins σ Q w s:=⟨z,H,I,rw',q⟩
 exact subscriptTail_builtinR (x:=w) pl.typeIs slot_tuple_getitem.lookup
  (getItem_tuple (j:=j) (Q:=fun r s'=>r=w/\EP X pins σ Q r s') pl (by omega) (by omega) (by rw [List.size_toArray,← hl]; exact h1) (by simpa using ew) ⟨rfl,fin⟩) hs
theorem R6:vO X R4:=by
 intro value slice pins s σ H x y v u Q I rx ry h hs
 obtain ⟨z,i,c,rfl,rfl,hz,he,q⟩:=h
 obtain ⟨t,rfl⟩:=rx
 obtain ⟨t',rfl⟩:=ry
 obtain ⟨j,h1,h2,h3,h4,h5⟩:=yZ he
 have hl:z.cps.toList.length=z.length:=by simp [Str.length]
 rw [hl] at h1 h4 h5
 have hn:=qY
 exact tail_any (typeIs_str s z t) slot_str_getitem.lookup (getItem_str (c:=c) (by
  have e1:decide (i < -(2 ^ 63:Int))=false:=decide_eq_false (by omega)
  have e2:decide (i ≥ 2 ^ 63)=false:=decide_eq_false (by omega)
  rw [e1,e2,Bool.or_false]) (by rw [h1]; simpa using h2) ⟨.str ⟨#[c]⟩,H,I.tok _,⟨_,rfl⟩,q⟩) hs
noncomputable def R7 (K:FG):R2:=fun x y H Q=>R1 K x y H Q\/R3 K x y H Q\/R4 x y H Q
theorem Jw:vO X (R7 X.K):=Qh.or (R5.or R6)
theorem Hn (its:List Value) (n j:Nat) (u:Value):Obj.mapSeq (·.setIfInBounds j u) { cls:=.type "list",data:=.seq its.toArray n }={ cls:=.type "list",data:=.seq (its.set j u).toArray n }:=by
 simp [Obj.mapSeq]
theorem Inv.lst {σ:St} {H:Hp} {p:Addr} {xs:List V} (I:Inv X pins σ H s) (h:H p=some (.lst xs)):
 ∃ (its:List Value) (n:Nat),Vals xs its/\s.heap.get? p=some { cls:=.type "list",data:=.seq its.toArray n }/\xs.length<=sizeLine:=by
 obtain ⟨z,its,n,r,e⟩:=I.hok p _ h
 exact ⟨its,n,r,e,z⟩
theorem Inv.lstUpd {σ:St} {H:Hp} {p:Addr} {xs ys:List V} {its its':List Value} {n n':Nat} {f:Obj->Obj} (I:Inv X pins σ H s) (h:H p=some (.lst xs))
 (ho:s.heap.get? p=some { cls:=.type "list",data:=.seq its.toArray n }) (hf:f { cls:=.type "list",data:=.seq its.toArray n }={ cls:=.type "list",data:=.seq its'.toArray n' }) (r:Vals ys its') (hz:ys.length<=sizeLine) (t:Nat):
 Inv X pins σ (upd H p (.lst ys)) { s with heap:=s.heap.update p f,toks:=t }:=by
 have e:(s.heap.update p f).get? p=some { cls:=.type "list",data:=.seq its'.toArray n' }:=by
  rw [Heap.get?_update_self f ho (by rw [hf]<;>rfl),hf]
 refine I.write (x:=p) (e:=p) (by rw [h]; trivial) (.inl rfl) (fun b u hb q=>(Heap.get?_update_other _ _ (Ne.symm hb)).trans q) ⟨_,e⟩ ?_
 exact ⟨hz,its',n',r,e⟩
noncomputable def Ov:V->V->V->Hp->(Hp->Prop)->Prop:=fun o i v H Q=>∃ p xs k j,o=.ref p/\i=.int k/\H p=some (.lst xs)/\qG xs.length k=some j/\Q (upd H p (.lst (xs.set j v)))
theorem set_list:Lh X Ov:=by
 intro pins s σ H o i v ov iv u Q I ro ri rv h
 obtain ⟨p,xs,k,j,rfl,rfl,hp,hj,q⟩:=h
 cases ro
 obtain ⟨t,rfl⟩:=ri
 obtain ⟨its,n,r,ho,hz⟩:=I.lst hp
 obtain ⟨h1,h2,h3,h4⟩:=Fy hj
 have hl:=r.length
 have hn:=qY
 have I':Inv X pins σ (upd H p (.lst (xs.set j v))) { s with heap:=s.heap.update p (Obj.mapSeq (·.setIfInBounds j u)) }:=
  I.lstUpd hp ho (Hn its n j u) (r.set rv j) (by rw [List.length_set]; exact hz) s.toks
 by_cases h0:0<=k
 . have hk:k.toNat=j:=by
    rw [seqIndex_of h0 h4] at h1
    exact Option.some.inj h1
   exact W.ki_setAt ho h0 (by omega) (by rw [List.size_toArray,← hl]; exact h4) (by rw [hk]; exact ⟨_,I',q⟩)
 . have hk:(k+(its.toArray.size:Int)).toNat=j:=by
    rw [seqIndex_neg (by omega) h3] at h1
    rw [List.size_toArray,← hl]
    exact Option.some.inj h1
   exact W.ki_setBack ho (by omega) (by rw [List.size_toArray,← hl]; exact h3) (by omega) (by rw [hk]; exact ⟨_,I',q⟩)
theorem Cp (lo hi:Option Int) (n:Nat):(sliceBounds lo hi none n).1=((HT.sIx n 0 lo:Nat):Int)/\(sliceBounds lo hi none n).2.1=((HT.sIx n n hi:Nat):Int)/\(sliceBounds lo hi none n).2.2=1:=by
 refine ⟨?_,?_,rfl⟩
 . cases lo with
   | none=>simp [sliceBounds,HT.sIx]
   | some i=>
    simp only [sliceBounds,HT.sIx,Option.getD_none,show (1:Int)>0 by decide,if_true]
    by_cases h:i<0
    . simp only [h,if_true]<;>omega
    . simp only [h,if_false]<;>omega
 . cases hi with
   | none=>simp [sliceBounds,HT.sIx]
   | some i=>
    simp only [sliceBounds,HT.sIx,Option.getD_none,show (1:Int)>0 by decide,if_true]
    by_cases h:i<0
    . simp only [h,if_true]<;>omega
    . simp only [h,if_false]<;>omega
theorem Bh (its:List Value) (lo hi:Option Int):slicePick its.toArray lo hi none=((its.drop (HT.sIx its.length 0 lo)).take (HT.sIx its.length its.length hi-HT.sIx its.length 0 lo)).toArray:=by
 obtain ⟨h1,h2,h3⟩:=Cp lo hi its.toArray.size
 unfold slicePick
 rw [h1,h2,h3]
 simp only [sliceRange_one,pick_run,List.size_toArray]<;>rfl
noncomputable def Wg (K:FG):V->Option Int->Option Int->Hp->VK->Prop:=fun x lo hi H Q=>∃ a xs,x=.ref a/\bY K H a xs/\∀ p,H p=none->Q (.ref p) (upd H p (.lst (vZ xs lo hi)))
theorem Qi:Cm X (Wg X.K):=by
 intro pins s σ H x v vl vu lo hi sl Q I rx hs pl pu h
 obtain ⟨a,xs,rfl,hx,q⟩:=h
 cases rx
 obtain ⟨its,r,ht,hz⟩:=I.list hx
 have hlen:=r.length
 refine ⟨"list",_,slot_list_getitem.lookup,ht.isList.typeIs,?_⟩
 refine wpAny_getItem_list_slice ht.isList hs pl pu .none (by simp) ?_ (by rw [List.size_toArray]<;>omega)
 rw [Bh,← hlen]
 refine ⟨.ref s.heap.objs.size,_,I.laid (t':=s.toks) (o:=.lst (vZ xs lo hi)) (fun b ob q=>Heap.get?_push_of_some _ q) (Nat.le_refl _) ?_,rfl,q _ (I.hok.fresh (Nat.le_refl _))⟩
 exact ⟨Nat.le_trans (Ff xs lo hi) hz,_,0,(r.drop (HT.sIx xs.length 0 lo)).take (HT.sIx xs.length xs.length hi-HT.sIx xs.length 0 lo),Heap.get?_push_size _ rfl⟩
noncomputable def Ow:V->Bool
 | .non=>true
 | .bl _=>true
 | .int _=>true
 | .str _=>true
 | _=>false
theorem jX:qz X (.type "list") (fun xs H Q=>∃ p ys,xs=[.ref p]/\(bY X.K H p ys\/cW X.K H p ys)/\∀ l,H l=none->Q (.ref l) (upd H l (.lst ys))):=by
 intro pins s σ H xs us Q I r h
 obtain ⟨p,ys,rfl,hq,q⟩:=h
 obtain ⟨u,rfl,rx⟩:=vals1 r
 cases rx
 have fin:∀ (its:List Value),Vals ys its->ys.length<=sizeLine->∀ (h':Heap) (c':Nat),(∀ b o',s.heap.get? b=some o'->h'.get? b=some o')->
  h'.get? s.heap.objs.size=some { cls:=.type "list",dict:=none,data:=.seq its.toArray c',slots:=#[] }->EP X pins σ Q (.ref s.heap.objs.size) { s with heap:=h' }:=fun its r' hz h' c' kp e=>
  ⟨.ref s.heap.objs.size,_,I.laid (t':=s.toks) kp (Nat.le_refl _) (show dw X.prog X.w _ h' _ (.lst ys) from ⟨hz,its,c',r',e⟩),rfl,q _ (I.hok.fresh (Nat.le_refl _))⟩
 rcases hq with hq | hq
 . obtain ⟨its,r',pl,hz⟩:=I.list hq
   have hlen:=r'.length
   obtain ⟨o,ho,hc,n,hd⟩:=pl.isList
   exact call_list_seq p (.inl rfl) ho hc hd (fun h' c' kp e=>fin its r' hz h' c' kp e) (by simp only [List.size_toArray]<;>omega)
 . obtain ⟨its,r',pl,hz⟩:=I.tuple hq
   have hlen:=r'.length
   obtain ⟨o,ho,hc,n,hd⟩:=pl
   exact call_list_seq p (.inr rfl) ho hc hd (fun h' c' kp e=>fin its r' hz h' c' kp e) (by simp only [List.size_toArray]<;>omega)
noncomputable def R8 (K:FG) (T:String) (x:V) (H:Hp):Prop:=match x with
 | .str _=>T = "str"
 | .int _=>T = "int"
 | .ref p=>(T = "list" /\ ∃ xs,bY K H p xs)\/(T = "tuple" /\ ∃ o,K.lookup p=some o/\o.cls=.type "tuple" /\ o.dict=none)\/
  (T = "dict" /\ ((∃ kvs,H p=some (.dK kvs))\/∃ kvs,H p=some (.dT kvs)))\/(T = "set" /\ ∃ S n,H p=some (.set S n))
 | _=>False
theorem Jx {σ:St} {H:Hp} {T:String} {x:V} {v:Value} (I:Inv X pins σ H s) (r:RelV x v) (ty:R8 X.K T x H):
 s.TypeIs v T/\∀ a,v=.ref a->∃ ob,s.heap.get? a=some ob/\ob.dict=none:=by
 cases x with
 | str z=>
  obtain ⟨t,rfl⟩:=r
  cases (show T = "str" from ty)
  exact ⟨typeIs_str s z t,fun _ e=>nomatch e⟩
 | int i=>
  obtain ⟨t,rfl⟩:=r
  cases (show T = "int" from ty)
  exact ⟨typeIs_int s i t,fun _ e=>nomatch e⟩
 | ref p=>
  cases r
  rcases ty with ⟨rfl,xs,hq⟩ | ⟨rfl,o,hk,hc,hd⟩ | ⟨rfl,hk⟩ | ⟨rfl,S,n,hk⟩
  . obtain ⟨its,_,pl,_⟩:=I.list hq
    refine ⟨pl.isList.typeIs,fun a e=>?_⟩
    cases e
    obtain ⟨o,n,e,c,hd,_⟩:=pl
    exact ⟨o,e,hd⟩
  . refine ⟨⟨o,I.kIn p o hk,hc⟩,fun a e=>?_⟩
    cases e
    exact ⟨o,I.kIn _ o hk,hd⟩
  . have z:∃ o,s.heap.get? p=some o/\o.ExactDict:=by
     rcases hk with ⟨kvs,hk⟩ | ⟨kvs,hk⟩
     . obtain ⟨_,_,_,_,o,_,_,e,ex,_⟩:=I.hok p _ hk
       exact ⟨o,e,ex⟩
     . obtain ⟨_,_,_,_,o,_,_,e,ex,_⟩:=I.hok p _ hk
       exact ⟨o,e,ex⟩
    obtain ⟨o,e,ex⟩:=z
    refine ⟨⟨o,e,ex.1⟩,fun a e2=>?_⟩
    cases e2
    exact ⟨o,e,ex.2.1⟩
  . obtain ⟨o,_,_,_,e,ex,_⟩:=I.hok p _ hk
    refine ⟨⟨o,e,ex.1⟩,fun a e2=>?_⟩
    cases e2
    exact ⟨o,e,ex.2.1⟩
 | _=>exact False.elim ty
noncomputable def R9 (K:FG) (T:String) (r:V->List V->Hp->VK->Prop) (to:TE):TE:=fun σ H Q=>to σ H fun x H1=>R8 K T x H1/\r x [] H1 Q
noncomputable def Jy (K:FG) (T:String) (r:V->List V->Hp->VK->Prop) (to:TE) (t:TA):TE:=fun σ H Q=>to σ H fun x H1=>R8 K T x H1/\t σ H1 fun xs H2=>r x xs H2 Q
variable {o e:Expr} {es:List Expr} {to:TE} {t:TA} {name:Str} {apos cpos:Pos} {T id:String} {r:V->List V->Hp->VK->Prop}
theorem Sd (pa:PlainAttrs T) (slot:Slot T name id) (hty:typeOf (.builtin id)=pure (.type "method_descriptor")) (hm:Fz X id r) (ho:PE X o to)
 (hbase:attributeBase o name X.env (eval o X.env)=eval o X.env:=by rfl) (hline:(apos.endLine==cpos.line)=true:=by rfl):PE X (.Call (.Attribute o name apos) [] [] cpos) (R9 X.K T r to):=by
 intro pins s σ H Q I h
 refine wpAny_Call_method0_late hbase hline (bu (ho pins s σ H _ I h) fun v s1 ⟨x,H1,I1,r1,ty,q1⟩=>?_)
 obtain ⟨h1,h2⟩:=Jx I1 r1 ty
 exact ⟨T,id,pa,slot,hty,h1,h2,Calls.callWith_builtin rfl (PySem.evalArgs_none (hm pins s1 σ H1 x [] v [] Q I1 r1 .nil q1))⟩
theorem sI (pa:PlainAttrs T) (slot:Slot T name id) (hty:typeOf (.builtin id)=pure (.type "method_descriptor")) (hm:Fz X id r) (ho:PE X o to) (ha:PA X (e::es) t)
 (hbase:attributeBase o name X.env (eval o X.env)=eval o X.env:=by rfl)
 (hfew:((backTo cpos (starEach (e::es) X.env)).all (fun x=>!x.1)&&(backToKw cpos (keywordEach [] X.env)).all (fun x=>x.1.isSome)
   && decide ((e::es).length+([]:List Keyword).length+(if ([]:List Keyword).isEmpty then 0 else 1)<30))=true:=by rfl)
 (hline:(apos.endLine==cpos.line)=true:=by rfl) (hs:starEach (e::es) X.env=(false,eval e X.env)::starEach es X.env:=by rfl) (hplain:(backTo cpos (starEach es X.env)).any (·.1)=false:=by rfl):
 PE X (.Call (.Attribute o name apos) (e::es) [] cpos) (Jy X.K T r to t):=by
 intro pins s σ H Q I h
 refine wpAny_Call_method_late hbase hfew hline rfl (bu (ho pins s σ H _ I h) fun v s1 ⟨x,H1,I1,r1,ty,q1⟩=>?_)
 obtain ⟨h1,h2⟩:=Jx I1 r1 ty
 refine ⟨T,id,pa,slot,hty,h1,h2,?_⟩
 have hA:=ha cpos pins s1 σ H1 _ I1 q1
 rw [hs] at hA ⊢
 refine Calls.callWith_builtin (by show (false||(backTo cpos (starEach es X.env)).any (·.1))=false; rw [hplain]<;>rfl) (Calls.evalArgs_plain ?_)
 exact bu hA fun us s2 ⟨vs,H2,I2,r2,q2⟩=>hm pins s2 σ H2 x vs v us Q I2 r1 r2 q2
end
noncomputable def VF (X:Cx) (id:String) (r:V->List V->Hp->VK->Prop):Prop:=
 ∀ (pins:List (Addr×Obj)) (s:Shared) (σ:St) (H:Hp) (x:V) (xs:List V) (v:Value) (us:List Value) (Q:VK),Inv X pins σ H s->RelV x v->Vals xs us->r x xs H Q->
  wpAny (model X.prog X.w) X.A (call (.builtin id) (v::us)) (EP X pins σ Q) X.xe s
theorem Vals.one:∀ {x:V} {us:List Value},Vals [x] us->∃ u,us=[u]/\RelV x u
 | _,_,.cons r .nil=>⟨_,rfl,r⟩
theorem Vals.zero:∀ {us:List Value},Vals [] us->us=[]
 | _,.nil=>rfl
theorem Vals.rep {xs:List V} {us:List Value} (h:Vals xs us):∀ k:Nat,Vals (List.replicate k xs).flatten (List.replicate k us).flatten
 | 0=>.nil
 | k+1=>by
  rw [List.replicate_succ,List.replicate_succ,List.flatten_cons,List.flatten_cons]
  exact Vals.append h (Vals.rep h k)
theorem foldl_rep (its:List Value):∀ (k:Nat) (acc:List Value),
 List.foldl (fun x1 x2=>x1++x2) acc.toArray (List.replicate k its.toArray)=(acc++(List.replicate k its).flatten).toArray
 | 0,acc=>by simp
 | k+1,acc=>by
  have e:acc.toArray++its.toArray=(acc++its).toArray:=by simp
  have e2:(acc++its)++(List.replicate k its).flatten=acc++(List.replicate (k+1) its).flatten:=by
   rw [List.replicate_succ,List.flatten_cons,List.append_assoc]
  rw [← e2,← foldl_rep its k (acc++its),← e,List.replicate_succ,List.foldl_cons]
section
variable {X:Cx} {pins:List (Addr×Obj)} {σ:St} {H:Hp} {s:Shared} {l b:Addr} {xs ys zs:List V}
theorem Inv.lset {its its':List Value} {n:Nat} {f:Array Value->Array Value} {t':Nat} (I:Inv X pins σ H s) (hH:H l=some (.lst xs))
 (e:s.heap.get? l=some { cls:=.type "list",data:=.seq its.toArray n }) (hf:f its.toArray=its'.toArray) (hv:Vals ys its') (hz:ys.length<=sizeLine):
 Inv X pins σ (upd H l (.lst ys)) { s with heap:=s.heap.update l (Obj.mapSeq f),toks:=t' }:=by
 have q:=PySem.IsL.update e f
 rw [hf] at q
 refine I.write (x:=l) (e:=l) (by rw [hH]; exact trivial) (.inl rfl) (fun b' u hb hu=>(Heap.get?_update_other s.heap (Obj.mapSeq f) (Ne.symm hb)).trans hu) ⟨_,q⟩ ?_
 exact ⟨hz,its',_,hv,q⟩
theorem Inv.lnew {its:List Value} {t':Nat} (I:Inv X pins σ H s) (hv:Vals ys its) (hz:ys.length<=sizeLine):
 Inv X pins σ (upd H s.heap.objs.size (.lst ys)) { s with heap:=s.heap.push { cls:=.type "list",data:=.seq its.toArray },toks:=t' }:=
 I.laid (fun _ _ q=>Heap.get?_push_of_some _ q) (Nat.le_refl _) ⟨hz,its,0,hv,Heap.get?_push_size _ rfl⟩
theorem Inv.fresh (I:Inv X pins σ H s):H s.heap.objs.size=none:=I.hok.fresh (Nat.le_refl _)
theorem Inv.lstM (I:Inv X pins σ H s) (hH:H l=some (.lst xs)):xs.length<=sizeLine/\∃ (its:List Value) (n:Nat),Vals xs its/\xs.length=its.length/\s.heap.get? l=some { cls:=.type "list",data:=.seq its.toArray n }:=by
 obtain ⟨z,its,n,r,e⟩:=I.hok l _ hH
 exact ⟨z,its,n,r,r.length,e⟩
theorem LQ {n:Nat} (h:n<=sizeLine):Builtin.List.listTooLong n=false:=by
 unfold Builtin.List.listTooLong
 exact decide_eq_false (by omega)
end
section
variable {X:Cx}
noncomputable def FJ:V->List V->Hp->VK->Prop:=fun x vs H Q=>∃ l xs y,x=.ref l/\vs=[y]/\H l=some (.lst xs)/\xs.length<sizeLine/\Q .non (upd H l (.lst (xs++[y])))
theorem Ad:VF X "list.append" FJ:=by
 intro pins s σ H x vs v us Q I rx rv h
 obtain ⟨l,xs,y,rfl,rfl,hH,hz,q⟩:=h
 cases rx
 obtain ⟨u,rfl,ru⟩:=rv.one
 obtain ⟨z,its,n,r,hl,e⟩:=I.lstM hH
 refine call_meets F.slot_list_append ⟨_,e,rfl⟩ F.entry_list_append (F.args_list_append_2 _ _) (PySem.list_append l its.toArray n u (by rw [List.size_toArray]; omega)) ⟨e,?_⟩
 refine ⟨.non,_,I.lset (its':=its++[u]) hH e (by simp) (r.append (.cons ru .nil)) ?_,rfl,q⟩
 rw [List.length_append,List.length_singleton]
 omega
noncomputable def Wh:R2:=fun x y H Q=>∃ l k xs,x=.ref l/\y=.int k/\H l=some (.lst xs)/\-(2 ^ 63)<=k/\k<2 ^ 63/\xs.length*k.toNat<=sizeLine/\
 ∀ p,H p=none->Q (.ref p) (upd H p (.lst (List.replicate k.toNat xs).flatten))
theorem len_rep {α:Type} (xs:List α) (k:Nat):(List.replicate k xs).flatten.length=k*xs.length:=by
 induction k with
 | zero=>simp
 | succ k ih=>rw [List.replicate_succ,List.flatten_cons,List.length_append,ih,Nat.succ_mul,Nat.add_comm]
theorem Sg:dY X (binaryOp .Mult) Wh:=by
 intro pins s σ H x y v u Q I rx ry h
 obtain ⟨l,k,xs,rfl,rfl,hH,h1,h2,hz,q⟩:=h
 cases rx
 obtain ⟨t,rfl⟩:=ry
 obtain ⟨z,its,n,r,hl,e⟩:=I.lstM hH
 have hlen:its.toArray.size*k.toNat<=sizeLine:=by rw [List.size_toArray,← hl]; exact hz
 have hcap:¬ its.toArray.size*k.toNat>(2 ^ 63-1)/8:=by
  have:(sizeLine:Nat)<=(2 ^ 63-1)/8:=by decide
  omega
 have hfit:¬ (!Builtin.List.listFitsIndex k)=true:=by
  rw [fitsIndex_both h1 h2]
  exact Bool.false_ne_true
 have hlong:¬ Builtin.List.listTooLong (its.toArray.size*k.toNat)=true:=by
  rw [LQ hlen]
  exact Bool.false_ne_true
 have hnew:List.foldl (fun x1 x2=>x1++x2) #[] (List.replicate (if its.toArray.isEmpty=true then 0 else k.toNat) its.toArray)=(List.replicate k.toNat its).flatten.toArray:=by
  have f0:∀ m:Nat,List.foldl (fun x1 x2=>x1++x2) #[] (List.replicate m its.toArray)=(List.replicate m its).flatten.toArray:=fun m=>by
   have:=foldl_rep its m []
   rw [List.nil_append] at this
   exact this
  rw [f0]
  cases its with
  | nil=>simp
  | cons a r'=>rw [if_neg (by simp)]
 refine wpAny_binaryOp_repeat_ref (T := "list") (U := "int") (by decide) ⟨_,e,rfl⟩ (fun s'=>typeIs_int s' k t) noFill_list_mul F.fills_int_mul F.slot_int_rmul repeat_list F.slot_int_index.lookup
  (call_meets F.slot_int_rmul (typeIs_int s k t) F.entry_int_rmul (F.args_int_rmul_2 _ _) (int___rmul___int_list k t l its.toArray n)
    ⟨e,rfl,⟨_,e,rfl⟩,call_meets F.slot_list_mul ⟨_,e,rfl⟩ F.entry_list_mul (F.args_list_mul_2 _ _) (AutoListH.list___mul___list_int_3 l its.toArray n k t hfit hcap hlong) ⟨e,?_⟩⟩)
 rw [hnew]
 exact ⟨.ref _,_,I.lnew (t':=s.toks) (r.rep k.toNat) (by rw [len_rep,Nat.mul_comm]; exact hz),rfl,q _ I.fresh⟩
end
section
variable {prog:Program}
end
section
variable {X:Cx}
end
end L2
namespace Att
open PySem PySem.W PySem.Calls PyProof.Rows
theorem wW {P:Params} {h:Heap}:∀ (ns:List Int) (vs:List Value),WellAll P h vs (ns.map WData.int)->IntsAre vs ns:=by
 intro ns
 induction ns with
 | nil=>
  intro vs w
  rw [List.map_nil] at w
  cases w
  exact .nil
 | cons n ns ih=>
  intro vs w
  rw [List.map_cons] at w
  cases w with
  | cons a b=>
   cases a
   exact .cons _ _ (ih _ b)
theorem Jz {l:OpenLaw} {n:Nat} (hn:l.most=some n) {P:Params} {h:Heap} {args:List WData} {vals:List Value}
 (hpre:l.row.toRowW.claim.pre args=true) (hwl:WellAll P h vals args):
 ∃ a vs ns,vals=[Value.ref a]/\args=[WData.list (ns.map WData.int)]/\h.get? a=some { cls:=.type "list",data:=.seq vs.toArray }/\IntsAre vs ns/\ns.length<=n:=by
 have hsh:WShape.hasAll [] args [.list .int]=true:=(pre_splitW hpre).1
 have hc:l.pre.holds [] { args:=args }=true:=(pre_splitW hpre).2
 obtain ⟨d,r,rfl,h1,h2⟩:=hasAllW_cons hsh
 obtain rfl:=hasAllW_nil h2
 obtain ⟨xs,rfl,h3⟩:=hasW_list h1
 obtain ⟨ns,rfl⟩:=items_int h3
 have hlen:ns.length<=n:=by
  unfold OpenLaw.pre at hc
  have h4:(WTm.not (.lt (.lit (.int (n:Int))) (.len (.arg 0)))).holds [] { args:=[.list (ns.map .int)] }=true:=by
   have h4:=(holds_andW hc).1
   rw [hn] at h4
   exact h4
  have h5:=condW_of h4 (w_not (w_lt w_lit (w_len_list (w_arg rfl))))
  rw [List.length_map] at h5
  refine Nat.le_of_not_lt fun q=>?_
  have q':(n:Int)<((ns.length:Nat):Int):=by omega
  first
   | (rw [decide_eq_true q'] at h5; exact absurd h5 (by decide))
   | (simp at h5; omega)
 cases hwl with
 | cons w1 w2=>
  cases w2
  cases w1 with
  | list ho hall=>exact ⟨_,_,ns,rfl,rfl,ho,wW ns _ hall,hlen⟩
theorem JB (l:OpenLaw) (args:List WData):l.row.toRowW.claim.post args (.bool true) args=true:=
 postW_of (r:=l.row.toRowW) (X:=(true==true))
  (show WShape.has [] (.bool true) .bool=true by first | rfl | decide | simp [WShape.has,WShape.arms,WShape.armsAll])
  (show (WTm.eq .res (.lit (.bool true))).value [] { args:=args,res:=some (.bool true),after:=args }=some (.bool (true==true)) from w_eq_bool (w_res rfl) w_lit) rfl
theorem attach_call {l:OpenLaw} {n:Nat} {q:Program} {loose:List Str} {XP:(Str->Option Value)->Heap->Prop} {YP:World->Heap->Prop} {d:DefRec}
 (hn:l.most=some n) (hdf:d.params.defaults=[])
 (call:∀ (w:World) (s₀ s₁:Shared) (mg mb:Str->Option Value) (fa:Addr) (o:Obj) (pm cd doc:Value) (a:Addr) (vs:List Value) (ns:List Int),
   Ground q loose [] XP w s₀ mg mb s₁.heap->YP w s₁.heap->
   s₁.heap.get? fa=some o->o.data=.func (docDef d.name d.params d.body d.scope pm cd doc)->s₁.heap.CodeRec cd d.name->mg d.name=some (.ref fa)->
   s₁.heap.get? a=some { cls:=.type "list",data:=.seq vs.toArray }->IntsAre vs ns->ns.length<=n->s₁.gens=#[]->
   codeAny (model l.prog w) callerA (.call (.ref fa) ⟨[.ref a],[]⟩) (fun r s'=>r=.ok (.ret (.bool true))/\OldK s₁.heap s'.heap/\s'.os=s₁.os/\AllBare s'.gens) s₁):
 WalkO q loose XP YP l.row.toRowW d [] (fun f vs=>PySem.call f vs):=by
 intro w s₀ s₁ mg mb G Y fa o pm cd doc dV kV ho hd hcd hD hmg hg args vals as hpre hlay hrd hwl hlo
 obtain rfl:dV=.none:=Dflts.none hD hdf
 obtain rfl:kV=.none:=Dflts.noKw hD
 obtain ⟨a,vs,ns,rfl,rfl,hobj,hints,hlen⟩:=Jz hn hpre hwl
 refine enter_call (codeAny_mono (call w s₀ s₁ mg mb fa o pm cd doc a vs ns G Y ho (fd_plain hd) hcd hmg hobj hints hlen hg) fun r s' hq=>?_)
 obtain ⟨rfl,h2,h3,h4⟩:=hq
 exact ⟨.inl ⟨.bool true,.bool true,[],rfl,fun _=>rfl,.bool true,JB l _,fun _=>⟨List.Pairwise.nil,fun _ hm=>(nomatch hm)⟩⟩,h2,h3,h4⟩
section
variable {prog:Program} {w:World} {A:Around} {E:Value->Shared->Prop} {s:Shared} {K:Frag}
end
end Att
namespace L2
open PySem PySem.Spec PyProof.Rows
variable {pins:List (Addr×Obj)} {E:Value->Shared->Prop} {s:Shared} {A:Around} {w:World} {P:Program}
theorem Ae:∀ {vs:List Value} {ns:List Int},IntsAre vs ns->Vals (ns.map V.int) vs
 | _,_,.nil=>.nil
 | _,_,.cons n t h=>.cons ⟨t,rfl⟩ (Ae h)
noncomputable def Only (H:Hp):Prop:=∀ b,H b=none\/∃ o xs,H b=some (.frz o (.lst xs))
theorem LR {K:FG} {mg mb:Str->Option Value} {CX:qZ} {k:Nat} {fa a:Addr} {fd:FuncData} {x:Str} {sp:Sp} {s₁:Shared} {vs:List Value} {ns:List Int}
 (KX:K.In s₁.heap) (hns:s₁.heap.Ns mainGlobals mg) (hb:s₁.heap.Ns builtinsNs mb) (hbb:∀ x:Str,x ≠ "__name__" -> mb x=bootBuiltins x) (hlim:s₁.heap.NoLimit) (hg:s₁.gens=#[])
 (ha:s₁.heap.get? a=some { cls:=.type "list",data:=.seq vs.toArray }) (hi:IntsAre vs ns) (hl:ns.length<=sizeLine) (hr:eQ k callerA)
 (F:∀ base:Heap,K.In base->base.Ns mainGlobals mg->jr P w K mg base CX k fa fd [x] sp) (hbind:∀ (s:Shared) (u:Value),BindsTo s fd ⟨[u],[]⟩ [(x,u)])
 (hsp:∀ H:Hp,Only H->bY K H a (ns.map V.int)->sp [.ref a] H (fun v _=>v=.bl true) fun _ _ _=>False)
 (hCX:∀ H e s',CX [] H s₁ (fun _ _ _=>False) e s'->False):
 codeAny (model P w) callerA (.call (.ref fa) ⟨[.ref a],[]⟩) (fun r s'=>r=.ok (.ret (.bool true))/\OldK s₁.heap s'.heap/\s'.os=s₁.os/\AllBare s'.gens) s₁:=by
 have rv:=Ae hi
 have lenV:=hi.length
 have core:∀ H:Hp,Only H->bY K H a (ns.map V.int)->eU P w H s₁.heap->(∀ b,H b≠none->b=a)->(H a≠none->K.lookup a=none)->
  codeAny (model P w) callerA (.call (.ref fa) ⟨[.ref a],[]⟩) (fun r s'=>r=.ok (.ret (.bool true))/\OldK s₁.heap s'.heap/\s'.os=s₁.os/\AllBare s'.gens) s₁:=by
  intro H hO hS hok hA hK
  have base_of:∀ {b:Addr} {o:Obj},s₁.heap.get? b=some o->H b=none->(sy s₁.heap H).get? b=some o:=fun e n=>Le e n
  have noA:∀ {b:Addr} {o:Obj} {es:Array DictEntry} {ep:Nat},s₁.heap.get? b=some o->o.data=.dict es ep->H b=none:=fun {b o es ep} e d=>by
   cases q:H b with
   | none=>rfl
   | some u=>
    have e':b=a:=hA b (by rw [q]; simp)
    subst e'
    rw [ha] at e; cases e
    have d':Data.seq vs.toArray _=Data.dict es ep:=d
    cases d'
  have nsK:∀ {b:Addr} {m:Str->Option Value},s₁.heap.Ns b m->(sy s₁.heap H).Ns b m:=fun {b m} ⟨o,es,ep,e,d,r⟩=>⟨o,es,ep,base_of e (noA e d),d,r⟩
  have hKb:K.In (sy s₁.heap H):=fun b o e=>base_of (KX b o e) (by
   cases q:H b with
   | none=>rfl
   | some u=>
    have e':b=a:=hA b (by rw [q]; simp)
    subst e'
    rw [hK (by rw [q]; simp)] at e; cases e)
  have hM:Mod K mg (sy s₁.heap H):=⟨hKb,nsK hns,⟨mb,nsK hb,hbb⟩,let ⟨mc,h1,h2⟩:=hlim; ⟨mc,nsK h1,h2⟩⟩
  have e0:vY P w K mg (sy s₁.heap H) callerA [] s₁ H:=⟨rfl,hM,fun b o e=>Px e,Nat.le_of_eq (Jg _ _),trivial,fun b hb=>absurd (show b∈([]:List Addr) from hb) (by simp),hok,.of_eq hg⟩
  refine codeAny_mono ((F _ hKb (nsK hns)).run callerA [] s₁ H ⟨[.ref a],[]⟩ [.ref a] [.ref a] _ _ hr e0 (hbind s₁ (.ref a)) (.cons rfl .nil) (hsp H hO hS)) fun r s' h=>?_
  cases r with
  | error e=>exact (hCX H e s' h).elim
  | ok fl=>
   cases fl with
   | next=>exact False.elim h
   | brk=>exact False.elim h
   | cont=>exact False.elim h
   | ret u=>
    obtain ⟨v,H',os,bare,un,hok',r',q⟩:=h
    have q':v=.bl true:=q
    subst q'
    obtain rfl:u=Value.bool true:=r'
    refine ⟨rfl,OldK.of_keep fun b o e=>?_,os,bare⟩
    cases q:H b with
    | none=>exact un.keep b o e q (by intro z; exact absurd (show b∈([]:List Addr) from z) (by simp)) (by simp)
    | some u=>
     rcases hO b with z | ⟨ob,xs,z⟩
     . rw [q] at z; cases z
     . have z2:=un.frzs b ob _ z
       obtain ⟨e1,_⟩:=hok b _ z
       obtain ⟨e2,_⟩:=hok' b _ z2
       rw [e] at e1; cases e1
       exact e2
 cases hk:K.lookup a with
 | some o=>
  have e:=KX a o hk
  rw [ha] at e
  cases e
  refine core (fun _=>none) (fun _=>.inl rfl) (.inr ⟨_,vs.toArray,_,hk,rfl,rfl,rfl,by rw [List.size_toArray,lenV]; exact hl,by simpa using rv⟩) (fun b u z=>by have z':(none:Option HO)=some u:=z; cases z') (fun b z=>absurd rfl z) fun z=>absurd rfl z
 | none=>
  refine core (fun b=>if b=a then some (.frz { cls:=.type "list",data:=.seq vs.toArray } (.lst (ns.map V.int))) else none) (fun b=>?_) (.inl (.inr ⟨{ cls:=.type "list",data:=.seq vs.toArray },if_pos rfl⟩)) (fun b u z=>?_) (fun b z=>?_) fun _=>hk
  . by_cases hb:b=a
    . exact .inr ⟨_,_,if_pos hb⟩
    . exact .inl (if_neg hb)
  . by_cases hb:b=a
    . have z':=(if_pos hb).symm.trans z
      cases z'
      subst hb
      exact ⟨ha,by rw [List.length_map]; exact hl,vs,_,rv,ha⟩
    . have z':=(if_neg hb).symm.trans z
      cases z'
  . by_cases hb:b=a
    . exact hb
    . exact absurd (if_neg hb) z
theorem walk_of {l:W.OpenLaw} {n k:Nat} {q:Program} {loose:List Str} {XP:(Str->Option Value)->Heap->Prop} {YP:World->Heap->Prop} {d:DefRec} {K:Params->FG} {CX:World->qZ} {sp:World->Sp} {x:Str}
 (hn:l.most=some n) (hn2:n<=sizeLine) (hdf:d.params.defaults=[]) (hr:eQ k callerA)
 (hY:∀ (w:World) (h:Heap),YP w h->(K w.params).In h)
 (F:∀ (w:World) (mg:Str->Option Value) (fa:Addr) (h:Heap),(K w.params).In h->h.Ns mainGlobals mg->mg d.name=some (.ref fa)->
   ∃ fd:FuncData,(∀ (s:Shared) (u:Value),BindsTo s fd ⟨[u],[]⟩ [(x,u)])/\
    ∀ base:Heap,(K w.params).In base->base.Ns mainGlobals mg->jr l.prog w (K w.params) mg base (CX w) k fa fd [x] (sp w))
 (hsp:∀ (w:World) (H:Hp) (a:Addr) (ns:List Int),ns.length<=n->Only H->bY (K w.params) H a (ns.map V.int)->sp w [.ref a] H (fun v _=>v=.bl true) fun _ _ _=>False)
 (hCX:∀ (w:World) (H:Hp) (s:Shared) (e:Value) (s':Shared),CX w [] H s (fun _ _ _=>False) e s'->False):
 W.WalkO q loose XP YP l.row.toRowW d [] (fun f vs=>PySem.call f vs):=by
 refine Att.attach_call hn hdf fun w s₀ s₁ mg mb fa o pm cd doc a vs ns G Y ho hd hcd hmg hobj hints hlen hg=>?_
 have KX:=hY w _ Y
 obtain ⟨fd,hb,hF⟩:=F w mg fa _ KX G.T.g hmg
 exact LR KX G.T.g G.T.b G.T.builtins G.T.nolimit hg hobj hints (Nat.le_trans hlen hn2) hr hF hb (fun H hO hS=>hsp w H a ns hlen hO hS) fun H e s'=>hCX w H s₁ e s'
noncomputable def inClass (s:Stmt) (j:Nat):Stmt:=match s with
 | .ClassDef _ _ _ body _ _ _ _ _ _ _=>body.getD j (.Pass ⟨0,0,0,0⟩)
 | _=>.Pass ⟨0,0,0,0⟩
noncomputable def aV (s:Stmt):Arguments:=match s with
 | .FunctionDef _ a _ _ _ _ _ _ _ _=>a
 | _=>{ posonlyargs:=[],args:=[],vararg:=none,kwonlyargs:=[],kw_defaults:=[],kwarg:=none,defaults:=[] }
noncomputable def aN (s:Stmt):List Stmt:=match s with
 | .FunctionDef _ _ b _ _ _ _ _ _ _=>b
 | _=>[]
noncomputable def aq (s:Stmt):Scope:=match s with
 | .FunctionDef _ _ _ _ _ _ sc _ _ _=>sc
 | _=>{ kind:=.function,names:=[],isGenerator:=false,isCoroutine:=false }
noncomputable abbrev mZ:qZ:=fun _ _ _ _ _ _=>False
noncomputable abbrev E0:XK:=fun _ _ _=>False
theorem Bx {X:Cx}:lq mZ X E0:=fun _ _ _ _ _ _ _ h=>h.elim
structure m5 (K:FG) (x qual:Str) (st:Stmt) (f:Addr) (fd:FuncData):Prop where
 ex:∃ (oc:Value) (od:Option Addr) (kV doc pm:Value) (an:Option Addr) (cdv ct:Value) (osl:Array (Option Value)),
  fd=W.fnOf x qual (aV st) (aN st) (aq st) .none kV doc pm an cdv ct/\K.lookup f=some ⟨oc,od,.func fd,osl⟩/\W.codeIn K cdv qual=true
 kp:W.keepIn K (.ref f)=true
section
variable {P:Program} {w:World} {K:FG} {mg:Str->Option Value} {base:Heap}
theorem m5.ok {b:Bool} {x qual:Str} {st:Stmt} {f:Addr} {fd:FuncData} {N ps:List Str} {k:Nat} {sp:Sp} (F:m5 K x qual st f fd) (S:aR N ps (aq st)) (len:∀ vs H Q E,sp vs H Q E->vs.length=ps.length)
 (hbody:∀ (cdv:Value) (A:Around) (outer:List Env) (s:Shared) (H:Hp) (vs:List V) (Q:VK) (E:XK),cV b k (A.deeper (envOfC qual (aq st) s.heap.objs.size f cdv))->sp vs H Q E->
   ∃ t,dg (qD b mZ P w K mg base N qual (aq st) f cdv A outer s H E).nox (aN st) t/\t { nx:=fun _ H'=>Q .non H',rt:=Q } (start N vs) H):oK b P w K mg base mZ (k+1) f fd ps sp:=by
 obtain ⟨oc,od,kV,doc,pm,an,cdv,ct,osl,rfl,lk,hcd⟩:=F.ex
 refine Ot lk hcd S len fun A outer s H vs Q E hr hsp=>?_
 obtain ⟨t,h,q⟩:=hbody cdv A outer s H vs Q E hr hsp
 exact ⟨t,h.nox,q⟩
theorem m5.binds {x qual:Str} {st:Stmt} {f:Addr} {fd:FuncData} {ps:List Str} (F:m5 K x qual st f fd)
 (h:∀ (kV doc pm:Value) (an:Option Addr) (cdv ct:Value) (us:List Value),us.length=ps.length->bindArgs (W.fnOf x qual (aV st) (aN st) (aq st) .none kV doc pm an cdv ct) ⟨us,[]⟩=pure (ps.zip us)):Binds K fd ps []:=by
 obtain ⟨oc,od,kV,doc,pm,an,cdv,ct,osl,rfl,lk,hcd⟩:=F.ex
 exact .all (h kV doc pm an cdv ct)
theorem dC {x qual:Str} {st:Stmt} {f:Addr} {oc:Value} {od an:Option Addr} {osl:Array (Option Value)} {kV doc pm cdv ct:Value} (l:K.lookup f=some ⟨oc,od,.func (W.fnOf x qual (aV st) (aN st) (aq st) .none kV doc pm an cdv ct),osl⟩)
 (c:W.codeIn K cdv qual=true) (k:W.keepIn K (.ref f)=true):m5 K x qual st f (W.fnOf x qual (aV st) (aN st) (aq st) .none kV doc pm an cdv ct):=⟨⟨oc,od,kV,doc,pm,an,cdv,ct,osl,rfl,l,c⟩,k⟩
end
theorem lB {b:Bool} {k:Nat} (hr:cV b k A):A.units+1<cLine:=Nat.lt_of_le_of_lt (Nat.add_le_add_left (by decide:1<=64) _) hr.units
theorem JC {n:Nat} (h:n<=1000):n<sizeLine:=Nat.lt_of_le_of_lt h (by decide)
section
variable {X:Cx}
theorem pv (i:Nat) {x:Str} {pos:Pos} (hN:X.N[i]?=some x:=by rfl) (hv:Jh X.env.scope x:=by first | exact Or.inl rfl | exact Or.inr (Or.inl rfl) | exact Or.inr (Or.inr rfl)) (hd:(x==("__debug__" : Str))=false:=by decide)
 (hcd:(x==("__classdict__" : Str))=false:=by decide):PE X (.Name x pos) (sE i):=Rp hN hv hd hcd
end
noncomputable def cG (H H':Hp):Prop:=∀ b o,H b=some o->H' b=some o
theorem cG.refl (H:Hp):cG H H:=fun _ _ h=>h
theorem cG.trans {H H1 H2:Hp} (a:cG H H1) (b:cG H1 H2):cG H H2:=fun c o h=>b c o (a c o h)
theorem cG.free {H H':Hp} (e:cG H H') {l:Addr} (h:H' l=Option.none):H l=Option.none:=by
 cases q:H l with
 | none=>rfl
 | some o=>
  rw [e l o q] at h
  cases h
theorem cG.seq {K:FG} {H H':Hp} {a:Addr} {xs:List V} (e:cG H H') (h:bY K H a xs):bY K H' a xs:=by
 rcases h with (h | ⟨o,h⟩) | h
 . exact .inl (.inl (e _ _ h))
 . exact .inl (.inr ⟨o,e _ _ h⟩)
 . exact .inr h
section
variable {κ:Type} [DecidableEq κ]
noncomputable def lF (kvs:List (κ×V)) (k:κ):Option V:=(kvs.find? fun kv=>decide (kv.1=k)).map (·.2)
noncomputable def putK (kvs:List (κ×V)) (k:κ) (v:V):List (κ×V):=
 if (kvs.any fun kv=>decide (kv.1=k))=true then kvs.map (fun kv=>if kv.1=k then (kv.1,v) else kv) else kvs++[(k,v)]
theorem pI {p:κ×V} {r:List (κ×V)} {k:κ} (e:p.1=k):lF (p::r) k=some p.2:=by simp [lF,List.find?_cons,e]
theorem pJ {p:κ×V} {r:List (κ×V)} {k:κ} (e:¬ p.1=k):lF (p::r) k=lF r k:=by simp [lF,List.find?_cons,e]
theorem pK (k:κ):∀ kvs:List (κ×V),(kvs.any fun kv=>decide (kv.1=k))=(lF kvs k).isSome
 | []=>rfl
 | p::r=>by
  rw [List.any_cons]
  by_cases e:p.1=k
  . simp only [pI e,decide_eq_true e,Bool.true_or,Option.isSome_some]
  . rw [pJ e,decide_eq_false e,Bool.false_or]; exact pK k r
theorem vP (kvs:List (κ×V)) (k:κ) (v:V):(putK kvs k v).length<=kvs.length+1:=by
 unfold putK
 split
 . rw [List.length_map]; omega
 . rw [List.length_append,List.length_cons,List.length_nil]; omega
theorem Cq {kvs:List (κ×V)} {k:κ} (v:V) (h:lF kvs k=none):putK kvs k v=kvs++[(k,v)]:=by
 unfold putK
 rw [pK,h]
 exact if_neg (by decide)
theorem kW.isSome_eq {o:Option V} {u:Option Value} (r:kW o u):o.isSome=u.isSome:=by
 cases o with
 | none=>cases u with
  | none=>rfl
  | some _=>exact (show False from r).elim
 | some _=>cases u with
  | none=>exact (show False from r).elim
  | some _=>rfl
theorem KV.val {kvs:List (κ×V)} {vs:List (κ×Value)} (r:KV kvs vs) (k:κ):kW (lF kvs k) (valueAt vs k):=by
 unfold KV at r
 induction r with
 | nil=>exact True.intro
 | @cons p q ps qs h t ih=>
  obtain ⟨h1,h2⟩:=h
  by_cases e:p.1=k
  . have e':q.1=k:=h1.symm.trans e
    have b:valueAt (q::qs) k=some q.2:=by simp [valueAt,List.find?_cons,e']
    rw [pI e,b]; exact h2
  . have e':¬ q.1=k:=fun z=>e (h1.trans z)
    have b:valueAt (q::qs) k=valueAt qs k:=by simp [valueAt,List.find?_cons,e']
    rw [pJ e,b]; exact ih
theorem KV.any {kvs:List (κ×V)} {vs:List (κ×Value)} (r:KV kvs vs) (k:κ):(kvs.any fun kv=>decide (kv.1=k))=vs.any fun kv=>decide (kv.1=k):=by
 unfold KV at r
 induction r with
 | nil=>rfl
 | cons h t ih=>rw [List.any_cons,List.any_cons,ih,h.1]
theorem KV.repl {kvs:List (κ×V)} {vs:List (κ×Value)} (r:KV kvs vs) (k:κ) {y:V} {u:Value} (ry:RelV y u):
 KV (kvs.map fun kv=>if kv.1=k then (kv.1,y) else kv) (vs.map fun kv=>if kv.1=k then (kv.1,u) else kv):=by
 unfold KV at r ⊢
 induction r with
 | nil=>exact .nil
 | @cons p q ps qs h t ih=>
  rw [List.map_cons,List.map_cons]
  refine .cons ?_ ih
  obtain ⟨h1,h2⟩:=h
  by_cases e:p.1=k
  . rw [if_pos e,if_pos (h1.symm.trans e)]; exact ⟨h1,ry⟩
  . rw [if_neg e,if_neg (fun z=>e (h1.trans z))]; exact ⟨h1,h2⟩
theorem KV.put {kvs:List (κ×V)} {vs:List (κ×Value)} (r:KV kvs vs) (k:κ) {y:V} {u:Value} (ry:RelV y u):KV (putK kvs k y) (stored vs k u):=by
 unfold putK stored
 rw [r.any k]
 by_cases e:(vs.any fun kv=>decide (kv.1=k))=true
 . rw [if_pos e,if_pos e]; exact r.repl k ry
 . rw [if_neg e,if_neg e]; exact Paired.snoc r ⟨rfl,ry⟩
theorem KV.keys {kvs:List (κ×V)} {vs:List (κ×Value)} (r:KV kvs vs):kvs.map (·.1)=vs.map (·.1):=by
 unfold KV at r
 induction r with
 | nil=>rfl
 | cons h t ih=>rw [List.map_cons,List.map_cons,ih,h.1]
theorem KV.length {kvs:List (κ×V)} {vs:List (κ×Value)} (r:KV kvs vs):kvs.length=vs.length:=Paired.length r
end
theorem Ho {k:Key} {u:Value} (r:RelV (kV k) u):(cR P w).is k u=true:=by
 cases k with
 | inl i=>obtain ⟨t,e⟩:=(show ∃ t,u=Value.int i t from r); subst e; exact Fd P w i t
 | inr x=>obtain ⟨t,e⟩:=(show ∃ t,u=Value.str x t from r); subst e; exact Fe P w x t
theorem Af:∀ {ks:List Key} {us:List Value},Vals (ks.map kV) us->ItemsAre (cR P w) ks us
 | [],_,r=>by rw [List.map_nil] at r; cases r; exact .nil
 | k::ks,_,r=>by
  rw [List.map_cons] at r
  cases r with
  | cons h t=>exact .cons (Ho h) (Af t)
noncomputable abbrev KT (H:Hp):List (List Key×V)->List (List Key×Addr×Value)->Prop:=Paired fun p q=>p.1=q.1/\H q.2.1=some (.tup (p.1.map kV))/\RelV p.2 q.2.2
theorem KT.val {H:Hp} {kvs:List (List Key×V)} {xs:List (List Key×Addr×Value)} (r:KT H kvs xs) (k:List Key):kW (lF kvs k) ((atKey xs k).map (·.2)):=by
 induction r with
 | nil=>exact True.intro
 | @cons p q ps qs h t ih=>
  obtain ⟨h1,_,h2⟩:=h
  by_cases e:p.1=k
  . have e':q.1=k:=h1.symm.trans e
    have b:atKey (q::qs) k=some q.2:=by simp [atKey,List.find?_cons,e']
    rw [pI e,b]; exact h2
  . have e':¬ q.1=k:=fun z=>e (h1.trans z)
    have b:atKey (q::qs) k=atKey qs k:=by simp [atKey,List.find?_cons,e']
    rw [pJ e,b]; exact ih
theorem KT.repl {H:Hp} {kvs:List (List Key×V)} {xs:List (List Key×Addr×Value)} (r:KT H kvs xs) (k:List Key) {y:V} {u:Value} (ry:RelV y u):
 KT H (kvs.map fun kv=>if kv.1=k then (kv.1,y) else kv) (xs.map (putAt k u)):=by
 induction r with
 | nil=>exact .nil
 | @cons p q ps qs h t ih=>
  rw [List.map_cons,List.map_cons]
  refine .cons ?_ ih
  obtain ⟨h1,h2,h3⟩:=h
  unfold putAt
  by_cases e:p.1=k
  . rw [if_pos e,if_pos (h1.symm.trans e)]; exact ⟨h1,h2,ry⟩
  . rw [if_neg e,if_neg (fun z=>e (h1.trans z))]; exact ⟨h1,h2,h3⟩
theorem KT.put {H:Hp} {kvs:List (List Key×V)} {xs:List (List Key×Addr×Value)} (r:KT H kvs xs) (k:List Key) {b:Addr} {y:V} {u:Value} (hb:H b=some (.tup (k.map kV))) (ry:RelV y u):
 KT H (putK kvs k y) (storedH xs k b u):=by
 have e:(kvs.any fun kv=>decide (kv.1=k))=(atKey xs k).isSome:=by
  rw [pK,(r.val k).isSome_eq,Option.isSome_map]
 unfold putK storedH
 rw [e]
 by_cases q:(atKey xs k).isSome=true
 . rw [if_pos q,if_pos q]; exact r.repl k ry
 . rw [if_neg q,if_neg q]; exact Paired.snoc r ⟨rfl,hb,ry⟩
theorem KT.keeps {H H':Hp} {kvs:List (List Key×V)} {xs:List (List Key×Addr×Value)} (r:KT H kvs xs) (ht:∀ b ys,H b=some (.tup ys)->H' b=some (.tup ys)):KT H' kvs xs:=
 Paired.mapP r fun _ _ z=>⟨z.1,ht _ _ z.2.1,z.2.2⟩
section
variable {P:Program} {w:World} {H:Hp} {h:Heap} {a:Addr}
theorem Ox {u:HO} (ok:eU P w H h) (e:Rd H a u):dw P w H h a u:=e.ok ok
theorem Hq {kvs:List (Key×V)} (ok:eU P w H h) (e:Rd H a (.dK kvs)):kvs.length<=sizeLine/\(a==sysModules)=false/\∃ vs,KV kvs vs/\h.DictOf (cR P w) a vs:=
 show dw P w H h a (.dK kvs) from Ox ok e
theorem Hr {kvs:List (Key×V)} (ok:eU P w H h) (e:H a=some (.dK kvs)):kvs.length<=sizeLine/\(a==sysModules)=false/\∃ vs,KV kvs vs/\h.DictOf (cR P w) a vs:=Hq ok (.inl e)
theorem Cr {ks:List Key} (ok:eU P w H h) (e:H a=some (.tup (ks.map kV))):(tupleKind (cR P w)).is h ks a:=by
 obtain ⟨_,its,r,o,h1,h2,n,h3⟩:=(show dw P w H h a (.tup (ks.map kV)) from ok a _ e)
 exact ⟨o,its.toArray,n,h1,h2,h3,by simpa using Af r⟩
theorem Hs {kvs:List (List Key×V)} (ok:eU P w H h) (e:Rd H a (.dT kvs)):kvs.length<=sizeLine/\(a==sysModules)=false/\
 ∃ xs,KT H kvs xs/\h.DictOfH (tupleKind (cR P w)) a xs:=by
 obtain ⟨z,y,xs,r,o,es,ep,h1,h2,h3,h4,h5⟩:=(show dw P w H h a (.dT kvs) from Ox ok e)
 refine ⟨z,y,xs,r,o,es,ep,h1,h2,h3,h4,fun x hx=>?_,h5⟩
 have all:∀ {l:List (List Key×V)} {m:List (List Key×Addr×Value)},KT H l m->∀ x∈m,(tupleKind (cR P w)).is h x.1 x.2.1:=by
  intro l m q
  induction q with
  | nil=>intro x hx; exact nomatch hx
  | @cons p q ps qs hq t ih=>
   intro x hx
   rcases List.mem_cons.mp hx with e | hx
   . subst e
     exact Cr ok (by rw [← hq.1]; exact hq.2.1)
   . exact ih x hx
 exact all r x hx
theorem U9 {kvs:List (List Key×V)} (ok:eU P w H h) (e:H a=some (.dT kvs)):kvs.length<=sizeLine/\(a==sysModules)=false/\
 ∃ xs,KT H kvs xs/\h.DictOfH (tupleKind (cR P w)) a xs:=Hs ok (.inl e)
end
noncomputable def Ma (H:Hp) (a:Addr) (y:V) (r:Option V):Prop:=
 (∃ kvs k,Rd H a (.dK kvs)/\y=kV k/\r=lF kvs k)\/∃ kvs k b,Rd H a (.dT kvs)/\y=.ref b/\H b=some (.tup (k.map kV))/\r=lF kvs k
noncomputable def Ss (H:Hp) (a:Addr) (y v:V) (H':Hp):Prop:=
 (∃ kvs k,H a=some (.dK kvs)/\y=kV k/\kvs.length<sizeLine/\H'=upd H a (.dK (putK kvs k v)))\/
 ∃ kvs k b,H a=some (.dT kvs)/\y=.ref b/\H b=some (.tup (k.map kV))/\kvs.length<sizeLine/\H'=upd H a (.dT (putK kvs k v))
section
variable {X:Cx} {pins:List (Addr×Obj)} {σ:St} {H:Hp} {s:Shared} {a:Addr} {y v:V} {u r:Value} {o:Option V} {A:Around} {E:Value->Shared->Prop}
theorem Inv.big (I:Inv X pins σ H s):sysModules<s.heap.objs.size:=by
 have h:mainGlobals<s.heap.objs.size:=(I.mod.glob.keeps I.bk).lt
 exact Nat.lt_trans (by decide) h
theorem JD {Q:Value->Shared->Prop} (hu:A.units+1<cLine) (I:Inv X pins σ H s) (g:Ma H a y (some v)) (ry:RelV y u) (h:∀ w' s',Inv X pins σ H s'->RelV v w'->Q w' s'):
 wpAny (model X.prog X.w) A (getItem (.ref a) u) Q E s:=by
 rcases g with ⟨kvs,k,e,ey,l⟩ | ⟨kvs,k,b,e,ey,eb,l⟩
 . subst ey
   obtain ⟨z,hd,vs,rel,dd⟩:=Hq I.hok e
   obtain ⟨w',hw,rw'⟩:=kW.some_of (v:=v) (o:=valueAt vs k) (by rw [l]; exact rel.val k)
   exact wpAny_getItem_of (Ho ry) dd.mapOf hw (h w' _ (I.tok _) rw')
 . subst ey
   cases (show u=Value.ref b from ry)
   obtain ⟨z,hd,xs,rel,dd⟩:=Hs I.hok e
   obtain ⟨w',hw,rw'⟩:=kW.some_of (v:=v) (o:=(atKey xs k).map (·.2)) (by rw [l]; exact rel.val k)
   obtain ⟨p,hp,hp2⟩:=Option.map_eq_some_iff.mp hw
   refine wpAny_getItem_heap (tupleKind_room_in1 hu) (Cr I.hok eb) dd hp ?_
   rw [hp2]
   exact h w' _ (I.tok _) rw'
theorem vh {h':Heap} {t':Nat} {ob:HO} (I:Inv X pins σ H s) (mu:Jf (H a)) (hs:Heap.SameBut a s.heap h') (he:∃ q,h'.get? a=some q) (new:dw X.prog X.w (upd H a ob) h' a ob):
 Inv X pins σ (upd H a ob) { s with heap:=h',toks:=t' }:=
 I.write (x:=a) (e:=a) mu (.inl rfl) (fun b q hb z=>(hs.2 b hb).trans z) he new
theorem Su {H':Hp} {h':Heap} {kvs:List (Key×V)} {vs:List (Key×Value)} (z:kvs.length<=sizeLine) (hd:(a==sysModules)=false) (rel:KV kvs vs) (dd:h'.DictOf (cR P w) a vs):
 dw P w H' h' a (.dK kvs):=⟨z,hd,vs,rel,dd⟩
theorem JG {H':Hp} {Q:Unit->Shared->Prop} (hu:A.units+1<cLine) (I:Inv X pins σ H s) (g:Ss H a y v H') (ry:RelV y u) (rv:RelV v r) (h:∀ s',Inv X pins σ H' s'->Q () s'):
 wpAny (model X.prog X.w) A (setItem (.ref a) u r) Q E s:=by
 rcases g with ⟨kvs,k,e,ey,l,eH⟩ | ⟨kvs,k,b,e,ey,eb,l,eH⟩
 . subst ey eH
   obtain ⟨z,hd,vs,rel,dd⟩:=Hr I.hok e
   have hz:vs.length<=sizeLine:=by rw [← rel.length]; exact z
   have hl:(putK kvs k v).length<=sizeLine:=by have:=vP kvs k v; omega
   refine wpAny_setItem_pairs (hsz:=hz) (Ho ry) dd fun h' dd' hs=>h _ ?_
   have he:∃ q,h'.get? a=some q:=let ⟨q,_,_,hq,_⟩:=dd'; ⟨q,hq⟩
   exact vh I (by rw [e]; exact True.intro) hs he (Su hl hd (rel.put k rv) dd')
 . subst ey eH
   cases (show u=Value.ref b from ry)
   obtain ⟨z,hd,xs,rel,dd⟩:=U9 I.hok e
   have hz:xs.length<=sizeLine:=by rw [← Paired.length rel]; exact z
   have hl:(putK kvs k v).length<=sizeLine:=by have:=vP kvs k v; omega
   refine wpAny_setItem_heap (hsz:=hz) (tupleKind_room_in1 hu) (Cr I.hok eb) dd fun h' dd' hs=>h _ ?_
   obtain ⟨q,es,ep,hq,h2,h3,h4,_,h5⟩:=dd'
   refine vh I (by rw [e]; exact True.intro) hs ⟨q,hq⟩ ⟨hl,hd,_,(rel.put k eb rv).keeps fun c ys ec=>?_,q,es,ep,hq,h2,h3,h4,h5⟩
   rw [aP (UW ec e (fun z=>nomatch z))]
   exact ec
end
section
variable {X:Cx} {pins:List (Addr×Obj)} {σ:St} {H:Hp} {s:Shared} {a:Addr} {kvs:List (Key×V)} {k:Key} {u:Value} {A:Around} {E:Value->Shared->Prop}
end
theorem Fg {X:Cx} {σ:St} {H:Hp} {a:Addr} {y:V} {o:Option V} (I:Inv X pins σ H s) (g:Ma H a y o):s.TypeIs (.ref a) "dict" := by
 rcases g with ⟨kvs,k,e,_,_⟩ | ⟨kvs,k,b,e,_,_,_⟩
 . obtain ⟨_,_,vs,_,dd⟩:=Hq I.hok e
   exact dd.typeIs
 . obtain ⟨_,_,xs,_,dd⟩:=Hs I.hok e
   exact dd.typeIs
section
variable {X:Cx} {o i e value:Expr} {pos pos' tpos:Pos} {td ty tv:TE}
end
theorem Mf {H:Hp} (h:Heap) (hb:sysModules<h.objs.size):dw P w H (h.push { cls:=.type "dict",data:=.dict #[] }) h.objs.size (.dK []):=
 ⟨Nat.zero_le _,beq_eq_false_iff_ne.mpr (Ne.symm (Nat.ne_of_lt hb)),[],.nil,Heap.DictOf.new h⟩
theorem Mg {H:Hp} (h:Heap) (hb:sysModules<h.objs.size):dw P w H (h.push { cls:=.type "dict",data:=.dict #[] }) h.objs.size (.dT []):=
 ⟨Nat.zero_le _,beq_eq_false_iff_ne.mpr (Ne.symm (Nat.ne_of_lt hb)),[],.nil,_,#[],0,Heap.get?_push_size _ rfl,⟨rfl,rfl,rfl⟩,rfl,rfl,List.nodup_nil⟩
noncomputable def Sv:TE:=fun _ H Q=>∀ p,H p=none->Q (.ref p) (upd H p (.dK []))
noncomputable def Sw:TE:=fun _ H Q=>∀ p,H p=none->Q (.ref p) (upd H p (.dT []))
section
variable {X:Cx} {pos:Pos}
theorem Mh:PE X (.Dict [] [] pos) Sv:=fun pins s σ H Q I h=>
 wpAny_Dict_empty ⟨.ref s.heap.objs.size,_,I.laid (a:=s.heap.objs.size) (o:=.dK []) (t':=s.toks) (fun _ _ q=>Heap.get?_push_of_some _ q) (Nat.le_refl _) (Mf s.heap I.big),rfl,h _ (I.hok.fresh (Nat.le_refl _))⟩
theorem Mi:PE X (.Dict [] [] pos) Sw:=fun pins s σ H Q I h=>
 wpAny_Dict_empty ⟨.ref s.heap.objs.size,_,I.laid (a:=s.heap.objs.size) (o:=.dT []) (t':=s.toks) (fun _ _ q=>Heap.get?_push_of_some _ q) (Nat.le_refl _) (Mg s.heap I.big),rfl,h _ (I.hok.fresh (Nat.le_refl _))⟩
end
section
variable {X:Cx} {pins:List (Addr×Obj)} {σ:St} {H:Hp} {s:Shared} {a:Addr} {y d:V} {u r:Value} {o:Option V} {A:Around} {E:Value->Shared->Prop}
end
section
variable {X:Cx} {o e f:Expr} {apos cpos:Pos} {td ty tx:TE}
end
section
variable {X:Cx} {pins:List (Addr×Obj)} {σ:St} {H:Hp} {s:Shared} {a:Addr} {kvs:List (Key×V)} {A:Around} {E:Value->Shared->Prop}
end
section
variable {X:Cx} {pins:List (Addr×Obj)} {σ:St} {H:Hp} {s:Shared} {a:Addr} {y:V} {u:Value} {A:Around} {E:Value->Shared->Prop}
end
section
variable {X:Cx}
end
section
variable {κ:Type} [DecidableEq κ]
end
noncomputable def qH (names:List (Str×NameKind)) (env:Env):List (Str×Addr):=names.foldl (fun cs p=>if (p.2==NameKind.free)=true then (p.1,(env.cells.lookup p.1).getD 0)::cs else cs) []
theorem ug {env:Env}:∀ (names:List (Str×NameKind)) (cs:List (Str×Addr)) (x:Str) (c:Addr),
 (∀ y d,cs.lookup y=some d->d=(env.cells.lookup y).getD 0)->
 (names.foldl (fun cs p=>if (p.2==NameKind.free)=true then (p.1,(env.cells.lookup p.1).getD 0)::cs else cs) cs).lookup x=some c->c=(env.cells.lookup x).getD 0
 | [],cs,x,c,h,e=>h x c e
 | (n,k)::r,cs,x,c,h,e=>by
  simp only [List.foldl_cons] at e
  refine ug r _ x c ?_ e
  intro y d q
  split at q
  . simp only [List.lookup_cons] at q
    split at q
    . rename_i z
      have z':y=n:=by simpa using z
      rw [z']; exact (Option.some.inj q).symm
    . exact h y d q
  . exact h y d q
theorem wX {env:Env}:∀ (names:List (Str×NameKind)) (cs:List (Str×Addr)) (x:Str) (c:Addr),
 (names.foldl (fun cs p=>if (p.2==NameKind.free)=true then (p.1,(env.cells.lookup p.1).getD 0)::cs else cs) cs).lookup x=some c->(∃ d,cs.lookup x=some d)\/(x,NameKind.free)∈names
 | [],cs,x,c,e=>.inl ⟨c,e⟩
 | (n,k)::r,cs,x,c,e=>by
  simp only [List.foldl_cons] at e
  rcases wX r _ x c e with ⟨d,q⟩ | q
  . split at q
    . rename_i hk
      simp only [List.lookup_cons] at q
      split at q
      . rename_i z
        have z':x=n:=by simpa using z
        have k':k=NameKind.free:=by simpa using hk
        right; rw [z',k']; exact List.mem_cons_self
      . exact .inl ⟨d,q⟩
    . exact .inl ⟨d,q⟩
  . exact .inr (List.mem_cons_of_mem _ q)
theorem uh {env:Env}:∀ (names:List (Str×NameKind)) (cs:List (Str×Addr)) (x:Str),
 ((∃ d,cs.lookup x=some d)\/(x,NameKind.free)∈names)->∃ c,(names.foldl (fun cs p=>if (p.2==NameKind.free)=true then (p.1,(env.cells.lookup p.1).getD 0)::cs else cs) cs).lookup x=some c
 | [],cs,x,h=>by
  rcases h with h | h
  . exact h
  . cases h
 | (n,k)::r,cs,x,h=>by
  simp only [List.foldl_cons]
  refine uh r _ x ?_
  rcases h with ⟨d,h⟩ | h
  . left
    split
    . simp only [List.lookup_cons]
      split
      . exact ⟨_,rfl⟩
      . exact ⟨d,h⟩
    . exact ⟨d,h⟩
  . rcases List.mem_cons.mp h with e | h
    . left
      cases e
      simp
    . exact .inr h
theorem oE {env:Env}:∀ (names:List (Str×NameKind)) (cs:List (Str×Addr)),(∀ p∈names,p.2=NameKind.free->∃ c,env.cells.lookup p.1=some c)->
 (forIn names cs fun p r=>if (p.2==NameKind.free)=true then do let a ← cellOf env p.1; pure (ForInStep.yield ((p.1,a)::r)) else pure (ForInStep.yield r):Sem (List (Str×Addr)))=
  pure (names.foldl (fun cs p=>if (p.2==NameKind.free)=true then (p.1,(env.cells.lookup p.1).getD 0)::cs else cs) cs)
 | [],cs,_=>by simp
 | (n,k)::r,cs,h=>by
  rw [List.forIn_cons,List.foldl_cons]
  by_cases hk:(k==NameKind.free)=true
  . obtain ⟨c,hc⟩:=h (n,k) List.mem_cons_self (by simpa using hk)
    have hc':List.lookup n env.cells=some c:=hc
    simp only [hk,if_true,cellOf,hc',pure_bind,Option.getD_some]
    exact oE r _ fun p hp=>h p (List.mem_cons_of_mem _ hp)
  . simp only [hk,pure_bind]
    exact oE r _ fun p hp=>h p (List.mem_cons_of_mem _ hp)
theorem tX {sc:Scope} {env:Env} (h:∀ p∈sc.names,p.2=NameKind.free->∃ c,env.cells.lookup p.1=some c):closureFor sc env=pure (qH sc.names env):=by
 have:=oE (env:=env) sc.names [] h
 unfold closureFor qH
 rw [← this]
 simp only [bind_pure]
theorem m7 {env:Env}:∀ (names:List (Str×NameKind)) (x:Str),
 (names.map fun (n,k)=>if (k==NameKind.free&&env.scope.kind==.function&&env.kindOf n==some .cell) then (n,NameKind.cell) else (n,k)).lookup x=
  (names.lookup x).map fun k=>if (k==NameKind.free&&env.scope.kind==.function&&env.kindOf x==some .cell) then NameKind.cell else k
 | [],x=>rfl
 | (n,k)::r,x=>by
  have ih:=m7 (env:=env) r x
  simp only [List.map_cons]
  by_cases hx:x=n
  . subst hx
    split<;>simp_all
  . have hb:(x==n)=false:=beq_eq_false_iff_ne.mpr hx
    split<;>simp only [List.lookup_cons,hb,ih]
theorem iy {x:Str} {a:Addr}:∀ (names:List (Str×NameKind)) (n:Nat) (acc:List (Str×Addr)),(cellsFrom n names acc).lookup x=some a->n<=a\/acc.lookup x=some a
 | [],_,_,h=>.inr h
 | (y,k)::r,n,acc,h=>by
  unfold cellsFrom at h
  split at h
  . rcases iy r _ _ h with q | q
    . exact .inl (Nat.le_of_succ_le q)
    . rw [List.lookup_cons] at q
      split at q
      . cases q; exact .inl (Nat.le_refl _)
      . exact .inr q
  . exact iy r _ _ h
theorem um {x y:Str} {a:Addr}:∀ (names:List (Str×NameKind)) (n:Nat) (acc:List (Str×Addr)),(∀ z b,acc.lookup z=some b->b<n)->(cellsFrom n names acc).lookup x=some a->(cellsFrom n names acc).lookup y=some a->n<=a->x=y
 | [],_,_,h,h1,h2,h3=>absurd (h _ _ h1) (Nat.not_lt.mpr h3)
 | (z,k)::r,n,acc,h,h1,h2,h3=>by
  unfold cellsFrom at h1 h2
  split at h1
  . rename_i hk
    rw [if_pos hk] at h2
    have one:∀ {w:Str},(cellsFrom (n+1) r ((z,n)::acc)).lookup w=some a->a=n->w=z:=fun {w} e e'=>by
     rcases iy r _ _ e with q | q
     . exact absurd q (by rw [e']; exact Nat.not_succ_le_self n)
     . rw [List.lookup_cons] at q
       split at q
       . rename_i hw; exact beq_iff_eq.mp hw
       . exact absurd (h _ _ q) (by rw [e']; exact Nat.lt_irrefl _)
    by_cases e:a=n
    . exact (one h1 e).trans (one h2 e).symm
    . refine um r (n+1) _ (fun w b q=>?_) h1 h2 (Nat.lt_of_le_of_ne h3 (Ne.symm e))
      rw [List.lookup_cons] at q
      split at q
      . cases q; exact Nat.lt_succ_self _
      . exact Nat.lt_succ_of_lt (h _ _ q)
  . rename_i hk
    rw [if_neg hk] at h2
    exact um r n acc h h1 h2 h3
theorem uo {x:Str} {a:Addr}:∀ (names:List (Str×NameKind)) (n:Nat) (acc:List (Str×Addr)),names.lookup x=some .cell->(cellsFrom n names acc).lookup x=some a->n<=a
 | [],_,_,h,_=>by cases h
 | (y,k)::r,n,acc,h,h1=>by
  rw [List.lookup_cons] at h
  unfold cellsFrom at h1
  split at h
  . rename_i hy
    cases h
    rw [if_pos (by decide)] at h1
    rcases iy r _ _ h1 with q | q
    . exact Nat.le_of_succ_le q
    . rw [List.lookup_cons,hy] at q; cases q; exact Nat.le_refl _
  . split at h1
    . exact Nat.le_of_succ_le (uo r _ _ h h1)
    . exact uo r _ _ h h1
theorem uq {x:Str}:∀ (names:List (Str×NameKind)) (n:Nat) (acc:List (Str×Addr)),(∀ p∈names,p.2=.cell->p.1≠x)->(cellsFrom n names acc).lookup x=acc.lookup x
 | [],_,_,_=>rfl
 | (y,k)::r,n,acc,h=>by
  unfold cellsFrom
  split
  . rename_i hk
    rw [uq r _ _ fun p hp=>h p (List.mem_cons_of_mem _ hp),List.lookup_cons,show (x==y)=false from beq_eq_false_iff_ne.mpr fun e=>h _ List.mem_cons_self (by simpa using hk) e.symm]
  . exact uq r _ _ fun p hp=>h p (List.mem_cons_of_mem _ hp)
theorem sJ:∀ (names:List (Str×NameKind)) (h:Heap) (acc:List (Str×Addr)) (x:Str) (a:Addr),(cellsFrom h.objs.size names acc).lookup x=some a->h.objs.size<=a->(∀ z b,acc.lookup z=some b->b<h.objs.size)->(pushCells h names).IsCell a none
 | [],h,acc,x,a,e,hl,hb=>absurd (hb _ _ e) (Nat.not_lt.mpr hl)
 | (y,k)::r,h,acc,x,a,e,hl,hb=>by
  unfold cellsFrom at e
  unfold pushCells
  split at e
  . rename_i hk
    rw [if_pos hk]
    have hz:=Heap.size_push h ({ cls:=.type "cell",data:=.cell none }:Obj)
    by_cases q:a=h.objs.size
    . subst q
      exact ⟨_,pushCells_keeps r _ _ _ (Heap.get?_push_size _ rfl),rfl⟩
    . refine sJ r _ ((y,h.objs.size)::acc) x a (by rw [hz]; exact e) (by rw [hz]; exact Nat.lt_of_le_of_ne hl (Ne.symm q)) fun z b q'=>?_
      rw [hz]
      rw [List.lookup_cons] at q'
      split at q'
      . cases q'; exact Nat.lt_succ_self _
      . exact Nat.lt_succ_of_lt (hb _ _ q')
  . rename_i hk
    rw [if_neg hk]
    exact sJ r h acc x a e hl hb
noncomputable abbrev lG (sc:Scope) (C:Addr) (env:Env):List (Str×Addr):=cellsFrom (C+1) sc.names (qH sc.names env)
structure ie (X:Cx) (M F:List Str) (ixs:List Nat) (sc:Scope):Prop where
 kind:sc.kind=.function
 locs:∀ y∈sc.names,y.2=.local->sc.names.lookup y.1=some .local
 cel:∀ y∈sc.names,y.2=.cell->sc.names.lookup y.1=some .cell
 own:∀ p∈sc.names,p.2=.free->X.env.scope.names.lookup p.1=some .cell\/X.env.scope.names.lookup p.1=some .free
 frs:∀ x∈F,sc.names.lookup x=some .free
 ixl:ixs.length=F.length
 ixn:∀ (j i:Nat),ixs[j]?=some i->X.N[i]?=F[j]?
noncomputable abbrev ut (m:Nat) (ixs:List Nat) (σ:St):St:=List.replicate m none++ixs.map fun i=>(σ[i]?).join
noncomputable def dJ (X:Cx) (M F:List Str) (sc:Scope) (C:Addr) (fp:List Addr) (s:Shared) (H:Hp):Cx where
 prog:=X.prog
 w:=X.w
 K:=X.K
 mg:=X.mg
 base:=X.base
 A:=X.A
 N:=M++F
 s₀:=s
 H0:=H
 env:=compEnvC sc (lG sc C X.env) C X.env
 outer:=X.stack
 stack:=X.stack
 ex:=fp
 fn:=fun x=>sc.names.lookup x==some .cell
 calm:=X.calm
 pn:=[]
 xe:=fun _ _=>False
section
variable {X:Cx} {pins:List (Addr×Obj)} {σ:St} {H:Hp} {s:Shared}
theorem ie.free_of {M F:List Str} {ixs:List Nat} {sc:Scope} (c:ie X M F ixs sc) {x:Str} {k:NameKind} (h:sc.names.lookup x=some k):(x,k)∈sc.names:=by
 generalize sc.names=l at h
 induction l with
 | nil=>cases h
 | cons p r ih=>
  rw [List.lookup_cons] at h
  split at h
  . rename_i z
    have z':x=p.1:=by simpa using z
    have e:p.2=k:=Option.some.inj h
    subst e
    rw [z']
    exact List.mem_cons_self
  . exact List.mem_cons_of_mem _ (ih h)
theorem v4 (I:Inv X pins σ H s) {M F:List Str} {ixs:List Nat} {sc:Scope} (c:ie X M F ixs sc):∀ p∈sc.names,p.2=NameKind.free->∃ a,X.env.cells.lookup p.1=some a:=fun p hp e=>
 I.ok.has p.1 (by rcases c.own p hp e with h | h; exact .inl h; exact .inr h)
theorem gb (I:Inv X pins σ H s) {M F:List Str} {ixs:List Nat} {sc:Scope} (c:ie X M F ixs sc) {x:Str} {a:Addr} (h:(qH sc.names X.env).lookup x=some a):X.env.cells.lookup x=some a:=by
 have e:=ug (env:=X.env) sc.names [] x a (fun y d q=>by cases q) h
 rcases wX sc.names [] x a h with ⟨d,q⟩ | q
 . cases q
 . obtain ⟨b,hb⟩:=v4 I c _ q rfl
   have hb':X.env.cells.lookup x=some b:=hb
   rw [hb',Option.getD_some] at e
   rw [hb',e]
theorem JH (I:Inv X pins σ H s) {M F:List Str} {ixs:List Nat} {sc:Scope} (c:ie X M F ixs sc) {x:Str} {a:Addr} (h:(qH sc.names X.env).lookup x=some a):a<s.heap.objs.size:=by
 obtain ⟨v,o,ho,_⟩:=I.cell x a (gb I c h)
 exact Heap.lt_size ho
theorem Qj (I:Inv X pins σ H s) {M F:List Str} {ixs:List Nat} {sc:Scope} (c:ie X M F ixs sc) {C:Addr} {fp:List Addr} (hC:s.heap.objs.size<=C) (hf:∀ b∈fp,mD X pins H b) (ho:∀ b∈fp,∃ o,s.heap.get? b=some o):(dJ X M F sc C fp s H).Ok where
 mod:=I.ok.mod
 kind:=c.kind
 glob:=I.ok.glob
 blt:=I.ok.blt
 above:=hC
 inj:=fun x y a e1 e2=>by
  have e1':(lG sc C X.env).lookup x=some a:=e1
  have e2':(lG sc C X.env).lookup y=some a:=e2
  have lt:∀ z b,(qH sc.names X.env).lookup z=some b->b<C+1:=fun z b q=>Nat.lt_succ_of_lt (Nat.lt_of_lt_of_le (JH I c q) hC)
  rcases iy _ _ _ e1' with q | q
  . exact um _ _ _ lt e1' e2' q
  . rcases iy _ _ _ e2' with q' | q'
    . exact absurd (lt _ _ q) (Nat.not_lt.mpr q')
    . exact I.ok.inj x y a (gb I c q) (gb I c q')
 has:=fun x h=>by
  have h':((sc.names.lookup x).map fun k=>if (k==NameKind.free&&X.env.scope.kind==.function&&X.env.kindOf x==some .cell) then NameKind.cell else k)=some .cell\/((sc.names.lookup x).map fun k=>if (k==NameKind.free&&X.env.scope.kind==.function&&X.env.kindOf x==some .cell) then NameKind.cell else k)=some .free:=by
   rw [← m7]; exact h
  refine Option.isSome_iff_exists.mp (W.cellsFrom_some _ _ _ ?_)
  cases e:sc.names.lookup x with
  | none=>rw [e] at h'; rcases h' with h' | h'<;>cases h'
  | some k=>
   rw [e] at h'
   have m:=c.free_of e
   cases k with
   | free=>exact .inr (Option.isSome_iff_exists.mpr (uh sc.names [] x (.inr m)))
   | cell=>exact .inl rfl
   | _=>rcases h' with h' | h'<;>simp at h'
 cab:=fun x a h e=>Nat.le_trans hC (Nat.le_of_succ_le (uo _ _ _ (beq_iff_eq.mp h) e))
 hd:=I.ok.hd
 frames:=I.ok.frames
 stk:=.inl rfl
 exf:=fun b hb=>⟨by
  obtain ⟨o,e⟩:=ho b hb
  exact Nat.ne_of_lt (Nat.lt_of_lt_of_le (Heap.lt_size e) hC),fun x a e=>by
  obtain ⟨o,eo⟩:=ho b hb
  rcases iy _ _ _ (show (lG sc C X.env).lookup x=some a from e) with q | q
  . exact Nat.ne_of_gt (Nat.lt_of_lt_of_le (Heap.lt_size eo) (Nat.le_trans hC (Nat.le_of_succ_le q)))
  . exact (hf b hb).2.2.2.2.1 x a (gb I c q)⟩
 bs:=I.bs
 bsz:=Nat.le_trans I.ok.bsz I.sz
 noex:=fun b o e hb=>by
  obtain ⟨_,_,_,h,_⟩:=hf b hb
  rcases h with h | h
  . exact I.ok.noex b o e h
  . exact absurd (Nat.lt_of_lt_of_le (Heap.lt_size (I.ok.bs b o e).1) h) (Nat.lt_irrefl _)
 exfs:=fun b hb z=>by
  obtain ⟨_,h1,h2,_⟩:=hf b hb
  rcases List.mem_cons.mp (I.stkSub b z) with z | z
  . exact h1 z
  . exact h2 z
 funs:=I.stack
 frf:=I.stkFree
theorem Mj (I:Inv X pins σ H s) {M F:List Str} {ixs:List Nat} {sc:Scope} (c:ie X M F ixs sc) {fp:List Addr} (hf:∀ b∈fp,mD X pins H b) (ho:∀ b∈fp,∃ o,s.heap.get? b=some o)
 {h₁:Heap} {tk:Nat} {C:Addr} {m1:Str->Option Value} (hC:C=s.heap.objs.size+1) (hns:h₁.Ns C m1) (old:∀ b o,s.heap.get? b=some o->h₁.get? b=some o)
 (hD:h₁.get? s.heap.objs.size=some { cls:=.type "list",data:=.seq #[] 0 }) (hce:∀ x a,(lG sc C X.env).lookup x=some a->C+1<=a->h₁.IsCell a none):
 Inv (dJ X M F sc C fp s H) [] (ut M.length ixs σ) (upd H s.heap.objs.size (.lst [])) { s with heap:=h₁,toks:=tk }:=by
 have hDn:H s.heap.objs.size=none:=I.hok.fresh (Nat.le_refl _)
 have hCle:s.heap.objs.size<=C:=by rw [hC]; exact Nat.le_succ _
 have hCn:H C=none:=I.hok.fresh hCle
 have hok:=Qj (X:=X) I c (C:=C) (fp:=fp) hCle hf ho
 refine ⟨hok,rfl,I.bare,Un.laid old (Nat.le_refl _) hDn,⟨m1,hns,?_⟩,?_,?_,?_,?_,?_,?_⟩
 . intro i x v e1 e2 hv
   have e1':(M++F)[i]?=some x:=e1
   by_cases hi:i<M.length
   . rw [List.getElem?_append_left (by simpa using hi)] at e2
     rw [List.getElem?_replicate] at e2
     simp [hi] at e2
   . rw [List.getElem?_append_right (by omega)] at e1'
     rw [List.getElem?_append_right (by simpa using Nat.le_of_not_lt hi)] at e2
     simp only [List.length_replicate,List.getElem?_map] at e2
     cases q:ixs[i-M.length]? with
     | none=>rw [q] at e2; cases e2
     | some i'=>
      rw [q] at e2
      have e2':(σ[i']?).join=some v:=by simpa using e2
      have e3:σ[i']?=some (some v):=by
       cases z:σ[i']? with
       | none=>rw [z] at e2'; cases e2'
       | some y=>rw [z] at e2'; simp at e2'; rw [e2']
      have xF:x∈F:=List.mem_of_getElem? e1'
      have hlk:=c.frs x xF
      have hm:=c.free_of hlk
      have hX:=c.own _ hm rfl
      have hN:X.N[i']?=some x:=by rw [c.ixn _ _ q]; exact e1'
      obtain ⟨m,hn,hl⟩:=I.loc
      have vis:Jh X.env.scope x:=by
       rcases hX with h | h
       . exact .inr (.inl h)
       . exact .inr (.inr h)
      obtain ⟨u,r,l⟩:=hl i' x v hN e3 vis
      refine ⟨u,r,.inr ⟨?_,?_⟩⟩
      . show (Env.kindOf (compEnvC sc (lG sc C X.env) C X.env) x=_)\/(Env.kindOf (compEnvC sc (lG sc C X.env) C X.env) x=_)
        have:Env.kindOf (compEnvC sc (lG sc C X.env) C X.env) x=(sc.names.lookup x).map fun k=>if (k==NameKind.free&&X.env.scope.kind==.function&&X.env.kindOf x==some .cell) then NameKind.cell else k:=m7 sc.names x
        rw [this,hlk]
        simp only [Option.map_some]
        split
        . exact .inl rfl
        . exact .inr rfl
      . rcases l with ⟨hk,_⟩ | ⟨_,cc,hcc,hcell⟩
        . rcases hX with h | h
          . have hk':X.env.scope.names.lookup x=some .local:=hk
            have h':X.env.scope.names.lookup x=some .cell:=h
            rw [h'] at hk'; cases hk'
          . have hk':X.env.scope.names.lookup x=some .local:=hk
            have h':X.env.scope.names.lookup x=some .free:=h
            rw [h'] at hk'; cases hk'
        . obtain ⟨a,ha⟩:=uh (env:=X.env) sc.names [] x (.inr hm)
          have ha':=gb I c (x:=x) (a:=a) ha
          rw [hcc] at ha'; cases ha'
          obtain ⟨oc,hoc,hd⟩:=hcell
          exact ⟨cc,(uq _ _ _ fun p hp e z=>by have:=c.cel p hp e; rw [z,hlk] at this; cases this).trans ha,oc,old _ _ hoc,hd⟩
 . intro x a e
   have e':(lG sc C X.env).lookup x=some a:=e
   rcases iy _ _ _ e' with q | q
   . exact ⟨none,hce x a e' q⟩
   . obtain ⟨v,oc,hoc,hd⟩:=I.cell x a (gb I c q)
     exact ⟨v,oc,old _ _ hoc,hd⟩
 . show upd H s.heap.objs.size (.lst []) C=none
   rw [aP (by rw [hC]; exact Nat.succ_ne_self _)]; exact hCn
 . intro x a e
   rcases iy _ _ _ (show (lG sc C X.env).lookup x=some a from e) with q | q
   . have q':s.heap.objs.size<a:=Nat.lt_of_le_of_lt hCle q
     rw [aP (Nat.ne_of_gt q')]
     exact I.hok.fresh (Nat.le_of_lt q')
   . obtain ⟨v,oc,hoc,hd⟩:=I.cell x a (gb I c q)
     rw [aP (Nat.ne_of_lt (Heap.lt_size hoc))]
     exact I.freeC x a (gb I c q)
 . intro p hp; cases hp
 . exact I.hok.laid old (Nat.le_refl _) ⟨Nat.zero_le _,[],0,.nil,hD⟩
 . show (List.replicate M.length none++_).length=(M++F).length
   simp [c.ixl]
noncomputable def qQ (X:Cx) (ifs:List Expr) (t:TT):Prop:=
 ∀ (pins:List (Addr×Obj)) (s:Shared) (σ:St) (H:Hp) (Q:Bool->Hp->Prop),Inv X pins σ H s->t σ H Q->
  wpAny (model X.prog X.w) X.A (forIn ifs true fun c r=>if r=true then do let ok ← isTrue c X.env (eval c X.env); pure (ForInStep.yield ok) else pure (ForInStep.yield r)) (TP X pins σ Q) X.xe s
theorem Ml {X:Cx}:qQ X [] (fun _ H Q=>Q true H):=fun _ s σ H Q I h=>wpAny_tests_nil ⟨H,I,h⟩
theorem Mm {X:Cx} {c:Expr} {t:TT} (h:PT X c t):qQ X [c] t:=fun pins s σ H Q I q=>wpAny_tests_one (h pins s σ H Q I q)
noncomputable def Ht (wi:TI) (m:Nat) (ixs:List Nat) (g:TG) (tc:TT) (te:TE):TE:=fun σ H Q=>wi σ H fun J H1=>∀ p,H1 p=none->
 ∃ W:Nat->Nat->St->Hp->Prop,(∃ n,W 0 n (ut m ixs σ) (upd H1 p (.lst [])))/\∀ i n σ' H',W i n σ' H'->
  ((J.stop i H'/\Q (.ref p) H')\/(J.go i H'/\∀ x H2,J.yld i H' x H2->g x σ' H2 fun σ3 H3=>tc σ3 H3 fun b H4=>
    if b=true then te σ3 H4 fun v H5=>∃ ys,H5 p=some (.lst ys)/\ys.length<sizeLine/\∃ n',n'<n/\W (i+1) n' σ3 (upd H5 p (.lst (ys++[v])))
    else ∃ n',n'<n/\W (i+1) n' σ3 H4))
noncomputable def CI (X:Cx) (fp:List Addr) (tn:Nat->Heap->Prop) (W:Nat->Nat->St->Hp->Prop) (n:Nat) (s:Shared):Prop:=∃ i σ H,Inv X [] σ H s/\tn i s.heap/\(∀ b∈fp,H b=none)/\W i n σ H
theorem v5 {P:Prop} (h:∀ G:Prop,(P->G)->G):P:=h P id
theorem JK {D it:Addr} {fp:List Addr} {tn:Nat->Heap->Prop} {J:It} {tg iter elt:Expr} {ifs:List Expr} {sc:Scope} {pos:Pos} {g:TG} {tc:TT} {te:TE} {W:Nat->Nat->St->Hp->Prop} {F:Hp->Prop} (hcalm:X.calm=true) (T:Turn X.prog X.w X.K tg J fp it tn) (hg:PG X tg g) (hc:qQ X ifs tc) (he:PE X elt te) (hx:∀ u s,X.xe u s->False)
 (stat:∀ {H':Hp},(∀ b∈fp,H' b=none)->∀ b∈fp,mD X [] H' b)
 (turn:∀ i n σ' H',W i n σ' H'->((J.stop i H'/\F H')\/(J.go i H'/\∀ x H2,J.yld i H' x H2->g x σ' H2 fun σ3 H3=>tc σ3 H3 fun b H4=>
   if b=true then te σ3 H4 fun v H5=>∃ ys,H5 D=some (.lst ys)/\ys.length<sizeLine/\∃ n',n'<n/\W (i+1) n' σ3 (upd H5 D (.lst (ys++[v])))
   else ∃ n',n'<n/\W (i+1) n' σ3 H4)))
 {R:Result->Shared->Prop} (hR:∀ σ' H' s',Inv X [] σ' H' s'->F H'->R (.ok .next) s') (n:Nat) (s':Shared) (hI:CI X fp tn W n s'):
 wpAny (model X.prog X.w) X.A (compTurn (.ListComp elt [⟨tg,iter,ifs,0⟩] sc pos) 0 (.ref it) (.ref D) X.env)
  (fun fin s'=>match fin with | .done f=>R (.ok f) s' | .again c'=>c'=.compLoop (.ListComp elt [⟨tg,iter,ifs,0⟩] sc pos) 0 (.ref it) (.ref D) X.env/\∃ m,m<n/\CI X fp tn W m s') (fun _ _=>False) s':=by
 refine v5 fun G kG=>?_
 obtain ⟨i,σ',H',I',st',fr',w'⟩:=hI
 rw [compTurn_list] at kG
 rcases turn i n σ' H' w' with ⟨stop,qn⟩ | ⟨go,step⟩
 . refine kG (wpAny_bind (wpAny_standAt (wpAny_bind (wpAny_mono (T.done X rfl rfl rfl hcalm i [] s' σ' H' (fun _ _=>False) I' (stat fr') st' stop) (fun r s4 h4=>?_) fun _ _ f=>f))))
   obtain ⟨hr,I4⟩:=h4
   subst hr
   exact wpAny_pure (hR σ' H' _ I4 qn)
 . refine kG (wpAny_bind (wpAny_standAt (wpAny_bind (wpAny_mono (T.item X rfl rfl rfl hcalm i [] s' σ' H' (fun _ _=>False) I' (stat fr') st' go) (fun r s4 h4=>?_) fun _ _ f=>f))))
   obtain ⟨u,hr,h4⟩:=h4
   subst hr
   refine wpAny_bind (wpAny_mono h4 (fun _ s5 h5=>?_) fun _ _ f=>f)
   refine v5 fun G kG=>?_
   obtain ⟨x,H5,I5,r5,y5,st5,fr5⟩:=h5
   have again:∀ {s7:Shared} {σ7:St} {H7:Hp} {n':Nat},Inv X ([]++ud fp s5.heap) σ7 H7 s7->W (i+1) n' σ7 H7->CI X fp tn W n' s7:=fun {s7 σ7 H7 n'} I7 w7=>by
    have pn:∀ b∈fp,∀ o,s5.heap.get? b=some o->s7.heap.get? b=some o/\H7 b=none:=fun b hb o e=>by
     have:=I7.pin (b,o) (List.mem_append_right _ (List.mem_append_right _ (sG hb e)))
     exact ⟨this.1,this.2.1⟩
    refine ⟨i+1,σ7,H7,I7.unpinned,T.keep _ _ _ st5 fun b hb o e=>(pn b hb o e).1,fun b hb=>?_,w7⟩
    obtain ⟨o,e,d⟩:=T.obj _ _ st5 b hb
    exact (pn b hb o e).2
   refine kG (wpAny_bind (wpAny_mono (hg _ s5 σ' H5 x u _ (I5.pinned (stat fr5) (T.obj _ _ st5)) r5 (step x H5 y5)) (fun _ s6 h6=>?_) hx))
   refine v5 fun G kG=>?_
   obtain ⟨σ6,H6,I6,q6⟩:=h6
   refine kG (wpAny_bind (wpAny_mono (hc _ s6 σ6 H6 _ I6 q6) (fun ok s7 h7=>?_) hx))
   refine v5 fun G kG=>?_
   obtain ⟨H7,I7,q7⟩:=h7
   cases ok with
   | false=>
    rw [if_neg Bool.false_ne_true] at q7
    obtain ⟨n',hn',w7⟩:=q7
    exact kG (wpAny_pure ⟨rfl,n',hn',again I7 w7⟩)
   | true=>
    rw [if_pos rfl] at q7
    refine kG (wpAny_bind (wpAny_bind (wpAny_mono (he _ s7 σ6 H7 _ I7 q7) (fun v s8 h8=>?_) hx)))
    refine v5 fun G kG=>?_
    obtain ⟨y,H8,I8,r8,ys,hp8,hz,n',hn',w8⟩:=h8
    refine kG (wpAny_bind (wpAny_mono (Ad (X:=X) _ s8 σ6 H8 (.ref D) [y] (.ref D) [v] (fun _ H9=>W (i+1) n' σ6 H9) I8 rfl (.cons r8 .nil) ⟨_,ys,y,rfl,rfl,hp8,hz,w8⟩) (fun _ s9 h9=>?_) hx))
    obtain ⟨_,H9,I9,_,w9⟩:=h9
    exact wpAny_pure (wpAny_pure ⟨rfl,n',hn',again I9 w9⟩)
theorem Qk {Md:Model} {sc:Scope} {gl:Addr} {clo:List (Str×Addr)} {qual:Str} {env:Env} {Q:Env->Shared->Prop}
 (h:Q (newEnv sc s.heap.objs.size gl (cellsFrom (s.heap.objs.size+1) sc.names clo) qual none .none (some env) builtinsNs) { s with heap:=pushCells (s.heap.push { cls:=.type "dict",data:=.dict #[] }) sc.names }):
 wpAny Md A (newFunctionEnv sc gl clo [] qual none .none (some env)) Q E s:=by
 simp only [newFunctionEnv,Option.isSome_some,if_true]
 refine wpAny_bind (wpAny_alloc ?_)
 refine wpAny_bind (wpAny_layCells _ (fun name kind cells=>by cases hkc:kind==NameKind.cell<;>simp [hkc]) _ _ _ _ ?_)
 rw [show ({ s with heap:=s.heap.push { cls:=.type "dict",data:=.dict #[] } }:Shared).heap.objs.size=s.heap.objs.size+1 from Heap.size_push ..]
 exact wpAny_bind (wpAny_pure (wpAny_pure h))
theorem wY {M F:List Str} {ixs:List Nat} {sc:Scope} {tg iter elt:Expr} {ifs:List Expr} {g:TG} {tc:TT} {te:TE} {pos:Pos} (hcalm:X.calm=true) (c:ie X M F ixs sc)
 (hg:∀ C fp s H,PG (dJ X M F sc C fp s H) tg g) (hc:∀ C fp s H,qQ (dJ X M F sc C fp s H) ifs tc) (he:∀ C fp s H,PE (dJ X M F sc C fp s H) elt te)
 {fp:List Addr} {it:Addr} {tn:Nat->Heap->Prop} {J:It} {Q:VK} (I:Inv X pins σ H s) (T:Turn X.prog X.w X.K tg J fp it tn) (st:tn 0 s.heap) (hf:∀ b∈fp,mD X pins H b)
 (h:∀ p,H p=none->∃ W:Nat->Nat->St->Hp->Prop,(∃ n,W 0 n (ut M.length ixs σ) (upd H p (.lst [])))/\∀ i n σ' H',W i n σ' H'->
   ((J.stop i H'/\Q (.ref p) H')\/(J.go i H'/\∀ x H2,J.yld i H' x H2->g x σ' H2 fun σ3 H3=>tc σ3 H3 fun b H4=>
     if b=true then te σ3 H4 fun v H5=>∃ ys,H5 p=some (.lst ys)/\ys.length<sizeLine/\∃ n',n'<n/\W (i+1) n' σ3 (upd H5 p (.lst (ys++[v])))
     else ∃ n',n'<n/\W (i+1) n' σ3 H4)))
 {RR:Value->Addr->Result->Shared->Prop} {E:Value->Shared->Prop}
 (hR:∀ D C s' H' m,s.heap.get? D=none->s.heap.get? C=none->s.heap.objs.size<=C->H D=none->D≠C->H' C=none->s'.heap.Ns C m->s'.os=s.os->AllBare s'.gens->Un (frs X.stack) fp H H' s.heap s'.heap->eU X.prog X.w H' s'.heap->Q (.ref D) H'->RR (.ref D) C (.ok .next) s'):
 wpAny (model X.prog X.w) X.A (newList []) (fun acc s₃=>wpAny (model X.prog X.w) X.A (newFunctionEnv sc X.env.globals (qH sc.names X.env) [] X.env.qual none .none (some X.env)) (fun cenv s₄=>
  codeAny (model X.prog X.w) X.A (.compStart (.ListComp elt [⟨tg,iter,ifs,0⟩] sc pos) 0 (.ref it) acc { cenv with scope:=relabel sc X.env }) (RR acc cenv.locals) s₄) E s₃) E s:=by
 refine wpAny_newObj_type (Qk ?_)
 dsimp only
 generalize hH2:s.heap.push { cls:=.type "list",dict:=none,data:=.seq ([]:List Value).toArray }=H2
 generalize hh1:pushCells (H2.push { cls:=.type "dict",data:=.dict #[] }) sc.names=h₁
 have kp:∀ b o,H2.get? b=some o->h₁.get? b=some o:=fun b o e=>by rw [← hh1]; exact pushCells_keeps _ _ _ _ (Heap.get?_push_of_some _ e)
 have hns₁:h₁.Ns H2.objs.size (fun _=>none):=by rw [← hh1]; exact (Heap.Ns.new H2 (.type "dict")).keeps (pushCells_keeps _ _)
 have hC:H2.objs.size=s.heap.objs.size+1:=by rw [← hH2,Heap.size_push]
 have hDC:s.heap.objs.size≠H2.objs.size:=by rw [hC]; exact Nat.ne_of_lt (Nat.lt_succ_self _)
 have below:∀ b,b<s.heap.objs.size->b≠H2.objs.size:=fun b hb=>by rw [hC]; exact Nat.ne_of_lt (Nat.lt_succ_of_lt hb)
 have old:∀ b o,s.heap.get? b=some o->h₁.get? b=some o:=fun b o e=>kp b o (hH2▸Heap.get?_push_of_some _ e)
 have hD:h₁.get? s.heap.objs.size=some { cls:=.type "list",data:=.seq #[] 0 }:=kp _ _ (hH2▸Heap.get?_push_size _ rfl)
 have fresh:∀ a,s.heap.objs.size<=a->s.heap.get? a=none:=fun a ha=>by
  cases e:s.heap.get? a with
  | none=>rfl
  | some o'=>exact absurd (Heap.lt_size e) (Nat.not_lt.mpr ha)
 have hDn:H s.heap.objs.size=none:=I.hok.fresh (Nat.le_refl _)
 have hfo:∀ b∈fp,∃ o,s.heap.get? b=some o:=fun b hb=>let ⟨o,e,_⟩:=T.obj 0 _ st b hb; ⟨o,e⟩
 have hz2:(H2.push { cls:=.type "dict",data:=.dict #[] }).objs.size=H2.objs.size+1:=Heap.size_push ..
 have hce:∀ x a,(lG sc H2.objs.size X.env).lookup x=some a->H2.objs.size+1<=a->h₁.IsCell a none:=fun x a e q=>by
  rw [← hh1]
  exact sJ _ _ (qH sc.names X.env) x a (by rw [hz2]; exact e) (by rw [hz2]; exact q) fun z b q'=>by rw [hz2,hC]; exact Nat.lt_succ_of_lt (Nat.lt_succ_of_lt (JH I c q'))
 have I0:=Mj I c hf hfo (tk:=s.toks) hC hns₁ old hD hce
 obtain ⟨W,⟨n0,w0⟩,turn⟩:=h _ hDn
 have nf:∀ b∈fp,b≠s.heap.objs.size:=fun b hb=>by obtain ⟨o,e⟩:=hfo b hb; exact Nat.ne_of_lt (Heap.lt_size e)
 have stat:∀ {H':Hp},(∀ b∈fp,H' b=none)->∀ b∈fp,mD (dJ X M F sc H2.objs.size fp s H) [] H' b:=fun {H'} hn b hb=>by
  obtain ⟨f0,f1,f2,f3,f4,f5⟩:=hf b hb
  obtain ⟨o,e⟩:=hfo b hb
  refine ⟨hn b hb,below b (Heap.lt_size e),fun z=>?_,.inl hb,fun x a e'=>by
   rcases iy _ _ _ (show (lG sc H2.objs.size X.env).lookup x=some a from e') with q | q
   . exact Nat.ne_of_gt (Nat.lt_of_lt_of_le (Heap.lt_size e) (Nat.le_trans (by rw [hC]; exact Nat.le_succ _) (Nat.le_of_succ_le q)))
   . exact f4 x a (gb I c q),fun p hp=>by cases hp⟩
  rcases List.mem_cons.mp (I.stkSub b z) with z | z
  . exact f1 z
  . exact f2 z
 have st1:tn 0 h₁:=T.keep 0 _ _ st fun b hb o e=>old b o e
 have loop:codeAny (model X.prog X.w) X.A (.compLoop (.ListComp elt [⟨tg,iter,ifs,0⟩] sc pos) 0 (.ref it) (.ref s.heap.objs.size) (compEnvC sc (lG sc H2.objs.size X.env) H2.objs.size X.env))
  (RR (.ref s.heap.objs.size) H2.objs.size) { s with heap:=h₁ }:=by
  refine codeAny_loop rfl (CI (dJ X M F sc H2.objs.size fp s H) fp tn W) (fun n s' hI=>?_) n0 ⟨0,_,_,I0,st1,fun b hb=>by rw [aP (nf b hb)]; exact (hf b hb).1,w0⟩
  show wpAny _ X.A ((compTurn (.ListComp elt [⟨tg,iter,ifs,0⟩] sc pos) 0 (.ref it) (.ref s.heap.objs.size) (compEnvC sc (lG sc H2.objs.size X.env) H2.objs.size X.env)).onRaise (fun x=>do noteFrame x (compEnvC sc (lG sc H2.objs.size X.env) H2.objs.size X.env); theTreesLotGoes x)) _ _ s'
  refine wpAny_noted (wpAny_mono (JK (X:=dJ X M F sc H2.objs.size fp s H) hcalm T (hg _ fp s H) (hc _ fp s H) (he _ fp s H) (fun _ _ f=>f) stat turn (fun σ' H' s4 I4 qn=>?_) n s' hI) (fun _ _ h=>h) fun _ _ f=>f.elim)
  obtain ⟨m4,hn4,_⟩:=I4.loc
  exact hR _ _ _ H' m4 (fresh _ (Nat.le_refl _)) (fresh _ (by rw [hC]; exact Nat.le_succ _)) (by rw [hC]; exact Nat.le_succ _) hDn hDC I4.free hn4 I4.os I4.bare I4.base I4.hok qn
 exact codeAny_compStart_list loop (T.self _ 0 _ _ _ st1 loop)
end
section
variable {X:Cx}
theorem FN {σ σ':St} {H H':Hp} {s s':Shared} {C:Addr} (I:Inv X pins σ H s) (hC:s.heap.get? C=none) (I':Inv X pins σ' H' s') (hn:H' C=none) {h':Heap} {m:Str->Option Value} (hs:Heap.SameBut C s'.heap h')
 (hsz:s.heap.objs.size<=C):Inv X pins σ' H' { s' with heap:=h' }:=by
 have ne:∀ a o,s.heap.get? a=some o->C≠a:=fun a o e z=>by rw [z,e] at hC; cases hC
 refine I'.turned (t':=s'.toks) (it:=C) (fun b o hb e=>(hs.2 b hb).trans e) hn ?_ (.inr (Nat.le_trans I.sz hsz)) (fun x c e=>?_) (fun p hp=>?_)
 . exact Nat.ne_of_gt (Nat.lt_of_lt_of_le I.lt hsz)
 . obtain ⟨v,o,ho,_⟩:=I.cell x c e
   exact Ne.symm (ne _ _ ho)
 . exact Ne.symm (ne _ _ (I.pin p hp).1)
theorem Ql (M F:List Str) (ixs:List Nat) {sc:Scope} {tg iter elt:Expr} {ifs:List Expr} {wi:TI} {g:TG} {tc:TT} {te:TE} {pos:Pos} (hcalm:X.calm=true) (c:ie X M F ixs sc) (hi:PI X tg iter wi)
 (hg:∀ C fp s H,PG (dJ X M F sc C fp s H) tg g) (hc:∀ C fp s H,qQ (dJ X M F sc C fp s H) ifs tc) (he:∀ C fp s H,PE (dJ X M F sc C fp s H) elt te)
 (hs:∀ x,foldedSetIterable iter X.env x=pure x:=by intro _; rfl):PE X (.ListComp elt [⟨tg,iter,ifs,0⟩] sc pos) (Ht wi M.length ixs g tc te):=by
 intro pins s σ H Q I h
 rw [eval_ListComp]
 refine wpAny_comprehension_free (use:=none) rfl hs (tX (v4 I c)) c.kind c.locs (bu (hi pins s σ H _ I h) fun v s1 h1=>bu h1 fun itv s2 h2=>?_)
 obtain ⟨it,fp,tn,J,H2,e,I2,T,st2,f2,q⟩:=h2
 subst e
 refine wY (Q:=Q) hcalm c hg hc he I2 T st2 f2 q (RR:=fun acc C=>compPost (model X.prog X.w) X.A X.xe none (EP X pins σ Q) acc C) ?_
 intro D C s' H' m hD hC hsz hDn hDC hCn hns hos hbare hun hok q'
 have I3:Inv X pins σ H' s':=I2.call' hos hun hok hbare fun b hb=>by
  obtain ⟨_,g1,g2,g3,g4,g5⟩:=f2 b hb
  exact ⟨g3,g1,g4,g5⟩
 exact ⟨m,hns,fun h' hs'=>⟨.ref D,H',FN (m:=m) I2 hC I3 hCn hs' hsz,rfl,q'⟩⟩
theorem Qm {i:Nat} (M F:List Str) (ixs:List Nat) {x:Str} {sc:Scope} {tg iter elt:Expr} {ifs:List Expr} {wi:TI} {g:TG} {tc:TT} {te:TE} {pos pos' pos2:Pos} (hN:X.N.Nodup) (hix:X.N[i]?=some x) (hx:X.env.scope.names.lookup x=some .local)
 (hcalm:X.calm=true) (c:ie X M F ixs sc) (hi:PI X tg iter wi)
 (hg:∀ C fp s H,PG (dJ X M F sc C fp s H) tg g) (hc:∀ C fp s H,qQ (dJ X M F sc C fp s H) ifs tc) (he:∀ C fp s H,PE (dJ X M F sc C fp s H) elt te)
 (hsw:swapsWith (.ListComp elt [⟨tg,iter,ifs,0⟩] sc pos) (some (.Name x pos')) pos2.line X.env=pure true:=by rfl)
 (hs:∀ x,foldedSetIterable iter X.env x=pure x:=by intro _; rfl):PS X (.Assign [.Name x pos'] (.ListComp elt [⟨tg,iter,ifs,0⟩] sc pos) pos2) (fun D σ H=>Ht wi M.length ixs g tc te σ H fun v H1=>D.nx (σ.set i (some v)) H1):=by
 intro pins s σ H D I h
 rw [exec_Assign_Name_used _ _ _ _ hsw]
 refine wpAny_bind (wpAny_standAt (wpAny_bind ?_))
 show wpAny _ X.A (do let _ ← comprehension (.ListComp elt [⟨tg,iter,ifs,0⟩] sc pos) sc X.env _ (newList []) false (eval iter X.env) (some (assign (.Name x pos') X.env))) _ _ s
 refine wpAny_bind (wpAny_mono (wpAny_comprehension_free (use:=some (assign (.Name x pos') X.env)) (Q:=fun _ s'=>SP X pins D .next s') rfl hs (tX (v4 I c)) c.kind c.locs
  (bu (hi pins s σ H _ I h) fun v s1 h1=>bu h1 fun itv s2 h2=>?_)) (fun _ s' hq=>wpAny_pure (wpAny_pure hq)) fun _ _ e=>e)
 obtain ⟨it,fp,tn,J,H2,e,I2,T,st2,f2,q⟩:=h2
 subst e
 refine wY (Q:=fun v H1=>D.nx (σ.set i (some v)) H1) hcalm c hg hc he I2 T st2 f2 q (RR:=fun acc C=>compPost (model X.prog X.w) X.A X.xe (some (assign (.Name x pos') X.env)) (fun _ s'=>SP X pins D .next s') acc C) ?_
 intro D' C s' H' m hD hC hsz hDn hDC hCn hns hos hbare hun hok q'
 have I3:Inv X pins σ H' s':=I2.call' hos hun hok hbare fun b hb=>by
  obtain ⟨_,g1,g2,g3,g4,g5⟩:=f2 b hb
  exact ⟨g3,g1,g4,g5⟩
 have hLC:C≠X.env.locals:=Nat.ne_of_gt (Nat.lt_of_lt_of_le I2.lt hsz)
 show wpAny _ X.A (assign (.Name x pos') X.env (.ref D')) _ _ _
 refine wpAny_assign_Name (z8 (v:=.ref D') I3 hN hix (.inl hx) rfl (fun s'' I4 ⟨a,hsb,ha⟩=>?_) (.inr hx))
 have hCa:C≠a:=by
  rcases ha with ha | ha
  . rw [ha]; exact hLC
  . obtain ⟨v,o,ho,_⟩:=I2.cell x a ha
    intro z; rw [z,ho] at hC; cases hC
 exact ⟨m,hns.sameBut hsb hCa,fun h' hs'=>⟨_,H',FN (m:=m) I2 hC I4 hCn hs' hsz,q'⟩⟩
theorem Qn:dY X (binaryOp .Add) (fun x y H Q=>∃ a b xs ys,x=.ref a/\y=.ref b/\bY X.K H a xs/\bY X.K H b ys/\xs.length+ys.length<=sizeLine/\∀ p,H p=none->Q (.ref p) (upd H p (.lst (xs++ys)))):=by
 intro pins s σ H x y v u Q I rx ry h
 obtain ⟨a,b,xs,ys,rfl,rfl,ha,hb,hz,q⟩:=h
 cases rx
 cases ry
 obtain ⟨its,r1,⟨⟨c1,d1,dt1,s1⟩,n1,g1,e1,e2,e3⟩,_⟩:=I.list ha
 obtain ⟨its2,r2,⟨⟨c2,d2,dt2,s2⟩,n2,g2,f1,f2,f3⟩,_⟩:=I.list hb
 simp only at e1 e2 e3 f1 f2 f3
 subst e1 e2 e3 f1 f2 f3
 have hl1:=r1.length
 have hl2:=r2.length
 refine concat_meets ⟨_,g1,rfl⟩ ⟨_,g2,rfl⟩ noFill_list_add seq_list_add F.slot_list_add F.entry_list_add (F.args_list_add_2 _ _) (list_addW a b its.toArray its2.toArray n1 n2 none none s1 s2 (by rw [List.size_toArray,List.size_toArray]; omega)) ⟨g1,g2,?_⟩
 have ea:its.toArray++its2.toArray=(its++its2).toArray:=by simp
 rw [ea]
 exact ⟨.ref _,_,I.lnew (t':=s.toks) (r1.append r2) (by rw [List.length_append]; omega),rfl,q _ I.fresh⟩
end
noncomputable def dM (z:Str) (lo hi:Option Int):Str:=⟨((z.cps.toList.drop (HT.sIx z.length 0 lo)).take (HT.sIx z.length z.length hi-HT.sIx z.length 0 lo)).toArray⟩
theorem Va (lo hi:Option Int) (n:Nat):Builtin.Str.strSliceIndices lo hi 1 n=(List.range (HT.sIx n n hi-HT.sIx n 0 lo)).map (HT.sIx n 0 lo+·):=by
 have e1:∀ (o:Option Int) (d:Nat),d<=n->(match o with | none=>(d:Int) | some i=>max 0 (min (if i<0 then i+(n:Int) else i) (n:Int)))=((HT.sIx n d o:Nat):Int):=fun o d hd=>by
  cases o with
  | none=>rfl
  | some i=>
   simp only [HT.sIx]
   by_cases h:i<0
   . simp only [h,if_true]<;>omega
   . simp only [h,if_false]<;>omega
 rw [← sliceRange_one]
 have a1:=e1 lo 0 (Nat.zero_le _)
 have a2:=e1 hi n (Nat.le_refl _)
 unfold Builtin.Str.strSliceIndices
 rw [← a1,← a2]
 cases lo<;>cases hi<;>simp
theorem JL (z:Str) (lo hi:Option Int):Txt.slice z lo hi=dM z lo hi:=by
 unfold Txt.slice dM
 rw [Va]
 have hp:=pick_run z.cps (HT.sIx z.length 0 lo) (HT.sIx z.length z.length hi-HT.sIx z.length 0 lo)
 split
 . rename_i h
   have h2:(List.map (HT.sIx z.length 0 lo+·) (List.range (HT.sIx z.length z.length hi-HT.sIx z.length 0 lo))).length=z.length:=by simpa using h
   rw [List.length_map,List.length_range] at h2
   have hh:HT.sIx z.length z.length hi<=z.length:=HT.sIx_le _ _ (Nat.le_refl _) hi
   have hl0:HT.sIx z.length 0 lo<=z.length:=HT.sIx_le _ _ (Nat.zero_le _) lo
   have hl:HT.sIx z.length 0 lo=0:=by omega
   rw [h2,hl,List.drop_zero,List.take_of_length_le (by rw [Array.length_toList]; exact Nat.le_refl _)]
 . rw [hp]
noncomputable def Wi:V->Option Int->Option Int->Hp->VK->Prop:=fun x lo hi H Q=>∃ z,x=.str z/\z.length<=sizeLine/\Q (.str (dM z lo hi)) H
section
variable {X:Cx}
theorem Sx:Cm X Wi:=by
 intro pins s σ H x v vl vu lo hi sl Q I rx hs pl pu h
 obtain ⟨z,rfl,hz,q⟩:=h
 obtain ⟨t,rfl⟩:=rx
 refine ⟨"str",_,F.slot_str_getitem.lookup,typeIs_str _ _ _,?_⟩
 have go:∀ (l u:Option (Int×Tok)),vl=partValue l->vu=partValue u->l.map (·.1)=lo->u.map (·.1)=hi->wpAny (model X.prog X.w) X.A (getItem (.str z t) (.ref sl)) (EP X pins σ Q) X.xe s:=fun l u e1 e2 e3 e4=>by
  subst e1 e2 e3 e4
  refine wpAny_getItem_str_slice (l:=l) (u:=u) (st:=none) hs rfl (post_val_or_str ⟨Nat.le_trans (Txt.slice_le z _ _) hz,fun t' k=>?_⟩)
  refine ⟨.str (dM z (l.map (·.1)) (u.map (·.1))),H,I.tok _,⟨t',?_⟩,q⟩
  rw [← JL]
  rfl
 cases pl with
 | none=>cases pu with
  | none=>exact go none none rfl rfl rfl rfl
  | int j tj=>exact go none (some (j,tj)) rfl rfl rfl rfl
 | int i ti=>cases pu with
  | none=>exact go (some (i,ti)) none rfl rfl rfl rfl
  | int j tj=>exact go (some (i,ti)) (some (j,tj)) rfl rfl rfl rfl
end
section
variable {X:Cx} {pins:List (Addr×Obj)} {σ:St} {H:Hp} {s:Shared} {h':Heap}
end
section
variable {X:Cx}
noncomputable def Vb:R2:=fun x y H Q=>∃ a v,x=.ref a/\Ma H a y (some v)/\Q v H
theorem FP (hu:X.A.units+1<cLine):vO X Vb:=by
 intro value slice pins s σ H x y v u Q I rx ry h hs
 obtain ⟨a,z,rfl,g,q⟩:=h
 cases rx
 exact tail_any (Fg I g) F.slot_dict_getitem.lookup (JD hu I g ry fun w' s3 I3 rw'=>⟨z,H,I3,rw',q⟩) hs
noncomputable def Hu:V->V->V->Hp->(Hp->Prop)->Prop:=fun o i v H Q=>∃ a H',o=.ref a/\Ss H a i v H'/\Q H'
theorem set_dict (hu:X.A.units+1<cLine):Lh X Hu:=by
 intro pins s σ H o i v ov iv u Q I ro ri rv h
 obtain ⟨a,H',rfl,g,q⟩:=h
 cases ro
 exact JG hu I g ri rv fun s4 I4=>⟨H',I4,q⟩
noncomputable def WF (t:TE):TE:=fun σ H Q=>t σ H fun v H1=>∃ a kvs,v=.ref a/\H1 a=some (.dK kvs)/\∀ o,Q v (upd H1 a (.frz o (.dK kvs)))
theorem Inv.fz {σ:St} {H:Hp} {a:Addr} {kvs:List (Key×V)} (I:Inv X pins σ H s) (e:H a=some (.dK kvs)):∃ o,Inv X pins σ (upd H a (.frz o (.dK kvs))) s:=by
 obtain ⟨z,hd,vs,r,ob,es,ep,h1,h2⟩:=I.hok a _ e
 refine ⟨ob,?_⟩
 exact vh (h':=s.heap) (t':=s.toks) (ob:=.frz ob (.dK kvs)) I (by rw [e]; exact True.intro) (Heap.SameBut.refl ..) ⟨ob,h1⟩ ⟨h1,z,hd,vs,r,ob,es,ep,h1,h2⟩
theorem Vc {e:Expr} {t:TE} (h:PE X e t):PE X e (WF t):=fun pins s σ H Q I q=>bu (h pins s σ H _ I q) fun u s1 ⟨v,H1,I1,rv,a,kvs,ev,ea,k⟩=>by
 obtain ⟨o,I2⟩:=I1.fz ea
 exact ⟨v,_,I2,rv,k o⟩
noncomputable def Sy (a:Addr) (o:Obj) (kvs:List (Key×V)):It:=
 ⟨fun i H=>H a=some (.frz o (.dK kvs))/\i<kvs.length,fun i H x H'=>H'=H/\∃ k,(kvs.map (·.1))[i]?=some k/\x=kV k,fun i H=>H a=some (.frz o (.dK kvs))/\kvs.length<=i⟩
theorem SJ {k:Key} {u:Value} (h:(cR P w).is k u=true):RelV (kV k) u:=by
 rcases d8 h with ⟨i,t,rfl,rfl⟩ | ⟨x,t,rfl,rfl⟩
 . exact ⟨t,rfl⟩
 . exact ⟨t,rfl⟩
theorem v6 {σ:St} {H:Hp} {a:Addr} {o:Obj} {kvs:List (Key×V)} (I:Inv X pins σ H s) (e:H a=some (.frz o (.dK kvs))):
 (a==sysModules)=false/\∃ vs ep es,KV kvs vs/\o.data=.dict es ep/\s.heap.DictAt (cR X.prog X.w) a vs ep:=by
 obtain ⟨h1,z,hd,vs,r,ob,es,ep,h2,h3,h4,h5⟩:=I.hok a _ e
 rw [h1] at h2
 cases h2
 exact ⟨hd,vs,ep,es,r,h4,o,es,h1,h3,h4,h5⟩
theorem JM {K:FG} {tg:Expr} (a it:Addr) (o:Obj) (kvs:List (Key×V)) (ep:Nat) (he:∃ es,o.data=.dict es ep):Turn P w K tg (Sy a o kvs) [it] it (fun i h=>h.IsKeyIter it a i kvs.length ep) where
 mem:=by simp
 obj:=fun i h st b hb=>by
  have e:b=it:=by simpa using hb
  subst e
  obtain ⟨o,e,c,d⟩:=st
  exact ⟨o,e,fun v z=>by rw [d] at z; cases z⟩
 keep:=fun i h h' st k=>by
  obtain ⟨o,e,c,d⟩:=st
  exact ⟨o,k it (by simp) o e,c,d⟩
 item:=by
  intro X hP hw hK hc i pins s σ H E I hf st hg
  subst hP hw hK
  obtain ⟨hg,hi⟩:=hg
  obtain ⟨hd,vs,ep',es,r,hdat,dd⟩:=v6 I hg
  obtain ⟨es0,he⟩:=he
  rw [hdat] at he
  cases he
  have hl:kvs.length=vs.length:=r.length
  obtain ⟨f0,f1,f2,f3,f4,f5⟩:=hf it (by simp)
  rw [hl] at st
  have hx:vs[i]?=some (vs[i]'(by omega)):=List.getElem?_eq_getElem (by omega)
  refine wpAny_pyNext_dict_item (k:=(vs[i]'(by omega)).1) (v:=(vs[i]'(by omega)).2) st dd hx fun key h' hk st' sb=>?_
  have I1:Inv X pins σ H { s with heap:=h' }:=I.turned (t':=s.toks) (fun b o hb e=>(sb.2 b hb).trans e) f0 f1 f3 f4 f5
  have ek:=r.keys
  have e1:(kvs.map (·.1))[i]?=some (vs[i]'(by omega)).1:=by rw [ek,List.getElem?_map,hx]; rfl
  obtain ⟨ob,e,c,d⟩:=id st'
  refine ⟨key,rfl,Bt (s:={ s with heap:=h' }) e c d (by decide) ⟨kV (vs[i]'(by omega)).1,H,I1,SJ hk,⟨rfl,_,e1,rfl⟩,by rw [hl]; exact st',fun b hb=>(hf b hb).1⟩⟩
 done:=by
  intro X hP hw hK hc i pins s σ H E I hf st hg
  subst hP hw hK
  obtain ⟨hg,hi⟩:=hg
  obtain ⟨hd,vs,ep',es,r,hdat,dd⟩:=v6 I hg
  obtain ⟨es0,he⟩:=he
  rw [hdat] at he
  cases he
  have hl:kvs.length=vs.length:=r.length
  obtain ⟨f0,f1,f2,f3,f4,f5⟩:=hf it (by simp)
  rw [hl] at st
  exact wpAny_pyNext_dict_end (I.ok.hd hc) st dd (List.getElem?_eq_none (by omega)) fun h' eb=>⟨rfl,I.turned (t':=s.toks) (fun b o hb e=>eb b o hb e) f0 f1 f3 f4 f5⟩
 self:=fun _ _ _ _ _ st h=>wpAny_pyIter_keyiter st h
noncomputable def Vd (tl:TE):TI:=fun σ H R=>tl σ H fun x H1=>∃ a o kvs,x=.ref a/\H1 a=some (.frz o (.dK kvs))/\R (Sy a o kvs) H1
theorem Qo {tg l:Expr} {tl:TE} (hl:PE X l tl):PI X tg l (Vd tl):=by
 intro pins s σ H R I h
 refine bu (hl pins s σ H _ I h) fun v s1 ⟨x,H1,I1,r1,q1⟩=>?_
 obtain ⟨a,o,kvs,e,hq,q⟩:=q1
 subst e
 cases r1
 obtain ⟨hd,vs,ep,es,r,hdat,dd⟩:=v6 I1 hq
 refine wpAny_pyIter_dict hd dd ?_
 have hln:kvs.length=vs.length:=r.length
 refine ⟨s1.heap.objs.size,[s1.heap.objs.size],_,_,H1,rfl,I1.kept (t':=s1.toks) fun b o e=>Heap.get?_push_of_some _ e,JM a _ o kvs ep ⟨es,hdat⟩,⟨_,Heap.get?_push_size _ rfl,rfl,?_⟩,fun b hb=>?_,q⟩
 . rw [hln]; rfl
 . have e:b=s1.heap.objs.size:=by simpa using hb
   subst e
   exact I1.fpOk (Nat.le_refl _) (I1.hok.fresh (Nat.le_refl _))
end
section
variable {X:Cx} {pins:List (Addr×Obj)} {σ:St} {H:Hp} {s:Shared} {h':Heap}
theorem Inv.turnedL {t':Nat} {fp:List Addr} (I:Inv X pins σ H s) (k:∀ b o,b∉fp->s.heap.get? b=some o->h'.get? b=some o) (f:∀ b∈fp,mD X pins H b):Inv X pins σ H { s with heap:=h',toks:=t' }:=by
 have nit:∀ b u,H b=some u->b∉fp:=fun b u e z=>by rw [(f b z).1] at e; cases e
 refine I.step (g':=s.gens) (d':=s.drawn) (ch:=fp) (fun b hb=>⟨(f b hb).2.2.2.1,(f b hb).2.1,(f b hb).2.2.2.2.1,(f b hb).2.2.2.2.2⟩) (fun b o _ _ hc e _=>k b o hc e) (fun b o _ _ hc e _=>⟨o.slots,k b o hc e⟩) (fun _ _ _ _ n=>n)
  (fun b o hc e=>⟨o,k b o hc e⟩) (fun _ _ e=>e) (fun _ _ _ e=>e) (fun b ps e=>⟨#[],by rw [e]; simp⟩) (fun m hm=>?_) (fun b u e=>?_) I.bare
 . obtain ⟨o,es,ep,ho,r⟩:=hm
   exact ⟨o,es,ep,k _ o (fun z=>(f _ z).2.1 rfl) ho,r⟩
 . refine (I.hok b u e).stay (fun c v hc q=>k c v ?_ q) (fun _ q=>q) fun _ _ q=>q
   rcases hc with z | z
   . rw [z]; exact nit b u e
   . exact nit c _ z
end
theorem Inv.madeT {X:Cx} {σ:St} {H:Hp} {fp:List Addr} {xs:List V} {us:List Value} {g2:Heap} {t':Nat} (I:Inv X pins σ H s) (hl:xs.length<=sizeLine) (rv:Vals xs us) (hf:∀ c∈fp,mD X pins H c) (lt:∀ c∈fp,∃ o,s.heap.get? c=some o)
 (hT:g2.get? s.heap.objs.size=some { cls:=.type "tuple",data:=.seq us.toArray }) (k:∀ c o,c∉fp->s.heap.get? c=some o->g2.get? c=some o):
 Inv X pins σ (upd H s.heap.objs.size (.tup xs)) { s with heap:=g2,toks:=t' }/\∀ c∈fp,upd H s.heap.objs.size (.tup xs) c=none:=by
 have up:∀ c∈fp,upd H s.heap.objs.size (.tup xs) c=none:=fun c hc=>by
  obtain ⟨o,e⟩:=lt c hc
  rw [aP (Nat.ne_of_lt (Heap.lt_size e))]
  exact (hf c hc).1
 have I1:Inv X pins σ (upd H s.heap.objs.size (.tup xs)) { s with heap:=s.heap.push { cls:=.type "tuple",data:=.seq us.toArray },toks:=t' }:=
  I.laid (fun b o q=>Heap.get?_push_of_some _ q) (Nat.le_refl _) ⟨hl,us,rv,⟨_,Heap.get?_push_size s.heap rfl,rfl,0,rfl⟩⟩
 refine ⟨Inv.turnedL (s:={ s with heap:=s.heap.push { cls:=.type "tuple",data:=.seq us.toArray },toks:=t' }) (h':=g2) (t':=t') I1 (fp:=fp) (fun c o hc q=>?_) (fun c hc=>⟨up c hc,(hf c hc).2⟩),up⟩
 have q':(s.heap.push { cls:=.type "tuple",data:=.seq us.toArray }).get? c=some o:=q
 by_cases hbT:c=s.heap.objs.size
 . subst hbT
   rw [Heap.get?_push_size s.heap rfl] at q'
   exact q'▸hT
 . rw [Heap.get?_push_ne s.heap c _ hbT] at q'
   exact k c o hc q'
theorem SM {a b:V}:[a,b].length<=sizeLine:=by rw [sizeLine_eq]; exact Nat.le_of_ble_eq_true rfl
section
variable {X:Cx}
end
section
variable {prog:Program}
end
section
variable {prog:Program} {w:World} {A:Around} {R:Result->Shared->Prop} {I:Addr} {fp wr:List Addr} {G:Array GenState->Array GenState->Prop} {n:Nat} {P:Nat->Value->Prop} {St:Nat->Shared->Prop}
end
section
variable {prog:Program}
theorem Mp {α:Type} {Q':α->Shared->Prop} (hh:A.handled=none) (h:∀ h' e,(∀ b o,s.heap.get? b=some o->h'.get? b=some o)->(∃ o,h'.get? e=some o/\o.cls=.type "StopIteration")->E (.ref e) { s with heap:=h' }):
 wpAny (model prog w) A (newExc (.type "StopIteration") [] >>= fun e=>(raiseNew e:Sem α)) Q' E s:=by
 refine wpAny_bind ?_
 simp only [newExc,newTuple]
 refine wpAny_bind (wpAny_newObj_type (wpAny_bind (m:=firstArgMember _ _) (wpAny_of_eq (a:=Value.none) (by first | rfl | (simp only [firstArgMember]; rfl)) (wpAny_newObj_type ?_ (by size_fits)))) (by size_fits))
 simp only [raiseNew]
 refine wpAny_bind (wpAny_handled ?_)
 rw [hh]
 exact wpAny_bind (wpAny_pure (wpAny_throw (h _ _ (fun b o q=>Heap.get?_push_of_some _ (Heap.get?_push_of_some _ q)) ⟨_,Heap.get?_push_size _ rfl,rfl⟩)))
end
section
variable {X:Cx} {pins:List (Addr×Obj)} {σ:St} {H:Hp} {s:Shared}
end
section
variable {X:Cx}
end
section
variable {prog:Program}
theorem Hv {d:Addr} {Q:Value->Shared->Prop} (hd:(d==sysModules)=false) (hT:s.TypeIs (.ref d) "dict")
 (h:Q (.ref s.heap.objs.size) { s with heap:=s.heap.push { cls:=.type "dict_items",data:=.fields #[.ref d] } }):wpAny (model prog w) A (Builtin.«dict.items» ⟨[.ref d],[]⟩) (fun fin s'=>∃ v,fin=.done (.ret v)/\Q v s') E s:=by
 unfold Builtin.«dict.items»
 refine wpAny_bind ?_
 unfold Builtin.Dict.noArgs
 refine wpAny_bind (wpAny_notOrdered_dict hT (show wpAny _ _ (pure d) _ _ s from wpAny_pure (show wpAny _ _ (Builtin.Dict.showsAll d >>= _) _ _ s from ?_)))
 unfold Builtin.Dict.showsAll
 rw [if_neg (by rw [hd]; simp)]
 exact wpAny_bind (wpAny_pure (wpAny_bind (wpAny_newObj_type (wpAny_pure ⟨_,rfl,h⟩))))
theorem Hw {v d:Addr} {od:Obj} {es:Array DictEntry} {ep:Nat} {Q:Value->Shared->Prop} (hv:s.heap.IsItemsView v d) (ho:s.heap.get? d=some od) (hd:od.data=.dict es ep)
 (h:Q (.ref s.heap.objs.size) { s with heap:=s.heap.push { cls:=.type "dict_itemiterator",data:=.fields #[.none,.bool false,.ref d,.int 0 0,.int es.size 0,.int ep 0,.none,.none] } }):wpAny (model prog w) A (pyIter (.ref v)) Q E s:=by
 obtain ⟨ov,q1,q2,q3⟩:=id hv
 refine wpAny_pyIter_slot hv.typeIs F.slot_dict_items_iter (wpAny_call_entry F.slot_dict_items_iter hv.typeIs F.entry_dict_items_iter ?_ (F.args_dict_items_iter_1 _))
 unfold Builtin.«dict_items.__iter__»
 refine wpAny_bind (wpAny_pure (wpAny_bind ?_))
 unfold Builtin.Dict_items.dictOf
 refine wpAny_bind (wpAny_field q1 q3 (x:=.ref d) rfl (wpAny_pure (wpAny_bind ?_)))
 unfold Builtin.Dict_items.newIterator
 refine wpAny_bind (wpAny_dictEntries ho hd (wpAny_bind (wpAny_dictEpoch ho hd ?_)))
 simp only [show Builtin.Dict_items.ownsTuple "dict_itemiterator" = true from by decide,if_true]
 refine wpAny_newObj_type (wpAny_pure ⟨_,rfl, "dict_itemiterator",_,⟨_,Heap.get?_push_size _ rfl,rfl⟩,F.slot_dict_itemiterator_next.lookup,?_⟩) (by simp only [sizeOk,Builtin.Dict_items.ownedTupleFields,List.size_toArray,List.length_append,List.length_cons,List.length_nil,sizeLine_eq]; omega)
 simpa [rawInt,Builtin.Dict_items.ownedTupleFields] using h
theorem Hx {it d:Addr} {od:Obj} {es:Array DictEntry} {i ep:Nat} {ok ov:Value} {Q:Option Value->Shared->Prop} (hit:IsItemIter s.heap it d i es.size ep ok ov) (ho:s.heap.get? d=some od) (hd:od.data=.dict es ep) (hlt:i<es.size)
 (hQ:∀ h',IsItemIterOut h' it d (i+1) es.size ep es[i].key es[i].val s.heap.objs.size->h'.get? s.heap.objs.size=some { cls:=.type "tuple",data:=.seq #[es[i].key,es[i].val] }->h'.objs.size=s.heap.objs.size+1->(∀ b o,b≠it->s.heap.get? b=some o->h'.get? b=some o)->Q (some (.ref s.heap.objs.size)) { s with heap:=h' }):
 wpAny (model prog w) A (pyNext (.ref it)) Q E s:=by
 have hT:s.TypeIs (.ref it) "dict_itemiterator" := ⟨_,hit,rfl⟩
 have il:it<s.heap.objs.size:=Heap.lt_size hit
 unfold pyNext
 refine wpAny_bind (wpAny_attempt (wpAny_callSpecial?_slot (name:=Str.ofString "__next__") hT F.slot_dict_itemiterator_next (wpAny_call_entry F.slot_dict_itemiterator_next hT F.entry_dict_itemiterator_next ?_ (F.args_dict_itemiterator_next_1 _))))
 refine wpAny_bind (wpAny_pure (wpAny_bind (wpAny_bind ?_)))
 first | refine wpAny_bind (wpAny_typeNameOfWhole_itemiter hT (wpAny_pure (wpAny_bind (wpAny_fieldsOf hit rfl ?_)))) | refine wpAny_bind (wpAny_typeNameOf_itemiter hT (wpAny_pure (wpAny_bind (wpAny_fieldsOf hit rfl ?_))))
 simp only [show Builtin.Dict_items.ownsTuple "dict_itemiterator" = true from by decide,if_true]
 refine (show wpAny _ _ (if (Value.ref d==Value.none)=true then _ else _) _ _ _ from ?_)
 rw [if_neg (show ¬ ((Value.ref d==Value.none)=true) from fun q=>nomatch q)]
 refine wpAny_bind (wpAny_pure (wpAny_bind (wpAny_dictEntries ho hd ?_)))
 rw [if_neg (by simp)]
 refine wpAny_bind (wpAny_pure (wpAny_bind (wpAny_dictEpoch ho hd ?_)))
 rw [if_neg (by simp)]
 refine wpAny_pure ?_
 simp only [show ¬ ((i:Int)<0) from by omega,if_false,Int.toNat_natCast,Array.getElem?_eq_getElem hlt]
 refine wpAny_bind ?_
 first | refine wpAny_bind (wpAny_typeNameOfWhole_itemiter hT (wpAny_pure (wpAny_bind (wpAny_isOneOf_itemiter hT ?_)))) | refine wpAny_bind (wpAny_typeNameOf_itemiter hT (wpAny_pure (wpAny_bind (wpAny_isOneOf_itemiter hT ?_))))
 refine (show wpAny _ _ (setField (.ref it) 3 (rawInt ((i:Int)+1)) >>= _) _ _ s from wpAny_bind (wpAny_setField_rec hit (by simp) fun g1 e1 b1=>?_))
 have e1':IsItemIter g1 it d (i+1) es.size ep ok ov:=e1
 have T1:Shared.TypeIs { s with heap:=g1 } (.ref it) "dict_itemiterator" := ⟨_,e1',rfl⟩
 refine wpAny_bind (wpAny_holding (wpAny_bind (wpAny_isOneOf_itemiter T1 (wpAny_bind (wpAny_isOneOf_itemiter T1 ?_)))))
 refine (show wpAny _ _ (Builtin.Dict_items.pairFromOwner (.ref it) 6 es[i].key es[i].val) _ _ { s with heap:=g1 } from ?_)
 unfold Builtin.Dict_items.pairFromOwner
 refine wpAny_bind (wpAny_newTuple ?_)
 have z1:g1.objs.size=s.heap.objs.size:=b1.1
 have e2:IsItemIter (g1.push { cls:=.type "tuple",data:=.seq #[es[i].key,es[i].val] }) it d (i+1) es.size ep ok ov:=Heap.get?_push_of_some _ e1'
 have t2:(g1.push { cls:=.type "tuple",data:=.seq #[es[i].key,es[i].val] }).get? s.heap.objs.size=some { cls:=.type "tuple",data:=.seq #[es[i].key,es[i].val] }:=by rw [← z1]; exact Heap.get?_push_size _ rfl
 have z2:(g1.push { cls:=.type "tuple",data:=.seq #[es[i].key,es[i].val] }).objs.size=s.heap.objs.size+1:=by rw [Heap.size_push,z1]
 have k2:∀ b o,b≠it->s.heap.get? b=some o->(g1.push { cls:=.type "tuple",data:=.seq #[es[i].key,es[i].val] }).get? b=some o:=fun b o hb q=>Heap.get?_push_of_some _ (b1.extBut b o hb q)
 refine (show wpAny _ _ (Builtin.Dict_items.ownedTupleIsFree (.ref it) >>= _) _ _ { s with heap:=g1.push { cls:=.type "tuple",data:=.seq #[es[i].key,es[i].val] } } from ?_)
 generalize g1.push { cls:=.type "tuple",data:=.seq #[es[i].key,es[i].val] }=g2 at e2 t2 z2 k2 ⊢
 have n0:s.heap.objs.size≠it:=Nat.ne_of_gt il
 refine wpAny_bind ?_
 unfold Builtin.Dict_items.ownedTupleIsFree
 refine wpAny_bind (wpAny_field e2 rfl (x:=.none) rfl (wpAny_pure ?_))
 simp only [if_true]
 refine wpAny_bind (wpAny_field e2 rfl (x:=ok) rfl (wpAny_bind (wpAny_field e2 rfl (x:=ov) rfl ?_)))
 refine wpAny_bind (wpAny_setField_rec (s:={ s with heap:=g2 }) e2 (by simp) fun g3 e3 b3=>wpAny_bind (wpAny_setField_rec (s:={ s with heap:=g3 }) e3 (by simp) fun g4 e4 b4=>wpAny_bind (wpAny_setField_rec (s:={ s with heap:=g4 }) e4 (by simp) fun g5 e5 b5=>wpAny_bind (wpAny_setField_rec (s:={ s with heap:=g5 }) e5 (by simp) fun g6 e6 b6=>?_))))
 rw [z1] at e6 ⊢
 refine wpAny_bind (wpAny_letGo (wpAny_pure (wpAny_pure ⟨_,rfl,wpAny_pure (hQ g6 e6 ?_ ?_ ?_)⟩)))
 . exact b6.extBut _ _ n0 (b5.extBut _ _ n0 (b4.extBut _ _ n0 (b3.extBut _ _ n0 t2)))
 . show g6.objs.size=_
   rw [b6.1,b5.1,b4.1,b3.1]
   exact z2
 . exact fun b o hb q=>b6.extBut b o hb (b5.extBut b o hb (b4.extBut b o hb (b3.extBut b o hb (k2 b o hb q))))
theorem JN {it d:Addr} {od:Obj} {es:Array DictEntry} {i ep:Nat} {ok ov:Value} {Q:Option Value->Shared->Prop} (hh:A.handled=none) (hit:IsItemIter s.heap it d i es.size ep ok ov) (ho:s.heap.get? d=some od) (hd:od.data=.dict es ep) (hge:es.size<=i)
 (hQ:∀ h',Heap.ExtBut it s.heap h'->Q none { s with heap:=h' }):wpAny (model prog w) A (pyNext (.ref it)) Q E s:=by
 have hT:s.TypeIs (.ref it) "dict_itemiterator" := ⟨_,hit,rfl⟩
 unfold pyNext
 refine wpAny_bind (wpAny_attempt (wpAny_callSpecial?_slot (name:=Str.ofString "__next__") hT F.slot_dict_itemiterator_next (wpAny_call_entry F.slot_dict_itemiterator_next hT F.entry_dict_itemiterator_next ?_ (F.args_dict_itemiterator_next_1 _))))
 refine wpAny_bind (wpAny_pure (wpAny_bind (wpAny_bind ?_)))
 first | refine wpAny_bind (wpAny_typeNameOfWhole_itemiter hT (wpAny_pure (wpAny_bind (wpAny_fieldsOf hit rfl ?_)))) | refine wpAny_bind (wpAny_typeNameOf_itemiter hT (wpAny_pure (wpAny_bind (wpAny_fieldsOf hit rfl ?_))))
 simp only [show Builtin.Dict_items.ownsTuple "dict_itemiterator" = true from by decide,if_true]
 refine (show wpAny _ _ (if (Value.ref d==Value.none)=true then _ else _) _ _ _ from ?_)
 rw [if_neg (show ¬ ((Value.ref d==Value.none)=true) from fun q=>nomatch q)]
 refine wpAny_bind (wpAny_pure (wpAny_bind (wpAny_dictEntries ho hd ?_)))
 rw [if_neg (by simp)]
 refine wpAny_bind (wpAny_pure (wpAny_bind (wpAny_dictEpoch ho hd ?_)))
 rw [if_neg (by simp)]
 refine wpAny_pure ?_
 simp only [show ¬ ((i:Int)<0) from by omega,if_false,Int.toNat_natCast,Array.getElem?_eq_none hge]
 refine wpAny_bind ?_
 first | refine wpAny_bind (wpAny_typeNameOfWhole_itemiter hT (wpAny_pure ?_)) | refine wpAny_bind (wpAny_typeNameOf_itemiter hT (wpAny_pure ?_))
 refine (show wpAny _ _ (setField (.ref it) 2 .none >>= fun _=>newExc (.type "StopIteration") [] >>= fun e=>raiseNew e) _ _ s from wpAny_bind (wpAny_setField_rec hit (by simp) fun g1 q1 b1=>Mp (s:={ s with heap:=g1 }) hh fun g2 e k ⟨o,q,hc⟩=>?_))
 refine wpAny_bind (wpAny_isInstance (T := "StopIteration") (b:=true) (show Shared.TypeIs { s with heap:=g2 } (.ref e) "StopIteration" from ⟨o,q,hc⟩) isSubtype_stop (?_:wpAny _ _ _ _ _ _))
 exact wpAny_pure (hQ _ fun b o hb z=>k b o (b1.extBut b o hb z))
end
theorem Ag {α β:Type} {F:α->β->Prop}:∀ {l:List α} {m:List β},Paired F l m->∀ (i:Nat) (h1:i<l.length) (h2:i<m.length),F l[i] m[i]
 | _,_,.nil,i,h1,h2=>absurd h1 (Nat.not_lt_zero _)
 | _,_,.cons a t,0,h1,h2=>a
 | _,_,.cons a t,i+1,h1,h2=>Ag t i (by simpa using h1) (by simpa using h2)
theorem Qp:entryFor table "dict_itemiterator.__iter__" = some Builtin.«dict_keyiterator.__iter__»:=entryFor_alias (id' := "dict_keyiterator.__iter__") (by kernel_rfl) (by first | rfl | decide +kernel | (unfold String.splitOn; simp +decide [String.splitOnAux])) (by decide +kernel) (by kernel_rfl)
theorem wZ {prog:Program} {it d:Addr} {i n ep:Nat} {u v:Value} {Q:Value->Shared->Prop} (q:IsItemIter s.heap it d i n ep u v) (h:Q (.ref it) s):wpAny (model prog w) A (pyIter (.ref it)) Q E s:=by
 have hT:s.TypeIs (.ref it) "dict_itemiterator" := ⟨_,q,rfl⟩
 refine wpAny_pyIter_slot hT F.slot_dict_itemiterator_iter (wpAny_call_entry F.slot_dict_itemiterator_iter hT Qp ?_ (F.args_dict_itemiterator_iter_1 _))
 exact show wpAny _ _ (ret (.ref it)) _ _ s from wpAny_pure ⟨_,rfl, "dict_itemiterator",_,hT,F.slot_dict_itemiterator_next.lookup,h⟩
noncomputable def SN (a:Addr) (o:Obj) (kvs:List (List Key×V)):It:=
 ⟨fun i H=>H a=some (.frz o (.dT kvs))/\i<kvs.length,fun i H x H'=>∃ T kb kv,H T=none/\x=.ref T/\kvs[i]?=some kv/\H kb=some (.tup (kv.1.map kV))/\H'=upd H T (.tup [.ref kb,kv.2]),fun i H=>H a=some (.frz o (.dT kvs))/\kvs.length<=i⟩
theorem w5 {X:Cx} {σ:St} {H:Hp} {a:Addr} {o:Obj} {kvs:List (List Key×V)} (I:Inv X pins σ H s) (e:H a=some (.frz o (.dT kvs))):
 (a==sysModules)=false/\s.heap.get? a=some o/\o.cls=.type "dict" /\ ∃ (es:Array DictEntry) (ep:Nat),o.data=.dict es ep/\es.size=kvs.length/\∀ i (h:i<es.size),∃ kb kv,kvs[i]?=some kv/\es[i].key=.ref kb/\H kb=some (.tup (kv.1.map kV))/\RelV kv.2 es[i].val:=by
 obtain ⟨h1,z,hd,xs,pr,ob,es,ep,h2,h3,h4,h5,h6⟩:=I.hok a _ e
 rw [h1] at h2
 cases h2
 have hl:es.size=xs.length:=by
  have:=congrArg List.length h5
  simpa using this
 refine ⟨hd,h1,h3.1,es,ep,h4,by rw [hl]; exact pr.length.symm,fun i hi=>?_⟩
 have hx:i<xs.length:=by omega
 have e1:es[i]=entryOfKey (tupleKind (cR X.prog X.w)) xs[i]:=by
  have q:es.toList[i]?=(xs.map (entryOfKey (tupleKind (cR X.prog X.w))))[i]?:=by rw [h5]
  rw [Array.getElem?_toList,Array.getElem?_eq_getElem hi,List.getElem?_map,List.getElem?_eq_getElem hx] at q
  exact Option.some.inj q
 have hk:i<kvs.length:=by have:=pr.length; omega
 obtain ⟨q1,q2,q3⟩:=Ag pr i hk hx
 exact ⟨xs[i].2.1,kvs[i],List.getElem?_eq_getElem hk,by rw [e1]; rfl,q2,by rw [e1]; exact q3⟩
theorem Hy {K:FG} {elts:List Expr} {x1} {pos:Pos} (a it:Addr) (o:Obj) (kvs:List (List Key×V)) (ep:Nat) (he:∃ es,o.data=.dict es ep):Turn P w K (.Tuple elts x1 pos) (SN a o kvs) [it] it (fun i h=>∃ u v,IsItemIter h it a i kvs.length ep u v) where
 mem:=by simp
 obj:=fun i h st b hb=>by
  have e:b=it:=by simpa using hb
  subst e
  obtain ⟨u,v,q⟩:=st
  exact ⟨_,q,fun v z=>by
   have z':Data.fields _=Data.cell v:=z
   cases z'⟩
 keep:=fun i h h' st k=>by
  obtain ⟨u,v,q⟩:=st
  exact ⟨u,v,k it (by simp) _ q⟩
 item:=by
  intro X hP hw hK hc i pins s σ H E I hf st hg
  subst hP hw hK
  refine v5 fun G kG=>?_
  obtain ⟨hg,hi⟩:=hg
  obtain ⟨u,v,q⟩:=st
  obtain ⟨hd,ho,hcl,es,ep',hdat,hsz,ent⟩:=w5 I hg
  obtain ⟨es0,he⟩:=he
  rw [hdat] at he
  cases he
  have hie:i<es.size:=by omega
  obtain ⟨kb,kv,k1,k2,k3,k4⟩:=ent i hie
  have il:it<s.heap.objs.size:=Heap.lt_size q
  have hTn:H s.heap.objs.size=none:=I.hok.fresh (Nat.le_refl _)
  have n0:s.heap.objs.size≠it:=Nat.ne_of_gt il
  rw [← hsz] at q
  refine kG (Hx q ho hdat hie fun g1 a1 a2 a3 a4=>⟨_,rfl,wpAny_letOwnedTupleGo_items a1 fun g2 b1 b2=>?_⟩)
  obtain ⟨I2,up⟩:=I.madeT (xs:=[.ref kb,kv.2]) (us:=[es[i].key,es[i].val]) (g2:=g2) (t':=s.toks) (fp:=[it]) SM (.cons (by rw [k2]; exact rfl) (.cons k4 .nil)) hf (fun c hc=>by rw [List.mem_singleton.mp hc]; exact ⟨_,q⟩) ((b2.2 _ n0).trans a2) fun c o hc z=>by
   have hc':c≠it:=fun e=>hc (List.mem_singleton.mpr e)
   exact (b2.2 c hc').trans (a4 c o hc' z)
  exact ⟨.ref s.heap.objs.size,_,I2,rfl,⟨s.heap.objs.size,kb,kv,hTn,rfl,k1,k3,rfl⟩,⟨_,_,by rw [← hsz]; exact b1⟩,up⟩
 done:=by
  intro X hP hw hK hc i pins s σ H E I hf st hg
  subst hP hw hK
  refine v5 fun G kG=>?_
  obtain ⟨hg,hi⟩:=hg
  obtain ⟨u,v,q⟩:=st
  obtain ⟨hd,ho,hcl,es,ep',hdat,hsz,ent⟩:=w5 I hg
  obtain ⟨es0,he⟩:=he
  rw [hdat] at he
  cases he
  rw [← hsz] at q
  refine kG (JN (I.ok.hd hc) q ho hdat (by omega) fun g k=>⟨rfl,?_⟩)
  exact I.turnedL (h':=g) (t':=s.toks) (fp:=[it]) (fun c o hc z=>k c o (fun e=>hc (by simp [e])) z) hf
 self:=fun _ _ _ _ _ st h=>by
  obtain ⟨u,v,q⟩:=st
  exact wZ q h
noncomputable def Hz (v a:Addr):Heap->Prop:=fun h=>h.IsItemsView v a
section
variable {X:Cx}
noncomputable def SQ (tl:TE):TI:=fun σ H R=>tl σ H fun x H1=>∃ v a o kvs,x=.ref v/\H1 v=some (.ext (Hz v a))/\H1 a=some (.frz o (.dT kvs))/\R (SN a o kvs) H1
theorem Mq {l:Expr} {tl:TE} {elts:List Expr} {x1} {tpos:Pos} (hl:PE X l tl):PI X (.Tuple elts x1 tpos) l (SQ tl):=by
 intro pins s σ H R I h
 refine bu (hl pins s σ H _ I h) fun v s1 ⟨x,H1,I1,r1,q1⟩=>?_
 obtain ⟨v,a,o,kvs,rfl,hv,hq,q⟩:=q1
 cases r1
 obtain ⟨vw,_⟩:=I1.hok v _ hv
 obtain ⟨hd,ho,hcl,es,ep,hdat,hsz,ent⟩:=w5 I1 hq
 refine Hw vw ho hdat ?_
 refine ⟨s1.heap.objs.size,[s1.heap.objs.size],_,_,H1,rfl,I1.kept (t':=s1.toks) fun b o e=>Heap.get?_push_of_some _ e,Hy a _ o kvs ep ⟨es,hdat⟩,⟨.none,.none,?_⟩,fun b hb=>?_,q⟩
 . rw [← hsz]
   exact Heap.get?_push_size _ rfl
 . have e:b=s1.heap.objs.size:=by simpa using hb
   subst e
   exact I1.fpOk (Nat.le_refl _) (I1.hok.fresh (Nat.le_refl _))
noncomputable def JP:V->List V->Hp->VK->Prop:=fun x vs H Q=>∃ a o kvs,x=.ref a/\vs=[]/\H a=some (.frz o (.dT kvs))/\∀ l,H l=none->Q (.ref l) (upd H l (.ext (Hz l a)))
theorem Mr:Fz X "dict.items" JP:=by
 intro pins s σ H x vs v us Q I rx rv h
 obtain ⟨a,o,kvs,rfl,rfl,hH,q⟩:=h
 cases rx
 have hus:=rv.zero
 subst hus
 obtain ⟨hd,ho,hcl,es,ep,hdat,hsz,ent⟩:=w5 I hH
 have hT:s.TypeIs (.ref a) "dict" := ⟨o,ho,hcl⟩
 refine wpAny_call_entry F.slot_dict_items hT F.entry_dict_items (Hv hd hT ?_) (F.args_dict_items_1 _)
 exact ⟨.ref s.heap.objs.size,_,I.laid (t':=s.toks) (fun b o q=>Heap.get?_push_of_some _ q) (Nat.le_refl _) (show dw X.prog X.w _ _ _ (.ext (Hz s.heap.objs.size a)) from ⟨⟨_,Heap.get?_push_size _ rfl,rfl,rfl⟩,⟨_,Heap.get?_push_size _ rfl⟩,fun h1 h2 ⟨o,q1,q2⟩ k=>⟨o,k _ q1,q2⟩⟩),rfl,q _ (I.hok.fresh (Nat.le_refl _))⟩
theorem w6 {α β:Type} {F G:α->β->Prop} (h:∀ a b,F a b->G a b):∀ {l:List α} {m:List β},Paired F l m->Paired G l m
 | _,_,.nil=>.nil
 | _,_,.cons a t=>.cons (h _ _ a) (w6 h t)
noncomputable def Wj (t:TE):TE:=fun σ H Q=>t σ H fun v H1=>∃ a kvs,v=.ref a/\H1 a=some (.dT kvs)/\∀ o,Q v (upd H1 a (.frz o (.dT kvs)))
theorem Inv.fzT {σ:St} {H:Hp} {a:Addr} {kvs:List (List Key×V)} (I:Inv X pins σ H s) (e:H a=some (.dT kvs)):∃ o,Inv X pins σ (upd H a (.frz o (.dT kvs))) s:=by
 obtain ⟨z,hd,xs,pr,ob,es,ep,h1,h2,h3,h4,h5⟩:=I.hok a _ e
 refine ⟨ob,?_⟩
 refine vh (h':=s.heap) (t':=s.toks) (ob:=.frz ob (.dT kvs)) I (by rw [e]; exact True.intro) (Heap.SameBut.refl ..) ⟨ob,h1⟩ ⟨h1,z,hd,xs,?_,ob,es,ep,h1,h2,h3,h4,h5⟩
 refine w6 (fun p q ⟨q1,q2,q3⟩=>⟨q1,?_,q3⟩) pr
 rw [aP (fun n=>by rw [n,e] at q2; cases q2)]
 exact q2
theorem S5 {e:Expr} {t:TE} (h:PE X e t):PE X e (Wj t):=fun pins s σ H Q I q=>bu (h pins s σ H _ I q) fun u s1 ⟨v,H1,I1,rv,a,kvs,ev,ea,k⟩=>by
 obtain ⟨o,I2⟩:=I1.fzT ea
 exact ⟨v,_,I2,rv,k o⟩
theorem Ms {o:Expr} {to:TE} {apos cpos:Pos} (ho:PE X o to)
 (hbase:attributeBase o "items" X.env (eval o X.env)=eval o X.env:=by rfl) (hline:(apos.endLine==cpos.line)=true:=by rfl):PE X (.Call (.Attribute o "items" apos) [] [] cpos) (fun σ H Q=>to σ H fun x H1=>JP x [] H1 Q):=by
 intro pins s σ H Q I h
 refine wpAny_Call_method0_late hbase hline (bu (ho pins s σ H _ I h) fun v s1 ⟨x,H1,I1,r1,q1⟩=>?_)
 have q1':=q1
 obtain ⟨a,ob,kvs,rfl,_,hH,_⟩:=q1
 cases r1
 have hz:∃ o,s1.heap.get? a=some o/\o.ExactDict:=by
  obtain ⟨h1,z,hd,xs,pr,ob',es,ep,h2,h3,h4,h5,h6⟩:=I1.hok a _ hH
  exact ⟨_,h2,h3⟩
 obtain ⟨o2,e2,ex⟩:=hz
 exact ⟨"dict", "dict.items",F.plainAttrs_dict,F.slot_dict_items,F.type_dict_items,⟨o2,e2,ex.1⟩,fun b e=>(by cases e; exact ⟨o2,e2,ex.2.1⟩),Calls.callWith_builtin rfl (PySem.evalArgs_none (Mr pins s1 σ H1 (.ref a) [] (.ref a) [] Q I1 rfl .nil q1'))⟩
end
section
variable {prog:Program}
end
section
variable {X:Cx} {pins:List (Addr×Obj)} {σ:St} {H:Hp} {s:Shared}
end
section
variable {X:Cx}
end
noncomputable abbrev uv:=Option Key
noncomputable def VG:uv->V
 | none=>.non
 | some k=>kV k
section
variable {prog:Program}
end
noncomputable abbrev XD:=List (List uv×Addr×V)
noncomputable abbrev XV:=List (List uv×Addr×Value)
noncomputable def XR:XD->XV->Prop:=Paired fun x y=>x.1=y.1/\x.2.1=y.2.1/\RelV x.2.2 y.2.2
noncomputable def VH (hk:List uv->Int) (a:Addr) (xs:XD):Heap->Prop:=fun h=>xs.length<=sizeLine/\(a==sysModules)=false/\∃ ys:XV,XR xs ys/\(ys.map (·.1)).Nodup/\
 ∃ o es ep,h.get? a=some o/\o.ExactDict/\o.data=.dict es ep/\es.toList=ys.map fun y=>⟨hk y.1,.ref y.2.1,y.2.2⟩
section
variable {prog:Program} {w:World} {A:Around} {E:Value->Shared->Prop} {s:Shared} {K:Type} [DecidableEq K] {knd:HeapKind prog w K}
end
section
variable {X:Cx}
end
noncomputable def sO (a c:Addr):Heap->Prop:=fun h=>∃ o,W.InstAt h a o c none
noncomputable def vQ (G:Addr->Prop) (e:Addr) (cls:Value) (h:Heap):Prop:=
 ∃ oe vs,h.get? e=some oe/\(oe.cls=cls/\oe.dict=none)/\oe.data=.fields vs/\¬ G e/\
  (vs[1]?=some .none\/∃ T oT ts,vs[1]?=some (.ref T)/\¬ G T/\T≠e/\h.get? T=some oT/\oT.data=.fields ts/\ts[3]?=some .none)
noncomputable def Left (G:Addr->Prop) (fs:List Addr) (h h':Heap):Prop:=
 h.objs.size<=h'.objs.size/\(∀ b o,G b->h.get? b=some o->(b∉fs->h'.get? b=some o)/\∃ sl,h'.get? b=some { o with slots:=sl })/\
  ∀ b o,h.get? b=some o->(∀ vs,o.data≠.fields vs)->∃ o',h'.get? b=some o'/\o'.data=o.data
section
variable {M:Model} {A:Around} {E:Value->Shared->Prop} {s:Shared} {base:Heap} {env:Env} {outer:List Env} {L e:Addr} {G:Addr->Prop} {Q:Unit->Shared->Prop}
theorem za (o:Obj) (f):(o.mapFields f).dict=o.dict:=by
 unfold Obj.mapFields
 split<;>rfl
theorem Ah {oe:Obj} {vs:Array Value} {head:Value} {hn:Bool} (hfr:A.frames=some (env::outer)) (hl:s.heap.FunFrames base (env::outer)) (hf:env.frame=some L)
 (he:s.heap.get? e=some oe) (hdi:oe.dict=none) (hd:oe.data=.fields vs) (hz:1<vs.size) (hne:¬ G e) (hG:∀ b,G b->b<s.heap.objs.size)
 (h:∀ h',Left G ((env::outer).filterMap (·.frame)) s.heap h'->vQ G e oe.cls h'->Q () { s with heap:=h' }):
 wpAny M A (do let a ← frameOf env; let pl ← entryPlaceOf L hn; let b ← EntryCells.newEntry head a .none (rawInt L) .none pl; setField (.ref e) 1 b) (fun _ s'=>wpAny M A (setFlight (.ref e) none) Q E s') E s:=by
 have hm:e∉(env::outer).filterMap (·.frame):=fun hm=>by
  obtain ⟨_,o,ho,hnf⟩:=hl.mem hm
  rw [he] at ho
  cases ho
  exact hnf vs hd
 refine wpAny_bind (wpAny_frameOf_fun hfr hl hf fun g k=>wpAny_bind (wpAny_entryPlaceOf fun pl hp=>?_))
 unfold EntryCells.newEntry newFields
 refine wpAny_bind (wpAny_newObj_type ?_ (hp.sizeOk5 _ _ _ _ _))
 have e1:g.get? e=some oe:=(k.2.1 e hm).trans he
 generalize hob:({ cls:=.type "traceback",dict:=none,data:=.fields ([head,.ref L,.none,rawInt L,.none]++(if pl.isEmpty then List.replicate 6 Value.none else pl)).toArray }:Obj)=ob
 have hdb:ob.data=.fields ([head,.ref L,.none,rawInt L,.none]++(if pl.isEmpty then List.replicate 6 Value.none else pl)).toArray:=by rw [← hob]
 have e2:=Heap.get?_push_of_some (h:=g) ob e1
 refine wpAny_setField e2 hd hz ?_
 have hT:g.objs.size≠e:=Nat.ne_of_gt (Heap.lt_size e1)
 have hd3:=Obj.data_mapFields hd (·.setIfInBounds 1 (Value.ref g.objs.size))
 have e3:=Heap.get?_update_self (Obj.mapFields (·.setIfInBounds 1 (Value.ref g.objs.size))) e2 (Obj.isFreed_of_fields hd3)
 have t3:=(Heap.get?_update_other (g.push ob) (Obj.mapFields (·.setIfInBounds 1 (Value.ref g.objs.size))) (Ne.symm hT)).trans (Heap.get?_push_size g (by rw [← hob]; rfl))
 unfold setFlight
 refine wpAny_bind (wpAny_field e3 hd3 (x:=.ref g.objs.size) (by simp [hz]) ?_)
 rw [if_pos (show (Value.ref g.objs.size != Value.none)=true from by simp)]
 have hsz:3<([head,.ref L,.none,rawInt L,.none]++(if pl.isEmpty then List.replicate 6 Value.none else pl)).toArray.size:=by
  simp only [List.size_toArray,List.length_append,List.length_cons,List.length_nil]; omega
 have keep:∀ b o,b≠e->g.get? b=some o->(((g.push ob).update e (Obj.mapFields (·.setIfInBounds 1 (Value.ref g.objs.size)))).update g.objs.size (Obj.mapFields (·.setIfInBounds 3 ((none:Option Addr).elim Value.none fun f=>rawInt f)))).get? b=some o:=fun b o hb q=>by
  rw [Heap.get?_update_other _ _ (Nat.ne_of_gt (Heap.lt_size q)),Heap.get?_update_other _ _ (Ne.symm hb)]
  exact Heap.get?_push_of_some _ q
 have nb:∀ b,G b->b≠e:=fun b hb z=>hne (z▸hb)
 refine wpAny_setField t3 hdb hsz (h _ ⟨?_,fun b o hb q=>⟨fun hs=>?_,?_⟩,fun b o q nf=>?_⟩ ?_)
 . rw [Heap.size_update,Heap.size_update,← k.1]
   show g.objs.size<=(g.objs.push ob).size
   rw [Array.size_push]; exact Nat.le_succ _
 . exact keep b o (nb b hb) ((k.2.1 b hs).trans q)
 . obtain ⟨sl,q'⟩:=k.2.2 b o q
   exact ⟨sl,keep b _ (nb b hb) q'⟩
 . obtain ⟨sl,q'⟩:=k.2.2 b o q
   refine ⟨_,keep b _ (fun z=>?_) q',rfl⟩
   rw [z,he] at q
   cases q
   exact nf vs hd
 . refine ⟨_,_,(Heap.get?_update_other _ _ hT).trans e3,⟨Obj.cls_mapFields _ _,(za _ _).trans hdi⟩,hd3,hne,.inr ⟨g.objs.size,_,_,by simp [hz],fun z=>by have:=hG _ z; rw [k.1] at this; exact Nat.lt_irrefl _ this,hT,Heap.get?_update_self _ t3 (Obj.isFreed_of_fields (Obj.data_mapFields hdb _)),Obj.data_mapFields hdb _,?_⟩⟩
   simp
theorem Left.frames {h h':Heap} {fs:List Addr} {l:List Env} (x:Left G fs h h') (hl:h.FunFrames base l):h'.FunFrames base l:=hl.of_keeps fun b o q nf=>x.2.2 b o q nf
theorem Left.trans {h h1 h2:Heap} {fs:List Addr} (x:Left G fs h h1) (y:Left G fs h1 h2):Left G fs h h2:=
 ⟨Nat.le_trans x.1 y.1,fun b o hb q=>by
  obtain ⟨a1,sl,a2⟩:=x.2.1 b o hb q
  obtain ⟨b1,sl',b2⟩:=y.2.1 b _ hb a2
  exact ⟨fun hs=>(y.2.1 b o hb (a1 hs)).1 hs,sl',b2⟩,fun b o q nf=>by
  obtain ⟨o1,q1,d1⟩:=x.2.2 b o q nf
  obtain ⟨o2,q2,d2⟩:=y.2.2 b o1 q1 (fun vs z=>nf vs (d1▸z))
  exact ⟨o2,q2,d2.trans d1⟩⟩
theorem JQ {cls:Value} (hfr:A.frames=some (env::outer)) (hl:s.heap.FunFrames base (env::outer)) (hf:env.frame=some L) (hG:∀ b,G b->b<s.heap.objs.size) (hy:vQ G e cls s.heap)
 (h:∀ h',Left G ((env::outer).filterMap (·.frame)) s.heap h'->vQ G e cls h'->Q () { s with heap:=h' }):wpAny M A (noteFrame (.ref e) env) (fun _ s1=>wpAny M A (setFlight (.ref e) none) Q E s1) E s:=by
 obtain ⟨oe,vs,he,⟨rfl,hdi⟩,hd,hne,h1⟩:=hy
 unfold noteFrame
 simp only [hf]
 rcases h1 with h1 | ⟨T,oT,ts,h1,hnT,hTe,hT,hdT,h3⟩
 . refine wpAny_bind (wpAny_field he hd h1 ?_)
   rw [if_neg (by decide)]
   exact Ah hfr hl hf he hdi hd (Array.getElem?_eq_some_iff.mp h1).1 hne hG h
 . refine wpAny_bind (wpAny_field he hd h1 ?_)
   rw [if_pos (show (Value.ref T != Value.none)=true from by simp)]
   refine wpAny_bind (wpAny_field hT hdT h3 ?_)
   rw [if_neg (show ¬ ((Value.none==rawInt L)=true) from by simp [rawInt])]
   refine wpAny_bind (wpAny_setField hT hdT (Array.getElem?_eq_some_iff.mp h3).1 ?_)
   have other:∀ b,b≠T->(s.heap.update T (Obj.mapFields (·.setIfInBounds 3 Value.none))).get? b=s.heap.get? b:=fun b hb=>Heap.get?_update_other _ _ (Ne.symm hb)
   have x:Left G ((env::outer).filterMap (·.frame)) s.heap (s.heap.update T (Obj.mapFields (·.setIfInBounds 3 Value.none))):=
    ⟨by rw [Heap.size_update]; exact Nat.le_refl _,fun b o hb q=>by
     have z:=(other b (fun z=>hnT (z▸hb))).trans q
     exact ⟨fun _=>z,o.slots,z⟩,fun b o q nf=>⟨o,(other b fun z=>by rw [z,hT] at q; cases q; exact nf ts hdT).trans q,rfl⟩⟩
   exact Ah hfr (x.frames hl) hf ((other e (Ne.symm hTe)).trans he) hdi hd (Array.getElem?_eq_some_iff.mp h1).1 hne (fun b hb=>Nat.lt_of_lt_of_le (hG b hb) x.1) fun h' y f=>h h' (x.trans y) f
theorem leave {cls:Value} (hfr:A.frames=some (env::outer)) (hl:s.heap.FunFrames base (env::outer)) (hf:env.frame=some L) (hG:∀ b,G b->b<s.heap.objs.size) (hy:vQ G e cls s.heap)
 (h:∀ h',Left G ((env::outer).filterMap (·.frame)) s.heap h'->vQ G e cls h'->Q () { s with heap:=h' }):wpAny M A (leaving env (.ref e)) Q E s:=wpAny_bind (JQ hfr hl hf hG hy h)
end
noncomputable def iG (P:Program) (w:World):qZ:=fun outer H s E x s'=>
 ∃ (e C:Addr) (H':Hp) (G:Addr->Prop),x=.ref e/\s'.os=s.os/\AllBare s'.gens/\Un (frs outer) [] H H' s.heap s'.heap/\eU P w H' s'.heap/\(∀ b o,s.heap.get? b=some o->G b)/\(∀ b o,H' b=some o->G b)/\(∀ b,G b->b<s'.heap.objs.size)/\vQ G e (.ref C) s'.heap/\E (.ref C) none H'
theorem eU.left {H:Hp} {h h':Heap} {fs:List Addr} {G:Addr->Prop} (x:eU P w H h) (y:Left G fs h h') (hn:∀ b o,H b=some o->G b) (hf:∀ b∈fs,H b=none):eU P w H h':=fun a o q=>
 (x a o q).stay (fun b u hb hg=>by
   have ht:∃ o',H b=some o':=by
    rcases hb with rfl | hb
    . exact ⟨_,q⟩
    . exact ⟨_,hb⟩
   obtain ⟨o',ht⟩:=ht
   exact (y.2.1 b u (hn b o' ht) hg).1 fun hb'=>by rw [hf b hb'] at ht; cases ht) (fun _ z=>z) fun _ _ z=>z
theorem Un.left {H H':Hp} {h h1 h2:Heap} {fs gs:List Addr} {G:Addr->Prop} (u:Un fs [] H H' h h1) (y:Left G gs h1 h2) (hn:∀ b o,h.get? b=some o->G b) (hg:∀ b∈gs,b∈fs\/h.objs.size<=b):Un fs [] H H' h h2 where
 keep:=fun b o q hb hf hx=>(y.2.1 b o (hn b _ q) (u.keep b o q hb hf hx)).1 fun z=>by
  rcases hg b z with z | z
  . exact hf z
  . exact absurd (Heap.lt_size q) (Nat.not_lt.mpr z)
 slot:=fun b o q hb hf hx=>by
  obtain ⟨sl,e1⟩:=u.slot b o q hb hf hx
  obtain ⟨_,sl',e2⟩:=y.2.1 b _ (hn b _ q) e1
  exact ⟨sl',e2⟩
 free:=u.free
 there:=fun b o q hx=>by
  obtain ⟨o',e1⟩:=u.there b o q hx
  obtain ⟨_,sl',e2⟩:=y.2.1 b _ (hn b _ q) e1
  exact ⟨_,e2⟩
 tups:=u.tups
 frzs:=u.frzs
 tbls:=u.tbls
theorem JR {K:FG} {mg:Str->Option Value} {base:Heap} {N:List Str} {qual:Str} {sc:Scope} {f:Addr} {cd:Value} {outer:List Env} {H:Hp} {E:XK}
 {pins:List (Addr×Obj)} {σ:St} {H1:Hp} {s1:Shared} {e C:Addr} {G:Addr->Prop} (I:Inv (jW (iG P w) P w K mg base N qual sc f cd A outer s H E) pins σ H1 s1)
 (hs:∀ b o,s.heap.get? b=some o->G b) (hn:∀ b o,H1 b=some o->G b) (hG:∀ b,G b->b<s1.heap.objs.size) (hy:vQ G e (.ref C) s1.heap) (hE:E (.ref C) none H1):
 (jW (iG P w) P w K mg base N qual sc f cd A outer s H E).xe (.ref e) s1:=by
 have hfr:(A.deeper (envOfC qual sc s.heap.objs.size f cd)).frames=some (envOfC qual sc s.heap.objs.size f cd::outer):=I.ok.frames
 show wpAny (model P w) (A.deeper (envOfC qual sc s.heap.objs.size f cd)) (leaving (envOfC qual sc s.heap.objs.size f cd) (.ref e)) (fun _ s''=>iG P w outer H s E (.ref e) s'') (fun e' s''=>iG P w outer H s E e' s'') s1
 refine leave (G:=G) (L:=s.heap.objs.size) (cls:=.ref C) hfr I.stack rfl hG hy fun h2 y fl=>?_
 have hf:∀ b∈frs (envOfC qual sc s.heap.objs.size f cd::outer),H1 b=none:=I.stkFree
 refine ⟨e,C,H1,G,rfl,I.os,I.bare,?_,I.hok.left y hn hf,hs,hn,fun b hb=>Nat.lt_of_lt_of_le (hG b hb) y.1,fl,hE⟩
 have u:Un (frs outer) [] H H1 s.heap s1.heap:=I.base
 refine u.left y hs fun b hb=>?_
 have hb':b∈frs (envOfC qual sc s.heap.objs.size f cd::outer):=hb
 rcases List.mem_filterMap.mp hb' with ⟨v,hv,hve⟩
 rcases List.mem_cons.mp hv with rfl | hv
 . right; cases hve; exact Nat.le_refl _
 . left; exact List.mem_filterMap.mpr ⟨v,hv,hve⟩
theorem Qs {K:FG} {mg:Str->Option Value} {base:Heap} {N:List Str} {qual:Str} {sc:Scope} {f:Addr} {cd:Value} {outer:List Env} {H:Hp} {E:XK}:
 lq (iG P w) (jW (iG P w) P w K mg base N qual sc f cd A outer s H E) E:=fun pins σ H1 s1 x s' I h=>by
 obtain ⟨e,C,H2,G,rfl,os,bare,un,hok,hn,hb,hG,fl,hE⟩:=h
 obtain ⟨hh,g,d,t,os'⟩:=s'
 obtain rfl:os'=s1.os:=os
 have I2:=I.call (h':=hh) (g':=g) (d':=d) (t':=t) (ch:=[]) un hok bare (fun b z=>absurd z (by simp))
 exact JR I2 (fun b o q=>by
  obtain ⟨o',q'⟩:=I.base.there b o q (by intro z; cases z)
  exact hn b o' q') hb hG fl hE
theorem dw.known {H:Hp} {h:Heap} {a:Addr} {o:HO} (x:dw P w H h a o):∃ ob,h.get? a=some ob:=by
 cases o with
 | lst xs=>obtain ⟨_,_,_,_,z⟩:=x; exact ⟨_,z⟩
 | tup xs=>obtain ⟨_,_,_,_,z,_⟩:=x; exact ⟨_,z⟩
 | dK kvs=>obtain ⟨_,_,_,_,_,_,_,z,_⟩:=x; exact ⟨_,z⟩
 | dT kvs=>obtain ⟨_,_,_,_,_,_,_,z,_⟩:=x; exact ⟨_,z⟩
 | set S n=>obtain ⟨_,_,_,_,z,_⟩:=x; exact ⟨_,z⟩
 | ins C dx fs=>obtain ⟨_,_,_,z,_⟩:=x; exact ⟨_,z⟩
 | own y=>obtain ⟨_,z⟩:=x; exact ⟨_,z⟩
 | xd fs=>obtain ⟨_,⟨_,_,_,z,_⟩,_⟩:=x; exact ⟨_,z⟩
 | rng lo hi=>obtain ⟨_,_,_,z⟩:=x; exact ⟨_,z⟩
 | frz ob u=>obtain ⟨z,_⟩:=x; exact ⟨_,z⟩
 | tbl ps=>exact ⟨_,(show h.get? a=some _ from x)⟩
 | met f y=>exact ⟨_,(show h.get? a=some _ from x)⟩
 | ext φ=>obtain ⟨_,⟨_,z⟩,_⟩:=x; exact ⟨_,z⟩
theorem Qt {K:FG} {mg:Str->Option Value} {base:Heap} {N:List Str} {qual:Str} {sc:Scope} {f:Addr} {cd:Value} {outer:List Env} {H:Hp} {E:XK}
 {pins:List (Addr×Obj)} {σ:St} {H1:Hp} {s1:Shared} {h':Heap} {e C:Addr} {args:List Value} (I:Inv (jW (iG P w) P w K mg base N qual sc f cd A outer s H E) pins σ H1 s1)
 (hm:Heap.MadeExcOf s1.heap h' e (.ref C) args) (hE:E (.ref C) none H1):
 (jW (iG P w) P w K mg base N qual sc f cd A outer s H E).xe (.ref e) { s1 with heap:=h' }:=by
 obtain ⟨t,ht,_,_⟩:=hm.there
 have I2:=I.call (h':=h') (g':=s1.gens) (d':=s1.drawn) (t':=s1.toks) (ch:=[]) (Un.kept hm.keeps) (I.hok.kept hm.keeps) I.bare (fun b z=>absurd z (by simp))
 refine JR (G:=fun b=>∃ o,s1.heap.get? b=some o) I2 (fun b o q=>I.base.there b o q (by intro z; cases z)) (fun b o q=>?_) (fun b ⟨o,q⟩=>Heap.lt_size (hm.keeps b o q)) ⟨_,_,ht,⟨rfl,rfl⟩,rfl,(fun ⟨o,q⟩=>by rw [hm.new] at q; cases q),.inl rfl⟩ hE
 exact (I.hok b o q).known
noncomputable def bZ (x:Str):Bool:=decide (x.length<=1000)&&x.cps.toList.all fun c=>decide (c<16 ^ 8)
noncomputable def HB (K:FG) (H:Hp) (v:V):Prop:=(∃ x,v=.str x/\bZ x=true)\/∃ (a:Addr) (xs:List Str),v=.ref a/\(bY K H a (xs.map V.str)\/cW K H a (xs.map V.str))/\xs.length<=64/\xs.all bZ=true
theorem Ai {x:Str} (h:bZ x=true):(reprText x).length<=10002:=by
 unfold bZ at h
 rw [Bool.and_eq_true,decide_eq_true_eq,List.all_eq_true] at h
 have:=StrLaws.reprText_len x fun c hc=>by simpa using h.2 c hc
 omega
theorem sS {h:Heap}:∀ {xs:List Str} {us:List Value},Vals (xs.map V.str) us->ReadsAll h us (xs.map PyData.str) []
 | [],_,.nil=>.nil
 | x::xs,_,.cons r t=>by
  obtain ⟨tk,rfl⟩:=r
  exact ReadsAll.cons (as:=[]) (.str x tk) (sS t)
theorem xf:∀ xs:List Str,xs.all bZ=true->PyData.showableAll (xs.map PyData.str)=true/\PyData.hasDictAll (xs.map PyData.str)=false/\PyData.depthAll (xs.map PyData.str)<=1/\(((PyData.shownAll (xs.map PyData.str)).map (·.length)).sum<=10002*xs.length)/\(PyData.shownAll (xs.map PyData.str)).length=xs.length
 | [],_=>⟨rfl,rfl,Nat.zero_le _,Nat.le_refl _,rfl⟩
 | x::xs,h=>by
  rw [List.all_cons,Bool.and_eq_true] at h
  obtain ⟨h1,h2,h3,h4,h5⟩:=xf xs h.2
  have:=Ai h.1
  simp only [List.map_cons,PyData.showableAll,PyData.showable,PyData.hasDictAll,PyData.hasDict,PyData.depthAll,PyData.depth,PyData.shownAll,PyData.shown,List.sum_cons,List.length_cons,h1,h2,h5]
  refine ⟨rfl,rfl,by omega,by omega,trivial⟩
section
variable {X:Cx} {pins:List (Addr×Obj)} {σ:St} {H:Hp} {s:Shared}
theorem Mt {k:Nat} {v:V} {u:Value} {Q:Value->Shared->Prop} (hr:eQ k X.A) (I:Inv X pins σ H s) (r:RelV v u) (h:HB X.K H v) (q:∀ z tk s',z.length<=700000->Inv X pins σ H s'->Q (.str z tk) s'):wpAny (model X.prog X.w) X.A (pyReprObj u) Q E s:=by
 have un:=hr.units
 rcases h with ⟨x,rfl,hx⟩ | ⟨a,xs,rfl,hs,hl,hx⟩
 . obtain ⟨tk,rfl⟩:=r
   have:=Ai hx
   exact wpAny_pyReprObj_str (q _ _ _ (by omega) (I.tok _)) (by rw [sizeLine_eq]; omega)
 . obtain rfl:u=Value.ref a:=r
   obtain ⟨h1,h2,h3,h4,h5⟩:=xf xs hx
   rcases hs with hs | hs
   . obtain ⟨its,rv,⟨o,n,e1,e2,_,e3⟩,_⟩:=I.list hs
     have hz:=listText_len_le (PyData.shownAll (xs.map PyData.str))
     rw [h5] at hz
     have hz':(PyData.list (xs.map PyData.str)).shown.length<=700000:=by show (listText _).length<=_; omega
     exact pyReprObj_of_reads (d:=.list (xs.map PyData.str)) (.list e1 e2 e3 (sS rv)) (by simpa [PyData.showable] using h1) (PyData.noDict_hsm (by simpa [PyData.hasDict] using h2)) hr.gd (by show X.A.units+(PyData.depthAll _+1)<_; omega) (fun _ _ z=>z) (fun h' u tk hk=>q _ _ _ hz' (I.kept hk)) (by rw [sizeLine_eq]; omega)
   . obtain ⟨its,rv,⟨o,e1,e2,n,e3⟩,_⟩:=I.tuple hs
     have hz:=tupleText_len_le (PyData.shownAll (xs.map PyData.str))
     rw [h5] at hz
     have hz':(PyData.tuple (xs.map PyData.str)).shown.length<=700000:=by show (tupleText _).length<=_; omega
     exact pyReprObj_of_reads (d:=.tuple (xs.map PyData.str)) (.tuple e1 e2 e3 (sS rv)) (by simpa [PyData.showable] using h1) (PyData.noDict_hsm (by simpa [PyData.hasDict] using h2)) hr.gd (by show X.A.units+(PyData.depthAll _+1)<_; omega) (fun _ _ z=>z) (fun h' u tk hk=>q _ _ _ hz' (I.kept hk)) (by rw [sizeLine_eq]; omega)
end
noncomputable abbrev TJ:=St->Hp->(Hp->Prop)->Prop
noncomputable def PJ (X:Cx) (es:List Expr) (n:Nat) (t:TJ):Prop:=∀ (pins:List (Addr×Obj)) (s:Shared) (σ:St) (H:Hp) (Q:Hp->Prop) (acc:Str),Inv X pins σ H s->acc.length+n<=sizeLine->t σ H Q->
 wpAny (model X.prog X.w) X.A (joinParts acc (evalEach es X.env)) (fun u s'=>∃ z tk H',u=.str z tk/\Inv X pins σ H' s'/\Q H') X.xe s
section
variable {X:Cx} {es:List Expr} {n:Nat} {t:TJ}
theorem S6:PJ X [] 0 (fun _ H Q=>Q H):=fun pins s σ H Q acc I h q=>joinParts_nilE (joinParts_nil ⟨_,_,H,rfl,I.tok _,q⟩ h)
theorem Wk {c:Str} {j:Nat} {p:Pos} (hc:c.length<=100) (h:PJ X es n t):PJ X (.Constant (.str c) j p::es) (n+100) t:=fun pins s σ H Q acc I hl q=>by
 refine joinParts_cons (Calls.Constant_str ?_)
 have e:=strLen_append acc c
 exact ⟨by omega,h pins _ σ H Q _ (I.tok _) (by omega) q⟩
theorem Wl {k:Nat} {e:Expr} {p:Pos} {te:TE} (hr:eQ k X.A) (he:PE X e te) (h:PJ X es n t):PJ X (.FormattedValue e 114 none p::es) (n+700000) (fun σ H Q=>te σ H fun v H'=>HB X.K H' v/\t σ H' Q):=fun pins s σ H Q acc I hl q=>by
 refine joinParts_cons (wpAny_FormattedValue_repr (bu (he pins s σ H _ I q) fun u s1 ⟨v,H1,I1,r1,hs,q1⟩=>?_))
 refine Mt hr I1 r1 hs fun z tk s2 hz I2=>formatField_str (fun t' tk'=>?_) (by rw [sizeLine_eq]; omega)
 have e:=strLen_append acc z
 exact ⟨by omega,h pins _ σ H1 Q _ (I2.tok _) (by omega) q1⟩
theorem JS {v1 v2:Expr} {p:Pos} (h:PJ X (v1::v2::es) n t) (hn:n<=sizeLine):PE X (.JoinedStr (v1::v2::es) p) (fun σ H Q=>t σ H fun H'=>∀ z,Q (.str z) H'):=fun pins s σ H Q I q=>by
 refine JoinedStr_many (bu (h pins s σ H _ Str.empty I (by show 0+n<=_; omega) q) fun u s' ⟨z,tk,H',e,I',q'⟩=>?_)
 subst e
 exact ⟨.str z,H',I',⟨tk,rfl⟩,q' z⟩
end
abbrev mF:List Value:=[.type "ValueError",.type "Exception",.type "BaseException",.type "object"]
abbrev mG:String := "ValueError.__new__"
noncomputable def Raises (X:Cx) (E:XK):Prop:=∀ (pins:List (Addr×Obj)) (σ:St) (H:Hp) (s:Shared) (h':Heap) (e C:Addr) (args:List Value),Inv X pins σ H s->Heap.MadeExcOf s.heap h' e (.ref C) args->E (.ref C) none H->X.xe (.ref e) { s with heap:=h' }
theorem zc {K:FG} {h:Heap} {C:Addr} {bmB:List Value} {newId:String} (X:K.In h) (q:W.excIn K C bmB newId=true):∃ bm N nm qn bs hdct sn sub ab col dd k0 k1 k2 k3 k5,∃ mN:Str->Option Value,h.get? C=some (excClassObj nm qn C N bs bm hdct sn sub ab col dd k0 k1 k2 k3 k5 newId)/\h.Ns N mN/\mN "__init__" = none/\OwnTail h bmB bm:=by
 unfold W.excIn at q
 split at q
 . rename_i dd cd sl ho
   split at q
   . rename_i C' bm k0 k1 k2 k3 n k5 hm hs
     simp only [Bool.and_eq_true,beq_iff_eq,Bool.not_eq_true'] at q
     obtain ⟨⟨⟨⟨⟨rfl,rfl⟩,hdel⟩,ht⟩,hok⟩,hni⟩:=q
     obtain ⟨nm,bs,mro,ns,qn,hd,sn,sub,ab,col,del⟩:=cd
     dsimp only at hm hdel hok hni
     subst hm hdel
     have hsl:sl=#[k0,k1,k2,k3,some (.builtin n),k5]:=by
      obtain ⟨l⟩:=sl
      simp only at hs
      rw [hs]
     subst hsl
     exact ⟨bm,ns,nm,qn,bs,hd,sn,sub,ab,col,dd,k0,k1,k2,k3,k5,_,X _ _ ho,.of_isNs (W.isNs_of_in X hok),W.nsMap_none_of_in X hok hni,W.tail_of_in X ht⟩
   . cases q
 . cases q
section
variable {X:Cx}
theorem Mv {x:Str} {C:Addr} {np cpos pos:Pos} {a:Expr} {t:TE} {E:XK} {k:Nat} (R:Raises X E) (hr:eQ k X.A) (hg:Gl X x) (hm:X.mg x=some (.ref C)) (hx:W.excIn X.K C mF mG=true) (ha:PE X a t)
 (hdb:(x==("__debug__" : Str))=false:=by decide) (hst:starEach [a] X.env=[(false,eval a X.env)]:=by rfl) (hpl:(backTo cpos (starEach [a] X.env)).any (·.1)=false:=by rfl):
 PS X (.Raise (some (.Call (.Name x np) [a] [] cpos)) none pos) (fun _ σ H=>vf t Cg σ H fun vs H1=>vs.length=1/\E (.ref C) none H1):=fun pins s σ H D I q=>by
 obtain ⟨bm,N,nm,qn,bs,hdct,sn,sub,ab,col,dd,k0,k1,k2,k3,k5,mN,hC,hN,hni,T⟩:=zc I.mod.kin hx
 refine wpAny_Raise_call_subT (F:=F.excBase_ValueError) (C:=C) (mN:=mN) (nm:=nm) (q:=qn) (N:=N) (bs:=bs) (hdct:=hdct) (sn:=sn) (sub:=sub) (ab:=ab) (col:=col) (dd:=dd) (k0:=k0) (k1:=k1) (k2:=k2) (k3:=k3) (k5:=k5) (T.hasType (by decide +kernel)) (hr.hd rfl) hpl hni (oY I hg hm ⟨rfl,?_⟩ hdb)
 have ha':=cT ha jV (hs:=hst)
 rw [hst]
 have hw:=ha' cpos pins s σ H _ I q
 rw [hst] at hw
 refine Calls.evalArgs_plain (bu hw fun us s1 ⟨vs,H1,I1,r1,q1⟩=>?_)
 refine ⟨rfl,by rw [← r1.length,q1.1]; decide,I1.bk _ _ hC,hN.keeps I1.bk,T.keeps I1.bk,fun h' e hm=>R pins σ H1 s1 h' e C us I1 hm q1.2⟩
end
theorem Left.refl {G:Addr->Prop} {fs:List Addr} {h:Heap}:Left G fs h h:=⟨Nat.le_refl _,fun b o hb q=>⟨fun _=>q,o.slots,q⟩,fun b o q nf=>⟨o,q,rfl⟩⟩
theorem Qu {M:Model} {e:Addr} {G:Addr->Prop} {Q:Unit->Shared->Prop} {cls:Value} {fs:List Addr} (hy:vQ G e cls s.heap) (h:∀ h',Left G fs s.heap h'->vQ G e cls h'->Q () { s with heap:=h' }):wpAny M A (setFlight (.ref e) none) Q E s:=by
 obtain ⟨oe,vs,he,hc,hd,hne,h1⟩:=id hy
 unfold setFlight
 rcases h1 with h1 | ⟨T,oT,ts,h1,hnT,hTe,hT,hdT,h3⟩
 . refine wpAny_bind (wpAny_field he hd h1 ?_)
   rw [if_neg (by decide)]
   exact wpAny_pure (h s.heap Left.refl hy)
 . refine wpAny_bind (wpAny_field he hd h1 ?_)
   rw [if_pos (show (Value.ref T != Value.none)=true from by simp)]
   have hz:=(Array.getElem?_eq_some_iff.mp h3).1
   have other:∀ b,b≠T->(s.heap.update T (Obj.mapFields (·.setIfInBounds 3 Value.none))).get? b=s.heap.get? b:=fun b hb=>Heap.get?_update_other _ _ (Ne.symm hb)
   refine wpAny_setField hT hdT hz (h _ ⟨by rw [Heap.size_update]; exact Nat.le_refl _,fun b o hb q=>?_,fun b o q nf=>⟨o,(other b fun z=>by rw [z,hT] at q; cases q; exact nf ts hdT).trans q,rfl⟩⟩ ⟨oe,vs,(other e (Ne.symm hTe)).trans he,hc,hd,hne,.inr ⟨T,_,_,h1,hnT,hTe,Heap.get?_update_self _ hT (Obj.isFreed_of_fields (Obj.data_mapFields hdT _)),Obj.data_mapFields hdT _,by simp [hz]⟩⟩)
   have z:=(other b (fun z=>hnT (z▸hb))).trans q
   exact ⟨fun _=>z,o.slots,z⟩
noncomputable def mH (X:Cx) (pins:List (Addr×Obj)) (σ:St) (H':Hp) (e C:Addr) (s':Shared):Prop:=
 ∃ (H:Hp) (s:Shared) (G:Addr->Prop),Inv X pins σ H s/\s'.os=s.os/\AllBare s'.gens/\Un (frs X.stack) [] H H' s.heap s'.heap/\eU X.prog X.w H' s'.heap/\(∀ b o,s.heap.get? b=some o->G b)/\(∀ b o,H' b=some o->G b)/\(∀ b,G b->b<s'.heap.objs.size)/\vQ G e (.ref C) s'.heap
section
variable {X:Cx} {pins:List (Addr×Obj)} {σ:St} {H H':Hp} {s s':Shared} {e C:Addr}
theorem mH.of {E:XK} {x:Value} (I:Inv X pins σ H s) (h:iG X.prog X.w X.stack H s E x s'):∃ e C H',x=.ref e/\mH X pins σ H' e C s'/\E (.ref C) none H':=by
 obtain ⟨e,C,H',G,rfl,os,bare,un,hok,hn,hb,hG,fl,hE⟩:=h
 exact ⟨e,C,H',rfl,⟨H,s,G,I,os,bare,un,hok,hn,hb,hG,fl⟩,hE⟩
theorem mH.inv (h:mH X pins σ H' e C s'):Inv X pins σ H' s':=by
 obtain ⟨H,s,G,I,os,bare,un,hok,hn,hb,hG,fl⟩:=h
 exact I.call' os un hok bare (fun b z=>absurd z (by simp))
theorem mH.leave {M:Model} {Q:Unit->Shared->Prop} (h:mH X pins σ H' e C s') (hs:X.stack=X.env::X.outer) (hf:X.env.frame=some X.env.locals) (hA:A.frames=some X.stack)
 (k:∀ h',mH X pins σ H' e C { s' with heap:=h' }->Q () { s' with heap:=h' }):wpAny M A (noteFrame (.ref e) X.env) (fun _ s1=>wpAny M A (setFlight (.ref e) none) Q E s1) E s':=by
 have I':=h.inv
 obtain ⟨H,s,G,I,os,bare,un,hok,hn,hb,hG,fl⟩:=h
 have hst:=I'.stack
 rw [hs] at hst hA
 refine JQ hA hst hf hG fl fun h' y f=>k h' ⟨H,s,G,I,os,bare,un.left y hn fun b z=>.inl (by rw [hs]; exact z),hok.left y hb fun b z=>I'.stkFree b (by rw [hs]; exact z),hn,hb,fun b z=>Nat.lt_of_lt_of_le (hG b z) y.1,f⟩
theorem mH.flight {M:Model} {Q:Unit->Shared->Prop} (h:mH X pins σ H' e C s') (k:∀ h',mH X pins σ H' e C { s' with heap:=h' }->Q () { s' with heap:=h' }):wpAny M A (setFlight (.ref e) none) Q E s':=by
 have I':=h.inv
 obtain ⟨H,s,G,I,os,bare,un,hok,hn,hb,hG,fl⟩:=h
 exact Qu (fs:=frs X.stack) fl fun h' y f=>k h' ⟨H,s,G,I,os,bare,un.left y hn fun b z=>.inl z,hok.left y hb fun b z=>I'.stkFree b z,hn,hb,fun b z=>Nat.lt_of_lt_of_le (hG b z) y.1,f⟩
end
noncomputable abbrev Cx.hand (X:Cx) (e:Addr):Cx:={ X with A:=X.A.mark (some (.ref e)),calm:=false,xe:=fun _ _=>False }
section
variable {X:Cx} {pins:List (Addr×Obj)} {σ:St} {H:Hp} {s:Shared} {e:Addr}
theorem Inv.hand (I:Inv X pins σ H s) (e:Addr):Inv (X.hand e) pins σ H s:=
 ⟨⟨I.ok.mod,I.ok.kind,I.ok.glob,I.ok.blt,I.ok.above,I.ok.inj,I.ok.has,I.ok.cab,fun z=>absurd z (by simp),I.ok.frames,I.ok.stk,I.ok.exf,I.ok.bs,I.ok.bsz,I.ok.noex,I.ok.exfs,I.ok.funs,I.ok.frf⟩,I.os,I.bare,I.base,I.loc,I.cell,I.free,I.freeC,I.pin,I.hok,I.len⟩
theorem Inv.unhand (hd:X.calm=true->X.A.handled=none) (I:Inv (X.hand e) pins σ H s):Inv X pins σ H s:=
 ⟨⟨I.ok.mod,I.ok.kind,I.ok.glob,I.ok.blt,I.ok.above,I.ok.inj,I.ok.has,I.ok.cab,hd,I.ok.frames,I.ok.stk,I.ok.exf,I.ok.bs,I.ok.bsz,I.ok.noex,I.ok.exfs,I.ok.funs,I.ok.frf⟩,I.os,I.bare,I.base,I.loc,I.cell,I.free,I.freeC,I.pin,I.hok,I.len⟩
end
noncomputable def mroIn (K:FG) (C d:Addr):Bool:=W.mroIn K C (.ref d)==some true
theorem Oz {K:FG} {C d:Addr} {b:Bool} (h:W.mroIn K C (.ref d)=some b):mroIn K C d=b:=by
 unfold mroIn
 rw [h]
 cases b<;>rfl
theorem S7 {K:FG} {h:Heap} {C d:Addr} {bmB:List Value} {newId:String} (X:K.In h) (q:W.excIn K C bmB newId=true) {nm qn:Str} {N:Addr} {bs bm:List Value} {hdct:Bool} {sn:List Str} {sub:List Value} {ab:Bool} {col:Option Bool} {dd:Option Addr} {k0 k1 k2 k3 k5:Option Value}
 (hC:h.get? C=some (excClassObj nm qn C N bs bm hdct sn sub ab col dd k0 k1 k2 k3 k5 newId)):(Value.ref C::bm).contains (.ref d)=mroIn K C d:=by
 refine (Oz ?_).symm
 unfold W.excIn at q
 unfold W.mroIn W.clsIn
 split at q
 . rename_i o ho
   have:=X _ _ ho
   rw [hC] at this
   cases this
   rw [ho]
   rfl
 . cases q
theorem Wm {M:Model} {nm q nm' q':Str} {C N D N':Addr} {bs bm bs' bm':List Value} {hdct hdct':Bool} {sn sn':List Str} {sub sub':List Value} {ab ab':Bool} {col col':Option Bool} {dd dd':Option Addr} {k0 k1 k2 k3 k5 j0 j1 j2 j3 j5:Option Value} {newId newId':String}
 {h:Heap} {g:Array GenState} {d:Drawn} {t:Nat} {os:OsState} {e:Addr} {oe:Obj} {Q:Bool->Shared->Prop}
 (hC:h.get? C=some (excClassObj nm q C N bs bm hdct sn sub ab col dd k0 k1 k2 k3 k5 newId)) (hD:h.get? D=some (excClassObj nm' q' D N' bs' bm' hdct' sn' sub' ab' col' dd' j0 j1 j2 j3 j5 newId')) (he:h.get? e=some oe) (hcls:oe.cls=.ref C) (hbase:bm'.contains (.type "BaseException")=true)
 (hq:Q ((Value.ref C::bm).contains (.ref D)) ⟨h,g,d,t,os⟩):wpAny M A (excMatches (.ref e) (.ref D)) Q E ⟨h,g,d,t,os⟩:=by
 have hcB:(Value.ref D::bm').contains (.type "BaseException")=true:=by rw [List.contains_cons,hbase,Bool.or_true]
 have f:=tc_notTuple
 unfold excMatches
 generalize hb:(Value.ref C::bm).contains (.ref D)=b at hq
 repeat (first | (with_reducible refine wpAny_loadPart_at he ?_; rw [hcls]) | with_reducible refine wpAny_loadPart_at hD ?_ | (with_reducible refine wpAny_isSubtype_exc hD ?_; rw [hcB]) | (with_reducible refine wpAny_isSubtype_exc hC ?_; rw [hb]) | wp_step)
 cases b<;>(wp_walk; exact hq)
noncomputable def PH (X:Cx) (hs:List ExceptHandler) (t:Addr->TS):Prop:=∀ (pins:List (Addr×Obj)) (s:Shared) (σ:St) (H:Hp) (D:Ends) (e C:Addr),mH X pins σ H e C s->W.excIn X.K C mF mG=true->t C D σ H->wpAny (model X.prog X.w) X.A (handleBy (.ref e) X.env hs) (SP X pins D) X.xe s
section
variable {X:Cx}
theorem S8 {hs:List ExceptHandler}:PH X hs (fun _ _ _ _=>False):=fun _ _ _ _ _ _ _ _ _ z=>z.elim
noncomputable def Aj (X:Cx) (pins:List (Addr×Obj)) (σ:St) (e:Expr) (t:TE):Prop:=∀ (s:Shared) (H:Hp) (Q:VK),Inv X pins σ H s->t σ H Q->wpAny (model X.prog X.w) X.A (eval e X.env) (EP X pins σ Q) X.xe s
noncomputable def Ak (X:Cx) (pins:List (Addr×Obj)) (σ:St) (b:List Stmt) (t:TS):Prop:=∀ (s:Shared) (H:Hp) (D:Ends),Inv X pins σ H s->t D σ H->wpAny (model X.prog X.w) X.A (execs b X.env) (SP X pins D) X.xe s
noncomputable def By (X:Cx) (pins:List (Addr×Obj)) (σ:St) (E:XK):Prop:=∀ H s e s',Inv X pins σ H s->iG X.prog X.w X.stack H s E e s'->X.xe e s'
section
variable {pins:List (Addr×Obj)} {σ:St} {E:XK} {k:Nat} {f C:Addr} {fd:FuncData} {ps:List Str} {sp:Sp} {x:Str} {p pos:Pos} {e:Expr} {es:List Expr} {t:TA} {te:TE}
theorem Mw (F:jr X.prog X.w X.K X.mg X.base (iG X.prog X.w) k f fd ps sp) (hr:eQ k X.A) (hg:Gl X x) (hm:X.mg x=some (.ref f)) (hk:W.keepIn X.K (.ref f)=true) (hb:Binds X.K fd ps []) (hx:By X pins σ E)
 (ha:PA X (e::es) t) (hdb:(x==("__debug__" : Str))=false:=by decide) (he:starEach (e::es) X.env=(false,eval e X.env)::starEach es X.env:=by rfl) (hpl:(backTo pos (starEach es X.env)).any (·.1)=false:=by rfl):
 Aj X pins σ (.Call (.Name x p) (e::es) [] pos) (Bv sp [] E t):=by
 intro s H Q I h
 refine wpAny_Call_Name_kw (oY I hg hm ?_ hdb)
 refine W.callWith_K (h₀:=X.base) I.ok.mod.kin hk (bu (ha pos pins s σ H _ I h) fun us s1 ⟨vs,H1,I1,r,q⟩=>⟨I1.kIn,?_⟩) he hpl
 exact wV F hr hb .nil hx I1 r q
theorem Qv {i:Nat} {pos':Pos} (hN:X.N.Nodup) (hi:X.N[i]?=some x) (hx:Loc X.env.scope x) (he:Aj X pins σ e te) (hs:swapsWith e (some (.Name x pos')) pos.line X.env=pure false:=by rfl) (hf:X.fn x=true\/X.env.scope.names.lookup x=some .local:=by first | exact .inl rfl | exact .inr rfl | assumption):
 Ak X pins σ [.Assign [.Name x pos'] e pos] (yW te (wM i)):=fun s H D I h=>by
 refine wpAny_execs_cons (wpAny_Assign_Name (bu (he s H _ I h) fun v s1 ⟨y,H1,I1,r1,q1⟩=>?_) hs)
 exact pG I1 hN hi hx r1 (fun s2 I2=>wpAny_execs_nil ⟨_,H1,I2,q1⟩) hf
end
noncomputable def Wn (K:FG) (tb:XK->TS) (th:Addr->TS):TS:=fun D σ H=>∃ E:XK,tb E D σ H/\∀ C H',E (.ref C) none H'->W.excIn K C mF mG=true/\th C D σ H'
theorem S9 {body:List Stmt} {h₀:ExceptHandler} {hs:List ExceptHandler} {pos:Pos} {tb:XK->TS} {th:Addr->TS} (hst:X.stack=X.env::X.outer) (hf:X.env.frame=some X.env.locals)
 (hb:∀ pins σ xe E,By (X.wish xe) pins σ E->Ak (X.wish xe) pins σ body (tb E)) (hh:PH X (h₀::hs) th):PS X (.Try body (h₀::hs) [] [] pos) (Wn X.K tb th):=fun pins s σ H D I ⟨E,q,k⟩=>by
 refine wpAny_Try_except (wpAny_mono (hb pins σ (fun x s'=>∃ H s,Inv X pins σ H s/\iG X.prog X.w X.stack H s E x s') E (fun H s e s' I h=>⟨H,s,I.unwish,h⟩) s H D (I.wish _) q) (fun f s1 h1=>?_) fun x s1 h1=>?_)
 . have h2:=SP.unwish h1
   cases f with
   | next=>exact wpAny_execs_nil h2
   | ret u=>exact h2
   | brk=>exact h2
   | cont=>exact h2
 . obtain ⟨Hh,s0,I0,cx⟩:=h1
   obtain ⟨e,C,H',rfl,hh',hE⟩:=mH.of I0 cx
   obtain ⟨hc,hq⟩:=k C H' hE
   exact hh'.leave hst hf I0.ok.frames fun h' h2=>hh pins _ σ H' D e C h2 hc hq
end
end L2
namespace L2
open PySem PySem.Spec PyProof.Rows PySem.W
section
variable {prog:Program} {w:World} {A:Around} {E:Value->Shared->Prop} {s:Shared} {K:FG} {e C:Addr} {oe:Obj}
structure pL (K:FG) (C:Addr):Prop where
 ga:W.findIn K (.ref C) "__getattribute__" = some (some (.builtin "BaseException.__getattribute__"))
 gt:W.findIn K (.ref C) "__getattr__" = some none
 me:W.mroIn K C (.type "BaseException")=some true
 mo:W.mroIn K C (.type "object")=some true
 ic:(W.clsIn K C).isSome=true
 ca:W.findIn K (.ref C) "__class__" = some (some (.builtin "object.__class__"))
 cg:W.specialIn K (.builtin "object.__class__") "__get__" = some (some (.builtin "getset_descriptor.__get__"))
 tk:W.takesIn K (.builtin "object.__class__")=some true
theorem Bj {K:FG} {C:Addr} {name:Str} {a g:Value} (hc:(W.clsIn K C).isSome=true) (ha:W.findIn K (.ref C) name=some (some a)) (hg:W.specialIn K a "__get__" = some (some g)) (ht:W.takesIn K a=some true):W.findObj K C none name=some (.bind g a):=by
 obtain ⟨cd,hc⟩:=Option.isSome_iff_exists.mp hc
 unfold W.findObj
 rw [hc,Option.bind_some,ha,Option.bind_some]
 simp [hg,ht]
theorem JT {nameV:Value} {Q:Unit->Shared->Prop} {M:Model} (X:K.In s.heap) (I:W.InstAt s.heap e oe C none) (T:pL K C) (hq:Q () s):wpAny M A (checkBuiltinCall "BaseException.__getattribute__" ⟨[.ref e,nameV],[]⟩) Q E s:=by
 obtain ⟨hh,g,d,t,os⟩:=s
 have hk:builtinKind "BaseException.__getattribute__" = some .slot:=by decide +kernel
 have hsplit:splitId "BaseException.__getattribute__" = some ("BaseException", "__getattribute__"):=by decide +kernel
 have L0:=I.type (M:=M)
 have L1:=W.looks_mroIn (M:=M) X T.me
 have ha:=F.args_bexc_ga (.ref e) nameV
 simp only [checkBuiltinCall,hk,hsplit]
 refine wpAny_bind ?_
 unfold isInstance
 refine wpAny_bind (L0.at (L1.at ?_))
 repeat (any_goals (first | assumption | wp_step))
theorem JV {tk:Tok} {Q:Fin->Shared->Prop} (X:K.In s.heap) (I:W.InstAt s.heap e oe C none) (T:pL K C) (hq:Q (.done (.ret (.ref C))) s):wpAny (model prog w) A (Builtin.«object.__getattribute__» ⟨[.ref e,.str "__class__" tk],[]⟩) Q E s:=by
 have L0:=I.type (M:=model prog w)
 have L4:=W.looks_find (M:=model prog w) X I (Bj T.ic T.ca T.cg T.tk)
 unfold Builtin.«object.__getattribute__»
 repeat (any_goals (first | assumption | (with_reducible refine L0.at ?_) | (with_reducible refine L4.at ?_) | wp_step))
 refine W.class_get (od:=none) X I T.mo ?_
 repeat (any_goals (first | assumption | wp_step))
theorem JW {Q:Option Value->Shared->Prop} (X:K.In s.heap) (I:W.InstAt s.heap e oe C none) (T:pL K C) (hq:Q (some (.ref C)) { s with toks:=s.toks+1 }):wpAny (model prog w) A (getAttr? (.ref e) "__class__") Q E s:=by
 obtain ⟨hh,g,d,t,os⟩:=s
 have L0:=I.type (M:=model prog w)
 have L1:=W.looks_findIn (M:=model prog w) X T.ga
 have L2:=W.looks_findIn (M:=model prog w) X T.gt
 have hx2:(Value.builtin "BaseException.__getattribute__" == Value.builtin "object.__getattribute__")=false:=by decide +kernel
 have f3:=F.excAttr_ValueError.ga.bind (.ref e)
 have pl:=F.excAttr_ValueError.ga.plain
 unfold getAttr? getAttrBy? getAttrBy
 refine wpAny_bind (wpAny_mkText (wpAny_bind (wpAny_attempt (wpAny_holding (wpAny_bind (L0.at (wpAny_bind (L1.at ?_))))))))
 show wpAny _ _ (if (onTheHeap (Value.ref C)&&Value.builtin "BaseException.__getattribute__" == Value.builtin "object.__getattribute__")=true then _ else _) _ _ _
 rw [hx2,Bool.and_false,if_neg (by decide)]
 unfold getAttrByItsOwn hookBefore
 refine wpAny_bind ?_
 rw [if_pos (show onTheHeap (Value.ref C)=true from rfl)]
 refine L2.at (wpAny_bind (wpAny_attempt (wpAny_holding ?_)))
 unfold callGetattribute
 rw [Bool.false_and,if_neg (by decide)]
 unfold boundAndCalled
 refine wpAny_bind ?_
 rw [f3]
 refine wpAny_pure (wpAny_call ?_)
 refine codeAny_call_builtin pl F.entry_bexc_ga (JT (s:=⟨hh,g,d,t+1,os⟩) X I T (JV (s:=⟨hh,g,d,t+1,os⟩) X I T ?_))
 repeat (any_goals (first | assumption | wp_step))
theorem Mx (T:pL K C):W.KitX K (.ref e) (.ref C) (fun h=>W.InstAt h e oe C none) where
 ty:=fun _ _ _ I=>I.type
 it:=fun _ _ X _=>by
  obtain ⟨cdD,hcD⟩:=Option.isSome_iff_exists.mp T.ic
  unfold W.clsIn at hcD
  split at hcD
  . rename_i c' d' cd' sl' ho
    intro A' Q' E' s' k q
    unfold isType loadHead
    exact wpAny_bind (wpAny_loadPart (k _ _ (X _ _ ho)) (wpAny_pure q))
  . cases hcD
 ne:=fun h tp dd its n sl X htp=>by
  obtain ⟨cdD,hcD⟩:=Option.isSome_iff_exists.mp T.ic
  refine Bool.eq_false_iff.mpr fun q=>?_
  have e:C=tp:=Value.ref.inj (beq_iff_eq.mp q)
  subst e
  unfold W.clsIn at hcD
  split at hcD
  . rename_i c' d' cd' sl' ho
    have z:=(X _ _ ho).symm.trans htp
    cases z
  . cases hcD
 ca:=fun X I k=>JW X I T k
end
theorem Ve {H:Hp} {h:Heap} {a c:Addr} (p:sO a c h):dw P w H h a (.ext (sO a c)):=by
 obtain ⟨o,q⟩:=id p
 refine ⟨p,⟨o,q.at_⟩,fun h1 h2 ⟨o1,q1⟩ k=>⟨o1,k _ q1.at_,q1.cls,q1.no,?_⟩⟩
 have:=q1.dict
 cases e:o1.dict with
 | none=>rw [e] at this; trivial
 | some d=>rw [e] at this; exact this.elim
section
variable {X:Cx} {pins:List (Addr×Obj)} {σ:St} {H H':Hp} {s s':Shared} {e C:Addr}
theorem mH.take (h:mH X pins σ H' e C s'):H' e=none/\Inv X pins σ (upd H' e (.ext (sO e C))) s':=by
 obtain ⟨H,s,G,I,os,bare,un,hok,hn,hb,hG,oe,vs,he,⟨hc,hdi⟩,hd,hne,_⟩:=h
 have e0:H' e=none:=by
  cases q:H' e with
  | none=>rfl
  | some o=>exact absurd (hb e o q) hne
 have ne:∀ b o,H' b=some o->b≠e:=fun b o q z=>by rw [z,e0] at q; cases q
 have nh:∀ b o,s.heap.get? b=some o->b≠e:=fun b o q z=>hne (z▸hn b o q)
 refine ⟨e0,I.call' os ⟨un.keep,un.slot,fun b o q n x=>by rw [aP (nh b o q)]; exact un.free b o q n x,un.there,fun b xs q=>?_,fun b o u q=>?_,fun b ps q=>?_⟩ (fun a o q=>?_) bare (fun b z=>absurd z (by simp))⟩
 . have:=un.tups b xs q
   rw [aP (ne _ _ this)]; exact this
 . have:=un.frzs b o u q
   rw [aP (ne _ _ this)]; exact this
 . obtain ⟨more,q⟩:=un.tbls b ps q
   exact ⟨more,by rw [aP (ne _ _ q)]; exact q⟩
 . by_cases z:a=e
   . subst z
     rw [bj] at q
     cases q
     refine Ve ⟨oe,he,hc,?_,?_⟩
     . unfold W.notCls; rw [hd]
     . rw [hdi]; trivial
   . rw [aP z] at q
     exact (hok a o q).stay (fun _ _ _ q=>q) (fun b q=>by rw [aP (ne _ _ q)]; exact q) fun b xs q=>by rw [aP (ne _ _ q)]; exact q
theorem oM {M:Model} {i:Nat} {x:Str} {pos:Pos} {Q:Unit->Shared->Prop} (I:Inv X pins σ H s) (hN:X.N.Nodup) (hi:X.N[i]?=some x) (hk:X.env.scope.names.lookup x=some .local)
 (h:∀ s',Inv X pins (σ.set i none) H s'->Q () s'):wpAny M A (do bindName X.env x .none; unbindBehindTheSuite X.env x pos) Q E s:=by
 refine wpAny_bind (wpAny_bindName (pG (v:=.non) I hN hi (.inl hk) rfl (fun s1 I1=>?_) (.inr hk)))
 obtain ⟨m,hn,hl⟩:=id I1.loc
 have hcls:(X.env.scope.kind==.class||(X.env.scope.kind==.module&&X.env.locals != X.env.globals))=false:=by rw [I.ok.kind]; rfl
 have hiσ:i<σ.length:=by rw [I.len]; exact (List.getElem?_eq_some_iff.mp hi).1
 obtain ⟨u,_,lk⟩:=hl i x .non hi (by rw [List.getElem?_set_self hiσ]) (.inl hk)
 have hk':X.env.kindOf x=some .local:=hk
 have hv:m x=some u:=by
  rcases lk with ⟨_,q⟩ | ⟨q,_⟩
  . exact q
  . rw [hk'] at q; rcases q with q | q<;>cases q
 have cne:=I1.cne
 unfold unbindBehindTheSuite
 refine wpAny_onRaise (wpAny_unbindName_local hk' hn hv hcls fun h' u' hn' hs=>h _ ?_)
 obtain ⟨oL,_,_,hoL,_⟩:=id hn
 have hok:eU X.prog X.w H h':=fun b ob e=>by
  refine (I1.hok b ob e).stay (fun c w' hc q=>(hs.2 c ?_).trans q) (fun _ q=>q) fun _ _ q=>q
  rintro rfl
  rcases hc with rfl | hc
  . rw [I1.free] at e; cases e
  . rw [I1.free] at hc; cases hc
 refine ⟨I1.ok,I1.os,I1.bare,⟨fun b o e n hb hx=>?_,fun b o e n hb hx=>?_,I1.base.free,fun b o e hx=>?_,I1.base.tups,I1.base.frzs,I1.base.tbls⟩,⟨_,hn',fun j y v' e1 e2 e3=>?_⟩,fun y c e=>?_,I1.free,I1.freeC,fun p hp=>?_,hok,by simpa using I.len⟩
 . exact (hs.2 b (Nat.ne_of_lt (Nat.lt_of_lt_of_le (Heap.lt_size e) I1.ok.above))).trans (I1.base.keep b o e n hb hx)
 . obtain ⟨sl,e1⟩:=I1.base.slot b o e n hb hx
   exact ⟨sl,(hs.2 b (Nat.ne_of_lt (Nat.lt_of_lt_of_le (Heap.lt_size e) I1.ok.above))).trans e1⟩
 . obtain ⟨o',e1⟩:=I1.base.there b o e hx
   exact ⟨o',(hs.2 b (Nat.ne_of_lt (Nat.lt_of_lt_of_le (Heap.lt_size e) I1.ok.above))).trans e1⟩
 . by_cases hj:j=i
   . subst hj
     rw [List.getElem?_set_self hiσ] at e2
     cases e2
   . rw [List.getElem?_set_ne (Ne.symm hj)] at e2
     obtain ⟨u',r',q⟩:=hl j y v' e1 (by rw [List.getElem?_set_ne (Ne.symm hj)]; exact e2) e3
     refine ⟨u',r',?_⟩
     rcases q with ⟨k,e⟩ | ⟨k,c,e,z⟩
     . refine .inl ⟨k,?_⟩
       have:y≠x:=fun e=>hj (vW hN e1 (e▸hi))
       simp [this,e]
     . exact .inr ⟨k,c,e,z.sameBut hs (cne y c e)⟩
 . obtain ⟨w',z⟩:=I1.cell y c e
   exact ⟨w',z.sameBut hs (cne y c e)⟩
 . obtain ⟨e,n,ne,nf,d⟩:=I1.pin p hp
   exact ⟨(hs.2 p.1 ne).trans e,n,ne,nf,d⟩
end
noncomputable def Ends.un (i:Nat) (D:Ends):Ends:={ nx:=fun σ H=>D.nx (σ.set i none) H,rt:=D.rt,bk:=fun σ H=>D.bk (σ.set i none) H,ct:=fun σ H=>D.ct (σ.set i none) H }
noncomputable def Cu (K:FG) (d:Addr) (i:Nat) (ts:TS) (tr:Addr->TS):Addr->TS:=fun C D σ H=>if L2.mroIn K C d=true then ∀ e,H e=none->ts (D.un i) (σ.set i (some (.ref e))) (upd H e (.ext (sO e C))) else tr C D σ H
theorem cV.mark {b:Bool} {k:Nat} (r:cV b k A) (v:Option Value):cV false k (A.mark v):=⟨fun z=>(by cases z),r.dp,r.un,r.gd⟩
section
variable {X:Cx}
theorem Vf {x n:Str} {i:Nat} {d:Addr} {b₀:Stmt} {suite:List Stmt} {pos np:Pos} {rest:List ExceptHandler} {ts:TS} {tr:Addr->TS} (hg:Gl X x) (hm:X.mg x=some (.ref d)) (hx:W.excIn X.K d mF mG=true) (hN:X.N.Nodup) (hi:X.N[i]?=some n) (hk:X.env.scope.names.lookup n=some .local)
 (hs:∀ e,dg (X.hand e) (b₀::suite) ts) (hr:PH X rest tr) (hdb:(x==("__debug__" : Str))=false:=by decide):
 PH X (.ExceptHandler (some (.Name x np)) (some n) (b₀::suite) pos::rest) (Cu X.K d i ts tr):=fun pins s σ H D e C h hc q=>by
 have I:=h.inv
 refine wpAny_handleBy_cons (codeAny_handlers_test (oY (I.hand e) hg hm ?_ hdb)) (by intro q; cases q)
 obtain ⟨bm,N,nm,qn,bs,hdct,sn,sub,ab,col,dd,k0,k1,k2,k3,k5,mN,hC,hN',hni,T⟩:=zc I.kIn hc
 obtain ⟨bm',N',nm',qn',bs',hdct',sn',sub',ab',col',dd',j0,j1,j2,j3,j5,mN',hD,hN'',hni',T'⟩:=zc I.kIn hx
 have e1:=S7 (d:=d) I.kIn hc hC
 obtain ⟨_,_,_,_,_,_,_,_,_,_,_,oe,_,he,hcls,_⟩:=id h
 obtain ⟨hp,g,dr,tk,os⟩:=s
 refine Wm hC hD he hcls.1 (T'.hasType (by decide +kernel)) ?_
 rw [e1]
 unfold Cu at q
 cases hb:L2.mroIn X.K C d with
 | true=>
  rw [if_pos hb] at q
  refine codeAny_handlers_suite_as (h.flight fun h' h2=>?_)
  obtain ⟨e0,I2⟩:=h2.take
  refine pG (X:=X.hand e) (v:=.ref e) (I2.hand e) hN hi (.inl hk) rfl (fun s3 I3=>?_) (.inr hk)
  refine wpAny_mono (hs e pins _ _ _ _ I3 (q e e0)) (fun f s1 q1=>?_) fun _ _ z=>False.elim z
  cases f with
  | next=>obtain ⟨σ',H',J,q2⟩:=q1; exact oM (J.unhand I.ok.hd) hN hi hk fun s' I'=>⟨_,H',I',q2⟩
  | brk=>obtain ⟨σ',H',J,q2⟩:=q1; exact oM (J.unhand I.ok.hd) hN hi hk fun s' I'=>⟨_,H',I',q2⟩
  | cont=>obtain ⟨σ',H',J,q2⟩:=q1; exact oM (J.unhand I.ok.hd) hN hi hk fun s' I'=>⟨_,H',I',q2⟩
  | ret u=>obtain ⟨v,σ',H',J,r,q2⟩:=q1; exact oM (J.unhand I.ok.hd) hN hi hk fun s' I'=>⟨v,_,H',I',r,q2⟩
 | false=>
  rw [if_neg (by rw [hb]; decide)] at q
  exact hr pins _ σ H D e C h hc q
noncomputable def Tc (K:FG) (cv:V):List V->Hp->VK->Prop:=fun xs H Q=>∃ e c u b,xs=[.ref e,cv]/\RelV cv u/\H e=some (.ext (sO e c))/\pL K c/\W.kitOne K (.ref c) u=some b/\Q (.bl b) H
theorem lH {cv:V} (h1:∀ u u',RelV cv u->RelV cv u'->u=u'):qz X (.builtin "isinstance") (Tc X.K cv):=by
 intro pins s σ H xs us Q I r h
 obtain ⟨e,c,u,b,rfl,ru,he,T,hb,q⟩:=h
 obtain ⟨u1,w',rfl,r1,r2⟩:=vals2 r
 cases r1
 have:=h1 _ _ r2 ru
 subst this
 obtain ⟨⟨o,p⟩,_⟩:=I.hok e _ he
 exact W.kia_one (Mx T) I.kIn p hb (by intro z; cases z) fun tk=>⟨.bl b,H,I.tok tk,rfl,q⟩
end
end L2
namespace PL
open PySem PySem.Spec PyProof.Rows L2
inductive PV where
 | non
 | bl (b:Bool)
 | int (i:Int)
 | str (x:Str)
 | tup (ps:List PV)
 | lst (ps:List PV)
 | dk (ks:List Key) (ps:List PV)
 | dt (ks:List (List Key)) (ps:List PV)
 | obj (C:Str) (ks:List Str) (ps:List PV)
 | df (ks:List Key) (ps:List PV)
 | dtf (ks:List (List Key)) (ps:List PV)
 | dx (hk:List uv->Int) (ks:List (List uv)) (ps:List PV)
 | exc (C:Str)
 | ptr (n:Nat)
structure ZG where
 z:Hp
 g:List Addr
noncomputable def gK (Z Z':ZG):Prop:=cG Z.z Z'.z/\Z.g <+: Z'.g
theorem gK.refl (Z:ZG):gK Z Z:=⟨cG.refl _,List.prefix_refl _⟩
theorem gK.trans {Z Z1 Z2:ZG} (a:gK Z Z1) (b:gK Z1 Z2):gK Z Z2:=⟨a.1.trans b.1,a.2.trans b.2⟩
theorem Qw {α:Type} {l r:List α} {n:Nat} {a:α} (h:l <+: r) (e:l[n]?=some a):r[n]?=some a:=by
 obtain ⟨t,rfl⟩:=h
 rw [List.getElem?_append_left (List.getElem?_eq_some_iff.mp e).1]; exact e
noncomputable def CN (K:FG) (C:Str) (c:Addr):Prop:=W.nsIn K mainGlobals C=some (some (.ref c))
mutual
noncomputable def Rep (K:FG) (Z:ZG):PV->V->Prop
 | .non,v=>v=.non
 | .bl b,v=>v=.bl b
 | .int i,v=>v=.int i
 | .str x,v=>v=.str x
 | .tup ps,v=>∃ a vs,v=.ref a/\cW K Z.z a vs/\aG K Z ps vs
 | .lst ps,v=>∃ a vs,v=.ref a/\bY K Z.z a vs/\aG K Z ps vs
 | .dk ks ps,v=>∃ a kvs,v=.ref a/\Z.z a=some (.dK kvs)/\kvs.map (·.1)=ks/\aG K Z ps (kvs.map (·.2))
 | .dt ks ps,v=>∃ a kvs,v=.ref a/\Z.z a=some (.dT kvs)/\kvs.map (·.1)=ks/\aG K Z ps (kvs.map (·.2))
 | .obj C ks ps,v=>∃ a c dx fs,v=.ref a/\CN K C c/\Z.z a=some (.ins c dx fs)/\fs.map (·.1)=ks/\aG K Z ps (fs.map (·.2))
 | .df ks ps,v=>∃ a o kvs,v=.ref a/\Z.z a=some (.frz o (.dK kvs))/\kvs.map (·.1)=ks/\aG K Z ps (kvs.map (·.2))
 | .dtf ks ps,v=>∃ a o kvs,v=.ref a/\Z.z a=some (.frz o (.dT kvs))/\kvs.map (·.1)=ks/\aG K Z ps (kvs.map (·.2))
 | .dx hk ks ps,v=>∃ a xs,v=.ref a/\Z.z a=some (.ext (VH hk a xs))/\xs.map (·.1)=ks/\(∀ x∈xs,cW K Z.z x.2.1 (x.1.map VG))/\aG K Z ps (xs.map (·.2.2))
 | .exc C,v=>∃ a c,v=.ref a/\CN K C c/\Z.z a=some (.ext (sO a c))
 | .ptr n,v=>∃ a,v=.ref a/\Z.g[n]?=some a
noncomputable def aG (K:FG) (Z:ZG):List PV->List V->Prop
 | [],vs=>vs=[]
 | p::ps,vs=>∃ v r,vs=v::r/\Rep K Z p v/\aG K Z ps r
end
theorem bY.same {K:FG} {Z Z':Hp} {a:Addr} {vs:List V} (s:cG Z Z') (h:bY K Z a vs):bY K Z' a vs:=s.seq h
theorem cW.same {K:FG} {Z Z':Hp} {a:Addr} {vs:List V} (s:cG Z Z') (h:cW K Z a vs):cW K Z' a vs:=by
 rcases h with (h | ⟨o,h⟩) | h
 . exact .inl (.inl (s _ _ h))
 . exact .inl (.inr ⟨o,s _ _ h⟩)
 . exact .inr h
mutual
theorem Rep.mono {K:FG} {Z Z':ZG} (s:gK Z Z'):∀ {p:PV} {v:V},Rep K Z p v->Rep K Z' p v
 | .non,v,h=>h
 | .bl _,v,h=>h
 | .int _,v,h=>h
 | .str _,v,h=>h
 | .tup ps,v,h=>by
  unfold Rep at h ⊢
  obtain ⟨a,vs,e,h1,h2⟩:=h
  exact ⟨a,vs,e,cW.same s.1 h1,aG.mono s h2⟩
 | .lst ps,v,h=>by
  unfold Rep at h ⊢
  obtain ⟨a,vs,e,h1,h2⟩:=h
  exact ⟨a,vs,e,bY.same s.1 h1,aG.mono s h2⟩
 | .dk ks ps,v,h=>by
  unfold Rep at h ⊢
  obtain ⟨a,kvs,e,h1,h2,h3⟩:=h
  exact ⟨a,kvs,e,s.1 _ _ h1,h2,aG.mono s h3⟩
 | .dt ks ps,v,h=>by
  unfold Rep at h ⊢
  obtain ⟨a,kvs,e,h1,h2,h3⟩:=h
  exact ⟨a,kvs,e,s.1 _ _ h1,h2,aG.mono s h3⟩
 | .obj C ks ps,v,h=>by
  unfold Rep at h ⊢
  obtain ⟨a,c,dx,fs,e,cn,h1,h2,h3⟩:=h
  exact ⟨a,c,dx,fs,e,cn,s.1 _ _ h1,h2,aG.mono s h3⟩
 | .df ks ps,v,h=>by
  unfold Rep at h ⊢
  obtain ⟨a,o,kvs,e,h1,h2,h3⟩:=h
  exact ⟨a,o,kvs,e,s.1 _ _ h1,h2,aG.mono s h3⟩
 | .dtf ks ps,v,h=>by
  unfold Rep at h ⊢
  obtain ⟨a,o,kvs,e,h1,h2,h3⟩:=h
  exact ⟨a,o,kvs,e,s.1 _ _ h1,h2,aG.mono s h3⟩
 | .dx hk ks ps,v,h=>by
  unfold Rep at h ⊢
  obtain ⟨a,xs,e,h1,h2,h4,h3⟩:=h
  exact ⟨a,xs,e,s.1 _ _ h1,h2,fun x hx=>cW.same s.1 (h4 x hx),aG.mono s h3⟩
 | .exc C,v,h=>by
  unfold Rep at h ⊢
  obtain ⟨a,c,e,cn,h1⟩:=h
  exact ⟨a,c,e,cn,s.1 _ _ h1⟩
 | .ptr n,v,h=>by
  unfold Rep at h ⊢
  obtain ⟨a,e,h1⟩:=h
  exact ⟨a,e,Qw s.2 h1⟩
theorem aG.mono {K:FG} {Z Z':ZG} (s:gK Z Z'):∀ {ps:List PV} {vs:List V},aG K Z ps vs->aG K Z' ps vs
 | [],vs,h=>by unfold aG at h ⊢; exact h
 | p::ps,vs,h=>by
  unfold aG at h ⊢
  obtain ⟨v,r,e,h1,h2⟩:=h
  exact ⟨v,r,e,Rep.mono s h1,aG.mono s h2⟩
end
section
variable {K:FG} {Z:ZG}
theorem aG.length:∀ {ps:List PV} {vs:List V},aG K Z ps vs->vs.length=ps.length
 | [],vs,h=>by unfold aG at h; subst h; rfl
 | p::ps,vs,h=>by
  unfold aG at h
  obtain ⟨v,r,rfl,_,h2⟩:=h
  simp [aG.length h2]
theorem aG.nil:aG K Z [] []:=by unfold aG; rfl
theorem aG.cons {p:PV} {ps:List PV} {v:V} {vs:List V} (h:Rep K Z p v) (t:aG K Z ps vs):aG K Z (p::ps) (v::vs):=by unfold aG; exact ⟨v,vs,rfl,h,t⟩
theorem aG.inv {p:PV} {ps:List PV} {vs:List V} (h:aG K Z (p::ps) vs):∃ v r,vs=v::r/\Rep K Z p v/\aG K Z ps r:=by unfold aG at h; exact h
theorem aG.inv0 {vs:List V} (h:aG K Z [] vs):vs=[]:=by unfold aG at h; exact h
theorem aG.append:∀ {ps qs:List PV} {vs ws:List V},aG K Z ps vs->aG K Z qs ws->aG K Z (ps++qs) (vs++ws)
 | [],qs,vs,ws,h,g=>by have:=h.inv0; subst this; exact g
 | p::ps,qs,vs,ws,h,g=>by
  obtain ⟨v,r,rfl,h1,h2⟩:=h.inv
  exact aG.cons h1 (aG.append h2 g)
theorem aG.get:∀ {ps:List PV} {vs:List V} {i:Nat} {p:PV},aG K Z ps vs->ps[i]?=some p->∃ v,vs[i]?=some v/\Rep K Z p v
 | [],vs,i,p,h,e=>by simp at e
 | q::ps,vs,0,p,h,e=>by
  obtain ⟨v,r,rfl,h1,h2⟩:=h.inv
  simp at e; subst e
  exact ⟨v,rfl,h1⟩
 | q::ps,vs,i+1,p,h,e=>by
  obtain ⟨v,r,rfl,h1,h2⟩:=h.inv
  obtain ⟨u,h3,h4⟩:=aG.get (i:=i) (p:=p) h2 (by simpa using e)
  exact ⟨u,by simpa using h3,h4⟩
theorem aG.getV {ps:List PV} {vs:List V} {i:Nat} {v:V} (h:aG K Z ps vs) (e:vs[i]?=some v):∃ p,ps[i]?=some p/\Rep K Z p v:=by
 have hi:i<ps.length:=by rw [← h.length]; exact (List.getElem?_eq_some_iff.mp e).1
 obtain ⟨u,h1,h2⟩:=h.get (i:=i) (p:=ps[i]) (List.getElem?_eq_getElem hi)
 rw [e] at h1; cases h1
 exact ⟨_,List.getElem?_eq_getElem hi,h2⟩
theorem aG.set {q:PV} {u:V} (hq:Rep K Z q u):∀ {ps:List PV} {vs:List V} (i:Nat),aG K Z ps vs->aG K Z (ps.set i q) (vs.set i u)
 | [],vs,i,h=>by have:=h.inv0; subst this; exact h
 | p::ps,vs,0,h=>by
  obtain ⟨v,r,rfl,h1,h2⟩:=h.inv
  exact aG.cons hq h2
 | p::ps,vs,i+1,h=>by
  obtain ⟨v,r,rfl,h1,h2⟩:=h.inv
  exact aG.cons h1 (aG.set hq i h2)
theorem aG.take:∀ {ps:List PV} {vs:List V} (n:Nat),aG K Z ps vs->aG K Z (ps.take n) (vs.take n)
 | [],vs,n,h=>by have:=h.inv0; subst this; simp; exact .nil
 | p::ps,vs,0,h=>by simp; exact .nil
 | p::ps,vs,n+1,h=>by
  obtain ⟨v,r,rfl,h1,h2⟩:=h.inv
  exact aG.cons h1 (aG.take n h2)
theorem aG.drop:∀ {ps:List PV} {vs:List V} (n:Nat),aG K Z ps vs->aG K Z (ps.drop n) (vs.drop n)
 | [],vs,n,h=>by have:=h.inv0; subst this; simp; exact .nil
 | p::ps,vs,0,h=>h
 | p::ps,vs,n+1,h=>by
  obtain ⟨v,r,rfl,h1,h2⟩:=h.inv
  exact aG.drop n h2
end
inductive Lc where
 | sh (p:PV)
 | own (p:PV)
noncomputable def Lc.pv:Lc->PV
 | .sh p=>p
 | .own p=>p
noncomputable abbrev Mu:=List (Option PV)
structure Ev where
 vs:List (Option Lc)
 mu:Mu
noncomputable abbrev Pd:=List (V×Lc)
noncomputable def pM (K:FG) (Z:ZG) (H:Hp) (a:Addr):PV->Prop
 | .lst ps=>∃ vs,H a=some (.lst vs)/\aG K Z ps vs
 | .dk ks ps=>∃ kvs,H a=some (.dK kvs)/\kvs.map (·.1)=ks/\aG K Z ps (kvs.map (·.2))
 | .dt ks ps=>∃ kvs,H a=some (.dT kvs)/\kvs.map (·.1)=ks/\aG K Z ps (kvs.map (·.2))
 | .dx hk ks ps=>∃ xs,H a=some (.ext (VH hk a xs))/\xs.map (·.1)=ks/\(∀ x∈xs,cW K Z.z x.2.1 (x.1.map VG))/\aG K Z ps (xs.map (·.2.2))
 | .exc C=>∃ c,CN K C c/\H a=some (.ext (sO a c))
 | .obj C ks ps=>∃ c dx fs,CN K C c/\H a=some (.ins c dx fs)/\fs.map (·.1)=ks/\aG K Z ps (fs.map (·.2))
 | _=>False
noncomputable def VR (K:FG) (H0:Hp) (Z:ZG) (H:Hp) (v:Option V):Option Lc->Prop
 | none=>True
 | some (.sh p)=>∃ x,v=some x/\Rep K Z p x
 | some (.own p)=>∃ a,v=some (.ref a)/\pM K Z H a p/\Z.z a=none/\H0 a=none
noncomputable def jM:Option V×Option Lc->Option Addr
 | (some (.ref a),some (.own _))=>some a
 | _=>none
noncomputable abbrev Sl:=List (Option V×Option Lc)
noncomputable def Slots (K:FG) (H0:Hp) (Z:ZG) (H:Hp) (L:Sl):Prop:=(∀ e∈L,VR K H0 Z H e.1 e.2)/\(L.filterMap jM).Nodup
noncomputable def cel (g:List Addr) (mu:Mu):Sl:=(g.map fun a=>some (V.ref a)).zip (mu.map fun o=>o.map Lc.own)
noncomputable def lr (g:List Addr) (mu:Mu):List Addr:=(cel g mu).filterMap jM
noncomputable def sl (g:List Addr) (σ:L2.St) (ρ:Ev) (pd:Pd):Sl:=cel g ρ.mu++(σ.zip ρ.vs++pd.map fun e=>(some e.1,some e.2))
noncomputable def BJ:HO->Prop
 | .tup _=>True
 | .frz _ _=>True
 | _=>False
structure jN (H0:Hp) (Z0 Z:ZG) (H:Hp):Prop where
 zh:cG Z.z H
 h0:cG H0 H
 z0:gK Z0 Z
 new:∀ b o,Z.z b=some o->Z0.z b=some o\/H0 b=none\/BJ o
noncomputable def SR (K:FG) (H0:Hp) (Z0:ZG) (σ:L2.St) (H:Hp) (ρ:Ev) (pd:Pd):Prop:=σ.length=ρ.vs.length/\∃ Z,ρ.mu.length=Z.g.length/\jN H0 Z0 Z H/\Slots K H0 Z H (sl Z.g σ ρ pd)
section
variable {K:FG} {H0 H H':Hp} {Z0 Z Z':ZG} {L L':Sl} {σ:L2.St} {ρ:Ev} {pd:Pd}
theorem Slots.sub (h:Slots K H0 Z H L) (s:List.Sublist L' L):Slots K H0 Z H L':=⟨fun e he=>h.1 e (s.subset he),h.2.sublist (s.filterMap jM)⟩
theorem Slots.perm (h:Slots K H0 Z H L) (s:List.Perm L' L):Slots K H0 Z H L':=⟨fun e he=>h.1 e (s.subset he),(s.filterMap jM).nodup_iff.mpr h.2⟩
theorem pM.keep {a:Addr} {p:PV} (h:pM K Z H a p) (z:gK Z Z') (e:H' a=H a):pM K Z' H' a p:=by
 cases p with
 | lst ps=>obtain ⟨vs,h1,h2⟩:=h; exact ⟨vs,by rw [e]; exact h1,h2.mono z⟩
 | dk ks ps=>obtain ⟨vs,h1,h2,h3⟩:=h; exact ⟨vs,by rw [e]; exact h1,h2,h3.mono z⟩
 | dt ks ps=>obtain ⟨vs,h1,h2,h3⟩:=h; exact ⟨vs,by rw [e]; exact h1,h2,h3.mono z⟩
 | dx hk ks ps=>obtain ⟨vs,h1,h2,h4,h3⟩:=h; exact ⟨vs,by rw [e]; exact h1,h2,fun x hx=>cW.same z.1 (h4 x hx),h3.mono z⟩
 | exc C=>obtain ⟨c,cn,h1⟩:=h; exact ⟨c,cn,by rw [e]; exact h1⟩
 | obj C ks ps=>obtain ⟨c,dx,fs,cn,h1,h2,h3⟩:=h; exact ⟨c,dx,fs,cn,by rw [e]; exact h1,h2,h3.mono z⟩
 | _=>exact h
theorem pM.some {a:Addr} {p:PV} (h:pM K Z H a p):∃ o,H a=some o/\¬ BJ o:=by
 cases p with
 | lst ps=>obtain ⟨vs,h1,h2⟩:=h; exact ⟨_,h1,fun z=>z⟩
 | dk ks ps=>obtain ⟨vs,h1,h2,h3⟩:=h; exact ⟨_,h1,fun z=>z⟩
 | dt ks ps=>obtain ⟨vs,h1,h2,h3⟩:=h; exact ⟨_,h1,fun z=>z⟩
 | dx hk ks ps=>obtain ⟨vs,h1,h2,h3⟩:=h; exact ⟨_,h1,fun z=>z⟩
 | exc C=>obtain ⟨c,cn,h1⟩:=h; exact ⟨_,h1,fun z=>z⟩
 | obj C ks ps=>obtain ⟨c,dx,fs,cn,h1,h2,h3⟩:=h; exact ⟨_,h1,fun z=>z⟩
 | _=>exact h.elim
theorem pM.rep {a:Addr} {p:PV} (h:pM K Z H a p) (z:gK Z Z') (e:Z'.z a=H a):Rep K Z' p (.ref a):=by
 cases p with
 | lst ps=>obtain ⟨vs,h1,h2⟩:=h; unfold Rep; exact ⟨a,vs,rfl,bY.of (by rw [e]; exact h1),h2.mono z⟩
 | dk ks ps=>obtain ⟨vs,h1,h2,h3⟩:=h; unfold Rep; exact ⟨a,vs,rfl,by rw [e]; exact h1,h2,h3.mono z⟩
 | dt ks ps=>obtain ⟨vs,h1,h2,h3⟩:=h; unfold Rep; exact ⟨a,vs,rfl,by rw [e]; exact h1,h2,h3.mono z⟩
 | dx hk ks ps=>obtain ⟨vs,h1,h2,h4,h3⟩:=h; unfold Rep; exact ⟨a,vs,rfl,by rw [e]; exact h1,h2,fun x hx=>cW.same z.1 (h4 x hx),h3.mono z⟩
 | exc C=>obtain ⟨c,cn,h1⟩:=h; unfold Rep; exact ⟨a,c,rfl,cn,by rw [e]; exact h1⟩
 | obj C ks ps=>obtain ⟨c,dx,fs,cn,h1,h2,h3⟩:=h; unfold Rep; exact ⟨a,c,dx,fs,rfl,cn,by rw [e]; exact h1,h2,h3.mono z⟩
 | _=>exact h.elim
theorem Slots.step (h:Slots K H0 Z H L) (z:gK Z Z') (hk:∀ e∈L,∀ a,jM e=some a->H' a=H a/\Z'.z a=none):Slots K H0 Z' H' L:=by
 refine ⟨fun e he=>?_,h.2⟩
 have q:=h.1 e he
 obtain ⟨v,l⟩:=e
 cases l with
 | none=>trivial
 | some l=>
  cases l with
  | sh p=>obtain ⟨x,e1,e2⟩:=q; exact ⟨x,e1,e2.mono z⟩
  | own p=>
   obtain ⟨a,e1,e2,e3,e4⟩:=q
   have e1':v=some (.ref a):=e1
   subst e1'
   obtain ⟨k1,k2⟩:=hk _ he a rfl
   exact ⟨a,rfl,e2.keep z k1,k2,e4⟩
theorem gr (h:Slots K H0 Z H L) {e:Option V×Option Lc} (he:e∈L) {a:Addr} (ha:jM e=some a):Z.z a=none/\H0 a=none/\∃ o,H a=some o/\¬ BJ o:=by
 obtain ⟨v,l⟩:=e
 have q:=h.1 _ he
 cases l with
 | none=>cases v with
  | none=>cases ha
  | some x=>cases x<;>cases ha
 | some l=>
  cases l with
  | sh p=>cases v with
   | none=>cases ha
   | some x=>cases x<;>cases ha
  | own p=>
   obtain ⟨b,e1,e2,e3,e4⟩:=q
   have e1':v=some (.ref b):=e1
   subst e1'
   cases ha
   exact ⟨e3,e4,e2.some⟩
theorem Slots.new (h:Slots K H0 Z H L) (zo:jN H0 Z0 Z H) {a:Addr} {o:HO} {p:PV} (ha:H a=none) (hp:pM K Z (upd H a o) a p):jN H0 Z0 Z (upd H a o)/\Slots K H0 Z (upd H a o) ((some (.ref a),some (.own p))::L):=by
 have hz:Z.z a=none:=zo.zh.free ha
 have h0:H0 a=none:=zo.h0.free ha
 refine ⟨⟨fun b u e=>by rw [aP (bN e hz)]; exact zo.zh b u e,fun b u e=>by rw [aP (bN e h0)]; exact zo.h0 b u e,zo.z0,zo.new⟩,?_⟩
 have hne:∀ e∈L,∀ b,jM e=some b->b≠a:=fun e he b hb=>by
  obtain ⟨_,_,o',h3,_⟩:=gr h he hb
  exact bN h3 ha
 have st:=h.step (Z':=Z) (H':=upd H a o) (gK.refl Z) fun e he b hb=>⟨aP (hne e he b hb),(gr h he hb).1⟩
 refine ⟨fun e he=>?_,?_⟩
 . rcases List.mem_cons.mp he with rfl | he
   . exact ⟨a,rfl,hp,hz,h0⟩
   . exact st.1 e he
 . show (a::L.filterMap jM).Nodup
   refine List.nodup_cons.mpr ⟨fun hm=>?_,st.2⟩
   obtain ⟨e,he,hb⟩:=List.mem_filterMap.mp hm
   exact hne e he a hb rfl
noncomputable abbrev ZG.put (Z:ZG) (a:Addr) (o:HO):ZG:=⟨upd Z.z a o,Z.g⟩
theorem Slots.newF (h:Slots K H0 Z H L) (zo:jN H0 Z0 Z H) {a:Addr} {o:HO} (ha:H a=none):jN H0 Z0 (Z.put a o) (upd H a o)/\gK Z (Z.put a o)/\Slots K H0 (Z.put a o) (upd H a o) L:=by
 have hz:Z.z a=none:=zo.zh.free ha
 have h0:H0 a=none:=zo.h0.free ha
 have sz:cG Z.z (upd Z.z a o):=fun b u e=>by rw [aP (bN e hz)]; exact e
 have lz:gK Z (Z.put a o):=⟨sz,List.prefix_refl _⟩
 refine ⟨⟨fun b u e=>?_,fun b u e=>by rw [aP (bN e h0)]; exact zo.h0 b u e,zo.z0.trans lz,fun b u e=>?_⟩,lz,?_⟩
 . have e:upd Z.z a o b=some u:=e
   unfold upd at e ⊢
   split
   . rename_i q; rw [if_pos q] at e; exact e
   . rename_i q; rw [if_neg q] at e; exact zo.zh b u e
 . have e:upd Z.z a o b=some u:=e
   unfold upd at e
   split at e
   . rename_i q; rw [q]; exact .inr (.inl h0)
   . exact zo.new b u e
 . refine h.step lz fun e he b hb=>?_
   obtain ⟨h1,h2,o',h3,_⟩:=gr h he hb
   have hba:=bN h3 ha
   exact ⟨aP hba,by show upd Z.z a o b=none; rw [aP hba]; exact h1⟩
theorem Slots.freeze {v:Option V} {p:PV} (h:Slots K H0 Z H ((v,some (.own p))::L)) (zo:jN H0 Z0 Z H):∃ Z',gK Z Z'/\Z'.g=Z.g/\jN H0 Z0 Z' H/\Slots K H0 Z' H ((v,some (.sh p))::L):=by
 obtain ⟨a,e1,e2,e3,e4⟩:=h.1 _ List.mem_cons_self
 have e1':v=some (.ref a):=e1
 subst e1'
 obtain ⟨o,ho,_⟩:=e2.some
 have sz:cG Z.z (upd Z.z a o):=fun b u e=>by rw [aP (bN e e3)]; exact e
 have lz:gK Z (Z.put a o):=⟨sz,List.prefix_refl _⟩
 have nd:(a::L.filterMap jM).Nodup:=h.2
 have hL:Slots K H0 Z H L:=h.sub (List.sublist_cons_self _ _)
 refine ⟨Z.put a o,lz,rfl,⟨fun b u e=>?_,zo.h0,zo.z0.trans lz,fun b u e=>?_⟩,fun e he=>?_,(List.nodup_cons.mp nd).2⟩
 . have e:upd Z.z a o b=some u:=e
   unfold upd at e
   split at e
   . rename_i q; cases e; rw [q]; exact ho
   . exact zo.zh b u e
 . have e:upd Z.z a o b=some u:=e
   unfold upd at e
   split at e
   . rename_i q; rw [q]; exact .inr (.inl e4)
   . exact zo.new b u e
 . rcases List.mem_cons.mp he with rfl | he
   . exact ⟨.ref a,rfl,e2.rep lz (by show upd Z.z a o a=_; rw [bj,ho])⟩
   . refine (hL.step (Z':=Z.put a o) (H':=H) lz fun e' he' b hb=>⟨rfl,?_⟩).1 e he
     have:b≠a:=fun q=>by
      rw [q] at hb
      exact (List.nodup_cons.mp nd).1 (List.mem_filterMap.mpr ⟨e',he',hb⟩)
     show upd Z.z a o b=none
     rw [aP this]
     exact (gr hL he' hb).1
theorem Slots.write {a:Addr} {p q:PV} {o:HO} (h:Slots K H0 Z H ((some (.ref a),some (.own p))::L)) (zo:jN H0 Z0 Z H) (hq:pM K Z (upd H a o) a q):jN H0 Z0 Z (upd H a o)/\Slots K H0 Z (upd H a o) ((some (.ref a),some (.own q))::L):=by
 obtain ⟨b,e1,e2,e3,e4⟩:=h.1 _ List.mem_cons_self
 cases e1
 have nd:(a::L.filterMap jM).Nodup:=h.2
 have hL:Slots K H0 Z H L:=h.sub (List.sublist_cons_self _ _)
 refine ⟨⟨fun b u e=>by rw [aP (bN e e3)]; exact zo.zh b u e,fun b u e=>by rw [aP (bN e e4)]; exact zo.h0 b u e,zo.z0,zo.new⟩,fun e he=>?_,nd⟩
 rcases List.mem_cons.mp he with rfl | he
 . exact ⟨a,rfl,hq,e3,e4⟩
 . refine (hL.step (Z':=Z) (H':=upd H a o) (gK.refl Z) fun e' he' b hb=>⟨aP fun q=>?_,(gr hL he' hb).1⟩).1 e he
   rw [q] at hb
   exact (List.nodup_cons.mp nd).1 (List.mem_filterMap.mpr ⟨e',he',hb⟩)
end
variable {K:FG} {H0 H:Hp} {Z0:ZG} {σ:L2.St} {ρ:Ev} {pd:Pd}
theorem uw {α:Type}:∀ {l:List α} {i:Nat} {a:α},l[i]?=some a->∃ R,List.Perm l (a::R)/\∀ b,List.Perm (l.set i b) (b::R)
 | [],i,a,h=>by simp at h
 | x::r,0,a,h=>by
  simp at h; subst h
  exact ⟨r,List.Perm.refl _,fun b=>List.Perm.refl _⟩
 | x::r,i+1,a,h=>by
  obtain ⟨R,h1,h2⟩:=uw (l:=r) (i:=i) (a:=a) (by simpa using h)
  refine ⟨x::R,(h1.cons x).trans (List.Perm.swap _ _ _),fun b=>?_⟩
  simp only [List.set_cons_succ]
  exact ((h2 b).cons x).trans (List.Perm.swap _ _ _)
theorem zf {α β:Type}:∀ (l:List α) (r:List β) (i:Nat) (a:α) (b:β),(l.set i a).zip (r.set i b)=(l.zip r).set i (a,b)
 | [],r,i,a,b=>by simp
 | x::l,[],i,a,b=>by simp
 | x::l,y::r,0,a,b=>by simp
 | x::l,y::r,i+1,a,b=>by simp [zf l r i a b]
theorem zip_get {α β:Type}:∀ {l:List α} {r:List β} {i:Nat} {a:α} {b:β},l[i]?=some a->r[i]?=some b->(l.zip r)[i]?=some (a,b)
 | [],r,i,a,b,h,g=>by simp at h
 | x::l,[],i,a,b,h,g=>by simp at g
 | x::l,y::r,0,a,b,h,g=>by simp at h g; simp [h,g]
 | x::l,y::r,i+1,a,b,h,g=>by
  have:=zip_get (l:=l) (r:=r) (i:=i) (by simpa using h) (by simpa using g)
  simpa using this
theorem set_same {α:Type}:∀ {l:List α} {i:Nat} {a:α},l[i]?=some a->l.set i a=l
 | [],i,a,h=>by simp at h
 | x::r,0,a,h=>by simp at h; subst h; simp
 | x::r,i+1,a,h=>by simp [set_same (l:=r) (i:=i) (a:=a) (by simpa using h)]
noncomputable def Ev.set (ρ:Ev) (i:Nat) (x:Option Lc):Ev:=⟨ρ.vs.set i x,ρ.mu⟩
section
variable {K:FG} {H0 H H':Hp} {Z0 Z:ZG} {σ:L2.St} {ρ:Ev} {pd pd':Pd} {v w:V} {l:Lc} {p:PV} {L:Sl} {g:List Addr}
theorem cU:List.Perm (sl g σ ρ ((v,l)::pd)) ((some v,some l)::sl g σ ρ pd):=by
 unfold sl
 exact (List.perm_middle.append_left _).trans List.perm_middle
theorem SR.top (h:SR K H0 Z0 σ H ρ ((v,l)::pd)):σ.length=ρ.vs.length/\∃ Z,ρ.mu.length=Z.g.length/\jN H0 Z0 Z H/\Slots K H0 Z H ((some v,some l)::sl Z.g σ ρ pd):=
 let ⟨e,Z,hg,z,s⟩:=h
 ⟨e,Z,hg,z,s.perm cU.symm⟩
theorem SR.mk (e:σ.length=ρ.vs.length) (hg:ρ.mu.length=Z.g.length) (z:jN H0 Z0 Z H) (s:Slots K H0 Z H ((some v,some l)::sl Z.g σ ρ pd)):SR K H0 Z0 σ H ρ ((v,l)::pd):=⟨e,Z,hg,z,s.perm cU⟩
theorem SR.pop (h:SR K H0 Z0 σ H ρ ((v,l)::pd)):SR K H0 Z0 σ H ρ pd:=
 let ⟨e,Z,hg,z,s⟩:=h.top
 ⟨e,Z,hg,z,s.sub (List.sublist_cons_self _ _)⟩
theorem SR.perm (h:SR K H0 Z0 σ H ρ pd) (q:List.Perm pd' pd):SR K H0 Z0 σ H ρ pd':=
 let ⟨e,Z,hg,z,s⟩:=h
 ⟨e,Z,hg,z,s.perm (((q.map _).append_left _).append_left _)⟩
theorem SR.swap {l2:Lc} (h:SR K H0 Z0 σ H ρ ((v,l)::(w,l2)::pd)):SR K H0 Z0 σ H ρ ((w,l2)::(v,l)::pd):=h.perm (List.Perm.swap _ _ _)
theorem SR.freeze (h:SR K H0 Z0 σ H ρ ((v,l)::pd)):SR K H0 Z0 σ H ρ ((v,.sh l.pv)::pd):=by
 cases l with
 | sh p=>exact h
 | own p=>
  obtain ⟨e,Z,hg,z,s⟩:=h.top
  obtain ⟨Z',_,eg,z',s'⟩:=s.freeze z
  refine .mk (Z:=Z') e (by rw [eg]; exact hg) z' ?_
  rw [eg]; exact s'
theorem SR.sh (h:SR K H0 Z0 σ H ρ ((v,.sh p)::pd)):σ.length=ρ.vs.length/\∃ Z,ρ.mu.length=Z.g.length/\jN H0 Z0 Z H/\Rep K Z p v/\Slots K H0 Z H (sl Z.g σ ρ pd):=by
 obtain ⟨e,Z,hg,z,s⟩:=h.top
 obtain ⟨x,e1,e2⟩:=s.1 _ List.mem_cons_self
 cases e1
 exact ⟨e,Z,hg,z,e2,s.sub (List.sublist_cons_self _ _)⟩
theorem SR.rep (h:SR K H0 Z0 σ H ρ ((v,.sh p)::pd)):∃ Z:ZG,cG Z.z H/\Rep K Z p v:=let ⟨_,Z,_,z,r,_⟩:=h.sh; ⟨Z,z.zh,r⟩
theorem SR.repH (h:SR K H0 Z0 σ H ρ ((v,.sh p)::pd)):∃ g,Rep K ⟨H,g⟩ p v:=let ⟨_,Z,_,z,r,_⟩:=h.sh; ⟨Z.g,r.mono (Z':=⟨H,Z.g⟩) ⟨z.zh,List.prefix_refl _⟩⟩
theorem Slots.consS (s:Slots K H0 Z H L) (r:Rep K Z p v):Slots K H0 Z H ((some v,some (.sh p))::L):=by
 refine ⟨fun e he=>?_,?_⟩
 . rcases List.mem_cons.mp he with rfl | he
   . exact ⟨v,rfl,r⟩
   . exact s.1 e he
 . have:jM (some v,some (Lc.sh p))=none:=by cases v<;>rfl
   rw [List.filterMap_cons_none this]
   exact s.2
theorem SR.scal (h:SR K H0 Z0 σ H ρ pd) (r:∀ Z,Rep K Z p v):SR K H0 Z0 σ H ρ ((v,.sh p)::pd):=
 let ⟨e,Z,hg,z,s⟩:=h
 .mk e hg z (s.consS (r Z))
theorem xg {i:Nat} {o:Option Lc} (el:σ.length=ρ.vs.length) (e:ρ.vs[i]?=some o):∃ R:Sl,∃ x,σ[i]?=some x/\(∀ g pd,List.Perm (sl g σ ρ pd) ((x,o)::(cel g ρ.mu++(R++pd.map fun e=>(some e.1,some e.2)))))/\
 ∀ g pd y o',List.Perm (sl g (σ.set i y) (ρ.set i o') pd) ((y,o')::(cel g ρ.mu++(R++pd.map fun e=>(some e.1,some e.2)))):=by
 have hi:i<σ.length:=by rw [el]; exact (List.getElem?_eq_some_iff.mp e).1
 have hσ:σ[i]?=some σ[i]:=List.getElem?_eq_getElem hi
 obtain ⟨R,h1,h2⟩:=uw (zip_get hσ e)
 refine ⟨R,σ[i],hσ,fun g pd=>?_,fun g pd y o'=>?_⟩
 . unfold sl
   exact ((h1.append_right _).append_left _).trans List.perm_middle
 . unfold sl
   show List.Perm (cel g ρ.mu++((σ.set i y).zip (ρ.vs.set i o')++_)) _
   rw [zf]
   exact (((h2 _).append_right _).append_left _).trans List.perm_middle
theorem Ev.set_mu {i:Nat} {x:Option Lc}:(ρ.set i x).mu=ρ.mu:=rfl
theorem Ev.set_len {i:Nat} {x:Option Lc}:(ρ.set i x).vs.length=ρ.vs.length:=by show (ρ.vs.set i x).length=_; rw [List.length_set]
theorem SR.var {i:Nat} (h:SR K H0 Z0 σ H ρ pd) (e:ρ.vs[i]?=some (some l)):∃ v,σ[i]?=some (some v)/\SR K H0 Z0 σ H (ρ.set i (some (.sh l.pv))) ((v,.sh l.pv)::pd):=by
 obtain ⟨el,Z,hg,z,s⟩:=h
 obtain ⟨R,x,hσ,h1,h2⟩:=xg el e
 have s1:=s.perm (h1 Z.g pd).symm
 have el':σ.length=(ρ.set i (some (.sh l.pv))).vs.length:=by rw [Ev.set_len]; exact el
 have fin:∀ {Z':ZG} {v:V},Z'.g=Z.g->jN H0 Z0 Z' H->x=some v->Slots K H0 Z' H ((x,some (.sh l.pv))::(cel Z.g ρ.mu++(R++pd.map fun e=>(some e.1,some e.2))))->Rep K Z' l.pv v->SR K H0 Z0 σ H (ρ.set i (some (.sh l.pv))) ((v,.sh l.pv)::pd):=
  fun {Z' v} eg z ev s2 r=>by
   have p2:=h2 Z.g pd x (some (.sh l.pv))
   rw [set_same hσ] at p2
   refine .mk (Z:=Z') el' (by rw [eg,Ev.set_mu]; exact hg) z ?_
   rw [eg]
   exact (s2.perm p2).consS r
 cases l with
 | sh p=>
  obtain ⟨v,e1,e2⟩:=s1.1 _ List.mem_cons_self
  exact ⟨v,hσ.trans (congrArg some e1),fin rfl z e1 s1 e2⟩
 | own p=>
  obtain ⟨Z',sz,eg,z',s'⟩:=s1.freeze z
  obtain ⟨v,e1,e2⟩:=s'.1 _ List.mem_cons_self
  exact ⟨v,hσ.trans (congrArg some e1),fin eg z' e1 s' e2⟩
theorem SR.store {i:Nat} (h:SR K H0 Z0 σ H ρ ((v,l)::pd)) (hi:i<ρ.vs.length):SR K H0 Z0 (σ.set i (some v)) H (ρ.set i (some l)) pd:=by
 obtain ⟨el,Z,hg,z,s⟩:=h.top
 have hρ:ρ.vs[i]?=some ρ.vs[i]:=List.getElem?_eq_getElem hi
 obtain ⟨R,x,hσ,h1,h2⟩:=xg el hρ
 refine ⟨by rw [List.length_set,Ev.set_len]; exact el,Z,hg,z,?_⟩
 refine (Slots.sub (L:=(some v,some l)::((x,ρ.vs[i])::(cel Z.g ρ.mu++(R++pd.map fun e=>(some e.1,some e.2))))) (s.perm ((h1 Z.g pd).symm.cons _)) ?_).perm (h2 Z.g pd (some v) (some l))
 exact (List.sublist_cons_self _ _).cons_cons _
theorem SR.take {i:Nat} (h:SR K H0 Z0 σ H ρ pd) (e:ρ.vs[i]?=some (some l)):∃ v,σ[i]?=some (some v)/\SR K H0 Z0 σ H (ρ.set i none) ((v,l)::pd):=by
 obtain ⟨el,Z,hg,z,s⟩:=h
 obtain ⟨R,x,hσ,h1,h2⟩:=xg el e
 have s1:=s.perm (h1 Z.g pd).symm
 obtain ⟨v,hv⟩:∃ v,x=some v:=by
  have q:=s1.1 _ List.mem_cons_self
  cases l with
  | sh p=>obtain ⟨x,e1,_⟩:=q; exact ⟨x,e1⟩
  | own p=>obtain ⟨a,e1,_⟩:=q; exact ⟨_,e1⟩
 subst hv
 refine ⟨v,hσ,.mk (Z:=Z) (by rw [Ev.set_len]; exact el) hg z ?_⟩
 have p2:=h2 Z.g pd (some v) none
 rw [set_same hσ] at p2
 refine Slots.perm ?_ (p2.cons _)
 have ht:Slots K H0 Z H ((some v,none)::(some v,some l)::(cel Z.g ρ.mu++(R++pd.map fun e=>(some e.1,some e.2)))):=by
  refine ⟨fun e he=>?_,?_⟩
  . rcases List.mem_cons.mp he with rfl | he
    . trivial
    . exact s1.1 e he
  . have:jM (some v,none)=none:=by cases v<;>rfl
    rw [List.filterMap_cons_none this]
    exact s1.2
 exact ht.perm (List.Perm.swap _ _ _)
theorem SR.put {i:Nat} (h:SR K H0 Z0 σ H ρ ((v,l)::pd)) (e:σ[i]?=some (some v)):SR K H0 Z0 σ H (ρ.set i (some l)) pd:=by
 have hi:i<ρ.vs.length:=by rw [← h.1]; exact (List.getElem?_eq_some_iff.mp e).1
 have:=h.store hi
 rw [set_same e] at this
 exact this
end
noncomputable abbrev EF:=Ev->Option (Lc×Ev)
noncomputable abbrev TF:=Ev->Option (Bool×Ev)
noncomputable abbrev AF:=Ev->Option (List Lc×Ev)
inductive Fl where
 | nx (ρ:Ev)
 | rt (r:Lc) (ρ:Ev)
 | bk (ρ:Ev)
 | ct (ρ:Ev)
noncomputable abbrev SF:=Ev->Option Fl
noncomputable def tP (K:FG) (f:EF):TE:=fun σ H Q=>∃ H0 Z0 ρ pd r ρ',SR K H0 Z0 σ H ρ pd/\f ρ=some (r,ρ')/\∀ v H',SR K H0 Z0 σ H' ρ' ((v,r)::pd)->Q v H'
noncomputable def fL (K:FG) (f:TF):TT:=fun σ H Q=>∃ H0 Z0 ρ pd b ρ',SR K H0 Z0 σ H ρ pd/\f ρ=some (b,ρ')/\∀ H',SR K H0 Z0 σ H' ρ' pd->Q b H'
noncomputable def jk (K:FG) (f:AF):TA:=fun σ H Q=>∃ H0 Z0 ρ pd ls ρ',SR K H0 Z0 σ H ρ pd/\f ρ=some (ls,ρ')/\∀ vs H',vs.length=ls.length->SR K H0 Z0 σ H' ρ' (vs.zip ls++pd)->Q vs H'
noncomputable def mJ (K:FG) (H0:Hp) (Z0:ZG) (pd:Pd) (D:Ends):Fl->Prop
 | .nx ρ'=>∀ σ' H',SR K H0 Z0 σ' H' ρ' pd->D.nx σ' H'
 | .rt r ρ'=>∀ v σ' H',SR K H0 Z0 σ' H' ρ' ((v,r)::pd)->D.rt v H'
 | .bk ρ'=>∀ σ' H',SR K H0 Z0 σ' H' ρ' pd->D.bk σ' H'
 | .ct ρ'=>∀ σ' H',SR K H0 Z0 σ' H' ρ' pd->D.ct σ' H'
noncomputable def dZ (K:FG) (g:SF):TS:=fun D σ H=>∃ H0 Z0 ρ pd fl,SR K H0 Z0 σ H ρ pd/\g ρ=some fl/\mJ K H0 Z0 pd D fl
section
variable {X:Cx} {e:Expr} {es:List Expr} {st:Stmt} {sts:List Stmt}
theorem PE.imp {t t':TE} (h:PE X e t) (i:∀ σ H Q,t' σ H Q->t σ H Q):PE X e t':=fun pins s σ H Q I q=>h pins s σ H Q I (i σ H Q q)
theorem PT.imp {t t':TT} (h:PT X e t) (i:∀ σ H Q,t' σ H Q->t σ H Q):PT X e t':=fun pins s σ H Q I q=>h pins s σ H Q I (i σ H Q q)
theorem PW.imp {t t':TT} (h:PW X e t) (i:∀ σ H Q,t' σ H Q->t σ H Q):PW X e t':=fun wh pins s σ H Q I q=>h wh pins s σ H Q I (i σ H Q q)
theorem PA.imp {t t':TA} (h:PA X es t) (i:∀ σ H Q,t' σ H Q->t σ H Q):PA X es t':=fun pos pins s σ H Q I q=>h pos pins s σ H Q I (i σ H Q q)
theorem PS.imp {t t':TS} (h:PS X st t) (i:∀ D σ H,t' D σ H->t D σ H):PS X st t':=fun pins s σ H D I q=>h pins s σ H D I (i D σ H q)
theorem dg.imp {t t':TS} (h:dg X sts t) (i:∀ D σ H,t' D σ H->t D σ H):dg X sts t':=fun pins s σ H D I q=>h pins s σ H D I (i D σ H q)
noncomputable def aa (i:Nat):EF:=fun ρ=>match ρ.vs[i]? with
 | some (some l)=>some (.sh l.pv,ρ.set i (some (.sh l.pv)))
 | _=>none
noncomputable def eC (p:PV):EF:=fun ρ=>some (.sh p,ρ)
theorem qv {i:Nat} (h:PE X e (sE i)):PE X e (tP X.K (aa i)):=PE.imp h fun σ H Q q=>by
 obtain ⟨H0,Z0,ρ,pd,r,ρ',s,f,k⟩:=q
 unfold aa at f
 split at f
 . rename_i l e1
   cases f
   obtain ⟨v,h1,h2⟩:=s.var e1
   exact ⟨v,h1,k v H h2⟩
 . cases f
theorem qc {p:PV} {v:V} (h:PE X e (tC v)) (r:∀ Z,Rep X.K Z p v):PE X e (tP X.K (eC p)):=PE.imp h fun σ H Q q=>by
 obtain ⟨H0,Z0,ρ,pd,l,ρ',s,f,k⟩:=q
 cases f
 exact k v H (s.scal r)
theorem eG {i:Int}:∀ Z,Rep K Z (.int i) (.int i):=fun Z=>by unfold Rep; rfl
theorem kh {i:Str}:∀ Z,Rep K Z (.str i) (.str i):=fun Z=>by unfold Rep; rfl
theorem dm {i:Bool}:∀ Z,Rep K Z (.bl i) (.bl i):=fun Z=>by unfold Rep; rfl
theorem rm:∀ Z,Rep K Z .non .non:=fun Z=>by unfold Rep; rfl
noncomputable def iT (K:FG) (r:R2) (g:PV->PV->Option Lc):Prop:=∀ H0 Z0 σ ρ pd H v w x y l Q,SR K H0 Z0 σ H ρ ((w,.sh y)::(v,.sh x)::pd)->g x y=some l->(∀ u H',SR K H0 Z0 σ H' ρ ((u,l)::pd)->Q u H')->r v w H Q
noncomputable def au (g:PV->PV->Option Lc) (fa fb:EF):EF:=fun ρ=>(fa ρ).bind fun x=>(fb x.2).bind fun y=>(g x.1.pv y.1.pv).map fun l=>(l,y.2)
theorem My {g:PV->PV->Option Lc} {fa fb:EF} {ρ ρ':Ev} {l:Lc} (h:au g fa fb ρ=some (l,ρ')):∃ x ρ1 y,fa ρ=some (x,ρ1)/\fb ρ1=some (y,ρ')/\g x.pv y.pv=some l:=by
 unfold au at h
 cases h1:fa ρ with
 | none=>rw [h1] at h; cases h
 | some x=>
  rw [h1,Option.bind_some] at h
  cases h2:fb x.2 with
  | none=>rw [h2] at h; cases h
  | some y=>
   rw [h2,Option.bind_some] at h
   cases h3:g x.1.pv y.1.pv with
   | none=>rw [h3] at h; cases h
   | some z=>
    rw [h3] at h
    cases h
    exact ⟨x.1,x.2,y.1,rfl,h2,h3⟩
theorem Cv {r:R2} {g:PV->PV->Option Lc} (hs:iT X.K r g) {fa fb:EF}:∀ σ H Q,tP X.K (au g fa fb) σ H Q->Jq r (tP X.K fa) (tP X.K fb) σ H Q:=fun σ H Q q=>by
 obtain ⟨H0,Z0,ρ,pd,l,ρ',s,f,k⟩:=q
 obtain ⟨x,ρ1,y,h1,h2,h3⟩:=My f
 refine ⟨H0,Z0,ρ,pd,x,ρ1,s,h1,fun v H1 s1=>⟨H0,Z0,ρ1,_,y,ρ',s1,h2,fun w H2 s2=>?_⟩⟩
 exact hs H0 Z0 σ ρ' pd H2 v w x.pv y.pv l Q (s2.freeze.swap.freeze.swap) h3 fun u H' s3=>k u H' s3
theorem cu {op:Operator} {a b:Expr} {pos:Pos} {r:R2} {g:PV->PV->Option Lc} {fa fb:EF} (ho:dY X (binaryOp op) r) (hs:iT X.K r g) (ha:PE X a (tP X.K fa)) (hb:PE X b (tP X.K fb)):PE X (.BinOp a op b pos) (tP X.K (au g fa fb)):=
 PE.imp (Om ho ha hb) (Cv hs)
theorem pN {op:CmpOp} {a b:Expr} {pos:Pos} {r:R2} {g:PV->PV->Option Lc} {fa fb:EF} (ho:dY X (compareOp op) r) (hs:iT X.K r g) (ha:PE X a (tP X.K fa)) (hb:PE X b (tP X.K fb)) (hm:behindInMarks op b=false):PE X (.Compare a [op] [b] pos) (tP X.K (au g fa fb)):=
 PE.imp (PB ho ha hb hm) (Cv hs)
noncomputable def ux (C:Int->Int->Bool) (g:Int->Int->PV):PV->PV->Option Lc
 | .int i,.int j=>if C i j=true then some (.sh (g i j)) else none
 | _,_=>none
theorem Cw {C:Int->Int->Bool} {g:Int->Int->PV} {x y:PV} {l:Lc} (h:ux C g x y=some l):∃ i j,x=.int i/\y=.int j/\C i j=true/\l=.sh (g i j):=by
 cases x with
 | int i=>
  cases y with
  | int j=>
   have h':(if C i j=true then some (Lc.sh (g i j)) else none)=some l:=h
   split at h'
   . rename_i c; cases h'; exact ⟨i,j,rfl,rfl,c,rfl⟩
   . cases h'
  | _=>cases h
 | _=>cases h
theorem bF {Z:ZG} {i:Int} {v:V} (h:Rep K Z (.int i) v):v=.int i:=by unfold Rep at h; exact h
theorem bR {Z:ZG} {i:Str} {v:V} (h:Rep K Z (.str i) v):v=.str i:=by unfold Rep at h; exact h
theorem cP {Z:ZG} {i:Bool} {v:V} (h:Rep K Z (.bl i) v):v=.bl i:=by unfold Rep at h; exact h
theorem gk {Z:ZG} {v:V} (h:Rep K Z .non v):v=.non:=by unfold Rep at h; exact h
theorem HD {C':Int->Int->Prop} {C:Int->Int->Bool} {gV:Int->Int->V} {g:Int->Int->PV} (hc:∀ i j,C i j=true->C' i j) (hg:∀ i j Z,Rep K Z (g i j) (gV i j)):iT K (rI C' gV) (ux C g):=by
 intro H0 Z0 σ ρ pd H v w x y l Q s e k
 obtain ⟨i,j,rfl,rfl,c,rfl⟩:=Cw e
 obtain ⟨_,rw'⟩:=s.repH
 obtain ⟨_,rv'⟩:=s.pop.repH
 have hw:=bF rw'
 have hv:=bF rv'
 exact ⟨i,j,hv,hw,hc i j c,k _ H (s.pop.pop.scal (hg i j))⟩
theorem xj {gV:Int->Int->V} {g:Int->Int->PV} (hg:∀ i j Z,Rep K Z (g i j) (gV i j)):iT K (qX gV) (ux (fun _ _=>true) g):=by
 intro H0 Z0 σ ρ pd H v w x y l Q s e k
 obtain ⟨i,j,rfl,rfl,c,rfl⟩:=Cw e
 obtain ⟨_,rw'⟩:=s.repH
 obtain ⟨_,rv'⟩:=s.pop.repH
 exact ⟨i,j,bF rv',bF rw',k _ H (s.pop.pop.scal (hg i j))⟩
end
section
variable {X:Cx}
section
variable {K:FG} {H0 H H':Hp} {Z0 Z:ZG} {σ:L2.St} {ρ:Ev} {pd pd':Pd} {v w:V} {l:Lc} {p:PV} {g:List Addr}
theorem SR.newO (h:SR K H0 Z0 σ H ρ pd) {a:Addr} {o:HO} (ha:H a=none) (hp:∀ Z,jN H0 Z0 Z H->Slots K H0 Z H (sl Z.g σ ρ pd)->pM K Z (upd H a o) a p):SR K H0 Z0 σ (upd H a o) ρ ((.ref a,.own p)::pd):=by
 obtain ⟨e,Z,hg,z,s⟩:=h
 obtain ⟨z',s'⟩:=s.new z ha (hp Z z s)
 exact .mk e hg z' s'
theorem BK {α:Type} (A B C:List α):List.Perm (A++(B++C)) (B++(A++C)):=by
 rw [← List.append_assoc A B C,← List.append_assoc B A C]
 exact List.perm_append_comm.append_right _
theorem JX {pe:Pd}:List.Perm (sl g σ ρ (pe++pd)) (pe.map (fun e=>((some e.1:Option V),(some e.2:Option Lc)))++sl g σ ρ pd):=by
 unfold sl
 rw [List.map_append]
 exact ((BK _ _ _).append_left _).trans (BK _ _ _)
theorem SR.freezeAll:∀ {vs:List V} {ls:List Lc} {pd:Pd},SR K H0 Z0 σ H ρ (vs.zip ls++pd)->SR K H0 Z0 σ H ρ (vs.zip (ls.map fun l=>.sh l.pv)++pd)
 | [],ls,pd,h=>by simpa using h
 | v::vs,[],pd,h=>by simpa using h
 | v::vs,l::ls,pd,h=>by
  have h1:SR K H0 Z0 σ H ρ ((v,l)::(vs.zip ls++pd)):=h
  have h2:=h1.freeze.perm (pd':=vs.zip ls++((v,.sh l.pv)::pd)) List.perm_middle
  have h3:=SR.freezeAll h2
  exact h3.perm (pd':=(v,.sh l.pv)::(vs.zip (ls.map fun l=>.sh l.pv)++pd)) List.perm_middle.symm
theorem Slots.repl {L:Sl}:∀ {vs:List V} {ps:List PV},vs.length=ps.length->Slots K H0 Z H ((vs.zip (ps.map fun p=>Lc.sh p)).map (fun e=>(some e.1,some e.2))++L)->aG K Z ps vs
 | [],[],_,_=>.nil
 | v::vs,p::ps,e,h=>by
  have h1:Slots K H0 Z H ((some v,some (.sh p))::((vs.zip (ps.map fun p=>Lc.sh p)).map (fun e=>(some e.1,some e.2))++L)):=h
  obtain ⟨x,e1,e2⟩:=h1.1 _ List.mem_cons_self
  cases e1
  exact aG.cons e2 (Slots.repl (by simpa using e) (h1.sub (List.sublist_cons_self _ _)))
 | [],p::ps,e,_=>by simp at e
 | v::vs,[],e,_=>by simp at e
theorem SR.repl {vs:List V} {ls:List Lc} (h:SR K H0 Z0 σ H ρ (vs.zip ls++pd)) (e:vs.length=ls.length):σ.length=ρ.vs.length/\∃ Z,ρ.mu.length=Z.g.length/\jN H0 Z0 Z H/\aG K Z (ls.map Lc.pv) vs/\Slots K H0 Z H (sl Z.g σ ρ pd):=by
 obtain ⟨el,Z,hg,z,s⟩:=h.freezeAll
 have hm:(ls.map fun l=>Lc.sh l.pv)=(ls.map Lc.pv).map fun p=>Lc.sh p:=by rw [List.map_map]; rfl
 rw [hm] at s
 have pm:List.Perm (sl Z.g σ ρ (vs.zip ((ls.map Lc.pv).map fun p=>Lc.sh p)++pd)) ((vs.zip ((ls.map Lc.pv).map fun p=>Lc.sh p)).map (fun e=>(some e.1,some e.2))++sl Z.g σ ρ pd):=JX
 have s':=s.perm pm.symm
 exact ⟨el,Z,hg,z,Slots.repl (by simpa using e) s',s'.sub (List.sublist_append_right _ _)⟩
end
theorem rA {α:Type} {l:List α} (h:l.length=1):∃ a,l=[a]:=List.length_eq_one_iff.mp h
theorem ln2 {α:Type} {l:List α} (h:l.length=2):∃ a b,l=[a,b]:=by
 cases l with
 | nil=>cases h
 | cons a l=>obtain ⟨b,rfl⟩:=rA (Nat.succ.inj h); exact ⟨a,b,rfl⟩
theorem xm {α:Type} {l:List α} (h:l.length=3):∃ a b c,l=[a,b,c]:=by
 cases l with
 | nil=>cases h
 | cons a l=>obtain ⟨b,c,rfl⟩:=ln2 (Nat.succ.inj h); exact ⟨a,b,c,rfl⟩
theorem Td {α:Type} {l:List α} (h:l.length=4):∃ a b c d,l=[a,b,c,d]:=by
 cases l with
 | nil=>cases h
 | cons a l=>obtain ⟨b,c,d,rfl⟩:=xm (Nat.succ.inj h); exact ⟨a,b,c,d,rfl⟩
theorem WL {α:Type} {l:List α} (h:l.length=5):∃ a b c d e,l=[a,b,c,d,e]:=by
 cases l with
 | nil=>cases h
 | cons a l=>obtain ⟨b,c,d,e,rfl⟩:=Td (Nat.succ.inj h); exact ⟨a,b,c,d,e,rfl⟩
noncomputable def ao:AF:=fun ρ=>some ([],ρ)
noncomputable def aj (f:EF) (g:AF):AF:=fun ρ=>(f ρ).bind fun x=>(g x.2).map fun y=>(x.1::y.1,y.2)
theorem aC:PA X [] (jk X.K ao):=PA.imp jV fun σ H Q q=>by
 obtain ⟨H0,Z0,ρ,pd,l,ρ',s,f,k⟩:=q
 cases f
 exact k [] H rfl s
theorem ak {e:Expr} {es:List Expr} {f:EF} {g:AF} (ha:PE X e (tP X.K f)) (hr:PA X es (jk X.K g)) (hs:starEach (e::es) X.env=(false,eval e X.env)::starEach es X.env:=by rfl):PA X (e::es) (jk X.K (aj f g)):=PA.imp (cT ha hr hs) fun σ H Q q=>by
 obtain ⟨H0,Z0,ρ,pd,l,ρ',s,h,k⟩:=q
 unfold aj at h
 cases h1:f ρ with
 | none=>rw [h1] at h; cases h
 | some x=>
  rw [h1,Option.bind_some] at h
  cases h2:g x.2 with
  | none=>rw [h2] at h; cases h
  | some y=>
   rw [h2] at h
   cases h
   refine ⟨H0,Z0,ρ,pd,x.1,x.2,s,h1,fun v H1 s1=>⟨H0,Z0,x.2,_,y.1,y.2,s1,h2,fun vs H2 e2 s2=>?_⟩⟩
   refine k (v::vs) H2 (by simp [e2]) (s2.perm (pd':=(v,x.1)::(vs.zip y.1++pd)) List.perm_middle.symm)
noncomputable def iz (g:AF):EF:=fun ρ=>(g ρ).bind fun y=>if y.1.length<=1000 then some (.own (.lst (y.1.map Lc.pv)),y.2) else none
noncomputable def jt (g:AF):EF:=fun ρ=>(g ρ).bind fun y=>if y.1.length<=1000 then some (.sh (.tup (y.1.map Lc.pv)),y.2) else none
theorem small {n:Nat} (h:n<=100000):n<=sizeLine:=by rw [sizeLine_eq]; omega
theorem uy {es:List Expr} {g:AF} {pos:Pos} (h:PA X es (jk X.K g)):PE X (.List es pos) (tP X.K (iz g)):=PE.imp (R0 h) fun σ H Q q=>by
 obtain ⟨H0,Z0,ρ,pd,l,ρ',s,f,k⟩:=q
 unfold iz at f
 cases h2:g ρ with
 | none=>rw [h2] at f; cases f
 | some y=>
  rw [h2,Option.bind_some] at f
  split at f
  . rename_i hl
    cases f
    refine ⟨H0,Z0,ρ,pd,y.1,y.2,s,h2,fun vs H2 e2 s2=>⟨small (by omega),fun p hp=>k _ _ ?_⟩⟩
    obtain ⟨el,Z,hg,z,r,sl'⟩:=s2.repl e2
    obtain ⟨z',s'⟩:=sl'.new (o:=.lst vs) (p:=.lst (y.1.map Lc.pv)) z hp ⟨vs,bj,r⟩
    exact .mk el hg z' s'
  . cases f
theorem qR {es:List Expr} {g:AF} {x1} {pos:Pos} (h:PA X es (jk X.K g)):PE X (.Tuple es x1 pos) (tP X.K (jt g)):=PE.imp (Ci h) fun σ H Q q=>by
 obtain ⟨H0,Z0,ρ,pd,l,ρ',s,f,k⟩:=q
 unfold jt at f
 cases h2:g ρ with
 | none=>rw [h2] at f; cases f
 | some y=>
  rw [h2,Option.bind_some] at f
  split at f
  . rename_i hl
    cases f
    refine ⟨H0,Z0,ρ,pd,y.1,y.2,s,h2,fun vs H2 e2 s2=>⟨small (by omega),fun p hp=>k _ _ ?_⟩⟩
    obtain ⟨el,Z,hg,z,r,sl'⟩:=s2.repl e2
    obtain ⟨z',sz,s'⟩:=sl'.newF (o:=.tup vs) z hp
    refine .mk (Z:=Z.put p (.tup vs)) el hg z' (s'.consS ?_)
    unfold Rep
    exact ⟨p,vs,rfl,cW.of bj,r.mono sz⟩
  . cases f
noncomputable def tT (f:EF) (tr:PV->Option Bool):TF:=fun ρ=>(f ρ).bind fun x=>(tr x.1.pv).map fun b=>(b,x.2)
noncomputable def cC:PV->Option Bool
 | .non=>some false
 | .bl b=>some b
 | .int i=>some (i != 0)
 | .str x=>if x.length<=100000 then some ((x.length:Int) != 0) else none
 | .tup ps=>some (!ps.isEmpty)
 | .lst ps=>some (!ps.isEmpty)
 | .dk ks ps=>some (!ps.isEmpty)
 | _=>none
theorem Wo {H:Hp} {g:List Addr} {p:PV} {v:V} {b:Bool} (r:Rep K ⟨H,g⟩ p v) (h:cC p=some b):Lp K v H b:=by
 cases p with
 | non=>have:=gk r; subst this; cases h; exact rfl
 | bl c=>have:=cP r; subst this; cases h; exact rfl
 | int i=>have:=bF r; subst this; cases h; exact rfl
 | str x=>
  have:=bR r; subst this
  have h:(if x.length<=100000 then some ((x.length:Int) != 0) else none)=some b:=h
  split at h
  . rename_i hl; cases h; exact ⟨small hl,rfl⟩
  . cases h
 | tup ps=>
  unfold Rep at r
  obtain ⟨a,vs,rfl,h1,h2⟩:=r
  cases h
  refine .inr (.inl ⟨vs,h1,?_⟩)
  have:=h2.length
  cases ps<;>cases vs<;>simp at this<;>rfl
 | lst ps=>
  unfold Rep at r
  obtain ⟨a,vs,rfl,h1,h2⟩:=r
  cases h
  refine .inl ⟨vs,h1,?_⟩
  have:=h2.length
  cases ps<;>cases vs<;>simp at this<;>rfl
 | dk ks ps=>
  unfold Rep at r
  obtain ⟨a,kvs,rfl,h1,h3,h2⟩:=r
  cases h
  refine .inr (.inr ⟨kvs,h1,?_⟩)
  have:=h2.length
  cases ps<;>cases kvs<;>simp at this<;>rfl
 | _=>cases h
theorem FQ {f:EF} {tr:PV->Option Bool} {ρ ρ':Ev} {b:Bool} (h:tT f tr ρ=some (b,ρ')):∃ x,f ρ=some (x,ρ')/\tr x.pv=some b:=by
 unfold tT at h
 cases h1:f ρ with
 | none=>rw [h1] at h; cases h
 | some x=>
  rw [h1,Option.bind_some] at h
  cases h2:tr x.1.pv with
  | none=>rw [h2] at h; cases h
  | some y=>rw [h2] at h; cases h; exact ⟨x.1,rfl,h2⟩
theorem ig {a:Expr} {f:EF} (ha:PE X a (tP X.K f)) (he:∀ whole,isTrue a X.env whole=(do let v ← whole; standAt a.pos; holding [v] (truthy v))):PT X a (fL X.K (tT f cC)):=PT.imp (Lr ha he) fun σ H Q q=>by
 obtain ⟨H0,Z0,ρ,pd,b,ρ',s,f',k⟩:=q
 obtain ⟨x,h1,h2⟩:=FQ f'
 refine ⟨H0,Z0,ρ,pd,x,ρ',s,h1,fun v H1 s1=>⟨b,Wo s1.freeze.repH.choose_spec h2,k H1 s1.pop⟩⟩
noncomputable def aU:PV->Option Bool
 | .bl b=>some b
 | _=>none
theorem Vg {a:Expr} {f:EF} (ha:PT X a (Oo (tP X.K f))):PT X a (fL X.K (tT f aU)):=PT.imp ha fun σ H Q q=>by
 obtain ⟨H0,Z0,ρ,pd,b,ρ',s,f',k⟩:=q
 obtain ⟨x,h1,h2⟩:=FQ f'
 refine ⟨H0,Z0,ρ,pd,x,ρ',s,h1,fun v H1 s1=>⟨b,?_,k H1 s1.pop⟩⟩
 obtain ⟨_,r⟩:=s1.freeze.repH
 cases e:x.pv with
 | bl c=>rw [e] at h2 r; cases h2; exact cP r
 | _=>rw [e] at h2; cases h2
theorem bJ {op:CmpOp} {a b:Expr} {pos:Pos} {r:R2} {g:PV->PV->Option Lc} {fa fb:EF} (ho:dY X (compareOp op) r) (hs:iT X.K r g) (ha:PE X a (tP X.K fa)) (hb:PE X b (tP X.K fb)) (hm:behindInMarks op b=false):PT X (.Compare a [op] [b] pos) (fL X.K (tT (au g fa fb) aU)):=
 Vg (PT.imp (PK ho ha hb hm) fun σ H Q q=>Cv hs σ H _ q)
noncomputable def iI (f g:TF):TF:=fun ρ=>(f ρ).bind fun x=>if x.1=true then g x.2 else some (false,x.2)
noncomputable def gP (f g:TF):TF:=fun ρ=>(f ρ).bind fun x=>if x.1=true then some (true,x.2) else g x.2
noncomputable def jO (f:TF):TF:=fun ρ=>(f ρ).map fun x=>(!x.1,x.2)
theorem Qx {f g:TF}:∀ σ H Q,fL X.K (iI f g) σ H Q->Rv (fL X.K f) (fL X.K g) σ H Q:=fun σ H Q q=>by
 obtain ⟨H0,Z0,ρ,pd,b,ρ',s,h,k⟩:=q
 unfold iI at h
 cases h1:f ρ with
 | none=>rw [h1] at h; cases h
 | some x=>
  rw [h1,Option.bind_some] at h
  refine ⟨H0,Z0,ρ,pd,x.1,x.2,s,h1,fun H1 s1=>?_⟩
  dsimp only
  split
  . rename_i c; rw [if_pos c] at h; exact ⟨H0,Z0,x.2,pd,b,ρ',s1,h,k⟩
  . rename_i c; rw [if_neg c] at h; cases h; exact k H1 s1
theorem Te {f g:TF}:∀ σ H Q,fL X.K (gP f g) σ H Q->VD (fL X.K f) (fL X.K g) σ H Q:=fun σ H Q q=>by
 obtain ⟨H0,Z0,ρ,pd,b,ρ',s,h,k⟩:=q
 unfold gP at h
 cases h1:f ρ with
 | none=>rw [h1] at h; cases h
 | some x=>
  rw [h1,Option.bind_some] at h
  refine ⟨H0,Z0,ρ,pd,x.1,x.2,s,h1,fun H1 s1=>?_⟩
  dsimp only
  split
  . rename_i c; rw [if_pos c] at h; cases h; exact k H1 s1
  . rename_i c; rw [if_neg c] at h; exact ⟨H0,Z0,x.2,pd,b,ρ',s1,h,k⟩
theorem zg {a:Expr} {f:TF} {pos:Pos} (ha:PT X a (fL X.K f)):PW X (.BoolOp .And [a] pos) (fL X.K f):=Pz ha
theorem uz {a:Expr} {f:TF} {pos:Pos} (ha:PT X a (fL X.K f)):PW X (.BoolOp .Or [a] pos) (fL X.K f):=Rw ha
theorem xn {a b:Expr} {rest:List Expr} {f g:TF} {pos:Pos} (ha:PT X a (fL X.K f)) (hb:PW X (.BoolOp .And (b::rest) pos) (fL X.K g)):PW X (.BoolOp .And (a::b::rest) pos) (fL X.K (iI f g)):=PW.imp (Rx ha hb) Qx
theorem qJ {a b:Expr} {rest:List Expr} {f g:TF} {pos:Pos} (ha:PT X a (fL X.K f)) (hb:PW X (.BoolOp .Or (b::rest) pos) (fL X.K g)):PW X (.BoolOp .Or (a::b::rest) pos) (fL X.K (gP f g)):=PW.imp (U0 ha hb) Te
theorem uA {a:Expr} {f:TF} {pos:Pos} (ha:PT X a (fL X.K f)):PT X (.UnaryOp .Not a pos) (fL X.K (jO f)):=PT.imp (Ry ha) fun σ H Q q=>by
 obtain ⟨H0,Z0,ρ,pd,b,ρ',s,h,k⟩:=q
 unfold jO at h
 cases h1:f ρ with
 | none=>rw [h1] at h; cases h
 | some x=>
  rw [h1] at h
  cases h
  exact ⟨H0,Z0,ρ,pd,x.1,x.2,s,h1,fun H1 s1=>k H1 s1⟩
noncomputable def pO (f g:EF):EF:=fun ρ=>(f ρ).bind fun x=>match x.1.pv with
 | .bl true=>g x.2
 | .bl false=>some (.sh (.bl false),x.2)
 | _=>none
noncomputable def FT (f g:EF):EF:=fun ρ=>(f ρ).bind fun x=>match x.1.pv with
 | .bl true=>some (.sh (.bl true),x.2)
 | .bl false=>g x.2
 | _=>none
theorem Mz {op} {a:Expr} {f:EF} {pos:Pos} (h:PE X a (tP X.K f)):PE X (.BoolOp op [a] pos) (tP X.K f):=Rz h
theorem MF {a b:Expr} {rest:List Expr} {f g:EF} {pos:Pos} (ha:PE X a (tP X.K f)) (hb:PE X (.BoolOp .And (b::rest) pos) (tP X.K g)):PE X (.BoolOp .And (a::b::rest) pos) (tP X.K (pO f g)):=PE.imp (RB ha hb) fun σ H Q q=>by
 obtain ⟨H0,Z0,ρ,pd,b,ρ',s,h,k⟩:=q
 unfold pO at h
 cases h1:f ρ with
 | none=>rw [h1] at h; cases h
 | some x=>
  rw [h1,Option.bind_some] at h
  refine ⟨H0,Z0,ρ,pd,x.1,x.2,s,h1,fun v H1 s1=>?_⟩
  obtain ⟨_,r⟩:=s1.freeze.repH
  split at h
  . rename_i e
    rw [e] at r
    refine ⟨true,cP r,?_⟩
    rw [if_pos rfl]
    exact ⟨H0,Z0,x.2,pd,b,ρ',s1.pop,h,k⟩
  . rename_i e
    rw [e] at r
    refine ⟨false,cP r,?_⟩
    rw [if_neg Bool.false_ne_true]
    cases h
    exact k _ H1 (s1.pop.scal dm)
  . cases h
theorem VJ {a b:Expr} {rest:List Expr} {f g:EF} {pos:Pos} (ha:PE X a (tP X.K f)) (hb:PE X (.BoolOp .Or (b::rest) pos) (tP X.K g)):PE X (.BoolOp .Or (a::b::rest) pos) (tP X.K (FT f g)):=PE.imp (U4 ha hb) fun σ H Q q=>by
 obtain ⟨H0,Z0,ρ,pd,b,ρ',s,h,k⟩:=q
 unfold FT at h
 cases h1:f ρ with
 | none=>rw [h1] at h; cases h
 | some x=>
  rw [h1,Option.bind_some] at h
  refine ⟨H0,Z0,ρ,pd,x.1,x.2,s,h1,fun v H1 s1=>?_⟩
  obtain ⟨_,r⟩:=s1.freeze.repH
  split at h
  . rename_i e
    rw [e] at r
    refine ⟨true,cP r,?_⟩
    rw [if_pos rfl]
    cases h
    exact k _ H1 (s1.pop.scal dm)
  . rename_i e
    rw [e] at r
    refine ⟨false,cP r,?_⟩
    rw [if_neg Bool.false_ne_true]
    exact ⟨H0,Z0,x.2,pd,b,ρ',s1.pop,h,k⟩
  . cases h
noncomputable def xq (c:TF) (f g:EF):EF:=fun ρ=>(c ρ).bind fun x=>if x.1=true then f x.2 else g x.2
theorem Tf {c a b:Expr} {fc:TF} {f g:EF} {pos:Pos} (hc:PT X c (fL X.K fc)) (ha:PE X a (tP X.K f)) (hb:PE X b (tP X.K g)):PE X (.IfExp c a b pos) (tP X.K (xq fc f g)):=PE.imp (Lf hc ha hb) fun σ H Q q=>by
 obtain ⟨H0,Z0,ρ,pd,b,ρ',s,h,k⟩:=q
 unfold xq at h
 cases h1:fc ρ with
 | none=>rw [h1] at h; cases h
 | some x=>
  rw [h1,Option.bind_some] at h
  refine ⟨H0,Z0,ρ,pd,x.1,x.2,s,h1,fun H1 s1=>?_⟩
  dsimp only
  split
  . rename_i c; rw [if_pos c] at h; exact ⟨H0,Z0,x.2,pd,b,ρ',s1,h,k⟩
  . rename_i c; rw [if_neg c] at h; exact ⟨H0,Z0,x.2,pd,b,ρ',s1,h,k⟩
noncomputable def bO:SF:=fun ρ=>some (.nx ρ)
noncomputable def aK (f g:SF):SF:=fun ρ=>(f ρ).bind fun x=>match x with
 | .nx ρ'=>g ρ'
 | y=>some y
theorem bT:dg X [] (dZ X.K bO):=dg.imp Ft fun D σ H q=>by
 obtain ⟨H0,Z0,ρ,pd,fl,s,h,k⟩:=q
 cases h
 exact k σ H s
theorem aB {st:Stmt} {rest:List Stmt} {f g:SF} (h1:PS X st (dZ X.K f)) (h2:dg X rest (dZ X.K g)):dg X (st::rest) (dZ X.K (aK f g)):=dg.imp (BZ h1 h2) fun D σ H q=>by
 obtain ⟨H0,Z0,ρ,pd,fl,s,h,k⟩:=q
 unfold aK at h
 cases e:f ρ with
 | none=>rw [e] at h; cases h
 | some x=>
  rw [e,Option.bind_some] at h
  refine ⟨H0,Z0,ρ,pd,x,s,e,?_⟩
  cases x with
  | nx ρ'=>exact fun σ' H' s'=>⟨H0,Z0,ρ',pd,fl,s',h,k⟩
  | rt r ρ'=>cases h; exact k
  | bk ρ'=>cases h; exact k
  | ct ρ'=>cases h; exact k
theorem aJ {st:Stmt} {f:SF} (h1:PS X st (dZ X.K f)):dg X [st] (dZ X.K f):=Fv h1
noncomputable def xr (f:EF):SF:=fun ρ=>(f ρ).map fun x=>.nx x.2
theorem map_some {α β:Type} {o:Option α} {f:α->β} {b:β} (h:o.map f=some b):∃ a,o=some a/\f a=b:=by
 cases o with
 | none=>cases h
 | some a=>exact ⟨a,rfl,Option.some.inj h⟩
theorem bind_some {α β:Type} {o:Option α} {f:α->Option β} {b:β} (h:o.bind f=some b):∃ a,o=some a/\f a=some b:=by
 cases o with
 | none=>cases h
 | some a=>exact ⟨a,rfl,h⟩
theorem FZ {e:Expr} {pos:Pos} {f:EF} (he:PE X e (tP X.K f)) (hs:swapsWith e none pos.line X.env=pure false:=by rfl):PS X (.Expr e pos) (dZ X.K (xr f)):=PS.imp (yV he hs) fun D σ H q=>by
 obtain ⟨H0,Z0,ρ,pd,fl,s,h,k⟩:=q
 obtain ⟨x,h1,rfl⟩:=map_some h
 exact ⟨H0,Z0,ρ,pd,x.1,x.2,s,h1,fun v H' s'=>k σ H' s'.pop⟩
noncomputable def cj (f:EF):SF:=fun ρ=>(f ρ).map fun x=>.rt x.1 x.2
theorem bH {e:Expr} {pos:Pos} {f:EF} (he:PE X e (tP X.K f)):PS X (.Return (some e) pos) (dZ X.K (cj f)):=PS.imp (Ca he) fun D σ H q=>by
 obtain ⟨H0,Z0,ρ,pd,fl,s,h,k⟩:=q
 obtain ⟨x,h1,rfl⟩:=map_some h
 exact ⟨H0,Z0,ρ,pd,x.1,x.2,s,h1,fun v H' s'=>k v σ H' s'⟩
noncomputable def iJ (i:Nat):SF:=fun ρ=>match ρ.vs[i]? with
 | some (some l)=>some (.rt l (ρ.set i none))
 | _=>none
theorem jD {i:Nat} {e:Expr} {pos:Pos} (he:PE X e (sE i)):PS X (.Return (some e) pos) (dZ X.K (iJ i)):=PS.imp (Ca he) fun D σ H q=>by
 obtain ⟨H0,Z0,ρ,pd,fl,s,h,k⟩:=q
 unfold iJ at h
 split at h
 . rename_i l e1
   cases h
   obtain ⟨v,h1,h2⟩:=s.take e1
   exact ⟨v,h1,k v σ H h2⟩
 . cases h
noncomputable def dq (c:TF) (f g:SF):SF:=fun ρ=>(c ρ).bind fun x=>if x.1=true then f x.2 else g x.2
theorem dh {c:Expr} {a b:List Stmt} {fc:TF} {f g:SF} {pos:Pos} (hc:PT X c (fL X.K fc)) (ha:dg X a (dZ X.K f)) (hb:dg X b (dZ X.K g)):PS X (.If c a b pos) (dZ X.K (dq fc f g)):=PS.imp (Og hc ha hb) fun D σ H q=>by
 obtain ⟨H0,Z0,ρ,pd,fl,s,h,k⟩:=q
 obtain ⟨x,h1,h2⟩:=bind_some h
 refine ⟨H0,Z0,ρ,pd,x.1,x.2,s,h1,fun H1 s1=>?_⟩
 dsimp only
 split
 . rename_i c; rw [if_pos c] at h2; exact ⟨H0,Z0,x.2,pd,fl,s1,h2,k⟩
 . rename_i c; rw [if_neg c] at h2; exact ⟨H0,Z0,x.2,pd,fl,s1,h2,k⟩
noncomputable def aL (i:Nat) (f:EF):SF:=fun ρ=>(f ρ).bind fun x=>if i<x.2.vs.length then some (.nx (x.2.set i (some x.1))) else none
theorem Ga {i:Nat} {f:EF} {t:TS} (h:∀ D σ H,(tP X.K f σ H fun v H1=>D.nx (σ.set i (some v)) H1)->t D σ H):∀ D σ H,dZ X.K (aL i f) D σ H->t D σ H:=fun D σ H q=>by
 obtain ⟨H0,Z0,ρ,pd,fl,s,h',k⟩:=q
 obtain ⟨x,h1,h2⟩:=bind_some h'
 split at h2
 . rename_i hl
   cases h2
   exact h D σ H ⟨H0,Z0,ρ,pd,x.1,x.2,s,h1,fun v H1 s1=>k _ _ (s1.store hl)⟩
 . cases h2
theorem xx {i:Nat} {x:Str} {e:Expr} {pos pos':Pos} {f:EF} (hN:X.N.Nodup) (hi:X.N[i]?=some x) (hx:L2.Loc X.env.scope x) (he:PE X e (tP X.K f)) (hs:swapsWith e (some (.Name x pos')) pos.line X.env=pure false:=by rfl) (hf:X.fn x=true\/X.env.scope.names.lookup x=some .local:=by first | exact .inl rfl | exact .inr rfl | assumption):
 PS X (.Assign [.Name x pos'] e pos) (dZ X.K (aL i f)):=PS.imp (Jj hN hi hx he hs hf) (Ga fun D σ H q=>q)
noncomputable abbrev GF:=List PV->Mu->Option (Lc×Mu)
noncomputable def iU (H:Hp) (g:List Addr):Hp:=fun b=>if b∈g then none else H b
theorem Qy {H:Hp} {g:List Addr} {b:Addr} {o:HO} (h:iU H g b=some o):H b=some o/\b∉g:=by
 unfold iU at h
 split at h
 . cases h
 . rename_i q; exact ⟨h,q⟩
theorem MJ {H:Hp} {g:List Addr} {b:Addr} (h:b∈g):iU H g b=none:=by unfold iU; rw [if_pos h]
theorem Cy {H:Hp} {g:List Addr} {b:Addr} (h:b∉g):iU H g b=H b:=by unfold iU; rw [if_neg h]
noncomputable def Cz (K:FG) (H:Hp) (Z:ZG) (g:List Addr) (H':Hp) (mu':Mu) (v:V) (r:Lc):Prop:=∃ Z',mu'.length=Z'.g.length/\jN (iU H g) Z Z' H'/\Slots K (iU H g) Z' H' ((some v,some r)::cel Z'.g mu')
noncomputable def bM (K:FG) (n:Nat) (g:GF):Sp:=fun vs H Q _=>∃ (Z:ZG) (ps:List PV) (mu:Mu) (r:Lc) (mu':Mu),vs.length=n/\mu.length=Z.g.length/\cG Z.z H/\aG K Z ps vs/\Slots K (iU H (lr Z.g mu)) Z H (cel Z.g mu)/\g ps mu=some (r,mu')/\∀ v H',Cz K H Z (lr Z.g mu) H' mu' v r->Q v H'
noncomputable def aH (g:GF) (a:AF):EF:=fun ρ=>(a ρ).bind fun y=>(g (y.1.map Lc.pv) y.2.mu).map fun r=>(r.1,⟨y.2.vs,r.2⟩)
theorem Qz {g:List Addr} {mu:Mu} {e:Option V×Option Lc} (he:e∈cel g mu):∃ a,e.1=some (.ref a)/\(e.2=none\/∃ p,e.2=some (.own p)):=by
 unfold cel at he
 obtain ⟨v,l⟩:=e
 obtain ⟨h1,h2⟩:=List.of_mem_zip he
 obtain ⟨a,_,e1⟩:=List.mem_map.mp h1
 obtain ⟨o,_,e2⟩:=List.mem_map.mp h2
 refine ⟨a,e1.symm,?_⟩
 cases o with
 | none=>exact .inl e2.symm
 | some p=>exact .inr ⟨p,e2.symm⟩
theorem Slots.cells {Z:ZG} (hg:ρ.mu.length=Z.g.length) (s:Slots K H0 Z H (sl Z.g σ ρ pd)):Slots K (iU H (lr Z.g ρ.mu)) Z H (cel Z.g ρ.mu):=by
 have s1:Slots K H0 Z H (cel Z.g ρ.mu):=s.sub (List.sublist_append_left _ _)
 refine ⟨fun e he=>?_,s1.2⟩
 obtain ⟨a,h1,h2⟩:=Qz he
 obtain ⟨v,l⟩:=e
 have h1':v=some (.ref a):=h1
 subst h1'
 rcases h2 with h2 | ⟨p,h2⟩
 . have h2':l=none:=h2
   subst h2'; trivial
 . have h2':l=some (.own p):=h2
   subst h2'
   obtain ⟨b,e1,e2,e3,e4⟩:=s1.1 _ he
   cases e1
   exact ⟨a,rfl,e2,e3,MJ (List.mem_filterMap.mpr ⟨_,he,rfl⟩)⟩
theorem SR.called {H0 H H':Hp} {Z0 Z:ZG} {v:V} {r:Lc} {mu':Mu} (el:σ.length=ρ.vs.length) (hg:ρ.mu.length=Z.g.length) (z:jN H0 Z0 Z H) (s:Slots K H0 Z H (sl Z.g σ ρ pd)) (h:Cz K H Z (lr Z.g ρ.mu) H' mu' v r):SR K H0 Z0 σ H' ⟨ρ.vs,mu'⟩ ((v,r)::pd):=by
 obtain ⟨Z',hg',z',q⟩:=h
 have s1:Slots K H0 Z H (cel Z.g ρ.mu):=s.sub (List.sublist_append_left _ _)
 have s0:Slots K H0 Z H (σ.zip ρ.vs++pd.map fun e=>(some e.1,some e.2)):=s.sub (List.sublist_append_right _ _)
 have nd:(lr Z.g ρ.mu++(σ.zip ρ.vs++pd.map fun e=>(some e.1,some e.2)).filterMap jM).Nodup:=by
  have:=s.2
  unfold sl at this
  rw [List.filterMap_append] at this
  exact this
 have hc0:∀ a∈lr Z.g ρ.mu,H0 a=none:=fun a ha=>by
  obtain ⟨e,he,hb⟩:=List.mem_filterMap.mp ha
  exact (gr s1 he hb).2.1
 have h0:cG H0 (iU H (lr Z.g ρ.mu)):=fun b o e=>by
  rw [Cy fun hm=>by rw [hc0 b hm] at e; cases e]
  exact z.h0 b o e
 have z2:jN H0 Z0 Z' H':=⟨z'.zh,h0.trans z'.h0,z.z0.trans z'.z0,fun b o e=>by
  rcases z'.new b o e with e | e | e
  . exact z.new b o e
  . exact .inr (.inl (h0.free e))
  . exact .inr (.inr e)⟩
 have nog:∀ e∈(σ.zip ρ.vs++pd.map fun e=>((some e.1:Option V),(some e.2:Option Lc))),∀ a,jM e=some a->a∉lr Z.g ρ.mu/\iU H (lr Z.g ρ.mu) a=H a:=fun e he a ha=>by
  have hn:a∉lr Z.g ρ.mu:=fun hm=>(List.nodup_append.mp nd).2.2 a hm a (List.mem_filterMap.mpr ⟨e,he,ha⟩) rfl
  exact ⟨hn,Cy hn⟩
 have hk:∀ e∈(σ.zip ρ.vs++pd.map fun e=>((some e.1:Option V),(some e.2:Option Lc))),∀ a,jM e=some a->H' a=H a/\Z'.z a=none:=fun e he a ha=>by
  obtain ⟨h1,h2,o,h3,h4⟩:=gr s0 he ha
  obtain ⟨hn,ho⟩:=nog e he a ha
  have h5:=z'.h0 a o (by rw [ho]; exact h3)
  refine ⟨by rw [h3]; exact h5,?_⟩
  cases q:Z'.z a with
  | none=>rfl
  | some u=>
   rcases z'.new a u q with e | e | e
   . rw [h1] at e; cases e
   . rw [ho,h3] at e; cases e
   . have:=z'.zh a u q
     rw [h5] at this; cases this
     exact (h4 e).elim
 have s2:=s0.step z'.z0 hk
 have q':Slots K H0 Z' H' ((some v,some r)::cel Z'.g mu'):=by
  refine ⟨fun e he=>?_,q.2⟩
  have:=q.1 e he
  obtain ⟨w,l⟩:=e
  cases l with
  | none=>trivial
  | some l=>
   cases l with
   | sh p=>exact this
   | own p=>obtain ⟨a,e1,e2,e3,e4⟩:=this; exact ⟨a,e1,e2,e3,h0.free e4⟩
 have dis:∀ e∈((some v,some r)::cel Z'.g mu'),∀ a,jM e=some a->∀ e'∈(σ.zip ρ.vs++pd.map fun e=>((some e.1:Option V),(some e.2:Option Lc))),jM e'≠some a:=fun e he a ha e' he' ha'=>by
  obtain ⟨_,h2,_⟩:=gr q he ha
  obtain ⟨_,_,o,h3,_⟩:=gr s0 he' ha'
  rw [(nog e' he' a ha').2,h3] at h2; cases h2
 refine .mk (Z:=Z') el hg' z2 ?_
 refine ⟨fun e he=>?_,?_⟩
 . rcases List.mem_cons.mp he with rfl | he
   . exact q'.1 _ List.mem_cons_self
   . rcases List.mem_append.mp he with he | he
     . exact q'.1 _ (List.mem_cons_of_mem _ he)
     . exact s2.1 e he
 . show (((some v,some r)::(cel Z'.g mu'++(σ.zip ρ.vs++pd.map fun e=>(some e.1,some e.2)))).filterMap jM).Nodup
   rw [← List.cons_append,List.filterMap_append]
   refine List.nodup_append.mpr ⟨q'.2,s2.2,fun a ha b hb e=>?_⟩
   subst e
   obtain ⟨e1,he1,h1⟩:=List.mem_filterMap.mp ha
   obtain ⟨e2,he2,h2⟩:=List.mem_filterMap.mp hb
   exact dis e1 he1 a h1 e2 he2 h2
theorem MK {n:Nat} {g:GF} {a:AF} {E:XK}:∀ σ H Q,(∃ H0 Z0 ρ pd r ρ',SR X.K H0 Z0 σ H ρ pd/\aH g a ρ=some (r,ρ')/\(∀ ls ρ1,a ρ=some (ls,ρ1)->ls.length=n)/\∀ v H',SR X.K H0 Z0 σ H' ρ' ((v,r)::pd)->Q v H')->Bv (bM X.K n g) [] E (jk X.K a) σ H Q:=fun σ H Q q=>by
 obtain ⟨H0,Z0,ρ,pd,r,ρ',s,h,hn,k⟩:=q
 obtain ⟨y,h1,h2⟩:=bind_some h
 obtain ⟨r',h3,h4⟩:=map_some h2
 cases h4
 refine ⟨H0,Z0,ρ,pd,y.1,y.2,s,h1,fun vs H2 e2 s2=>?_⟩
 obtain ⟨el,Z,hg,z,rl,sl'⟩:=s2.repl e2
 refine ⟨Z,y.1.map Lc.pv,y.2.mu,_,_,?_,hg,z.zh,?_,sl'.cells hg,h3,fun v H' rr=>k v H' (SR.called el hg z sl' rr)⟩
 . rw [List.append_nil,e2]; exact hn _ _ h1
 . rw [List.append_nil]; exact rl
end
section
variable {P:Program} {w:World} {K:FG} {mg:Str->Option Value} {base:Heap}
noncomputable def aZ (K:FG) (mg:Str->Option Value) (x:Str) (st:Stmt) (ps:List Str):Prop:=∃ f fd,m5 K x x st f fd/\mg x=some (.ref f)/\Binds K fd ps []
noncomputable def uB (b:Bool) (P:Program) (w:World) (K:FG) (mg:Str->Option Value) (base:Heap) (x:Str) (k:Nat) (ps:List Str) (sp:Sp):Prop:=∃ f fd,oK b P w K mg base mZ k f fd ps sp/\mg x=some (.ref f)/\W.keepIn K (.ref f)=true/\Binds K fd ps []
noncomputable abbrev bB:=uB true
noncomputable def env0 (n:Nat) (ps:List PV) (mu:Mu):Ev:=⟨ps.map (fun p=>some (Lc.sh p))++List.replicate (n-ps.length) none,mu⟩
noncomputable def cQ (n:Nat) (g:SF):GF:=fun ps mu=>(g (env0 n ps mu)).bind fun x=>match x with
 | .rt r ρ=>some (r,ρ.mu)
 | .nx ρ=>some (.sh .non,ρ.mu)
 | _=>none
theorem Gb {Z:ZG} {L:Sl} (s:Slots K H0 Z H L):∀ {ps:List PV} {vs:List V},aG K Z ps vs->Slots K H0 Z H ((vs.map some).zip (ps.map fun p=>some (Lc.sh p))++L)
 | [],vs,h=>by have:=h.inv0; subst this; simpa using s
 | p::ps,vs,h=>by
  obtain ⟨v,r,rfl,h1,h2⟩:=h.inv
  exact (Gb s h2).consS h1
theorem nones {Z:ZG} {L:Sl} (s:Slots K H0 Z H L):∀ n:Nat,Slots K H0 Z H ((List.replicate n (none:Option V)).zip (List.replicate n (none:Option Lc))++L)
 | 0=>s
 | n+1=>by
  rw [List.replicate_succ,List.replicate_succ,List.zip_cons_cons,List.cons_append]
  have ih:=nones s n
  refine ⟨fun e he=>?_,?_⟩
  . rcases List.mem_cons.mp he with rfl | he
    . trivial
    . exact ih.1 e he
  . rw [List.filterMap_cons_none rfl]; exact ih.2
theorem sU {H:Hp} {Z:ZG} {ps:List PV} {mu:Mu} {vs:List V} {N:List Str} (hg:mu.length=Z.g.length) (z:cG Z.z H) (r:aG K Z ps vs) (c:Slots K (iU H (lr Z.g mu)) Z H (cel Z.g mu)):SR K (iU H (lr Z.g mu)) Z (L2.start N vs) H (env0 N.length ps mu) []:=by
 have hl:=r.length
 refine ⟨by simp [L2.start,env0,hl],Z,hg,⟨z,fun b o e=>(Qy e).1,gK.refl _,fun b o e=>.inl e⟩,?_⟩
 unfold sl L2.start env0
 rw [List.zip_append (by simp [hl]),List.map_nil,List.append_nil,hl]
 exact (Gb (nones c _) r).perm ((List.perm_append_comm).trans (by rw [List.append_assoc]))
theorem aZ.ok {b:Bool} {x:Str} {st:Stmt} {N ps:List Str} {k:Nat} {g:GF} (F:aZ K mg x st ps) (S:aR N ps (aq st))
 (h:∀ (f:Addr) (cdv:Value) (A:Around) (outer:List PySem.Env) (s:Shared) (H:Hp) (E:XK),cV b k (A.deeper (envOfC x (aq st) s.heap.objs.size f cdv))->
   ∃ g':SF,(∀ a mu,g a mu=cQ N.length g' a mu)/\dg (qD b mZ P w K mg base N x (aq st) f cdv A outer s H E).nox (aN st) (dZ K g')):uB b P w K mg base x (k+1) ps (bM K ps.length g):=by
 obtain ⟨f,fd,F,hm,hb⟩:=F
 refine ⟨f,fd,F.ok S (fun vs H Q E q=>?_) (fun cdv A outer s H vs Q E hr q=>?_),hm,F.kp,hb⟩
 . obtain ⟨Z,qs,mu,r,mu',e,_⟩:=q; exact e
 . obtain ⟨g',eg,b⟩:=h f cdv A outer s H E hr
   obtain ⟨Z,qs,mu,r,mu',e,hg,z,rl,c,hr',kk⟩:=q
   rw [eg] at hr'
   obtain ⟨fl,h1,h2⟩:=bind_some hr'
   refine ⟨_,b,iU H (lr Z.g mu),Z,_,[],fl,sU hg z rl c,h1,?_⟩
   cases fl with
   | rt r' ρ'=>
    cases h2
    intro v σ' H' s'
    obtain ⟨el,Z',hg',z',s''⟩:=s'.top
    refine kk v H' ⟨Z',hg',z',s''.sub ?_⟩
    exact (List.sublist_append_left _ _).cons_cons _
   | nx ρ'=>
    cases h2
    intro σ' H' s'
    obtain ⟨el,Z',hg',z',s''⟩:=s'
    exact kk .non H' ⟨Z',hg',z',(s''.sub (List.sublist_append_left _ _)).consS (rm _)⟩
   | bk ρ'=>cases h2
   | ct ρ'=>cases h2
end
section
variable {X:Cx}
theorem bL {b:Bool} {x:Str} {k:Nat} {ps:List Str} {g:GF} {e:Expr} {es:List Expr} {a:AF} {p pos:Pos} (D:uB b X.prog X.w X.K X.mg X.base x k ps (bM X.K ps.length g)) (hr:cV b k X.A) (hg:Gl X x)
 (ha:PA X (e::es) (jk X.K a)) (hn:∀ ρ ls ρ1,a ρ=some (ls,ρ1)->ls.length=ps.length) (hdb:(x==("__debug__" : Str))=false:=by decide) (he:starEach (e::es) X.env=(false,eval e X.env)::starEach es X.env:=by rfl) (hpl:(backTo pos (starEach es X.env)).any (·.1)=false:=by rfl):PE X (.Call (.Name x p) (e::es) [] pos) (tP X.K (aH g a)):=by
 obtain ⟨f,fd,F,hm,hk,hb⟩:=D
 refine PE.imp (Qa (E:=E0) F hr hg hm hk hb .nil Bx ha hdb he hpl) fun σ H Q q=>?_
 obtain ⟨H0,Z0,ρ,pd,r,ρ',s,h,kk⟩:=q
 exact MK σ H Q ⟨H0,Z0,ρ,pd,r,ρ',s,h,fun ls ρ1 e=>hn ρ ls ρ1 e,kk⟩
section
variable {K:FG} {H0 H H':Hp} {Z0 Z:ZG} {σ:L2.St} {ρ:Ev} {pd pd':Pd} {v w:V} {l:Lc} {p:PV}
theorem SR.sub (h:SR K H0 Z0 σ H ρ pd') (q:List.Sublist pd pd'):SR K H0 Z0 σ H ρ pd:=
 let ⟨e,Z,hg,z,s⟩:=h
 ⟨e,Z,hg,z,s.sub ((List.Sublist.refl _).append ((List.Sublist.refl _).append (q.map _)))⟩
theorem SR.dup (h:SR K H0 Z0 σ H ρ ((v,.sh p)::pd)):SR K H0 Z0 σ H ρ ((v,.sh p)::(v,.sh p)::pd):=by
 obtain ⟨e,Z,hg,z,s⟩:=h.top
 obtain ⟨x,e1,e2⟩:=s.1 _ List.mem_cons_self
 cases e1
 exact .mk e hg z ((s.perm cU).consS e2)
theorem SR.part {u:V} {q:PV} (h:SR K H0 Z0 σ H ρ ((v,.sh p)::pd)) (k:∀ Z:ZG,cG Z.z H->Rep K Z p v->Rep K Z q u):SR K H0 Z0 σ H ρ ((u,.sh q)::(v,.sh p)::pd):=by
 obtain ⟨e,Z,hg,z,s⟩:=h.top
 obtain ⟨x,e1,e2⟩:=s.1 _ List.mem_cons_self
 cases e1
 exact .mk e hg z ((s.perm cU).consS (k Z z.zh e2))
end
noncomputable abbrev BF:=PV->Ev->Option Ev
noncomputable def GS (K:FG) (g:TG) (b:BF):Prop:=∀ H0 Z0 σ H ρ pd v p ρ' Q,SR K H0 Z0 σ H ρ ((v,.sh p)::pd)->b p ρ=some ρ'->(∀ σ',SR K H0 Z0 σ' H ρ' pd->Q σ' H)->g v σ H Q
noncomputable abbrev CG:=List PV->Ev->Option Ev
noncomputable def OD (K:FG) (g:tW) (b:CG):Prop:=∀ H0 Z0 σ H ρ pd vs ps ρ' Q,vs.length=ps.length->SR K H0 Z0 σ H ρ (vs.zip (ps.map Lc.sh)++pd)->b ps ρ=some ρ'->(∀ σ',SR K H0 Z0 σ' H ρ' pd->Q σ' H)->g vs σ H Q
noncomputable def aF (i:Nat):BF:=fun p ρ=>if i<ρ.vs.length then some (ρ.set i (some (.sh p))) else none
theorem bf {i:Nat}:GS K (wM i) (aF i):=by
 intro H0 Z0 σ H ρ pd v p ρ' Q s h k
 unfold aF at h
 split at h
 . rename_i hl; cases h; exact k _ (s.store hl)
 . cases h
noncomputable def iV:CG:=fun ps ρ=>match ps with
 | []=>some ρ
 | _=>none
noncomputable def bQ (b:BF) (bs:CG):CG:=fun ps ρ=>match ps with
 | p::r=>(b p ρ).bind fun ρ1=>bs r ρ1
 | []=>none
theorem rB:OD K RC iV:=by
 intro H0 Z0 σ H ρ pd vs ps ρ' Q e s h k
 cases ps with
 | nil=>
  cases h
  have:vs=[]:=List.eq_nil_of_length_eq_zero (by simpa using e)
  subst this
  exact ⟨rfl,k σ s⟩
 | cons p r=>cases h
theorem gU {t:TG} {u:tW} {b:BF} {bs:CG} (h1:GS K t b) (h2:OD K u bs):OD K (Oh t u) (bQ b bs):=by
 intro H0 Z0 σ H ρ pd vs ps ρ' Q e s h k
 cases ps with
 | nil=>cases h
 | cons p r=>
  cases vs with
  | nil=>simp at e
  | cons v ws=>
   obtain ⟨ρ1,e1,e2⟩:=bind_some h
   refine ⟨v,ws,rfl,h1 H0 Z0 σ H ρ _ v p ρ1 _ s e1 fun σ' s'=>?_⟩
   exact h2 H0 Z0 σ' H ρ1 pd ws r ρ' Q (by simpa using e) s' e2 k
theorem JZ {Z:ZG} {L:Sl} (s:Slots K H0 Z H L):∀ {ps:List PV} {vs:List V},aG K Z ps vs->Slots K H0 Z H ((vs.zip (ps.map Lc.sh)).map (fun e=>(some e.1,some e.2))++L)
 | [],vs,h=>by have:=h.inv0; subst this; simpa using s
 | p::ps,vs,h=>by
  obtain ⟨v,r,rfl,h1,h2⟩:=h.inv
  exact (JZ s h2).consS h1
theorem SR.items {Z0 Z:ZG} {vs:List V} {ps:List PV} (e:σ.length=ρ.vs.length) (hg:ρ.mu.length=Z.g.length) (z:jN H0 Z0 Z H) (r:aG K Z ps vs) (s:Slots K H0 Z H (sl Z.g σ ρ pd)):SR K H0 Z0 σ H ρ (vs.zip (ps.map Lc.sh)++pd):=
 ⟨e,Z,hg,z,(JZ s r).perm JX⟩
noncomputable def CJ (f:EF) (b:BF):SF:=fun ρ=>(f ρ).bind fun x=>(b x.1.pv x.2).map Fl.nx
theorem Tg {tg e:Expr} {f:EF} {g:TG} {b:BF} {pos:Pos} (he:PE X e (tP X.K f)) (hg:PG X tg g) (hb:GS X.K g b) (hs:swapsWithSole [tg] e pos.line X.env=pure false:=by rfl) (hw:swappedStores [tg] e X.env=pure none:=by rfl)
 (h1:(assignEach [tg] X.env).map (·.2)=[assign tg X.env]:=by rfl):PS X (.Assign [tg] e pos) (dZ X.K (CJ f b)):=PS.imp (uc he hg hs hw h1) fun D σ H q=>by
 obtain ⟨H0,Z0,ρ,pd,fl,s,h,k⟩:=q
 obtain ⟨x,h1,h2⟩:=bind_some h
 obtain ⟨ρ',h3,rfl⟩:=map_some h2
 exact ⟨H0,Z0,ρ,pd,x.1,x.2,s,h1,fun v H1 s1=>hb H0 Z0 σ H1 x.2 pd v _ ρ' D.nx s1.freeze h3 fun σ' s'=>k σ' H1 s'⟩
noncomputable def WR (i j:Nat) (a:AF):SF:=fun ρ=>(a ρ).bind fun y=>match y.1 with
 | [l,m]=>if i<y.2.vs.length/\j<y.2.vs.length then some (.nx ((y.2.set i (some l)).set j (some m))) else none
 | _=>none
noncomputable def mK (K:FG) (H0:Hp) (Z0:ZG) (pd:Pd) (J:It) (xs:List PV):Prop:=∀ σ H ρ (i:Nat),SR K H0 Z0 σ H ρ pd->
 (∀ x,xs[i]?=some x->J.go i H/\∀ v H',J.yld i H v H'->SR K H0 Z0 σ H' ρ ((v,.sh x)::pd))/\(i=xs.length->J.stop i H)
noncomputable abbrev IF:=Ev->Option (List PV×Ev)
noncomputable def Al (K:FG) (f:IF):TI:=fun σ H R=>∃ H0 Z0 ρ pd xs ρ',SR K H0 Z0 σ H ρ pd/\f ρ=some (xs,ρ')/\∀ J H' pd',SR K H0 Z0 σ H' ρ' pd'->mK K H0 Z0 pd' J xs->List.Sublist pd pd'->R J H'
theorem PI.imp {tg iter:Expr} {t t':TI} (h:PI X tg iter t) (i:∀ σ H R,t' σ H R->t σ H R):PI X tg iter t':=fun pins s σ H R I q=>h pins s σ H R I (i σ H R q)
noncomputable def d7 (f:EF) (g:PV->Option (List PV)):IF:=fun ρ=>(f ρ).bind fun x=>(g x.1.pv).map fun xs=>(xs,x.2)
theorem J0 {H0:Hp} {a:Addr} {ps:List PV}:mK K H0 Z0 ((.ref a,.sh (.lst ps))::pd) (Oi K a) ps:=by
 intro σ H ρ i s
 obtain ⟨Z,z,r⟩:=s.rep
 unfold Rep at r
 obtain ⟨b,vs,e,h1,h2⟩:=r
 cases e
 have hq:=bY.same z h1
 refine ⟨fun x hx=>?_,fun hl=>⟨vs,hq,by rw [h2.length]; omega⟩⟩
 obtain ⟨v,hv,rv⟩:=h2.get hx
 refine ⟨⟨vs,v,hq,hv⟩,fun v' H' y=>?_⟩
 obtain ⟨e',y⟩:=y
 subst e'
 have:=y vs hq
 rw [hv] at this; cases this
 refine s.part fun Z' z' r'=>?_
 unfold Rep at r'
 obtain ⟨b',vs',e',h1',h2'⟩:=r'
 cases e'
 have:vs'[i]?=some v:=y vs' (bY.same z' h1')
 obtain ⟨p',hp',rp'⟩:=h2'.getV this
 rw [hx] at hp'; cases hp'
 exact rp'
theorem MN {H0:Hp} {a:Addr} {ps:List PV}:mK K H0 Z0 ((.ref a,.sh (.tup ps))::pd) (Oj K a) ps:=by
 intro σ H ρ i s
 obtain ⟨Z,z,r⟩:=s.rep
 unfold Rep at r
 obtain ⟨b,vs,e,h1,h2⟩:=r
 cases e
 have hq:=cW.same z h1
 refine ⟨fun x hx=>?_,fun hl=>⟨vs,hq,by rw [h2.length]; omega⟩⟩
 obtain ⟨v,hv,rv⟩:=h2.get hx
 refine ⟨⟨vs,v,hq,hv⟩,fun v' H' y=>?_⟩
 obtain ⟨e',y⟩:=y
 subst e'
 have:=y vs hq
 rw [hv] at this; cases this
 refine s.part fun Z' z' r'=>?_
 unfold Rep at r'
 obtain ⟨b',vs',e',h1',h2'⟩:=r'
 cases e'
 have:vs'[i]?=some v:=y vs' (cW.same z' h1')
 obtain ⟨p',hp',rp'⟩:=h2'.getV this
 rw [hx] at hp'; cases hp'
 exact rp'
noncomputable def fW (lo:Int) (n:Nat):List PV:=(List.range n).map fun i=>.int (lo+(i:Nat))
noncomputable def fM (a:AF):IF:=fun ρ=>(a ρ).bind fun y=>match y.1.map Lc.pv with
 | [.int j]=>if -(2 ^ 62)<=j/\j<2 ^ 62 then some (fW 0 j.toNat,y.2) else none
 | _=>none
noncomputable def vm (a:AF):IF:=fun ρ=>(a ρ).bind fun y=>match y.1.map Lc.pv with
 | [.int i,.int j]=>if -(2 ^ 62)<=i/\i<2 ^ 62/\-(2 ^ 62)<=j/\j<2 ^ 62 then some (fW i (j-i).toNat,y.2) else none
 | _=>none
theorem CK {H0:Hp} {lo:Int} {n:Nat}:mK K H0 Z0 pd (Jk lo n) (fW lo n):=by
 intro σ H ρ i s
 refine ⟨fun x hx=>?_,fun hl=>?_⟩
 . have hi:i<n:=by
    have:=(List.getElem?_eq_some_iff.mp hx).1
    simpa [fW] using this
   refine ⟨hi,fun v H' y=>?_⟩
   obtain ⟨rfl,rfl⟩:=y
   unfold fW at hx
   rw [List.getElem?_map,List.getElem?_range hi] at hx
   cases hx
   exact s.scal eG
 . show n<=i
   simp [fW] at hl
   omega
theorem SR.ints {vs:List V} {ls:List Lc} {ns:List Int} (s:SR K H0 Z0 σ H ρ (vs.zip ls++pd)) (e:vs.length=ls.length) (h:ls.map Lc.pv=ns.map PV.int):vs=ns.map V.int/\SR K H0 Z0 σ H ρ pd:=by
 obtain ⟨el,Z,hg,z,r,sl'⟩:=s.repl e
 refine ⟨?_,el,Z,hg,z,sl'⟩
 rw [h] at r
 clear h e s sl'
 induction ns generalizing vs with
 | nil=>exact r.inv0
 | cons n ns ih=>
  obtain ⟨v,w,rfl,h1,h2⟩:=r.inv
  rw [bF h1,ih h2]
  rfl
theorem nU {tg a:Expr} {f:AF} {p pos:Pos} (hg:Gl X "range") (hm:X.mg "range" = none) (ha:PA X [a] (jk X.K f)) (hs:starEach [a] X.env=[(false,eval a X.env)]:=by rfl):PI X tg (.Call (.Name "range" p) [a] [] pos) (Al X.K (fM f)):=PI.imp (Jm hg hm ha hs) fun σ H R q=>by
 obtain ⟨H0,Z0,ρ,pd,xs,ρ',s,h,k⟩:=q
 obtain ⟨y,h1,h2⟩:=bind_some h
 refine ⟨H0,Z0,ρ,pd,y.1,y.2,s,h1,fun vs H1 e1 s1=>?_⟩
 split at h2
 . rename_i j e
   split at h2
   . rename_i hj
     cases h2
     obtain ⟨rfl,s2⟩:=s1.ints (ns:=[j]) e1 e
     exact ⟨j,rfl,hj.1,hj.2,k _ _ _ s2 CK (List.Sublist.refl _)⟩
   . cases h2
 . cases h2
theorem J1 {tg a b:Expr} {f:AF} {p pos:Pos} (hi:PI X tg (.Call (.Name "range" p) [a,b] [] pos) (Ol (jk X.K f))):PI X tg (.Call (.Name "range" p) [a,b] [] pos) (Al X.K (vm f)):=PI.imp hi fun σ H R q=>by
 obtain ⟨H0,Z0,ρ,pd,xs,ρ',s,h,k⟩:=q
 obtain ⟨y,h1,h2⟩:=bind_some h
 refine ⟨H0,Z0,ρ,pd,y.1,y.2,s,h1,fun vs H1 e1 s1=>?_⟩
 split at h2
 . rename_i i j e
   split at h2
   . rename_i hj
     cases h2
     obtain ⟨rfl,s2⟩:=s1.ints (ns:=[i,j]) e1 e
     exact ⟨i,j,rfl,hj,k _ _ _ s2 CK (List.Sublist.refl _)⟩
   . cases h2
 . cases h2
noncomputable def dG (b:BF) (body:SF):List PV->SF
 | [],ρ=>some (.nx ρ)
 | x::xs,ρ=>(b x ρ).bind fun ρ1=>(body ρ1).bind fun fl=>match fl with
  | .nx ρ'=>dG b body xs ρ'
  | .ct ρ'=>dG b body xs ρ'
  | .bk ρ'=>some (.nx ρ')
  | .rt r ρ'=>some (.rt r ρ')
noncomputable def gw (f:IF) (b:BF) (body:SF):SF:=fun ρ=>(f ρ).bind fun y=>dG b body y.1 y.2
theorem qT {P:Prop} (h:∀ G:Prop,(P->G)->G):P:=h P id
noncomputable def FW (K:FG) (H0:Hp) (Z0:ZG) (pd:Pd) (b:BF) (fb:SF) (xs:List PV) (fl:Fl) (i m:Nat) (σ:L2.St) (H:Hp):Prop:=m=xs.length-i/\i<=xs.length/\∃ ρ,SR K H0 Z0 σ H ρ pd/\dG b fb (xs.drop i) ρ=some fl
theorem v7 {g:TG} {b:BF} {fb:SF} (hb:GS K g b) {J:It} {xs:List PV} {fl:Fl} {D:Ends} (it:mK K H0 Z0 pd J xs) (k:mJ K H0 Z0 pd D fl) (s:SR K H0 Z0 σ H ρ pd) (h:dG b fb xs ρ=some fl):
 ∃ W:Nat->Nat->L2.St->Hp->Prop,(∃ m,W 0 m σ H)/\∀ i m σ H,W i m σ H->
  (J.stop i H/\D.nx σ H)\/(J.go i H/\∃ N:L2.St->Hp->Prop,(∀ σ' H',N σ' H'->∃ m',m'<m/\W (i+1) m' σ' H')/\∀ x H',J.yld i H x H'->g x σ H' fun σ2 H2=>dZ K fb { D with nx:=N,ct:=N,bk:=D.nx } σ2 H2):=by
 refine ⟨FW K H0 Z0 pd b fb xs fl,⟨_,rfl,Nat.zero_le _,ρ,s,h⟩,fun i m σ' H' w=>?_⟩
 refine qT fun G kG=>?_
 obtain ⟨rfl,hi,ρ',s',h'⟩:=w
 obtain ⟨i1,i2⟩:=it σ' H' ρ' i s'
 by_cases hlt:i<xs.length
 . obtain ⟨go,yl⟩:=i1 _ (List.getElem?_eq_getElem hlt)
   rw [List.drop_eq_getElem_cons hlt] at h'
   obtain ⟨ρ1,e1,e2⟩:=bind_some h'
   obtain ⟨fl1,e3,e4⟩:=bind_some e2
   refine kG (.inr ⟨go,fun σ'' H''=>FW K H0 Z0 pd b fb xs fl (i+1) (xs.length-(i+1)) σ'' H'',fun σ'' H'' w=>⟨_,by omega,w⟩,fun x H2 hy=>hb H0 Z0 σ' H2 ρ' pd x _ ρ1 _ (yl x H2 hy) e1 fun σ2 s2=>⟨H0,Z0,ρ1,pd,fl1,s2,e3,?_⟩⟩)
   cases fl1 with
   | nx ρ2=>exact fun σ3 H3 s3=>⟨rfl,hlt,ρ2,s3,e4⟩
   | ct ρ2=>exact fun σ3 H3 s3=>⟨rfl,hlt,ρ2,s3,e4⟩
   | bk ρ2=>cases e4; exact k
   | rt r ρ2=>cases e4; exact k
 . have e:i=xs.length:=Nat.le_antisymm hi (Nat.le_of_not_lt hlt)
   subst e
   rw [List.drop_length] at h'
   cases h'
   exact kG (.inl ⟨i2 rfl,k σ' H' s'⟩)
theorem mJ.imp {H0:Hp} {Z0 Z₁:ZG} {pd pd':Pd} {D:Ends} {fl:Fl} (k:mJ K H0 Z0 pd D fl) (w:∀ {τ:L2.St} {J:Hp} {q:Ev},SR K H0 Z₁ τ J q pd'->SR K H0 Z0 τ J q pd) (w':∀ {τ:L2.St} {J:Hp} {q:Ev} {e:V×Lc},SR K H0 Z₁ τ J q (e::pd')->SR K H0 Z0 τ J q (e::pd)):mJ K H0 Z₁ pd' D fl:=by
 cases fl with
 | rt r ρ=>exact fun v σ H s=>k v σ H (w' s)
 | _=>exact fun σ H s=>k σ H (w s)
theorem lu {tg iter:Expr} {body:List Stmt} {f:IF} {g:TG} {b:BF} {fb:SF} {pos:Pos} (hp:PassesOwn (model X.prog X.w) X.A X.env X.xe) (hc:X.calm=true) (hi:PI X tg iter (Al X.K f)) (hg:PG X tg g) (hb':GS X.K g b) (hb:dg X body (dZ X.K fb))
 (hs:∀ x,foldedSetIterable iter X.env x=pure x:=by intro _; rfl):PS X (.For tg iter body [] pos) (dZ X.K (gw f b fb)):=PS.imp (wO hp hc hi hg hb hs) fun D σ H q=>by
 refine qT fun G kG=>?_
 obtain ⟨H0,Z0,ρ,pd,fl,s,h,k⟩:=q
 obtain ⟨y,h1,h2⟩:=bind_some h
 exact kG ⟨H0,Z0,ρ,pd,y.1,y.2,s,h1,fun J H1 pd' s1 it sub=>v7 hb' it (k.imp (fun s=>s.sub sub) fun s=>s.sub (sub.cons_cons _)) s1 h2⟩
noncomputable def lw (c:TF) (body:SF):Nat->SF
 | 0,_=>none
 | n+1,ρ=>(c ρ).bind fun x=>if x.1=true then (body x.2).bind fun fl=>match fl with
  | .nx ρ'=>lw c body n ρ'
  | .ct ρ'=>lw c body n ρ'
  | .bk ρ'=>some (.nx ρ')
  | .rt r ρ'=>some (.rt r ρ') else some (.nx x.2)
noncomputable def xG (n:Nat) (c:TF) (body:SF):SF:=lw c body n
theorem v8 (n:Nat) {c:Expr} {body:List Stmt} {fc:TF} {fb:SF} {pos:Pos} (hp:PassesOwn (model X.prog X.w) X.A X.env X.xe) (hc:PT X c (fL X.K fc)) (hb:dg X body (dZ X.K fb)):PS X (.While c body [] pos) (dZ X.K (xG n fc fb)):=PS.imp (Li hp hc hb) fun D σ H q=>by
 obtain ⟨H0,Z0,ρ,pd,fl,s,h,k⟩:=q
 refine ⟨fun m σ' H'=>∃ ρ',SR X.K H0 Z0 σ' H' ρ' pd/\lw fc fb m ρ'=some fl,⟨n,ρ,s,h⟩,?_⟩
 rintro m σ' H' ⟨ρ',s',h'⟩
 cases m with
 | zero=>cases h'
 | succ m=>
  obtain ⟨x,e1,e2⟩:=bind_some h'
  refine ⟨H0,Z0,ρ',pd,x.1,x.2,s',e1,fun H1 s1=>?_⟩
  dsimp only
  split
  . rename_i hx
    rw [if_pos hx] at e2
    obtain ⟨fl1,e3,e4⟩:=bind_some e2
    refine ⟨fun σ'' H''=>∃ ρ'',SR X.K H0 Z0 σ'' H'' ρ'' pd/\lw fc fb m ρ''=some fl,fun σ'' H'' q=>⟨m,Nat.lt_succ_self _,q⟩,H0,Z0,x.2,pd,fl1,s1,e3,?_⟩
    cases fl1 with
    | nx ρ2=>exact fun σ3 H3 s3=>⟨ρ2,s3,e4⟩
    | ct ρ2=>exact fun σ3 H3 s3=>⟨ρ2,s3,e4⟩
    | bk ρ2=>cases e4; exact fun σ3 H3 s3=>k σ3 H3 s3
    | rt r ρ2=>cases e4; exact fun v σ3 H3 s3=>k v σ3 H3 s3
  . rename_i hx
    rw [if_neg hx] at e2
    cases e2
    exact k σ' H1 s1
end
section
variable {K:FG} {H0 H H':Hp} {Z0 Z:ZG} {σ:L2.St} {ρ:Ev} {pd pe:Pd} {v w:V} {l:Lc} {p:PV} {g:List Addr}
noncomputable def Ev.app (ρ:Ev) (pe:Pd):Ev:=⟨ρ.vs++pe.map (fun x=>some x.2),ρ.mu⟩
theorem CP (e:σ.length=ρ.vs.length):sl g (σ++pe.map fun x=>some x.1) (ρ.app pe) pd=sl g σ ρ (pe++pd):=by
 unfold sl Ev.app
 rw [List.zip_append e,List.map_append,List.append_assoc]
 congr 3
 induction pe with
 | nil=>rfl
 | cons a r ih=>simp [ih]
theorem SR.shift (h:SR K H0 Z0 σ H ρ (pe++pd)):SR K H0 Z0 (σ++pe.map fun x=>some x.1) H (ρ.app pe) pd:=by
 obtain ⟨e,Z,hg,z,s⟩:=h
 refine ⟨by simp [Ev.app,e],Z,hg,z,?_⟩
 rw [CP e]
 exact s
theorem SR.unshift (e:σ.length=ρ.vs.length) (h:SR K H0 Z0 (σ++pe.map fun x=>some x.1) H (ρ.app pe) pd):SR K H0 Z0 σ H ρ (pe++pd):=by
 obtain ⟨_,Z,hg,z,s⟩:=h
 refine ⟨e,Z,hg,z,?_⟩
 rw [CP e] at s
 exact s
theorem mK.more {J:It} {xs:List PV} (h:mK K H0 Z0 pd J xs):mK K H0 Z0 (pe++pd) J xs:=by
 intro σ H ρ i s
 obtain ⟨h1,h2⟩:=h _ H _ i s.shift
 refine ⟨fun x hx=>?_,h2⟩
 obtain ⟨g,y⟩:=h1 x hx
 refine ⟨g,fun v H' q=>?_⟩
 have s':=y v H' q
 have e:σ.length=ρ.vs.length:=s.1
 have s2:SR K H0 Z0 (σ++pe.map fun x=>some x.1) H' (ρ.app pe) ((v,.sh x)::pd):=s'
 exact (SR.unshift e s2).perm (pd':=(v,.sh x)::(pe++pd)) List.perm_middle.symm
noncomputable def oG (σ:L2.St) (ρ:Ev):Pd:=(σ.zip ρ.vs).filterMap fun e=>match e with
 | (some v,some l)=>some (v,l)
 | _=>none
theorem sV:∀ {L:Sl},(∀ e∈L,e.2=none\/∃ v l,e=(some v,some l))->∀ {T:Sl},
 (Slots K H0 Z H (L++T) ↔ Slots K H0 Z H ((L.filterMap fun e=>match e with | (some v,some l)=>some (v,l) | _=>none).map (fun e=>((some e.1:Option V),(some e.2:Option Lc)))++T))
 | [],_,T=>by simp
 | (v,l)::L,h,T=>by
  have h':∀ e∈L,e.2=none\/∃ v l,e=(some v,some l):=fun e he=>h e (List.mem_cons_of_mem _ he)
  rcases h (v,l) List.mem_cons_self with e | ⟨v',l',e⟩
  . have e':l=none:=e
    subst e'
    have e1:((v,(none:Option Lc))::L).filterMap (fun e=>match e with | (some v,some l)=>some (v,l) | _=>none)=L.filterMap (fun e=>match e with | (some v,some l)=>some (v,l) | _=>none):=by
     rw [List.filterMap_cons_none]
     cases v<;>rfl
    rw [e1,← sV h' (T:=T)]
    have o1:jM (v,none)=none:=by
     cases v with
     | none=>rfl
     | some x=>cases x<;>rfl
    constructor
    . exact fun s=>s.sub (List.sublist_cons_self _ _)
    . intro s
      refine ⟨fun e he=>?_,?_⟩
      . rcases List.mem_cons.mp he with rfl | he
        . trivial
        . exact s.1 e he
      . rw [List.cons_append,List.filterMap_cons_none o1]
        exact s.2
  . cases e
    have e1:((some v',some l')::L).filterMap (fun e=>match e with | (some v,some l)=>some (v,l) | _=>none)=(v',l')::L.filterMap (fun e=>match e with | (some v,some l)=>some (v,l) | _=>none):=by
     rfl
    rw [e1]
    have ih1:=sV h' (T:=T++[(some v',some l')])
    have perm1:∀ A:Sl,List.Perm ((some v',some l')::(A++T)) (A++(T++[(some v',some l')])):=fun A=>by
     rw [← List.append_assoc]
     exact (List.perm_append_singleton _ _).symm
    constructor
    . intro s
      exact (ih1.mp (s.perm (perm1 L).symm)).perm (perm1 _)
    . intro s
      exact (ih1.mpr (s.perm (perm1 _).symm)).perm (perm1 L)
theorem SR.both (s:SR K H0 Z0 σ H ρ pd):∀ e∈σ.zip ρ.vs,e.2=none\/∃ v l,e=(some v,some l):=by
 obtain ⟨_,Z,_,z,s⟩:=s
 intro e he
 have q:=s.1 e (List.mem_append_right _ (List.mem_append_left _ he))
 obtain ⟨v,l⟩:=e
 cases l with
 | none=>exact .inl rfl
 | some l=>
  cases l with
  | sh p=>obtain ⟨x,e1,_⟩:=q; have e1':v=some x:=e1; subst e1'; exact .inr ⟨_,_,rfl⟩
  | own p=>obtain ⟨x,e1,_⟩:=q; have e1':v=some (.ref x):=e1; subst e1'; exact .inr ⟨_,_,rfl⟩
theorem Am (hb:∀ e∈σ.zip ρ.vs,e.2=none\/∃ v l,e=(some v,some l)):Slots K H0 Z H (sl g σ ρ pd) ↔ Slots K H0 Z H (cel g ρ.mu++(oG σ ρ++pd).map fun e=>(some e.1,some e.2)):=by
 have h1:=sV (K:=K) (H0:=H0) (Z:=Z) (H:=H) hb (T:=(pd.map fun e=>(some e.1,some e.2))++cel g ρ.mu)
 have c1:List.Perm (sl g σ ρ pd) (σ.zip ρ.vs++((pd.map fun e=>(some e.1,some e.2))++cel g ρ.mu)):=by
  unfold sl
  rw [← List.append_assoc (σ.zip ρ.vs)]
  exact List.perm_append_comm
 have c2:List.Perm (cel g ρ.mu++(oG σ ρ++pd).map fun e=>((some e.1:Option V),(some e.2:Option Lc))) ((oG σ ρ).map (fun e=>(some e.1,some e.2))++((pd.map fun e=>(some e.1,some e.2))++cel g ρ.mu)):=by
  rw [List.map_append,← List.append_assoc ((oG σ ρ).map _)]
  exact List.perm_append_comm
 exact ⟨fun s=>(h1.mp (s.perm c1.symm)).perm c2,fun s=>(h1.mpr (s.perm c2.symm)).perm c1⟩
theorem SR.back {σ':L2.St} {ρ':Ev} (el:σ.length=ρ.vs.length) (hb:∀ e∈σ.zip ρ.vs,e.2=none\/∃ v l,e=(some v,some l)) (s:SR K H0 Z0 σ' H ρ' (oG σ ρ++pd)):SR K H0 Z0 σ H ⟨ρ.vs,ρ'.mu⟩ pd:=by
 obtain ⟨_,Z,hg,z,s⟩:=s
 refine ⟨el,Z,hg,z,(Am (ρ:=⟨ρ.vs,ρ'.mu⟩) hb).mpr ?_⟩
 exact s.sub ((List.Sublist.refl _).append (List.sublist_append_right _ _))
noncomputable def iK (ixs:List Nat) (ρ:Ev):Ev:=ixs.foldl (fun ρ i=>match ρ.vs[i]? with
 | some (some l)=>ρ.set i (some (.sh l.pv))
 | _=>ρ) ρ
theorem SR.frz:∀ {ixs:List Nat} {ρ:Ev},SR K H0 Z0 σ H ρ pd->SR K H0 Z0 σ H (iK ixs ρ) pd
 | [],ρ,s=>s
 | i::r,ρ,s=>by
  unfold iK
  rw [List.foldl_cons]
  refine SR.frz (ixs:=r) ?_
  split
  . rename_i l e
    obtain ⟨v,_,h2⟩:=s.var e
    exact h2.pop
  . exact s
noncomputable def v9:Option Lc->Bool
 | some (.own _)=>false
 | _=>true
theorem CQ {j:Nat}:∀ {ixs:List Nat} {ρ:Ev},v9 (ρ.vs[j]?).join=true->v9 ((iK ixs ρ).vs[j]?).join=true
 | [],ρ,h=>h
 | i::r,ρ,h=>by
  unfold iK
  rw [List.foldl_cons]
  refine CQ (ixs:=r) ?_
  split
  . rename_i l e
    by_cases hij:i=j
    . subst hij
      have hi:=(List.getElem?_eq_some_iff.mp e).1
      show v9 ((ρ.vs.set i _)[i]?).join=true
      rw [List.getElem?_set_self hi]
      rfl
    . show v9 ((ρ.vs.set i _)[j]?).join=true
      rw [List.getElem?_set_ne hij]; exact h
  . exact h
theorem J2 {j:Nat}:∀ {ixs:List Nat} {ρ:Ev},j∈ixs->v9 ((iK ixs ρ).vs[j]?).join=true
 | [],ρ,h=>by cases h
 | i::r,ρ,h=>by
  unfold iK
  rw [List.foldl_cons]
  rcases List.mem_cons.mp h with e | h
  . subst e
    refine CQ (ixs:=r) ?_
    split
    . rename_i l e
      have hi:=(List.getElem?_eq_some_iff.mp e).1
      show v9 ((ρ.vs.set j _)[j]?).join=true
      rw [List.getElem?_set_self hi]
      rfl
    . rename_i hn
      cases q:ρ.vs[j]? with
      | none=>rfl
      | some o=>
       cases o with
       | none=>rfl
       | some l=>exact (hn l q).elim
  . exact J2 h
noncomputable def pP (m:Nat) (ixs:List Nat) (ρ:Ev):Ev:=⟨List.replicate m none++ixs.map fun i=>(ρ.vs[i]?).join,ρ.mu⟩
theorem SR.block {m:Nat} {ixs:List Nat} (s:SR K H0 Z0 σ H ρ pd) (hs:∀ j∈ixs,v9 (ρ.vs[j]?).join=true):SR K H0 Z0 (ut m ixs σ) H (pP m ixs ρ) (oG σ ρ++pd):=by
 have hb:=s.both
 obtain ⟨el,Z,hg,z,so⟩:=s
 refine ⟨by simp [ut,pP],Z,hg,z,?_⟩
 have s3:=(Am hb).mp so
 have fin:Slots K H0 Z H ((ixs.map fun i=>(σ[i]?).join).zip (ixs.map fun i=>(ρ.vs[i]?).join)++(cel Z.g ρ.mu++(oG σ ρ++pd).map fun e=>(some e.1,some e.2)))->Slots K H0 Z H (sl Z.g (ut m ixs σ) (pP m ixs ρ) (oG σ ρ++pd)):=fun h=>by
  unfold sl ut pP
  rw [List.zip_append (by simp),List.append_assoc]
  refine (nones h m).perm ?_
  exact (BK _ _ _).trans ((BK _ _ _).append_left _)
 refine fin ?_
 clear fin
 induction ixs with
 | nil=>simpa using s3
 | cons i r ih=>
  have ih':=ih fun j hj=>hs j (List.mem_cons_of_mem _ hj)
  rw [List.map_cons,List.map_cons,List.zip_cons_cons,List.cons_append]
  have h1:=hs i List.mem_cons_self
  cases q:ρ.vs[i]? with
  | none=>
   refine ⟨fun e he=>?_,?_⟩
   . rcases List.mem_cons.mp he with rfl | he
     . trivial
     . exact ih'.1 e he
   . rw [List.filterMap_cons_none]
     . exact ih'.2
     . cases (σ[i]?).join with
       | none=>rfl
       | some x=>cases x<;>rfl
  | some o=>
   cases o with
   | none=>
    refine ⟨fun e he=>?_,?_⟩
    . rcases List.mem_cons.mp he with rfl | he
      . trivial
      . exact ih'.1 e he
    . rw [List.filterMap_cons_none]
      . exact ih'.2
      . cases (σ[i]?).join with
        | none=>rfl
        | some x=>cases x<;>rfl
   | some l=>
    rw [q] at h1
    cases l with
    | own p=>cases h1
    | sh p=>
     have hi:i<σ.length:=by rw [el]; exact (List.getElem?_eq_some_iff.mp q).1
     have hσ:σ[i]?=some σ[i]:=List.getElem?_eq_getElem hi
     have hm:=List.mem_of_getElem? (zip_get hσ q)
     obtain ⟨x,e1,e2⟩:=so.1 _ (List.mem_append_right _ (List.mem_append_left _ hm))
     have e1':σ[i]=some x:=e1
     have ej:(σ[i]?).join=some x:=by rw [hσ,e1']; rfl
     rw [ej]
     exact ih'.consS e2
end
theorem SR.pushO {v:V} {l:Lc} {a:Addr} {ws:List PV} (s:SR K H0 Z0 σ H ρ ((v,l)::(.ref a,.own (.lst ws))::pd)):
 ∃ us,H a=some (.lst us)/\us.length=ws.length/\SR K H0 Z0 σ (upd H a (.lst (us++[v]))) ρ ((.ref a,.own (.lst (ws++[l.pv])))::pd):=by
 obtain ⟨el,Z,hg,z,r,so⟩:=s.freeze.sh
 have so2:=so.perm cU.symm
 obtain ⟨b,eb,⟨us,hu,hr⟩,_⟩:=so2.1 _ List.mem_cons_self
 cases eb
 refine ⟨us,hu,hr.length,?_⟩
 obtain ⟨z',s'⟩:=so2.write (o:=.lst (us++[v])) (q:=.lst (ws++[l.pv])) z ⟨us++[v],bj,hr.append (aG.cons r .nil)⟩
 exact .mk el hg z' s'
noncomputable def fO (b:BF) (tc:TF) (te:EF):List PV->Ev->List PV->Option (List PV×Mu)
 | [],ρ,acc=>some (acc,ρ.mu)
 | x::xs,ρ,acc=>(b x ρ).bind fun ρ1=>(tc ρ1).bind fun c=>if c.1=true then (te c.2).bind fun v=>if acc.length<100000 then fO b tc te xs v.2 (acc++[v.1.pv]) else none else fO b tc te xs c.2 acc
noncomputable def b7 (f:IF) (m:Nat) (ixs:List Nat) (b:BF) (tc:TF) (te:EF):EF:=fun ρ=>(f ρ).bind fun y=>(fO b tc te y.1 (pP m ixs (iK ixs y.2)) []).map fun ys=>(.own (.lst ys.1),⟨(iK ixs y.2).vs,ys.2⟩)
noncomputable def CW (K:FG) (H0:Hp) (Z0:ZG) (b:BF) (tc:TF) (te:EF) (p:Addr) (PD:Pd) (xs:List PV) (zs:List PV×Mu) (i n:Nat) (σ':L2.St) (H':Hp):Prop:=
 n=xs.length-i/\i<=xs.length/\∃ ρi ws,SR K H0 Z0 σ' H' ρi ((.ref p,.own (.lst ws))::PD)/\fO b tc te (xs.drop i) ρi ws=some zs
theorem J3 {g:TG} {b:BF} {tc:TF} {te:EF} (hb:GS K g b) {H0:Hp} {p:Addr} {PD:Pd} {J:It} {xs:List PV} {zs:List PV×Mu} {Q:VK}
 (it:∀ ws,mK K H0 Z0 ((.ref p,.own (.lst ws))::PD) J xs) (fin:∀ σ' H' ρi ws,SR K H0 Z0 σ' H' ρi ((.ref p,.own (.lst ws))::PD)->fO b tc te [] ρi ws=some zs->Q (.ref p) H') (i n:Nat) (σ':L2.St) (H':Hp) (w:CW K H0 Z0 b tc te p PD xs zs i n σ' H'):
 (J.stop i H'/\Q (.ref p) H')\/(J.go i H'/\∀ x H2,J.yld i H' x H2->g x σ' H2 fun σ3 H3=>fL K tc σ3 H3 fun b' H4=>
   if b'=true then tP K te σ3 H4 fun v H5=>∃ ys,H5 p=some (.lst ys)/\ys.length<sizeLine/\∃ n',n'<n/\CW K H0 Z0 b tc te p PD xs zs (i+1) n' σ3 (upd H5 p (.lst (ys++[v])))
   else ∃ n',n'<n/\CW K H0 Z0 b tc te p PD xs zs (i+1) n' σ3 H4):=by
 refine qT fun G kG=>?_
 obtain ⟨rfl,hi,ρi,ws,s',h'⟩:=w
 obtain ⟨i1,i2⟩:=it ws σ' H' ρi i s'
 by_cases hlt:i<xs.length
 . obtain ⟨go,yl⟩:=i1 _ (List.getElem?_eq_getElem hlt)
   rw [List.drop_eq_getElem_cons hlt] at h'
   obtain ⟨ρ1,e1,e2⟩:=bind_some h'
   obtain ⟨c,e3,e4⟩:=bind_some e2
   have hn:xs.length-(i+1)<xs.length-i:=by omega
   refine kG (.inr ⟨go,fun x H2 hy=>hb H0 Z0 σ' H2 ρi _ x _ ρ1 _ (yl x H2 hy) e1 fun σ2 s5=>⟨H0,Z0,ρ1,_,c.1,c.2,s5,e3,fun H4 s6=>?_⟩⟩)
   dsimp only
   split
   . rename_i hc
     refine qT fun G kG=>?_
     rw [if_pos hc] at e4
     obtain ⟨v,e5,e6⟩:=bind_some e4
     split at e6
     . rename_i hz
       refine kG ⟨H0,Z0,c.2,_,v.1,v.2,s6,e5,fun vv H5 s7=>?_⟩
       refine qT fun G kG=>?_
       obtain ⟨us,hu,hl,s8⟩:=s7.pushO
       exact kG ⟨us,hu,by rw [hl,sizeLine_eq]; omega,_,hn,rfl,hlt,v.2,_,s8,e6⟩
     . cases e6
   . rename_i hc
     rw [if_neg hc] at e4
     exact ⟨_,hn,rfl,hlt,c.2,ws,s6,e4⟩
 . have e:i=xs.length:=Nat.le_antisymm hi (Nat.le_of_not_lt hlt)
   subst e
   rw [List.drop_length] at h'
   exact kG (.inl ⟨i2 rfl,fin _ _ _ _ s' h'⟩)
theorem CT {f:IF} {m:Nat} {ixs:List Nat} {g:TG} {b:BF} {tc:TF} {te:EF} (hb:GS K g b):∀ σ H Q,tP K (b7 f m ixs b tc te) σ H Q->Ht (Al K f) m ixs g (fL K tc) (tP K te) σ H Q:=fun σ H Q q=>by
 refine qT fun G kG=>?_
 obtain ⟨H0,Z0,ρ,pd,r,ρ',s,h,k⟩:=q
 obtain ⟨y,h1,h2⟩:=bind_some h
 obtain ⟨zs,h3,h4⟩:=map_some h2
 cases h4
 refine kG ⟨H0,Z0,ρ,pd,y.1,y.2,s,h1,fun J H1 pd' s1 it sub p hp=>?_⟩
 have s2:SR K H0 Z0 σ H1 (iK ixs y.2) pd':=s1.frz
 have s3:=s2.block (m:=m) (ixs:=ixs) fun j hj=>J2 hj
 have s4:SR K H0 Z0 (ut m ixs σ) (upd H1 p (.lst [])) (pP m ixs (iK ixs y.2)) ((.ref p,.own (.lst []))::(oG σ (iK ixs y.2)++pd')):=s3.newO hp fun Z _ _=>⟨[],bj,.nil⟩
 refine ⟨CW K H0 Z0 b tc te p (oG σ (iK ixs y.2)++pd') y.1 zs,⟨_,rfl,Nat.zero_le _,_,[],s4,h3⟩,J3 hb (fun ws=>mK.more (pe:=(.ref p,.own (.lst ws))::oG σ (iK ixs y.2)) it) fun σ' H' ρi ws s' h'=>?_⟩
 cases h'
 have s5:SR K H0 Z0 σ' H' ρi (oG σ (iK ixs y.2)++((.ref p,.own (.lst ws))::pd')):=s'.perm List.perm_middle
 exact k _ _ ((SR.back s2.1 s2.both s5).sub (sub.cons_cons _))
section
variable {X:Cx}
theorem nJ (M F:List Str) (ixs:List Nat) {sc:Scope} {tg iter elt:Expr} {ifs:List Expr} {f:IF} {g:TG} {b:BF} {tc:TF} {te:EF} {pos:Pos} (hcalm:X.calm=true) (c:ie X M F ixs sc) (hi:PI X tg iter (Al X.K f))
 (hg:∀ C fp s H,PG (dJ X M F sc C fp s H) tg g) (hb:GS X.K g b) (hc:∀ C fp s H,qQ (dJ X M F sc C fp s H) ifs (fL X.K tc)) (he:∀ C fp s H,PE (dJ X M F sc C fp s H) elt (tP X.K te))
 (hs:∀ x,foldedSetIterable iter X.env x=pure x:=by intro _; rfl):PE X (.ListComp elt [⟨tg,iter,ifs,0⟩] sc pos) (tP X.K (b7 f M.length ixs b tc te)):=PE.imp (Ql M F ixs hcalm c hi hg hc he hs) (CT hb)
theorem rC {i:Nat} (M F:List Str) (ixs:List Nat) {x:Str} {sc:Scope} {tg iter elt:Expr} {ifs:List Expr} {f:IF} {g:TG} {b:BF} {tc:TF} {te:EF} {pos pos' pos2:Pos} (hN:X.N.Nodup) (hix:X.N[i]?=some x) (hx:X.env.scope.names.lookup x=some .local)
 (hcalm:X.calm=true) (c:ie X M F ixs sc) (hi:PI X tg iter (Al X.K f))
 (hg:∀ C fp s H,PG (dJ X M F sc C fp s H) tg g) (hb:GS X.K g b) (hc:∀ C fp s H,qQ (dJ X M F sc C fp s H) ifs (fL X.K tc)) (he:∀ C fp s H,PE (dJ X M F sc C fp s H) elt (tP X.K te))
 (hsw:swapsWith (.ListComp elt [⟨tg,iter,ifs,0⟩] sc pos) (some (.Name x pos')) pos2.line X.env=pure true:=by rfl)
 (hs:∀ x,foldedSetIterable iter X.env x=pure x:=by intro _; rfl):PS X (.Assign [.Name x pos'] (.ListComp elt [⟨tg,iter,ifs,0⟩] sc pos) pos2) (dZ X.K (aL i (b7 f M.length ixs b tc te))):=
 PS.imp (Qm M F ixs hN hix hx hcalm c hi hg hc he hsw hs) (Ga fun D σ H q=>CT hb σ H _ q)
noncomputable def cM:TF:=fun ρ=>some (true,ρ)
theorem ju:qQ X [] (fL X.K cM):=fun pins s σ H Q I q=>Ml pins s σ H Q I (by
 obtain ⟨H0,Z0,ρ,pd,b,ρ',s,h,k⟩:=q
 cases h
 exact k H s)
theorem m8 {c:Expr} {f:TF} (h:PT X c (fL X.K f)):qQ X [c] (fL X.K f):=Mm h
end
noncomputable def pQ (f:PV->PV->Option Bool):List PV->List PV->Option Bool
 | p::ps,q::qs=>(f p q).bind fun b=>(pQ f ps qs).map fun c=>b&&c
 | _,_=>some true
noncomputable def bC:Nat->PV->PV->Option Bool
 | 0,_,_=>none
 | n+1,p,q=>match p,q with
  | .tup ps,.tup qs=>(pQ (bC n) ps qs).map fun b=>b&&(ps.length==qs.length)
  | .lst ps,.lst qs=>if ps.length=qs.length then pQ (bC n) ps qs else some false
  | .non,.non=>some true
  | .bl a,.bl b=>some (a==b)
  | .int a,.int b=>some (a==b)
  | .str a,.str b=>some (a==b)
  | .bl a,.int b=>some ((if a then 1 else 0)==b)
  | .int a,.bl b=>some (a==(if b then 1 else 0))
  | .non,.bl _=>some false
  | .non,.int _=>some false
  | .non,.str _=>some false
  | .non,.tup _=>some false
  | .non,.lst _=>some false
  | .bl _,.non=>some false
  | .bl _,.str _=>some false
  | .bl _,.tup _=>some false
  | .bl _,.lst _=>some false
  | .int _,.non=>some false
  | .int _,.str _=>some false
  | .int _,.tup _=>some false
  | .int _,.lst _=>some false
  | .str _,.non=>some false
  | .str _,.bl _=>some false
  | .str _,.int _=>some false
  | .str _,.tup _=>some false
  | .str _,.lst _=>some false
  | .tup _,.non=>some false
  | .tup _,.bl _=>some false
  | .tup _,.int _=>some false
  | .tup _,.str _=>some false
  | .tup _,.lst _=>some false
  | .lst _,.non=>some false
  | .lst _,.bl _=>some false
  | .lst _,.int _=>some false
  | .lst _,.str _=>some false
  | .lst _,.tup _=>some false
  | _,_=>none
theorem vo {f:PV->PV->Option Bool}:∀ {ps qs:List PV} {b:Bool},pQ f ps qs=some b->(∀ (j:Nat) p q,ps[j]?=some p->qs[j]?=some q->f p q=some ((f (ps.getD j .non) (qs.getD j .non)).getD false))/\
 b=(List.range (min ps.length qs.length)).all fun j=>(f (ps.getD j .non) (qs.getD j .non)).getD false
 | [],qs,b,h=>by
  cases h
  exact ⟨fun j p q e=>by simp at e,by simp⟩
 | p::ps,[],b,h=>by
  cases h
  exact ⟨fun j p q _ e=>by simp at e,by simp⟩
 | p::ps,q::qs,b,h=>by
  obtain ⟨c,h1,h2⟩:=bind_some h
  obtain ⟨d,h3,rfl⟩:=map_some h2
  obtain ⟨i1,i2⟩:=vo h3
  refine ⟨fun j p' q' e1 e2=>?_,?_⟩
  . cases j with
    | zero=>
     simp at e1 e2
     subst e1 e2
     simp [h1]
    | succ j=>
     have:=i1 j p' q' (by simpa using e1) (by simpa using e2)
     simpa using this
  . have e:min (p::ps).length (q::qs).length=min ps.length qs.length+1:=by simp only [List.length_cons]; omega
    rw [e,List.range_succ_eq_map,List.all_cons,List.all_map]
    have e0:(f ((p::ps).getD 0 .non) ((q::qs).getD 0 .non)).getD false=c:=by simp [h1]
    rw [e0,i2]
    rfl
theorem elts {Z:ZG} {ps:List PV} {vs:List V} {its:List Value} (r:aG K Z ps vs) (rv:Vals vs its) {j:Nat} (h:j<its.length):∃ p v,ps[j]?=some p/\Rep K Z p v/\RelV v its[j]:=by
 have hl:=rv.length
 have hv:vs[j]?=some vs[j]:=List.getElem?_eq_getElem (by omega)
 obtain ⟨u,e1,e2⟩:=rv.get hv
 rw [List.getElem?_eq_getElem h] at e1
 cases e1
 obtain ⟨p,e3,e4⟩:=r.getV hv
 exact ⟨p,vs[j],e3,e4,e2⟩
section
open PySem.SeqAt
variable {X:Cx} {pins:List (Addr×Obj)} {σ:L2.St} {H:Hp} {s:Shared} {g:List Addr}
theorem rD (I:Inv X pins σ H s) {ps:List PV} {v:V} {u:Value} (r:Rep X.K ⟨H,g⟩ (.tup ps) v) (ru:RelV v u):∃ a vs its,u=.ref a/\cW X.K H a vs/\aG X.K ⟨H,g⟩ ps vs/\Vals vs its/\s.heap.IsTuple a its.toArray:=by
 unfold Rep at r
 obtain ⟨a,vs,rfl,h1,h2⟩:=r
 obtain ⟨its,r1,t1,_⟩:=I.tuple h1
 exact ⟨a,vs,its,ru,h1,h2,r1,t1⟩
theorem nW (I:Inv X pins σ H s) {ps:List PV} {v:V} {u:Value} (r:Rep X.K ⟨H,g⟩ (.lst ps) v) (ru:RelV v u):∃ a vs its,u=.ref a/\bY X.K H a vs/\aG X.K ⟨H,g⟩ ps vs/\Vals vs its/\s.heap.IsList a its.toArray:=by
 unfold Rep at r
 obtain ⟨a,vs,rfl,h1,h2⟩:=r
 obtain ⟨its,r1,t1,_⟩:=I.list h1
 exact ⟨a,vs,its,ru,h1,h2,r1,t1.isList⟩
noncomputable def kn:PV->Nat
 | .non=>0 | .bl _=>1 | .int _=>2 | .str _=>3 | .tup _=>4 | .lst _=>5 | _=>6
theorem VL {p:PV} (h:kn p=4):∃ ps,p=.tup ps:=by cases p<;>first | exact ⟨_,rfl⟩ | cases h
theorem VM {p:PV} (h:kn p=5):∃ ps,p=.lst ps:=by cases p<;>first | exact ⟨_,rfl⟩ | cases h
theorem xH {n:Nat} {p q:PV} {b:Bool} (h:bC (n+1) p q=some b):kn p<6:=by
 cases p<;>first | cases h; done | exact Nat.le.step (Nat.le.step (Nat.le.step (Nat.le.step (Nat.le.step .refl)))) | exact Nat.le.step (Nat.le.step (Nat.le.step (Nat.le.step .refl))) | exact Nat.le.step (Nat.le.step (Nat.le.step .refl)) | exact Nat.le.step (Nat.le.step .refl) | exact Nat.le.step .refl | exact Nat.le.refl
theorem OJ {n:Nat} {p q:PV} {b:Bool} (h:bC (n+1) p q=some b):kn q<6:=by
 have no:bC (n+1) p q=none->kn q<6:=fun e=>absurd (h.symm.trans e) (Option.some_ne_none b)
 cases q with
 | dk _ _=>exact no (by cases p<;>rfl)
 | dt _ _=>exact no (by cases p<;>rfl)
 | obj _ _ _=>exact no (by cases p<;>rfl)
 | df _ _=>exact no (by cases p<;>rfl)
 | dtf _ _=>exact no (by cases p<;>rfl)
 | dx _ _ _=>exact no (by cases p<;>rfl)
 | exc _=>exact no (by cases p<;>rfl)
 | ptr _=>exact no (by cases p<;>rfl)
 | _=>first | exact Nat.le.step (Nat.le.step (Nat.le.step (Nat.le.step (Nat.le.step .refl)))) | exact Nat.le.step (Nat.le.step (Nat.le.step (Nat.le.step .refl))) | exact Nat.le.step (Nat.le.step (Nat.le.step .refl)) | exact Nat.le.step (Nat.le.step .refl) | exact Nat.le.step .refl | exact Nat.le.refl
noncomputable def back:V->Option PV
 | .non=>some .non | .bl b=>some (.bl b) | .int i=>some (.int i) | .str x=>some (.str x) | _=>none
inductive Sh (K:FG) (Z:ZG) (v:V):PV->Prop
 | at {p:PV}:back v=some p->Sh K Z v p
 | tup {a:Addr} {ps:List PV} {vs:List V}:v=.ref a->cW K Z.z a vs->aG K Z ps vs->Sh K Z v (.tup ps)
 | lst {a:Addr} {ps:List PV} {vs:List V}:v=.ref a->bY K Z.z a vs->aG K Z ps vs->Sh K Z v (.lst ps)
theorem BP {Z:ZG} {v:V} {p:PV} (r:Rep K Z p v) (h:kn p<6):Sh K Z v p:=by
 cases p with
 | non=>exact .at (congrArg back (gk r))
 | bl b=>exact .at (congrArg back (cP r))
 | int b=>exact .at (congrArg back (bF r))
 | str b=>exact .at (congrArg back (bR r))
 | tup ps=>unfold Rep at r; obtain ⟨a,vs,e,h1,h2⟩:=r; exact .tup e h1 h2
 | lst ps=>unfold Rep at r; obtain ⟨a,vs,e,h1,h2⟩:=r; exact .lst e h1 h2
 | _=>exact absurd h (Nat.lt_irrefl 6)
inductive Tw (K:FG) (Z:ZG):PV->PV->Prop
 | at {v:V} {p:PV}:back v=some p->Tw K Z p p
 | tup {ps qs:List PV} {vs:List V}:aG K Z ps vs->aG K Z qs vs->Tw K Z (.tup ps) (.tup qs)
 | lst {ps qs:List PV} {vs:List V}:aG K Z ps vs->aG K Z qs vs->Tw K Z (.lst ps) (.lst qs)
theorem O1 (I:Inv X pins σ H s) {a:Addr} {vs ws:List V} (h1:cW X.K H a vs) (h3:bY X.K H a ws):False:=by
 obtain ⟨its,r1,⟨o1,n1,g1,c1,_⟩,_⟩:=I.list h3
 obtain ⟨its2,r2,⟨o2,g2,c2,_⟩,_⟩:=I.tuple h1
 rw [g1] at g2
 cases g2
 rw [c1] at c2
 exact absurd c2 (by decide)
theorem sW {v:V} {a:Addr} {p:PV} (e:v=.ref a) (h:back v=some p):False:=by subst e; cases h
theorem Sh.two (I:Inv X pins σ H s) {p q:PV} {v:V} (h1:Sh X.K ⟨H,g⟩ v p) (h2:Sh X.K ⟨H,g⟩ v q):Tw X.K ⟨H,g⟩ p q:=by
 cases h1 with
 | «at» e=>
  cases h2 with
  | «at» e'=>exact (Option.some.inj (e.symm.trans e'))▸.at e
  | tup e'=>exact (sW e' e).elim
  | lst e'=>exact (sW e' e).elim
 | tup e k1 k2=>
  cases h2 with
  | «at» e'=>exact (sW e e').elim
  | tup e' m1 m2=>exact .tup k2 (I.tuple_inj k1 (V.ref.inj (e'.symm.trans e)▸m1)▸m2)
  | lst e' m1=>exact (O1 I k1 (V.ref.inj (e'.symm.trans e)▸m1)).elim
 | lst e k1 k2=>
  cases h2 with
  | «at» e'=>exact (sW e e').elim
  | tup e' m1=>exact (O1 I m1 (V.ref.inj (e.symm.trans e')▸k1)).elim
  | lst e' m1 m2=>exact .lst k2 (I.list_inj k1 (V.ref.inj (e'.symm.trans e)▸m1)▸m2)
theorem Th {n:Nat} {v:V} {p:PV} {b:Bool} (e:back v=some p) (h:bC (n+1) p p=some b):b=true:=by
 cases v with
 | non=>cases e; cases h; rfl
 | bl z=>cases e; cases h; exact beq_self_eq_true z
 | int z=>cases e; cases h; exact beq_self_eq_true z
 | str z=>cases e; cases h; exact beq_self_eq_true z
 | _=>cases e
theorem uC {f:PV->PV->Option Bool} {Z:ZG} (ih:∀ (p q:PV) (v:V) (b:Bool),Rep K Z p v->Rep K Z q v->f p q=some b->b=true):∀ {ps qs:List PV} {vs:List V} {c:Bool},aG K Z ps vs->aG K Z qs vs->pQ f ps qs=some c->c=true
 | [],qs,vs,c,a,b,h=>by cases h; rfl
 | p::ps,[],vs,c,a,b,h=>by cases h; rfl
 | p::ps,q::qs,vs,c,a,b,h=>by
  obtain ⟨w1,r1,e1,e2,e3⟩:=a.inv
  obtain ⟨w2,r2,f1,f2,f3⟩:=b.inv
  obtain ⟨g1,g2⟩:=List.cons.inj (e1.symm.trans f1)
  subst g1 g2
  obtain ⟨c,h1,h2⟩:=bind_some h
  obtain ⟨d,h3,rfl⟩:=map_some h2
  rw [ih _ _ _ _ e2 f2 h1,uC ih e3 f3 h3]
  rfl
theorem sX {f:PV->PV->Option Bool} {Z:ZG} (ih:∀ (p q r:PV) (v:V) (b c:Bool),Rep K Z p v->Rep K Z q v->f p r=some b->f q r=some c->b=c):∀ {ps qs rs:List PV} {vs:List V} {b c:Bool},aG K Z ps vs->aG K Z qs vs->pQ f ps rs=some b->pQ f qs rs=some c->b=c
 | [],[],rs,vs,b,c,_,_,h,k=>Option.some.inj (h.symm.trans k)
 | [],q::qs,rs,vs,b,c,a,b',h,k=>by
  obtain ⟨_,_,e,_⟩:=b'.inv
  exact absurd (a.inv0.symm.trans e) (by simp)
 | p::ps,[],rs,vs,b,c,a,b',h,k=>by
  obtain ⟨_,_,e,_⟩:=a.inv
  exact absurd (b'.inv0.symm.trans e) (by simp)
 | p::ps,q::qs,[],vs,b,c,a,b',h,k=>Option.some.inj (h.symm.trans k)
 | p::ps,q::qs,r::rs,vs,b,c,a,b',h,k=>by
  obtain ⟨w1,r1,e1,e2,e3⟩:=a.inv
  obtain ⟨w2,r2,f1,f2,f3⟩:=b'.inv
  obtain ⟨g1,g2⟩:=List.cons.inj (e1.symm.trans f1)
  subst g1 g2
  obtain ⟨x1,h1,h2⟩:=bind_some h
  obtain ⟨d1,h3,rfl⟩:=map_some h2
  obtain ⟨x2,k1,k2⟩:=bind_some k
  obtain ⟨d2,k3,rfl⟩:=map_some k2
  rw [ih _ _ _ _ _ _ e2 f2 h1 k1,sX ih e3 f3 h3 k3]
theorem eq_self (I:Inv X pins σ H s):∀ (n:Nat) {p q:PV} {v:V} {b:Bool},Rep X.K ⟨H,g⟩ p v->Rep X.K ⟨H,g⟩ q v->bC n p q=some b->b=true
 | 0,p,q,v,b,_,_,h=>by cases h
 | n+1,p,q,v,b,rp,rq,h=>by
  cases Sh.two I (BP rp (xH h)) (BP rq (OJ h)) with
  | «at» e=>exact Th e h
  | tup h2 h4=>
   obtain ⟨c,h5,rfl⟩:=map_some h
   rw [uC (fun _ _ _ _=>eq_self I n) h2 h4 h5,h2.length.symm.trans h4.length,beq_self_eq_true]
   rfl
  | lst h2 h4=>exact uC (fun _ _ _ _=>eq_self I n) h2 h4 ((if_pos (h2.length.symm.trans h4.length)).symm.trans h)
inductive U (s:Shared):PV->Value->Prop
 | non:U s .non .none
 | bl {b:Bool}:U s (.bl b) (.bool b)
 | int {i:Int} {t}:U s (.int i) (.int i t)
 | str {x:Str} {t}:U s (.str x) (.str x t)
 | tup {ps:List PV} {a:Addr} {its}:s.heap.IsTuple a its->U s (.tup ps) (.ref a)
 | lst {ps:List PV} {a:Addr} {its}:s.heap.IsList a its->U s (.lst ps) (.ref a)
theorem Ti (I:Inv X pins σ H s) {p:PV} {v:V} {u:Value} (r:Rep X.K ⟨H,g⟩ p v) (ru:RelV v u) (h:kn p<6):U s p u:=by
 cases p with
 | non=>cases gk r; cases ru; exact .non
 | bl b=>cases cP r; cases ru; exact .bl
 | int b=>cases bF r; obtain ⟨t,rfl⟩:=ru; exact .int
 | str b=>cases bR r; obtain ⟨t,rfl⟩:=ru; exact .str
 | tup ps=>obtain ⟨a,vs,its,rfl,_,_,_,x⟩:=rD I r ru; exact .tup x
 | lst ps=>obtain ⟨a,vs,its,rfl,_,_,_,x⟩:=nW I r ru; exact .lst x
 | _=>exact absurd h (Nat.lt_irrefl 6)
noncomputable def E3 (A:Around) (s:Shared) (x y:Value) (b:Bool):Prop:=EqAt A s x y b/\RcAt A s x y b/\RcNeAt A s x y (!b)
theorem E3.of {A:Around} {s:Shared} {x y:Value} {b c:Bool} (h:some c=some b) (e:EqAt A s x y c) (r:RcAt A s x y c) (q:RcNeAt A s x y (!c)):E3 A s x y b:=Option.some.inj h▸⟨e,r,q⟩
noncomputable def two (p q:PV):Bool:=kn p==kn q&&Nat.ble 4 (kn p)
theorem QB {A:Around} {p q:PV} {u1 u2:Value} {n:Nat} {b:Bool} (hu:A.units<cLine) (h1:U s p u1) (h2:U s q u2) (e:two p q=false) (h:bC (n+1) p q=some b):E3 A s u1 u2 b:=by
 cases h1 with
 | non=>
  cases h2 with
  | non=>exact E3.of h (EqAt.same .none) RcAt.none_none RcNeAt.none_none
  | bl=>exact E3.of h (EqAt.none_bool _) (RcAt.none_bool _) (RcNeAt.none_bool _)
  | int=>exact E3.of h (EqAt.none_int _ _) (RcAt.none_int _ _) (RcNeAt.none_int _ _)
  | str=>exact E3.of h (EqAt.none_str _ _) (RcAt.none_str _ _) (RcNeAt.none_str _ _)
  | tup x2=>exact E3.of h (EqAt.none_tuple x2 hu) (RcAt.none_tuple x2 hu) (RcNeAt.none_tuple x2 hu)
  | lst x2=>exact E3.of h (EqAt.none_list x2 hu) (RcAt.none_list x2 hu) (RcNeAt.none_list x2 hu)
 | bl=>
  cases h2 with
  | non=>exact E3.of h (EqAt.bool_none _) (RcAt.bool_none _) (RcNeAt.bool_none _)
  | bl=>exact E3.of h (EqAt.bool_bool _ _) (RcAt.bool_bool _ _) (RcNeAt.bool_bool _ _)
  | int=>exact E3.of h (EqAt.bool_int _ _ _) (RcAt.bool_int _ _ _) (RcNeAt.bool_int _ _ _)
  | str=>exact E3.of h (EqAt.bool_str _ _ _) (RcAt.bool_str _ _ _) (RcNeAt.bool_str _ _ _)
  | tup x2=>exact E3.of h (EqAt.bool_tuple _ x2 hu) (RcAt.bool_tuple _ x2 hu) (RcNeAt.bool_tuple _ x2 hu)
  | lst x2=>exact E3.of h (EqAt.bool_list _ x2 hu) (RcAt.bool_list _ x2 hu) (RcNeAt.bool_list _ x2 hu)
 | int=>
  cases h2 with
  | non=>exact E3.of h (EqAt.int_none _ _) (RcAt.int_none _ _) (RcNeAt.int_none _ _)
  | bl=>exact E3.of h (EqAt.int_bool _ _ _) (RcAt.int_bool _ _ _) (RcNeAt.int_bool _ _ _)
  | int=>exact E3.of h (EqAt.int_int _ _ _ _) (RcAt.int_int _ _ _ _) (RcNeAt.int_int _ _ _ _)
  | str=>exact E3.of h (EqAt.int_str _ _ _ _) (RcAt.int_str _ _ _ _) (RcNeAt.int_str _ _ _ _)
  | tup x2=>exact E3.of h (EqAt.int_tuple _ _ x2 hu) (RcAt.int_tuple _ _ x2 hu) (RcNeAt.int_tuple _ _ x2 hu)
  | lst x2=>exact E3.of h (EqAt.int_list _ _ x2 hu) (RcAt.int_list _ _ x2 hu) (RcNeAt.int_list _ _ x2 hu)
 | str=>
  cases h2 with
  | non=>exact E3.of h (EqAt.str_none _ _) (RcAt.str_none _ _) (RcNeAt.str_none _ _)
  | bl=>exact E3.of h (EqAt.str_bool _ _ _) (RcAt.str_bool _ _ _) (RcNeAt.str_bool _ _ _)
  | int=>exact E3.of h (EqAt.str_int _ _ _ _) (RcAt.str_int _ _ _ _) (RcNeAt.str_int _ _ _ _)
  | str=>exact E3.of h (EqAt.str_str _ _ _ _) (RcAt.str_str _ _ _ _) (RcNeAt.str_str _ _ _ _)
  | tup x2=>exact E3.of h (EqAt.str_tuple _ _ x2 hu) (RcAt.str_tuple _ _ x2 hu) (RcNeAt.str_tuple _ _ x2 hu)
  | lst x2=>exact E3.of h (EqAt.str_list _ _ x2 hu) (RcAt.str_list _ _ x2 hu) (RcNeAt.str_list _ _ x2 hu)
 | tup x1=>
  cases h2 with
  | non=>exact E3.of h (EqAt.tuple_none x1 hu) (RcAt.tuple_none x1 hu) (RcNeAt.tuple_none x1 hu)
  | bl=>exact E3.of h (EqAt.tuple_bool _ x1 hu) (RcAt.tuple_bool _ x1 hu) (RcNeAt.tuple_bool _ x1 hu)
  | int=>exact E3.of h (EqAt.tuple_int _ _ x1 hu) (RcAt.tuple_int _ _ x1 hu) (RcNeAt.tuple_int _ _ x1 hu)
  | str=>exact E3.of h (EqAt.tuple_str _ _ x1 hu) (RcAt.tuple_str _ _ x1 hu) (RcNeAt.tuple_str _ _ x1 hu)
  | tup x2=>cases e
  | lst x2=>exact E3.of h (EqAt.tuple_list x1 x2 hu) (RcAt.tuple_list x1 x2 hu) (RcNeAt.tuple_list x1 x2 hu)
 | lst x1=>
  cases h2 with
  | non=>exact E3.of h (EqAt.list_none x1 hu) (RcAt.list_none x1 hu) (RcNeAt.list_none x1 hu)
  | bl=>exact E3.of h (EqAt.list_bool _ x1 hu) (RcAt.list_bool _ x1 hu) (RcNeAt.list_bool _ x1 hu)
  | int=>exact E3.of h (EqAt.list_int _ _ x1 hu) (RcAt.list_int _ _ x1 hu) (RcNeAt.list_int _ _ x1 hu)
  | str=>exact E3.of h (EqAt.list_str _ _ x1 hu) (RcAt.list_str _ _ x1 hu) (RcNeAt.list_str _ _ x1 hu)
  | tup x2=>exact E3.of h (EqAt.list_tuple x1 x2 hu) (RcAt.list_tuple x1 x2 hu) (RcNeAt.list_tuple x1 x2 hu)
  | lst x2=>cases e
theorem sY {v:V} {a:Addr} (r:RelV v (.ref a)):v=.ref a:=by
 cases v with
 | ref b=>cases r; rfl
 | non=>cases r
 | bl _=>cases r
 | ty _=>cases r
 | _=>obtain ⟨t,e⟩:=r; cases e
theorem CV (I:Inv X pins σ H s) {n:Nat} {p q:PV} {a1 a2:Addr} {b:Bool} {A:Around} (rp:Rep X.K ⟨H,g⟩ p (.ref a1)) (rq:Rep X.K ⟨H,g⟩ q (.ref a2)) (h:bC n p q=some b) (rc:RcAt A s (.ref a1) (.ref a2) b):EqAt A s (.ref a1) (.ref a2) b:=by
 by_cases ea:a1=a2
 . subst ea
   exact eq_self I n rp rq h▸EqAt.same _
 . exact EqAt.of_refs ea rc
theorem xJ (I:Inv X pins σ H s):∀ (n:Nat) {p q:PV} {v w:V} {u1 u2:Value} {b:Bool},Rep X.K ⟨H,g⟩ p v->Rep X.K ⟨H,g⟩ q w->RelV v u1->RelV w u2->bC n p q=some b->∀ A:Around,A.units+n<cLine->
 EqAt A s u1 u2 b/\RcAt A s u1 u2 b/\RcNeAt A s u1 u2 (!b)
 | 0,p,q,v,w,u1,u2,b,_,_,_,_,h,_,_=>by cases h
 | n+1,p,q,v,w,u1,u2,b,rp,rq,r1,r2,h,A,hA=>by
  have hu:A.units<cLine:=Nat.lt_of_le_of_lt (Nat.le_add_right _ _) hA
  have hin:A.in1.units+n<cLine:=by show A.units+1+n<cLine; omega
  have item:∀ {ps qs:List PV} {vs ws:List V} {its its2:List Value} {c:Bool},aG X.K ⟨H,g⟩ ps vs->Vals vs its->aG X.K ⟨H,g⟩ qs ws->Vals ws its2->pQ (bC n) ps qs=some c->
   ∀ j (h1:j<its.toArray.size) (h2:j<its2.toArray.size),EqAt A.in1 s its.toArray[j] its2.toArray[j] ((bC n (ps.getD j .non) (qs.getD j .non)).getD false):=fun {ps qs vs ws its its2 c} a b c' d e j h1 h2=>by
   obtain ⟨p,v,e1,e2,e3⟩:=elts a b (j:=j) (by simpa using h1)
   obtain ⟨q,w,f1,f2,f3⟩:=elts c' d (j:=j) (by simpa using h2)
   have:=(vo e).1 j p q e1 f1
   exact (xJ I n e2 f2 e3 f3 this A.in1 hin).1
  cases e:two p q with
  | false=>exact QB hu (Ti I rp r1 (xH h)) (Ti I rq r2 (OJ h)) e h
  | true=>
   have e':kn p=kn q/\4<=kn p:=by unfold two at e; simpa using e
   have hk:=xH h
   rcases (by omega:kn p=4\/kn p=5) with hp | hp
   . obtain ⟨ps,rfl⟩:=VL hp
     obtain ⟨qs,rfl⟩:=VL (e'.1.symm.trans hp)
     clear e e' hk hp
     obtain ⟨a1,vs1,its1,rfl,q1,l1,rv1,x1⟩:=rD I rp r1
     obtain ⟨a2,vs2,its2,rfl,q2,l2,rv2,x2⟩:=rD I rq r2
     have e1:=sY r1
     have e2:=sY r2
     subst e1 e2
     obtain ⟨c,h5,rfl⟩:=map_some h
     have it:=item l1 rv1 l2 rv2 h5
     have z1:its1.toArray.size=ps.length:=by rw [List.size_toArray,← rv1.length,l1.length]
     have z2:its2.toArray.size=qs.length:=by rw [List.size_toArray,← rv2.length,l2.length]
     have rc:=RcAt.tuples x1 x2 hu it
     have rn:=RcNeAt.tuples x1 x2 hu it
     rw [z1,z2,← (vo h5).2] at rc rn
     exact ⟨CV I rp rq h rc,rc,rn⟩
   . obtain ⟨ps,rfl⟩:=VM hp
     obtain ⟨qs,rfl⟩:=VM (e'.1.symm.trans hp)
     clear e e' hk hp
     obtain ⟨a1,vs1,its1,rfl,q1,l1,rv1,x1⟩:=nW I rp r1
     obtain ⟨a2,vs2,its2,rfl,q2,l2,rv2,x2⟩:=nW I rq r2
     have e1:=sY r1
     have e2:=sY r2
     subst e1 e2
     have z1:its1.toArray.size=ps.length:=by rw [List.size_toArray,← rv1.length,l1.length]
     have z2:its2.toArray.size=qs.length:=by rw [List.size_toArray,← rv2.length,l2.length]
     by_cases hl:ps.length=qs.length
     . have h':=(if_pos hl).symm.trans h
       have it:=item l1 rv1 l2 rv2 h'
       have hz:=(z1.trans hl).trans z2.symm
       have rc:=RcAt.lists x1 x2 hz hu it
       have rn:=RcNeAt.lists x1 x2 hz hu it
       rw [z1,← (show min ps.length qs.length=ps.length by rw [← hl,Nat.min_self]),← (vo h').2] at rc rn
       exact ⟨CV I rp rq h rc,rc,rn⟩
     . have h':=Option.some.inj ((if_neg hl).symm.trans h)
       subst h'
       have hz:(its1.toArray.size != its2.toArray.size)=true:=by rw [z1,z2]; exact bne_iff_ne.mpr hl
       have rc:=RcAt.lists_lengths x1 x2 hz hu
       exact ⟨CV I rp rq h rc,rc,RcNeAt.lists_lengths x1 x2 hz hu⟩
end
section
open PySem.SeqAt
variable {X:Cx} {pins:List (Addr×Obj)} {σ:L2.St} {H:Hp} {s:Shared} {g:List Addr}
theorem Gd {n:Nat} {ps:List PV} {r:PV} {b:Bool} (h:bC (n+1) (.tup ps) r=some b):b=false\/∃ rs,r=.tup rs:=by
 cases r with
 | tup rs=>exact .inr ⟨rs,rfl⟩
 | _=>cases h<;>exact .inl rfl
theorem Ge {n:Nat} {ps:List PV} {r:PV} {b:Bool} (h:bC (n+1) (.lst ps) r=some b):b=false\/∃ rs,r=.lst rs:=by
 cases r with
 | lst rs=>exact .inr ⟨rs,rfl⟩
 | _=>cases h<;>exact .inl rfl
theorem xK (I:Inv X pins σ H s):∀ (n:Nat) {p q r:PV} {v:V} {b c:Bool},Rep X.K ⟨H,g⟩ p v->Rep X.K ⟨H,g⟩ q v->bC n p r=some b->bC n q r=some c->b=c
 | 0,p,q,r,v,b,c,_,_,h,_=>by cases h
 | n+1,p,q,r,v,b,c,rp,rq,h,k=>by
  cases Sh.two I (BP rp (xH h)) (BP rq (xH k)) with
  | «at» e=>exact Option.some.inj (h.symm.trans k)
  | @tup ps qs _ h2 h4=>
   have el:ps.length=qs.length:=h2.length.symm.trans h4.length
   rcases Gd h with rfl | ⟨rs,rfl⟩
   . rcases Gd k with rfl | ⟨rs,rfl⟩
     . rfl
     . obtain ⟨c1,h5,e1⟩:=map_some h
       obtain ⟨c2,k5,rfl⟩:=map_some k
       rw [← sX (f:=bC n) (fun _ _ _ _ _ _=>xK I n) h2 h4 h5 k5,← el,e1]
   . obtain ⟨c1,h5,rfl⟩:=map_some h
     obtain ⟨c2,k5,rfl⟩:=map_some k
     rw [sX (f:=bC n) (fun _ _ _ _ _ _=>xK I n) h2 h4 h5 k5,el]
  | @lst ps qs _ h2 h4=>
   have el:ps.length=qs.length:=h2.length.symm.trans h4.length
   have main:∀ rs,r=.lst rs->b=c:=fun rs e=>by
    subst e
    by_cases hl:qs.length=rs.length
    . exact sX (f:=bC n) (fun _ _ _ _ _ _=>xK I n) h2 h4 ((if_pos (el.trans hl)).symm.trans h) ((if_pos hl).symm.trans k)
    . exact Option.some.inj ((((if_neg fun e=>hl (el.symm.trans e)).symm.trans h).symm.trans ((if_neg hl).symm.trans k)))
   rcases Ge h with e1 | ⟨rs,e⟩
   . rcases Ge k with e2 | ⟨rs,e⟩
     . exact e1.trans e2.symm
     . exact main rs e
   . exact main rs e
noncomputable def jJ (f:PV->PV->Option Bool) (x:PV):List PV->Option Bool
 | []=>some false
 | q::qs=>(f q x).bind fun b=>(jJ f x qs).map fun c=>b||c
theorem rE {f:PV->PV->Option Bool} {x:PV}:∀ {qs:List PV} {b:Bool},jJ f x qs=some b->(∀ q∈qs,∃ c,f q x=some c)/\b=qs.any fun q=>(f q x).getD false
 | [],b,h=>by cases h; exact ⟨fun q hq=>by simp at hq,rfl⟩
 | q::qs,b,h=>by
  obtain ⟨c,h1,h2⟩:=bind_some h
  obtain ⟨d,h3,rfl⟩:=map_some h2
  obtain ⟨i1,i2⟩:=rE h3
  refine ⟨fun q' hq=>?_,?_⟩
  . rcases List.mem_cons.mp hq with rfl | hq
    . exact ⟨c,h1⟩
    . exact i1 q' hq
  . rw [List.any_cons,h1,Option.getD_some,← i2]
open Classical in
noncomputable def worth (K:FG) (Z:ZG) (x:PV) (qs:List PV) (vs:List V) (its:List Value) (u:Value):Bool:=
 if h:∃ (j:Nat) (q:PV),qs[j]?=some q/\its[j]?=some u then (bC 150 h.choose_spec.choose x).getD false else false
theorem sZ (I:Inv X pins σ H s) {x:PV} {xv:V} {xu:Value} {qs:List PV} {vs:List V} {its:List Value} (r:aG X.K ⟨H,g⟩ qs vs) (rv:Vals vs its) (hx:∀ q∈qs,∃ c,bC 150 q x=some c) {j:Nat} {q:PV} {u:Value} (e1:qs[j]?=some q) (e2:its[j]?=some u):
 worth X.K ⟨H,g⟩ x qs vs its u=(bC 150 q x).getD false:=by
 have h:∃ (j:Nat) (q:PV),qs[j]?=some q/\its[j]?=some u:=⟨j,q,e1,e2⟩
 unfold worth
 rw [dif_pos h]
 obtain ⟨f1,f2⟩:=h.choose_spec.choose_spec
 generalize h.choose_spec.choose=q' at f1 f2
 generalize h.choose=j' at f1 f2
 obtain ⟨v1,g1,g2⟩:=r.get e1
 obtain ⟨v2,k1,k2⟩:=r.get f1
 obtain ⟨u1,m1,m2⟩:=rv.get g1
 obtain ⟨u2,n1,n2⟩:=rv.get k1
 rw [e2] at m1; cases m1
 rw [f2] at n1; cases n1
 have ev:=RelV.inj m2 n2
 subst ev
 obtain ⟨c1,h1⟩:=hx q (List.mem_of_getElem? e1)
 obtain ⟨c2,h2⟩:=hx q' (List.mem_of_getElem? f1)
 rw [h1,h2,xK I 150 k2 g2 h2 h1]
theorem m9 (I:Inv X pins σ H s) {x:PV} {xv:V} {xu:Value} {qs:List PV} {vs:List V} {its:List Value} (rx:Rep X.K ⟨H,g⟩ x xv) (ru:RelV xv xu) (r:aG X.K ⟨H,g⟩ qs vs) (rv:Vals vs its) (hx:∀ q∈qs,∃ c,bC 150 q x=some c) {A:Around} (hA:A.units+150<cLine):
 ∀ u,u∈its.toArray->EqAt A s u xu (worth X.K ⟨H,g⟩ x qs vs its u):=fun u hu=>by
 have hu':u∈its:=by simpa using hu
 obtain ⟨j,hj,e⟩:=List.getElem_of_mem hu'
 have e2:its[j]?=some u:=by rw [List.getElem?_eq_getElem hj,e]
 have hl:=rv.length
 have hlr:=r.length
 have e1:qs[j]?=some (qs[j]'(by omega)):=List.getElem?_eq_getElem _
 rw [sZ (xv:=xv) (xu:=xu) I r rv hx e1 e2]
 obtain ⟨v1,g1,g2⟩:=r.get e1
 obtain ⟨u1,m1,m2⟩:=rv.get g1
 rw [e2] at m1; cases m1
 obtain ⟨c1,h1⟩:=hx _ (List.mem_of_getElem? e1)
 rw [h1]
 exact (xJ I 150 g2 rx m2 ru h1 A hA).1
theorem qK (I:Inv X pins σ H s) {x:PV} {xv:V} {xu:Value} {qs:List PV} {vs:List V} {its:List Value} (r:aG X.K ⟨H,g⟩ qs vs) (rv:Vals vs its) (hx:∀ q∈qs,∃ c,bC 150 q x=some c):
 its.toArray.any (worth X.K ⟨H,g⟩ x qs vs its)=qs.any fun q=>(bC 150 q x).getD false:=by
 have hl:its.length=qs.length:=by rw [← rv.length,r.length]
 have key:its.map (worth X.K ⟨H,g⟩ x qs vs its)=qs.map fun q=>(bC 150 q x).getD false:=by
  apply List.ext_getElem?
  intro j
  rw [List.getElem?_map,List.getElem?_map]
  by_cases hj:j<its.length
  . have e2:=List.getElem?_eq_getElem hj
    have e1:qs[j]?=some (qs[j]'(by omega)):=List.getElem?_eq_getElem _
    rw [e2,e1,Option.map_some,Option.map_some,sZ (xv:=xv) (xu:=xu) I r rv hx e1 e2]
  . rw [List.getElem?_eq_none (by omega),List.getElem?_eq_none (by omega)]
    rfl
 rw [show its.toArray.any (worth X.K ⟨H,g⟩ x qs vs its)=its.any (worth X.K ⟨H,g⟩ x qs vs its) by simp]
 have a1:its.any (worth X.K ⟨H,g⟩ x qs vs its)=(its.map (worth X.K ⟨H,g⟩ x qs vs its)).any id:=by simp [List.any_map]
 have a2:(qs.any fun q=>(bC 150 q x).getD false)=(qs.map fun q=>(bC 150 q x).getD false).any id:=by simp [List.any_map]
 rw [a1,a2,key]
end
section
variable {X:Cx}
theorem SR.rep2 {v w:V} {p q:PV} (h:SR K H0 Z0 σ H ρ ((w,.sh q)::(v,.sh p)::pd)):∃ Z:ZG,cG Z.z H/\Rep K Z p v/\Rep K Z q w:=by
 obtain ⟨_,Z,_,z,r,s⟩:=h.sh
 obtain ⟨x,e1,e2⟩:=(s.perm cU.symm).1 _ List.mem_cons_self
 cases e1
 exact ⟨Z,z.zh,e2,r⟩
theorem SR.rep2H {v w:V} {p q:PV} (h:SR K H0 Z0 σ H ρ ((w,.sh q)::(v,.sh p)::pd)):∃ g,Rep K ⟨H,g⟩ p v/\Rep K ⟨H,g⟩ q w:=by
 obtain ⟨Z,z,a,b⟩:=h.rep2
 exact ⟨Z.g,a.mono (Z':=⟨H,Z.g⟩) ⟨z,List.prefix_refl _⟩,b.mono (Z':=⟨H,Z.g⟩) ⟨z,List.prefix_refl _⟩⟩
noncomputable def CZ (K:FG) (neg:Bool):R2:=fun x y H Q=>∃ g p q b,Rep K ⟨H,g⟩ p x/\Rep K ⟨H,g⟩ q y/\bC 150 p q=some b/\Q (.bl (if neg then !b else b)) H
theorem dN {b:Bool} {k:Nat} (hr:cV b k X.A):dY X (compareOp .Eq) (CZ X.K false):=by
 intro pins s σ H x y v u Q I rx ry h
 obtain ⟨g,p,q,b,rp,rq,e,k'⟩:=h
 have hA:X.A.units+150<cLine:=by have:=hr.un; omega
 obtain ⟨_,rc,_⟩:=xJ I 150 rp rq rx ry e X.A hA
 exact rc _ _ _ _ ⟨.bl b,H,I,rfl,k'⟩
theorem uD {b:Bool} {k:Nat} (hr:cV b k X.A):dY X (compareOp .NotEq) (CZ X.K true):=by
 intro pins s σ H x y v u Q I rx ry h
 obtain ⟨g,p,q,b,rp,rq,e,k'⟩:=h
 have hA:X.A.units+150<cLine:=by have:=hr.un; omega
 obtain ⟨_,_,rn⟩:=xJ I 150 rp rq rx ry e X.A hA
 exact rn _ _ _ _ ⟨.bl (!b),H,I,rfl,k'⟩
noncomputable def eqP (p q:PV):Option Lc:=(bC 150 p q).map fun b=>.sh (.bl b)
noncomputable def mL (p q:PV):Option Lc:=(bC 150 p q).map fun b=>.sh (.bl (!b))
theorem dO:iT K (CZ K false) eqP:=by
 intro H0 Z0 σ ρ pd H v w x y l Q s e k
 obtain ⟨b,e1,rfl⟩:=map_some e
 obtain ⟨g,r1,r2⟩:=s.rep2H
 exact ⟨g,x,y,b,r1,r2,e1,k _ H (s.pop.pop.scal dm)⟩
theorem uE:iT K (CZ K true) mL:=by
 intro H0 Z0 σ ρ pd H v w x y l Q s e k
 obtain ⟨b,e1,rfl⟩:=map_some e
 obtain ⟨g,r1,r2⟩:=s.rep2H
 exact ⟨g,x,y,b,r1,r2,e1,k _ H (s.pop.pop.scal dm)⟩
noncomputable def Dc (K:FG) (neg:Bool):R2:=fun x y H Q=>(∃ g p qs b,Rep K ⟨H,g⟩ p x/\(Rep K ⟨H,g⟩ (.lst qs) y\/Rep K ⟨H,g⟩ (.tup qs) y)/\jJ (bC 150) p qs=some b/\Q (.bl (if neg then !b else b)) H)\/
 ∃ i j,x=.str i/\y=.str j/\Q (.bl (if neg then (Builtin.Str.occurrences j i 0 j.length 1).isEmpty else !(Builtin.Str.occurrences j i 0 j.length 1).isEmpty)) H
theorem pR {b:Bool} {k:Nat} (hr:cV b k X.A):dY X (compareOp .In) (Dc X.K false):=by
 intro pins s σ H x y v u Q I rx ry h
 have hA:X.A.in1.units+150<cLine:=by have:=hr.un; show X.A.units+1+150<cLine; omega
 rcases h with ⟨g,p,qs,b,rp,rq,e,k'⟩ | ⟨i,j,rfl,rfl,k'⟩
 . obtain ⟨i1,i2⟩:=rE e
   rcases rq with rq | rq
   . obtain ⟨a,vs,its,rfl,q1,l1,rv1,t1⟩:=nW I rq ry
     refine SeqAt.in_listAt (worth X.K ⟨H,g⟩ p qs vs its) t1 (m9 I rp rx l1 rv1 i1 hA) ⟨.bl b,H,I,?_,k'⟩
     rw [qK (xv:=x) (xu:=v) I l1 rv1 i1,← i2]
     rfl
   . obtain ⟨a,vs,its,rfl,q1,l1,rv1,t1⟩:=rD I rq ry
     refine SeqAt.in_tupleAt (worth X.K ⟨H,g⟩ p qs vs its) t1 (m9 I rp rx l1 rv1 i1 hA) ⟨.bl b,H,I,?_,k'⟩
     rw [qK (xv:=x) (xu:=v) I l1 rv1 i1,← i2]
     rfl
 . exact Jr pins s σ H (.str i) (.str j) v u Q I rx ry ⟨i,j,rfl,rfl,k'⟩
theorem lQ {k:Nat} (hr:eQ k X.A):dY X (compareOp .NotIn) (Dc X.K true):=by
 intro pins s σ H x y v u Q I rx ry h
 have hA:X.A.in1.units+150<cLine:=by have:=hr.un; show X.A.units+1+150<cLine; omega
 rcases h with ⟨g,p,qs,b,rp,rq,e,k'⟩ | ⟨i,j,rfl,rfl,k'⟩
 . obtain ⟨i1,i2⟩:=rE e
   rcases rq with rq | rq
   . obtain ⟨a,vs,its,rfl,q1,l1,rv1,t1⟩:=nW I rq ry
     refine SeqAt.notIn_listAt (worth X.K ⟨H,g⟩ p qs vs its) t1 (m9 I rp rx l1 rv1 i1 hA) ⟨.bl (!b),H,I,?_,k'⟩
     rw [qK (xv:=x) (xu:=v) I l1 rv1 i1,← i2]
     rfl
   . obtain ⟨a,vs,its,rfl,q1,l1,rv1,t1⟩:=rD I rq ry
     refine SeqAt.notIn_tupleAt (worth X.K ⟨H,g⟩ p qs vs its) t1 (m9 I rp rx l1 rv1 i1 hA) ⟨.bl (!b),H,I,?_,k'⟩
     rw [qK (xv:=x) (xu:=v) I l1 rv1 i1,← i2]
     rfl
 . exact Ce pins s σ H (.str i) (.str j) v u Q I rx ry ⟨i,j,rfl,rfl,by simpa using k'⟩
noncomputable def isIn (x y:PV):Option Bool:=match y with
 | .lst qs=>jJ (bC 150) x qs
 | .tup qs=>jJ (bC 150) x qs
 | .str j=>match x with
  | .str i=>some (!(Builtin.Str.occurrences j i 0 j.length 1).isEmpty)
  | _=>none
 | _=>none
noncomputable def iW (p q:PV):Option Lc:=(isIn p q).map fun b=>.sh (.bl b)
noncomputable def kY (p q:PV):Option Lc:=(isIn p q).map fun b=>.sh (.bl (!b))
theorem J4 {neg:Bool}:iT K (Dc K neg) (fun p q=>(isIn p q).map fun b=>.sh (.bl (if neg then !b else b))):=by
 intro H0 Z0 σ ρ pd H v w x y l Q s e k
 obtain ⟨b,e1,rfl⟩:=map_some e
 obtain ⟨g,r1,r2⟩:=s.rep2H
 cases y with
 | lst qs=>exact .inl ⟨g,x,qs,b,r1,.inl r2,e1,k _ H (s.pop.pop.scal dm)⟩
 | tup qs=>exact .inl ⟨g,x,qs,b,r1,.inr r2,e1,k _ H (s.pop.pop.scal dm)⟩
 | str j=>
  cases x with
  | str i=>
   have e1':=Option.some.inj e1
   subst e1'
   refine .inr ⟨i,j,bR r1,bR r2,?_⟩
   have:=k (.bl (if neg then (Builtin.Str.occurrences j i 0 j.length 1).isEmpty else !(Builtin.Str.occurrences j i 0 j.length 1).isEmpty)) H
   refine this (s.pop.pop.scal fun Z=>?_)
   cases neg<;>simp [Rep]
  | _=>cases e1
 | _=>cases e1
theorem ni:iT K (Dc K false) iW:=J4
theorem o9:iT K (Dc K true) kY:=J4
noncomputable def tu:PV->Bool
 | .non=>true
 | _=>false
noncomputable def HF (p q:PV):Option Lc:=match q with
 | .non=>some (.sh (.bl (tu p)))
 | _=>none
noncomputable def xM (p q:PV):Option Lc:=match q with
 | .non=>some (.sh (.bl (!tu p)))
 | _=>none
theorem Gf {Z:ZG} {p:PV} {v:V} (r:Rep K Z p v):decide (v=.non)=tu p:=by
 cases p with
 | non=>have:=gk r; subst this; rfl
 | bl b=>have:=cP r; subst this; rfl
 | int b=>have:=bF r; subst this; rfl
 | str b=>have:=bR r; subst this; rfl
 | tup ps=>unfold Rep at r; obtain ⟨a,vs,rfl,_⟩:=r; rfl
 | lst ps=>unfold Rep at r; obtain ⟨a,vs,rfl,_⟩:=r; rfl
 | dk ks ps=>unfold Rep at r; obtain ⟨a,vs,rfl,_⟩:=r; rfl
 | dt ks ps=>unfold Rep at r; obtain ⟨a,vs,rfl,_⟩:=r; rfl
 | obj c ks ps=>unfold Rep at r; obtain ⟨a,c,dx,fs,rfl,_⟩:=r; rfl
 | df ks ps=>unfold Rep at r; obtain ⟨a,o,kvs,rfl,_⟩:=r; rfl
 | dtf ks ps=>unfold Rep at r; obtain ⟨a,o,kvs,rfl,_⟩:=r; rfl
 | dx hk ks ps=>unfold Rep at r; obtain ⟨a,xs,rfl,_⟩:=r; rfl
 | exc n=>unfold Rep at r; obtain ⟨a,c,rfl,_⟩:=r; rfl
 | ptr n=>unfold Rep at r; obtain ⟨a,rfl,_⟩:=r; rfl
theorem QC:iT K (fun x y H Q=>y=.non/\Q (.bl (decide (x=.non))) H) HF:=by
 intro H0 Z0 σ ρ pd H v w x y l Q s e k
 obtain ⟨g,r1,r2⟩:=s.rep2H
 cases y with
 | non=>
  have e':=Option.some.inj e
  subst e'
  refine ⟨gk r2,?_⟩
  rw [Gf r1]
  exact k _ H (s.pop.pop.scal dm)
 | _=>cases e
theorem tB:iT K (fun x y H Q=>y=.non/\Q (.bl (!decide (x=.non))) H) xM:=by
 intro H0 Z0 σ ρ pd H v w x y l Q s e k
 obtain ⟨g,r1,r2⟩:=s.rep2H
 cases y with
 | non=>
  have e':=Option.some.inj e
  subst e'
  refine ⟨gk r2,?_⟩
  rw [Gf r1]
  exact k _ H (s.pop.pop.scal dm)
 | _=>cases e
noncomputable def uF:=ux (fun _ _=>true) fun i j=>.bl (decide (i<j))
noncomputable def xN:=ux (fun _ _=>true) fun i j=>.bl (decide (i<=j))
noncomputable def xO:=ux (fun _ _=>true) fun i j=>.bl (decide (j<i))
theorem xP:iT K (qX fun i j=>.bl (decide (i<j))) uF:=xj fun _ _ _=>dm _
theorem Dd:iT K (qX fun i j=>.bl (decide (i<=j))) xN:=xj fun _ _ _=>dm _
theorem De:iT K (qX fun i j=>.bl (decide (j<i))) xO:=xj fun _ _ _=>dm _
noncomputable def Tj:=ux (fun _ _=>true) fun i j=>.int (i-j)
noncomputable def bA:=ux (fun _ j=>decide (0<j)) fun i j=>.int (i%j)
noncomputable def bc:=ux (fun _ j=>decide (0<j/\j<1073741824)) fun i j=>.int (i/j)
noncomputable def jK:=ux (fun i j=>decide ((-(2 ^ 64)<i/\i<2 ^ 64)\/(-(2 ^ 64)<j/\j<2 ^ 64))) fun i j=>.int (i*j)
theorem QD:iT K (qX fun i j=>.int (i-j)) Tj:=xj fun _ _ _=>eG _
theorem cB:iT K (rI (fun _ j=>0<j) fun i j=>.int (i%j)) bA:=HD (fun _ _ h=>of_decide_eq_true h) fun _ _ _=>eG _
theorem cX:iT K (rI RM fun i j=>.int (i/j)) bc:=HD (fun i j h=>(of_decide_eq_true h:0<j/\j<1073741824)) fun _ _ _=>eG _
theorem vp:iT K (rI Hb fun i j=>.int (i*j)) jK:=HD (fun i j h=>(of_decide_eq_true h:(-(2 ^ 64)<i/\i<2 ^ 64)\/(-(2 ^ 64)<j/\j<2 ^ 64))) fun _ _ _=>eG _
noncomputable def Ly (K:FG):R2:=fun x y H Q=>qX (fun i j=>.int (i+j)) x y H Q\/(∃ i j,x=.str i/\y=.str j/\i.length+j.length<=sizeLine/\Q (.str (i++j)) H)\/
 (∃ a b xs ys,x=.ref a/\y=.ref b/\bY K H a xs/\bY K H b ys/\xs.length+ys.length<=sizeLine/\∀ p,H p=none->Q (.ref p) (upd H p (.lst (xs++ys))))\/Ou K x y H Q
theorem gW:dY X (binaryOp .Add) (Ly X.K):=RN.or (Hg.or (Qn.or Qg))
noncomputable def cH:PV->PV->Option Lc
 | .int i,.int j=>some (.sh (.int (i+j)))
 | .str i,.str j=>if i.length+j.length<=100000 then some (.sh (.str (i++j))) else none
 | .lst ps,.lst qs=>if ps.length+qs.length<=100000 then some (.own (.lst (ps++qs))) else none
 | .tup (p::ps),.tup qs=>if ps.length+qs.length<=10000 then some (.sh (.tup (p::ps++qs))) else none
 | _,_=>none
theorem wg {α:Type} {c:Prop} [Decidable c] {a b:α} (e:(if c then some a else none)=some b):c/\a=b:=by
 split at e
 . rename_i h
   exact ⟨h,Option.some.inj e⟩
 . cases e
theorem QF {x y:PV} {l:Lc} (e:cH x y=some l):(∃ i j,x=.int i/\y=.int j/\l=.sh (.int (i+j)))\/(∃ i j,x=.str i/\y=.str j/\i.length+j.length<=100000/\l=.sh (.str (i++j)))
 \/ (∃ ps qs,x=.lst ps/\y=.lst qs/\ps.length+qs.length<=100000/\l=.own (.lst (ps++qs)))\/∃ p ps qs,x=.tup (p::ps)/\y=.tup qs/\ps.length+qs.length<=10000/\l=.sh (.tup (p::ps++qs)):=by
 unfold cH at e
 split at e
 . cases e
   exact .inl ⟨_,_,rfl,rfl,rfl⟩
 . obtain ⟨h,e⟩:=wg e
   exact .inr (.inl ⟨_,_,rfl,rfl,h,e.symm⟩)
 . obtain ⟨h,e⟩:=wg e
   exact .inr (.inr (.inl ⟨_,_,rfl,rfl,h,e.symm⟩))
 . obtain ⟨h,e⟩:=wg e
   exact .inr (.inr (.inr ⟨_,_,_,rfl,rfl,h,e.symm⟩))
 . cases e
theorem gY:iT K (Ly K) cH:=by
 intro H0 Z0 σ ρ pd H v w x y l Q s e k
 obtain ⟨g,r1,r2⟩:=s.rep2H
 rcases QF e with ⟨i,j,rfl,rfl,rfl⟩ | ⟨i,j,rfl,rfl,hl,rfl⟩ | ⟨ps,qs,rfl,rfl,hl,rfl⟩ | ⟨p,ps,qs,rfl,rfl,hl,rfl⟩
 . exact .inl ⟨i,j,bF r1,bF r2,k _ H (s.pop.pop.scal eG)⟩
 . exact .inr (.inl ⟨i,j,bR r1,bR r2,small hl,k _ H (s.pop.pop.scal kh)⟩)
 . obtain ⟨el,Z,hg,z,rq,s1⟩:=s.sh
   have s2:=s1.perm cU.symm
   obtain ⟨_,e1,rp⟩:=s2.1 _ List.mem_cons_self
   cases e1
   unfold Rep at rp rq
   obtain ⟨a,xs,rfl,h1,h2⟩:=rp
   obtain ⟨b,ys,rfl,h3,h4⟩:=rq
   refine .inr (.inr (.inl ⟨a,b,xs,ys,rfl,rfl,bY.same z.zh h1,bY.same z.zh h3,by rw [h2.length,h4.length]; exact small hl,fun p hp=>k _ _ ?_⟩))
   obtain ⟨z',s'⟩:=(s2.sub (List.sublist_cons_self _ _)).new (o:=.lst (xs++ys)) (p:=.lst (ps++qs)) z hp ⟨xs++ys,bj,h2.append h4⟩
   exact .mk el hg z' s'
 . obtain ⟨el,Z,hg,z,rq,s1⟩:=s.sh
   have s2:=s1.perm cU.symm
   obtain ⟨_,e1,rp⟩:=s2.1 _ List.mem_cons_self
   cases e1
   unfold Rep at rp rq
   obtain ⟨a,xs,rfl,h1,h2⟩:=rp
   obtain ⟨b,ys,rfl,h3,h4⟩:=rq
   have hx:xs≠[]:=fun h=>by have:=h2.length; rw [h] at this; simp at this
   have hz:=h2.length
   have hz':=h4.length
   rw [List.length_cons] at hz
   refine .inr (.inr (.inr ⟨a,b,xs,ys,rfl,rfl,cW.same z.zh h1,cW.same z.zh h3,hx,small (by omega),fun h=>?_,fun h q hq=>?_⟩))
   . subst h
     have:qs=[]:=List.eq_nil_of_length_eq_zero hz'.symm
     subst this
     rw [List.append_nil] at k
     exact k _ H s.pop
   . have s3:=s2.sub (List.sublist_cons_self _ _)
     obtain ⟨z',sz,s'⟩:=s3.newF (o:=.tup (xs++ys)) z hq
     refine k _ _ (.mk (Z:=Z.put q (.tup (xs++ys))) el hg z' (s'.consS ?_))
     unfold Rep
     exact ⟨q,xs++ys,rfl,cW.of bj,(h2.append h4).mono sz⟩
noncomputable def pU:PV->PV->Option Lc
 | .lst ps,.int i=>(gj ps i).map .sh
 | .tup ps,.int i=>(gj ps i).map .sh
 | .str x,.int i=>if x.length<=100000 then (gj x.cps.toList i).map fun c=>.sh (.str ⟨#[c]⟩) else none
 | _,_=>none
theorem vq {α β:Type} {l:List α} {r:List β} {i:Int} {x:α} (h:gj l i=some x) (e:r.length=l.length):∃ (j:Nat),l[j]?=some x/\∀ y,r[j]?=some y->gj r i=some y:=by
 unfold gj at h
 obtain ⟨j,h1,h2⟩:=bind_some h
 refine ⟨j,h2,fun y hy=>?_⟩
 unfold gj
 rw [e,h1]
 exact hy
theorem Tn {x y:PV} {l:Lc} (e:pU x y=some l):∃ i,y=.int i/\((∃ ps,(x=.lst ps\/x=.tup ps)/\(gj ps i).map Lc.sh=some l)\/∃ t c,x=.str t/\t.length<=100000/\gj t.cps.toList i=some c/\l=.sh (.str ⟨#[c]⟩)):=by
 unfold pU at e
 split at e
 . exact ⟨_,rfl,.inl ⟨_,.inl rfl,e⟩⟩
 . exact ⟨_,rfl,.inl ⟨_,.inr rfl,e⟩⟩
 . split at e
   . rename_i h
     obtain ⟨c,h1,rfl⟩:=map_some e
     exact ⟨_,rfl,.inr ⟨_,c,rfl,h,h1,rfl⟩⟩
   . cases e
 . cases e
theorem J5:iT K (R7 K) pU:=by
 intro H0 Z0 σ ρ pd H v w x y l Q s e k
 obtain ⟨i,rfl,hx⟩:=Tn e
 obtain ⟨el,Z,hg,z,r2,s1⟩:=s.sh
 have s2:=s1.perm cU.symm
 obtain ⟨_,e1,r1⟩:=s2.1 _ List.mem_cons_self
 cases e1
 have s3:=s2.sub (List.sublist_cons_self _ _)
 have ew:=bF r2
 rcases hx with ⟨ps,hx,h0⟩ | ⟨x,c,rfl,hl,h1,rfl⟩
 . obtain ⟨p,h1,rfl⟩:=map_some h0
   rcases hx with rfl | rfl
   . unfold Rep at r1
     obtain ⟨a,vs,rfl,h2,h3⟩:=r1
     obtain ⟨j,e1,e2⟩:=vq h1 h3.length
     obtain ⟨u,e3,e4⟩:=h3.get e1
     exact .inl ⟨a,vs,i,u,rfl,ew,bY.same z.zh h2,e2 u e3,k _ H (.mk el hg z (s3.consS e4))⟩
   . unfold Rep at r1
     obtain ⟨a,vs,rfl,h2,h3⟩:=r1
     obtain ⟨j,e1,e2⟩:=vq h1 h3.length
     obtain ⟨u,e3,e4⟩:=h3.get e1
     exact .inr (.inl ⟨a,vs,i,u,rfl,ew,cW.same z.zh h2,e2 u e3,k _ H (.mk el hg z (s3.consS e4))⟩)
 . exact .inr (.inr ⟨x,i,c,bR r1,ew,small hl,h1,k _ H (s.pop.pop.scal kh)⟩)
noncomputable def jY (ps:List PV) (lo hi:Option Int):List PV:=(ps.drop (HT.sIx ps.length 0 lo)).take (HT.sIx ps.length ps.length hi-HT.sIx ps.length 0 lo)
noncomputable abbrev OF:=Ev->Option (Option Int×Ev)
noncomputable def Df (K:FG) (f:OF):TO:=fun σ H Q=>∃ H0 Z0 ρ pd r ρ',SR K H0 Z0 σ H ρ pd/\f ρ=some (r,ρ')/\∀ H',SR K H0 Z0 σ H' ρ' pd->Q r H'
theorem PO.imp {e:Option Expr} {t t':TO} (h:PO X e t) (i:∀ σ H Q,t' σ H Q->t σ H Q):PO X e t':=fun pins s σ H Q I q=>h pins s σ H Q I (i σ H Q q)
noncomputable def fu:OF:=fun ρ=>some (none,ρ)
noncomputable def cA (f:EF):OF:=fun ρ=>(f ρ).bind fun x=>match x.1.pv with
 | .int i=>some (some i,x.2)
 | _=>none
theorem lR:PO X none (Df X.K fu):=PO.imp Qe fun σ H Q q=>by
 obtain ⟨H0,Z0,ρ,pd,r,ρ',s,h,k⟩:=q
 cases h
 exact k H s
theorem iY {e:Expr} {f:EF} (h:PE X e (tP X.K f)):PO X (some e) (Df X.K (cA f)):=PO.imp (Qf h) fun σ H Q q=>by
 obtain ⟨H0,Z0,ρ,pd,r,ρ',s,h,k⟩:=q
 obtain ⟨x,h1,h2⟩:=bind_some h
 refine ⟨H0,Z0,ρ,pd,x.1,x.2,s,h1,fun v H1 s1=>?_⟩
 obtain ⟨_,r1⟩:=s1.freeze.repH
 cases e:x.1.pv with
 | int i=>
  rw [e] at h2 r1
  cases h2
  exact ⟨i,bF r1,k H1 s1.pop⟩
 | _=>rw [e] at h2; cases h2
theorem aG.cut {Z:ZG} {ps:List PV} {vs:List V} {lo hi:Option Int} (h:aG K Z ps vs):aG K Z (jY ps lo hi) (vZ vs lo hi):=by
 unfold jY vZ
 rw [h.length]
 exact (h.drop _).take _
noncomputable def nM (K:FG) (r:List V->Hp->VK->Prop) (g:List PV->Option Lc):Prop:=∀ H0 Z0 σ ρ pd H vs ps l Q,vs.length=ps.length->SR K H0 Z0 σ H ρ (vs.zip (ps.map Lc.sh)++pd)->g ps=some l->(∀ u H',SR K H0 Z0 σ H' ρ ((u,l)::pd)->Q u H')->r vs H Q
noncomputable def eB (g:List PV->Option Lc) (a:AF):EF:=fun ρ=>(a ρ).bind fun y=>(g (y.1.map Lc.pv)).map fun l=>(l,y.2)
theorem rF {r:List V->Hp->VK->Prop} {g:List PV->Option Lc} (hs:nM X.K r g) {a:AF}:∀ σ H Q,tP X.K (eB g a) σ H Q->Ck r (jk X.K a) σ H Q:=fun σ H Q q=>by
 obtain ⟨H0,Z0,ρ,pd,l,ρ',s,f,k⟩:=q
 obtain ⟨y,h1,h2⟩:=bind_some f
 obtain ⟨l',h3,h4⟩:=map_some h2
 cases h4
 refine ⟨H0,Z0,ρ,pd,y.1,y.2,s,h1,fun vs H2 e2 s2=>?_⟩
 have s3:=s2.freezeAll
 have hm:(y.1.map fun l=>Lc.sh l.pv)=(y.1.map Lc.pv).map Lc.sh:=by rw [List.map_map]; rfl
 rw [hm] at s3
 exact hs H0 Z0 σ y.2 pd H2 vs (y.1.map Lc.pv) _ Q (by simpa using e2) s3 h3 k
theorem Dg {x:Str} {id:String} {r:List V->Hp->VK->Prop} {g:List PV->Option Lc} {e:Expr} {es:List Expr} {a:AF} {p pos:Pos} (hc:qz X (.builtin id) r) (hs:nM X.K r g) (h:PE X (.Call (.Name x p) (e::es) [] pos) (Ck r (jk X.K a))):PE X (.Call (.Name x p) (e::es) [] pos) (tP X.K (eB g a)):=PE.imp h (rF hs)
theorem nM.one {r:List V->Hp->VK->Prop} {g:PV->Option Lc} (h:∀ H0 Z0 σ ρ pd H v p l Q,SR K H0 Z0 σ H ρ ((v,.sh p)::pd)->g p=some l->(∀ u H',SR K H0 Z0 σ H' ρ ((u,l)::pd)->Q u H')->r [v] H Q):
 nM K r (fun ps=>match ps with | [p]=>g p | _=>none):=by
 intro H0 Z0 σ ρ pd H vs ps l Q e s hg k
 match ps,vs,e,s,hg with
 | [p],[v],_,s,hg=>exact h H0 Z0 σ ρ pd H v p l Q s hg k
 | [p],[],e,_,_=>simp at e
 | [p],_::_::_,e,_,_=>simp at e
 | [],_,_,_,hg=>cases hg
 | _::_::_,_,_,_,hg=>cases hg
noncomputable def MP:PV->Option Lc
 | .str x=>if x.length<=100000 then some (.sh (.int x.length)) else none
 | .lst ps=>some (.sh (.int ps.length))
 | .tup ps=>some (.sh (.int ps.length))
 | _=>none
noncomputable abbrev fB:List PV->Option Lc:=fun ps=>match ps with | [p]=>MP p | _=>none
theorem J6:nM K (fun xs H Q=>∃ x n,xs=[x]/\Ls K x H n/\Q (.int n) H) fB:=nM.one fun H0 Z0 σ ρ pd H v p l Q s e k=>by
 obtain ⟨_,r⟩:=s.repH
 cases p with
 | str x=>
  have e':(if x.length<=100000 then some (Lc.sh (.int x.length)) else none)=some l:=e
  split at e'
  . rename_i hl
    cases e'
    have:=bR r
    subst this
    exact ⟨_,x.length,rfl,⟨small hl,rfl⟩,k _ H (s.pop.scal eG)⟩
  . cases e'
 | lst ps=>
  cases e
  unfold Rep at r
  obtain ⟨a,vs,rfl,h1,h2⟩:=r
  exact ⟨_,ps.length,rfl,.inl ⟨vs,h1,h2.length.symm⟩,k _ H (s.pop.scal eG)⟩
 | tup ps=>
  cases e
  unfold Rep at r
  obtain ⟨a,vs,rfl,h1,h2⟩:=r
  exact ⟨_,ps.length,rfl,.inr ⟨vs,h1,h2.length.symm⟩,k _ H (s.pop.scal eG)⟩
 | _=>cases e
noncomputable def Vh:PV->Option Lc
 | .lst ps=>some (.own (.lst ps))
 | .tup ps=>some (.own (.lst ps))
 | _=>none
noncomputable abbrev list1:List PV->Option Lc:=fun ps=>match ps with | [p]=>Vh p | _=>none
theorem rG:nM K (fun xs H Q=>∃ p ys,xs=[.ref p]/\(bY K H p ys\/cW K H p ys)/\∀ l,H l=none->Q (.ref l) (upd H l (.lst ys))) list1:=nM.one fun H0 Z0 σ ρ pd H v p l Q s e k=>by
 obtain ⟨el,Z,hg,z,r,s1⟩:=s.sh
 cases p with
 | lst ps=>
  cases e
  unfold Rep at r
  obtain ⟨a,vs,rfl,h1,h2⟩:=r
  refine ⟨a,vs,rfl,.inl (bY.same z.zh h1),fun q hq=>k _ _ ?_⟩
  obtain ⟨z',s'⟩:=s1.new (o:=.lst vs) (p:=.lst ps) z hq ⟨_,bj,h2⟩
  exact .mk el hg z' s'
 | tup ps=>
  cases e
  unfold Rep at r
  obtain ⟨a,vs,rfl,h1,h2⟩:=r
  refine ⟨a,vs,rfl,.inr (cW.same z.zh h1),fun q hq=>k _ _ ?_⟩
  obtain ⟨z',s'⟩:=s1.new (o:=.lst vs) (p:=.lst ps) z hq ⟨_,bj,h2⟩
  exact .mk el hg z' s'
 | _=>cases e
theorem Ev.set_set {i:Nat} {x y:Option Lc}:(ρ.set i x).set i y=ρ.set i y:=by
 show Ev.mk ((ρ.vs.set i x).set i y) ρ.mu=_
 rw [List.set_set]
 rfl
theorem SR.takeO {i:Nat} {ws:List PV} (s:SR K H0 Z0 σ H ρ pd) (e:ρ.vs[i]?=some (some (.own (.lst ws)))):
 ∃ a,σ[i]?=some (some (.ref a))/\(∃ us,H a=some (.lst us))/\SR K H0 Z0 σ H (ρ.set i none) ((.ref a,.own (.lst ws))::pd):=by
 obtain ⟨v,e1,s1⟩:=s.take e
 obtain ⟨_,Z,_,z,so⟩:=s1.top
 obtain ⟨a,ea,⟨us,hu,_⟩,_⟩:=so.1 _ List.mem_cons_self
 have ea':v=.ref a:=Option.some.inj ea
 subst ea'
 exact ⟨a,e1,⟨us,hu⟩,s1⟩
noncomputable def nu (i:Nat) (f:EF):SF:=fun ρ=>match ρ.vs[i]? with
 | some (some (.own (.lst _)))=>(f ρ).bind fun y=>match y.2.vs[i]? with
  | some (some (.own (.lst ws)))=>if ws.length<100000 then some (.nx (y.2.set i (some (.own (.lst (ws++[y.1.pv])))))) else none
  | _=>none
 | _=>none
theorem Tp {i:Nat} {o e:Expr} {f:EF} {apos cpos pos:Pos} (h:PS X (.Expr (.Call (.Attribute o "append" apos) [e] [] cpos) pos) (Oe (Jy X.K "list" FJ (sE i) (jk X.K (aj f ao))))):
 PS X (.Expr (.Call (.Attribute o "append" apos) [e] [] cpos) pos) (dZ X.K (nu i f)):=PS.imp h fun D σ H q=>by
 obtain ⟨H0,Z0,ρ,pd,fl,s,h,k⟩:=q
 unfold nu at h
 split at h
 . rename_i ws0 e0
   obtain ⟨y,h1,h2⟩:=bind_some h
   obtain ⟨a,ea,⟨us,hu⟩,_⟩:=s.takeO e0
   refine ⟨.ref a,ea,.inl ⟨rfl,us,bY.of hu⟩,H0,Z0,ρ,pd,[y.1],y.2,s,?_,fun vs H2 e2 s2=>?_⟩
   . unfold aj ao
     rw [h1]
     rfl
   . obtain ⟨v1,rfl⟩:=rA e2
     split at h2
     . rename_i ws e3
       split at h2
       . rename_i hz
         cases h2
         obtain ⟨a',ea',_,s3⟩:=SR.takeO s2 e3
         rw [ea] at ea'; cases ea'
         have s4:SR X.K H0 Z0 σ H2 (y.2.set i none) ((v1,y.1)::(.ref a,.own (.lst ws))::pd):=s3.swap
         obtain ⟨us2,hu2,hl,s5⟩:=s4.pushO
         refine ⟨a,us2,v1,rfl,rfl,hu2,by rw [hl,sizeLine_eq]; omega,k σ _ ?_⟩
         have s6:=s5.put ea
         rw [Ev.set_set] at s6
         exact s6
       . cases h2
     . cases h2
 . cases h
theorem SR.setO {v:V} {p:PV} {a:Addr} {ws:List PV} {j:Nat} (s:SR K H0 Z0 σ H ρ ((v,.sh p)::(.ref a,.own (.lst ws))::pd)):
 ∃ us,H a=some (.lst us)/\us.length=ws.length/\SR K H0 Z0 σ (upd H a (.lst (us.set j v))) ρ ((.ref a,.own (.lst (ws.set j p)))::pd):=by
 obtain ⟨el,Z,hg,z,r,so⟩:=s.sh
 have so2:=so.perm cU.symm
 obtain ⟨_,eb,⟨us,hu,hr⟩,_⟩:=so2.1 _ List.mem_cons_self
 cases eb
 refine ⟨us,hu,hr.length,?_⟩
 obtain ⟨z',s'⟩:=so2.write (o:=.lst (us.set j v)) (q:=.lst (ws.set j p)) z ⟨us.set j v,bj,hr.set r j⟩
 exact .mk el hg z' s'
noncomputable def nO (i:Nat) (fi fv:EF):SF:=fun ρ=>(fv ρ).bind fun x=>match x.2.vs[i]? with
 | some (some (.own (.lst _)))=>(fi x.2).bind fun y=>match y.1.pv,y.2.vs[i]? with
  | .int k,some (some (.own (.lst ws)))=>(qG ws.length k).map fun j=>.nx (y.2.set i (some (.own (.lst (ws.set j x.1.pv)))))
  | _,_=>none
 | _=>none
theorem Gg {i:Nat} {o ix e:Expr} {fi fv:EF} {tpos pos:Pos} (h:PS X (.Assign [.Subscript o ix tpos] e pos) (yW (tP X.K fv) (G8 (sE i) (tP X.K fi) Ov))):PS X (.Assign [.Subscript o ix tpos] e pos) (dZ X.K (nO i fi fv)):=PS.imp h fun D σ H q=>by
 obtain ⟨H0,Z0,ρ,pd,fl,s,h,k⟩:=q
 obtain ⟨x,h1,h2⟩:=bind_some h
 refine ⟨H0,Z0,ρ,pd,x.1,x.2,s,h1,fun v H1 s1=>?_⟩
 split at h2
 . rename_i ws0 e0
   obtain ⟨y,h3,h4⟩:=bind_some h2
   obtain ⟨a,ea,_,_⟩:=s1.takeO e0
   refine ⟨.ref a,ea,H0,Z0,x.2,_,y.1,y.2,s1.freeze,h3,fun w H2 s2=>?_⟩
   split at h4
   . rename_i kk ws ek e3
     obtain ⟨j,h5,rfl⟩:=map_some h4
     obtain ⟨_,rw'⟩:=s2.freeze.repH
     rw [ek] at rw'
     have ew:=bF rw'
     obtain ⟨a',ea',_,s3⟩:=s2.pop.takeO e3
     rw [ea] at ea'; cases ea'
     obtain ⟨us,hu,hl,s4⟩:=s3.swap.setO (j:=j)
     refine ⟨a,us,kk,j,rfl,ew,hu,by rw [hl]; exact h5,k σ _ ?_⟩
     have s5:=s4.put ea
     rw [Ev.set_set] at s5
     exact s5
   . cases h4
 . cases h2
theorem An {g:List Addr} {mu:Mu} {n:Nat} {a:Addr} {o:Option PV} (hg:g[n]?=some a) (hm:mu[n]?=some o):∃ R:Sl,List.Perm (cel g mu) ((some (.ref a),o.map Lc.own)::R)/\∀ o',List.Perm (cel g (mu.set n o')) ((some (.ref a),o'.map Lc.own)::R):=by
 have h1:(g.map fun a=>some (V.ref a))[n]?=some (some (.ref a)):=by rw [List.getElem?_map,hg]; rfl
 have h2:(mu.map fun o=>o.map Lc.own)[n]?=some (o.map Lc.own):=by rw [List.getElem?_map,hm]; rfl
 obtain ⟨R,p1,p2⟩:=uw (zip_get h1 h2)
 refine ⟨R,p1,fun o'=>?_⟩
 have:=p2 (some (.ref a),o'.map Lc.own)
 rw [← zf,set_same h1] at this
 unfold cel
 rw [List.map_set]
 exact this
theorem SR.cellO {v:V} {n:Nat} {p:PV} (s:SR K H0 Z0 σ H ρ ((v,.sh (.ptr n))::pd)) (hm:ρ.mu[n]?=some (some p)):
 ∃ a,v=.ref a/\SR K H0 Z0 σ H ⟨ρ.vs,ρ.mu.set n none⟩ ((.ref a,.own p)::(.ref a,.sh (.ptr n))::pd):=by
 obtain ⟨el,Z,hg,z,r,so⟩:=s.sh
 have r0:=r
 unfold Rep at r
 obtain ⟨a,rfl,ha⟩:=r
 obtain ⟨R,p1,p2⟩:=An ha hm
 refine ⟨a,rfl,.mk (Z:=Z) el (by simpa using hg) z ?_⟩
 have so2:Slots K H0 Z H ((some (.ref a),some (.own p))::(R++(σ.zip ρ.vs++pd.map fun e=>(some e.1,some e.2)))):=so.perm (p1.append_right _).symm
 have so3:Slots K H0 Z H ((some (.ref a),none)::(some (.ref a),some (.own p))::(R++(σ.zip ρ.vs++pd.map fun e=>(some e.1,some e.2)))):=by
  refine ⟨fun e he=>?_,?_⟩
  . rcases List.mem_cons.mp he with rfl | he
    . trivial
    . exact so2.1 e he
  . rw [List.filterMap_cons_none rfl]; exact so2.2
 have so4:Slots K H0 Z H ((some (.ref a),some (.own p))::sl Z.g σ ⟨ρ.vs,ρ.mu.set n none⟩ pd):=(so3.perm (List.Perm.swap _ _ _)).perm (List.Perm.cons _ ((p2 none).append_right _))
 exact ((so4.consS r0).perm (List.Perm.swap _ _ _)).perm (List.Perm.cons _ cU)
theorem SR.cellP {a:Addr} {n:Nat} {q:PV} (s:SR K H0 Z0 σ H ρ ((.ref a,.own q)::(.ref a,.sh (.ptr n))::pd)) (hm:ρ.mu[n]?=some none):SR K H0 Z0 σ H ⟨ρ.vs,ρ.mu.set n (some q)⟩ pd:=by
 obtain ⟨el,Z,hg,z,r,so⟩:=s.swap.sh
 unfold Rep at r
 obtain ⟨b,eb,ha⟩:=r
 cases eb
 obtain ⟨R,p1,p2⟩:=An ha hm
 have so2:=so.perm cU.symm
 refine ⟨el,Z,by simpa using hg,z,?_⟩
 have p3:List.Perm (sl Z.g σ ρ pd) ((some (.ref a),none)::(R++(σ.zip ρ.vs++pd.map fun e=>(some e.1,some e.2)))):=p1.append_right _
 have so3:=so2.perm (p3.symm.cons _)
 have so4:=so3.sub (L':=(some (.ref a),some (.own q))::(R++(σ.zip ρ.vs++pd.map fun e=>(some e.1,some e.2)))) ((List.sublist_cons_self _ _).cons_cons _)
 exact so4.perm ((p2 (some q)).append_right _)
noncomputable def WN (fo fi fv:EF):SF:=fun ρ=>(fv ρ).bind fun x=>(fo x.2).bind fun o=>(fi o.2).bind fun y=>match o.1.pv,y.1.pv with
 | .ptr n,.int k=>match y.2.mu[n]? with
  | some (some (.lst ws))=>(qG ws.length k).map fun j=>.nx ⟨y.2.vs,y.2.mu.set n (some (.lst (ws.set j x.1.pv)))⟩
  | _=>none
 | _,_=>none
noncomputable def bz (fa fb:EF):EF:=fun ρ=>(fa ρ).bind fun x=>(fb x.2).bind fun y=>match x.1.pv,y.1.pv with
 | .ptr n,.int k=>match y.2.mu[n]? with
  | some (some (.lst ws))=>(gj ws k).map fun p=>(.sh p,y.2)
  | _=>none
 | p,q=>(pU p q).map fun l=>(l,y.2)
theorem kZ {a b:Expr} {pos:Pos} {fa fb:EF} (ha:PE X a (tP X.K fa)) (hb:PE X b (tP X.K fb)) (hm:vg b):PE X (.Subscript a b pos) (tP X.K (bz fa fb)):=PE.imp (Hm Jw ha hb hm) fun σ H Q q=>by
 obtain ⟨H0,Z0,ρ,pd,l,ρ',s,f,k⟩:=q
 obtain ⟨x,h1,h2⟩:=bind_some f
 obtain ⟨y,h3,h4⟩:=bind_some h2
 refine ⟨H0,Z0,ρ,pd,x.1,x.2,s,h1,fun v H1 s1=>⟨H0,Z0,x.2,_,y.1,y.2,s1,h3,fun w H2 s2=>?_⟩⟩
 have s3:=s2.freeze.swap.freeze.swap
 split at h4
 . rename_i n kk en ek
   split at h4
   . rename_i ws em
     obtain ⟨p,h5,h6⟩:=map_some h4
     cases h6
     rw [en,ek] at s3
     obtain ⟨_,rw'⟩:=s3.repH
     have ew:=bF rw'
     obtain ⟨a,rfl,s5⟩:=s3.pop.cellO em
     obtain ⟨el,Z,hg,z,so⟩:=s5.top
     obtain ⟨_,ea,⟨us,hu,hr⟩,_⟩:=so.1 _ List.mem_cons_self
     cases ea
     obtain ⟨j,e1,e2⟩:=vq h5 hr.length
     obtain ⟨u,e3,e4⟩:=hr.get e1
     refine .inl ⟨a,us,kk,u,rfl,ew,bY.of hu,e2 u e3,k u H2 ?_⟩
     have s6:SR X.K H0 Z0 σ H2 ⟨y.2.vs,y.2.mu.set n none⟩ ((u,.sh p)::(.ref a,.own (.lst ws))::(.ref a,.sh (.ptr n))::pd):=.mk (Z:=Z) el hg z ((so.perm cU).consS e4)
     have hn:n<y.2.mu.length:=(List.getElem?_eq_some_iff.mp em).1
     have s7:SR X.K H0 Z0 σ H2 ⟨y.2.vs,y.2.mu.set n none⟩ ((.ref a,.own (.lst ws))::(.ref a,.sh (.ptr n))::(u,.sh p)::pd):=s6.perm (((List.Perm.swap _ _ _).cons _).trans (List.Perm.swap _ _ _))
     have s8:=s7.cellP (by show (y.2.mu.set n none)[n]?=_; rw [List.getElem?_set_self hn])
     have e8:(y.2.mu.set n none).set n (some (.lst ws))=y.2.mu:=by rw [List.set_set]; exact set_same em
     have s9:SR X.K H0 Z0 σ H2 ⟨y.2.vs,(y.2.mu.set n none).set n (some (.lst ws))⟩ ((u,.sh p)::pd):=s8
     rw [e8] at s9
     exact s9
   . cases h4
 . obtain ⟨l',h5,h6⟩:=map_some h4
   cases h6
   exact J5 H0 Z0 σ y.2 pd H2 v w x.1.pv y.1.pv _ Q s3 h5 k
mutual
noncomputable def kj:PV->Bool
 | .non=>true
 | .bl _=>true
 | .int _=>true
 | .str _=>true
 | .tup ps=>pW ps
 | _=>false
noncomputable def pW:List PV->Bool
 | []=>true
 | p::ps=>kj p&&pW ps
end
noncomputable def xQ:Lc->Bool
 | .sh p=>kj p
 | .own (.lst ps)=>pW ps
 | _=>false
noncomputable def O2:Option Lc->Option Lc
 | some l=>some (.sh l.pv)
 | none=>none
noncomputable def Ev.peek (ρ:Ev):Ev:=⟨ρ.vs.map O2,ρ.mu.map fun _=>none⟩
noncomputable def vy (f:EF):EF:=fun ρ=>(f ρ.peek).bind fun x=>if xQ x.1=true then some (x.1,ρ) else none
noncomputable def oN (f:TF):TF:=fun ρ=>(f ρ.peek).map fun x=>(x.1,ρ)
noncomputable def zb:Option HO->Option HO->Option HO->Option HO
 | some (.tup vs),_,_=>some (.tup vs)
 | some (.frz o u),_,_=>some (.frz o u)
 | some _,z,_=>z
 | none,_,z=>z
noncomputable def oO (H:Hp) (Z Z':ZG):ZG:=⟨fun b=>zb (H b) (Z.z b) (Z'.z b),Z.g⟩
theorem J7 {H H':Hp} {Z Z':ZG} (hh:cG H H') (zh:cG Z'.z H') {a:Addr} {vs:List V} (h:cW K Z'.z a vs):cW K (oO H Z Z').z a vs:=by
 rcases h with (h | ⟨o,h⟩) | h
 . refine .inl (.inl ?_)
   show zb (H a) (Z.z a) (Z'.z a)=_
   cases q:H a with
   | none=>exact h
   | some o=>
    have e1:=hh a o q
    rw [zh a _ h] at e1
    cases e1
    rfl
 . refine .inl (.inr ⟨o,?_⟩)
   show zb (H a) (Z.z a) (Z'.z a)=_
   cases q:H a with
   | none=>exact h
   | some o'=>
    have e1:=hh a o' q
    rw [zh a _ h] at e1
    cases e1
    rfl
 . exact .inr h
mutual
theorem Dh {H H':Hp} {Z Z':ZG} (hh:cG H H') (zh:cG Z'.z H'):∀ {p:PV} {v:V},kj p=true->Rep K Z' p v->Rep K (oO H Z Z') p v
 | .non,v,_,h=>by unfold Rep at h ⊢; exact h
 | .bl _,v,_,h=>by unfold Rep at h ⊢; exact h
 | .int _,v,_,h=>by unfold Rep at h ⊢; exact h
 | .str _,v,_,h=>by unfold Rep at h ⊢; exact h
 | .tup ps,v,f,h=>by
  unfold Rep at h ⊢
  obtain ⟨a,vs,e,h1,h2⟩:=h
  unfold kj at f
  exact ⟨a,vs,e,J7 hh zh h1,uG hh zh f h2⟩
 | .lst _,v,f,_=>by unfold kj at f; cases f
 | .dk _ _,v,f,_=>by unfold kj at f; cases f
 | .dt _ _,v,f,_=>by unfold kj at f; cases f
 | .obj _ _ _,v,f,_=>by unfold kj at f; cases f
 | .df _ _,v,f,_=>by unfold kj at f; cases f
 | .dtf _ _,v,f,_=>by unfold kj at f; cases f
 | .dx _ _ _,v,f,_=>by unfold kj at f; cases f
 | .exc _,v,f,_=>by unfold kj at f; cases f
 | .ptr _,v,f,_=>by unfold kj at f; cases f
theorem uG {H H':Hp} {Z Z':ZG} (hh:cG H H') (zh:cG Z'.z H'):∀ {ps:List PV} {vs:List V},pW ps=true->aG K Z' ps vs->aG K (oO H Z Z') ps vs
 | [],vs,_,h=>by unfold aG at h ⊢; exact h
 | p::ps,vs,f,h=>by
  obtain ⟨v,r,rfl,h1,h2⟩:=h.inv
  unfold pW at f
  rw [Bool.and_eq_true] at f
  exact aG.cons (Dh hh zh f.1 h1) (uG hh zh f.2 h2)
end
theorem SR.lookB (s:SR K H0 Z0 σ H ρ pd):
 ∃ Z,(σ.length=ρ.vs.length/\ρ.mu.length=Z.g.length/\gK Z ⟨H,Z.g⟩/\Slots K H0 Z H (sl Z.g σ ρ pd))/\(∀ H' v r ρ1,SR K H ⟨H,Z.g⟩ σ H' ρ1 [(v,r)]->xQ r=true->SR K H0 Z0 σ H' ρ ((v,r)::pd))/\∀ H' ρ1,SR K H ⟨H,Z.g⟩ σ H' ρ1 []->SR K H0 Z0 σ H' ρ pd:=by
 obtain ⟨el,Z,hg,z,so⟩:=s
 have lz:gK Z ⟨H,Z.g⟩:=⟨z.zh,List.prefix_refl _⟩
 have back:∀ {H':Hp} {Z':ZG},jN H ⟨H,Z.g⟩ Z' H'->jN H0 Z0 (oO H Z Z') H'/\Slots K H0 (oO H Z Z') H' (sl Z.g σ ρ pd):=fun {H' Z'} z'=>by
  have zz:gK Z (oO H Z Z'):=⟨fun b o e=>by
   show zb (H b) (Z.z b) (Z'.z b)=_
   have hb:=z.zh b o e
   rw [hb]
   cases o<;>first | rfl | exact e,List.prefix_refl _⟩
  have cas:∀ b o,(oO H Z Z').z b=some o->(∃ u,H b=some u/\((BJ u/\o=u)\/Z.z b=some o))\/(H b=none/\Z'.z b=some o):=fun b o e=>by
   have e:zb (H b) (Z.z b) (Z'.z b)=some o:=e
   cases q:H b with
   | none=>rw [q] at e; exact .inr ⟨rfl,e⟩
   | some u=>
    rw [q] at e
    refine .inl ⟨u,rfl,?_⟩
    cases u with
    | tup vs=>cases e; exact .inl ⟨trivial,rfl⟩
    | frz o' u=>cases e; exact .inl ⟨trivial,rfl⟩
    | _=>exact .inr e
  refine ⟨⟨fun b o e=>?_,z.h0.trans z'.h0,z.z0.trans zz,fun b o e=>?_⟩,?_⟩
  . rcases cas b o e with ⟨u,hu,⟨_,rfl⟩ | hz⟩ | ⟨_,hz⟩
    . exact z'.h0 b _ hu
    . exact z'.h0 b o (z.zh b o hz)
    . exact z'.zh b o hz
  . rcases cas b o e with ⟨u,hu,⟨hi,rfl⟩ | hz⟩ | ⟨hn,hz⟩
    . exact .inr (.inr hi)
    . exact z.new b o hz
    . exact .inr (.inl (z.h0.free hn))
  . refine so.step zz fun e he a ha=>?_
    obtain ⟨h1,h2,o,h3,h4⟩:=gr so he ha
    refine ⟨by rw [h3]; exact z'.h0 a o h3,?_⟩
    show zb (H a) (Z.z a) (Z'.z a)=_
    rw [h3]
    cases o with
    | tup vs=>exact (h4 trivial).elim
    | frz o u=>exact (h4 trivial).elim
    | _=>exact h1
 refine ⟨Z,⟨el,hg,lz,so⟩,fun H' v r ρ1 s1 hf=>?_,fun H' ρ1 s1=>?_⟩
 . obtain ⟨_,Z',hg',z',s2⟩:=s1.top
   obtain ⟨zo,ss⟩:=back z'
   have q:=s2.1 _ List.mem_cons_self
   refine .mk (Z:=oO H Z Z') el hg zo ?_
   cases r with
   | sh p=>
    obtain ⟨x,e1,e2⟩:=q
    cases e1
    exact ss.consS (Dh z'.h0 z'.zh hf e2)
   | own p=>
    obtain ⟨a,e1,e2,e3,e4⟩:=q
    have e1':v=.ref a:=Option.some.inj e1
    subst e1'
    cases p with
    | lst ps=>
     obtain ⟨vs,g1,g2⟩:=e2
     refine ⟨fun e he=>?_,?_⟩
     . rcases List.mem_cons.mp he with rfl | he
       . refine ⟨a,rfl,⟨vs,g1,uG z'.h0 z'.zh hf g2⟩,?_,z.h0.free e4⟩
         show zb (H a) (Z.z a) (Z'.z a)=_
         rw [e4]
         exact e3
       . exact ss.1 e he
     . show (a::(sl Z.g σ ρ pd).filterMap jM).Nodup
       refine List.nodup_cons.mpr ⟨fun hm=>?_,ss.2⟩
       obtain ⟨e,he,hb⟩:=List.mem_filterMap.mp hm
       obtain ⟨_,_,o,h3,_⟩:=gr so he hb
       rw [h3] at e4; cases e4
    | _=>cases hf
 . obtain ⟨_,Z',hg',z',s2⟩:=s1
   obtain ⟨zo,ss⟩:=back z'
   exact ⟨el,oO H Z Z',hg,zo,ss⟩
theorem SR.peeked {H:Hp} {Z:ZG} {pk:Option Lc->Option Lc} (el:σ.length=ρ.vs.length) (hg:ρ.mu.length=Z.g.length)
 (hs:∀ v o,(v,o)∈σ.zip ρ.vs->pk o=none\/∃ x p,pk o=some (.sh p)/\v=some x/\Rep K ⟨H,Z.g⟩ p x):SR K H ⟨H,Z.g⟩ σ H ⟨ρ.vs.map pk,ρ.mu.map fun _=>none⟩ []:=by
 have key:∀ v l,(v,l)∈sl Z.g σ ⟨ρ.vs.map pk,ρ.mu.map fun _=>none⟩ []->l=none\/∃ x p,l=some (.sh p)/\v=some x/\Rep K ⟨H,Z.g⟩ p x:=fun v l he=>by
  rcases List.mem_append.mp he with he | he
  . obtain ⟨_,h2⟩:=List.of_mem_zip he
    obtain ⟨o,ho,e2⟩:=List.mem_map.mp h2
    obtain ⟨o',_,e3⟩:=List.mem_map.mp ho
    subst e3
    exact .inl e2.symm
  . rw [List.map_nil,List.append_nil] at he
    have he:(v,l)∈σ.zip (ρ.vs.map pk):=he
    rw [List.zip_map_right] at he
    obtain ⟨e,he2,e1⟩:=List.mem_map.mp he
    cases e1
    exact hs _ _ he2
 refine ⟨by simp [el],⟨H,Z.g⟩,by simp [hg],⟨cG.refl _,cG.refl _,gK.refl _,fun b o e=>.inl e⟩,fun e he=>?_,?_⟩
 . obtain ⟨v,l⟩:=e
   rcases key v l he with rfl | ⟨x,p,rfl,rfl,r⟩
   . trivial
   . exact ⟨x,rfl,r⟩
 . have:(sl Z.g σ ⟨ρ.vs.map pk,ρ.mu.map fun _=>none⟩ []).filterMap jM=[]:=by
    rw [List.filterMap_eq_nil_iff]
    intro e he
    obtain ⟨v,l⟩:=e
    rcases key v l he with rfl | ⟨x,p,rfl,rfl,_⟩
    . cases v with
      | none=>rfl
      | some x=>cases x<;>rfl
    . cases x<;>rfl
   show ((sl Z.g σ ⟨ρ.vs.map pk,ρ.mu.map fun _=>none⟩ []).filterMap jM).Nodup
   rw [this]
   exact List.nodup_nil
theorem SR.look (s:SR K H0 Z0 σ H ρ pd):
 ∃ Zt,SR K H Zt σ H ρ.peek []/\(∀ H' v r ρ1,SR K H Zt σ H' ρ1 [(v,r)]->xQ r=true->SR K H0 Z0 σ H' ρ ((v,r)::pd))/\∀ H' ρ1,SR K H Zt σ H' ρ1 []->SR K H0 Z0 σ H' ρ pd:=by
 obtain ⟨Z,⟨el,hg,lz,so⟩,b1,b2⟩:=s.lookB
 refine ⟨_,SR.peeked (pk:=O2) el hg fun v o he=>?_,b1,b2⟩
 have q:=so.1 _ (List.mem_append_right _ (List.mem_append_left _ he))
 match o,q with
 | none,_=>exact .inl rfl
 | some (.sh p),⟨x,e1,e2⟩=>exact .inr ⟨x,p,rfl,e1,e2.mono lz⟩
 | some (.own p),⟨a,e1,e2,_,_⟩=>exact .inr ⟨.ref a,p,rfl,e1,e2.rep lz rfl⟩
noncomputable def Wq (mu:Mu):PV->PV
 | .ptr n=>match mu[n]? with
  | some (some p)=>p
  | _=>.ptr n
 | p=>p
noncomputable def peekC (mu:Mu):Option Lc->Option Lc
 | some l=>some (.sh (Wq mu l.pv))
 | none=>none
noncomputable def Ev.peekC (ρ:Ev):Ev:=⟨ρ.vs.map (PL.peekC ρ.mu),ρ.mu.map fun _=>none⟩
theorem MT {f:EF}:∀ σ H Q,tP K (vy f) σ H Q->tP K f σ H Q:=fun σ H Q q=>by
 obtain ⟨H0,Z0,ρ,pd,r,ρ',s,h,k⟩:=q
 obtain ⟨x,h1,h2⟩:=bind_some h
 obtain ⟨Zt,s1,b1,_⟩:=s.look
 split at h2
 . rename_i hf
   cases h2
   exact ⟨H,Zt,ρ.peek,[],x.1,x.2,s1,h1,fun v H' s2=>k v H' (b1 H' v x.1 x.2 s2 hf)⟩
 . cases h2
theorem Vi {e:Expr} {f:EF} (h:PE X e (tP X.K f)):PE X e (tP X.K (vy f)):=PE.imp h MT
theorem J8 {e:Expr} {f:TF} (h:PT X e (fL X.K f)):PT X e (fL X.K (oN f)):=PT.imp h fun σ H Q q=>by
 obtain ⟨H0,Z0,ρ,pd,r,ρ',s,h,k⟩:=q
 obtain ⟨x,h1,h2⟩:=map_some h
 cases h2
 obtain ⟨Zt,s1,_,b2⟩:=s.look
 exact ⟨H,Zt,ρ.peek,[],x.1,x.2,s1,h1,fun H' s2=>k H' (b2 H' x.2 s2)⟩
end
noncomputable def tD (x:Str):It:=⟨fun i _=>i<x.cps.size,fun i H v H'=>H'=H/\∃ c,x.cps[i]?=some c/\v=.str ⟨#[c]⟩,fun i _=>i=x.cps.size⟩
theorem Di {P:Program} {w:World} {tg:Expr} (it:Addr) (x:Str) {St:Nat->Heap->Prop} (W:∀ A':Around,A'.handled=none->Walks P w A' it [it] [it] x.cps.size (SignAt x) St)
 (hob:∀ i h,St i h->∃ o,h.get? it=some o/\∀ v,o.data≠.cell v) (slf:∀ (A:Around) (i:Nat) (s:Shared) (Q:Value->Shared->Prop) (E:Value->Shared->Prop),St i s.heap->Q (.ref it) s->wpAny (model P w) A (pyIter (.ref it)) Q E s):Turn P w K tg (tD x) [it] it St where
 mem:=by simp
 obj:=fun i h st b hb=>by
  have e:b=it:=by simpa using hb
  subst e
  exact hob i h st
 keep:=fun i h h' st k=>(W {} rfl).frame i h h' st k
 item:=by
  intro X hP hw hK hc i pins s σ H E I hf st hg
  subst hP hw hK
  obtain ⟨f0,f1,f2,f3,f4,f5⟩:=hf it (by simp)
  refine (W X.A (I.ok.hd hc)).item i s _ E hg st fun v h' tk hv st' hk=>?_
  obtain ⟨c,u,e1,rfl⟩:=hv
  have I1:Inv X pins σ H { s with heap:=h',toks:=tk }:=I.turned (fun b o hb e=>hk b o (by simpa using hb) e) f0 f1 f3 f4 f5
  refine ⟨_,rfl,?_⟩
  have fin:∃ x_1 H',Inv X pins σ H' { s with heap:=h',toks:=tk }/\RelV x_1 (.str ⟨#[c]⟩ u)/\(tD x).yld i H x_1 H'/\St (i+1) h'/\∀ b∈[it],H' b=none:=⟨.str ⟨#[c]⟩,H,I1,⟨u,rfl⟩,⟨rfl,c,e1,rfl⟩,st',fun b hb=>(hf b hb).1⟩
  unfold letOwnedTupleGo
  cases tg<;>exact wpAny_pure fin
 done:=by
  intro X hP hw hK hc i pins s σ H E I hf st hg
  subst hP hw hK
  obtain ⟨f0,f1,f2,f3,f4,f5⟩:=hf it (by simp)
  have hg:i=x.cps.size:=hg
  subst hg
  exact (W X.A (I.ok.hd hc)).done s _ E st fun h' tk hk=>⟨rfl,I.turned (fun b o hb e=>hk b o (by simpa using hb) e) f0 f1 f3 f4 f5⟩
 self:=fun A i s Q E st h=>slf A i s Q E st h
section
variable {X:Cx}
noncomputable def signs (x:Str):List PV:=x.cps.toList.map fun c=>.str ⟨#[c]⟩
noncomputable def WT:PV->Option (List PV)
 | .str x=>some (signs x)
 | _=>none
theorem M3 {H0:Hp} {x:Str}:mK K H0 Z0 pd (tD x) (signs x):=by
 intro σ H ρ i s
 refine ⟨fun p hp=>?_,fun hl=>?_⟩
 . unfold signs at hp
   rw [List.getElem?_map] at hp
   obtain ⟨c,hc,rfl⟩:=map_some hp
   have hi:=(List.getElem?_eq_some_iff.mp hc).1
   refine ⟨(show i<x.cps.size by simpa using hi),fun v H' y=>?_⟩
   obtain ⟨rfl,c',hc',rfl⟩:=y
   have:c'=c:=by
    rw [Array.getElem?_toList] at hc
    rw [hc] at hc'
    exact (Option.some.inj hc').symm
   subst this
   exact s.scal kh
 . show i=x.cps.size
   simpa [signs] using hl
theorem Fi {P:Program} {w:World} {A:Around} {ys:List V} {its:List Value} {bs:List Bool} (rv:Vals ys its) (e:ys=bs.map V.bl):TruthOf P w A (fun i v=>its.toArray[i]?=some v) (fun i=>bs.getD i false):=by
 intro i v s Q E hv q
 have hv':its[i]?=some v:=by simpa using hv
 have hi:=(List.getElem?_eq_some_iff.mp hv').1
 have hl:=rv.length
 have hb:i<bs.length:=by rw [e,List.length_map] at hl; omega
 obtain ⟨u,h1,h2⟩:=rv.get (i:=i) (x:=.bl bs[i]) (by rw [e,List.getElem?_map,List.getElem?_eq_getElem hb]; rfl)
 rw [hv'] at h1; cases h1
 cases h2
 have:bs.getD i false=bs[i]:=by simp [hb]
 have q':Q (bs.getD i false) s:=q
 rw [this] at q'
 exact wpAny_truthy_bool q'
theorem range_all {bs:List Bool}:((List.range bs.length).all fun i=>bs.getD i false)=bs.all id:=by
 induction bs with
 | nil=>rfl
 | cons b r ih=>
  rw [List.length_cons,List.range_succ_eq_map,List.all_cons,List.all_map,List.all_cons]
  have:((List.range r.length).all ((fun i=>(b::r).getD i false) ∘ Nat.succ))=(List.range r.length).all fun i=>r.getD i false:=rfl
  rw [this,ih]
  rfl
theorem tE (hc:X.calm=true):qz X (.builtin "all") (fun xs H Q=>∃ (p:Addr) (bs:List Bool),xs=[.ref p]/\bY X.K H p (bs.map V.bl)/\Q (.bl (bs.all id)) H):=by
 intro pins s σ H xs us Q I r h
 obtain ⟨p,bs,rfl,hq,q⟩:=h
 obtain ⟨u,rfl,ru⟩:=vals1 r
 cases ru
 obtain ⟨its,rv,pl,_⟩:=I.list hq
 have hlt:p<s.heap.objs.size:=by obtain ⟨o,n,g1,_⟩:=pl; exact Heap.lt_size g1
 refine call_all_walk (wpAny_pyIter_list pl.isList ?_)
 have old:∀ b o,s.heap.get? b=some o->(s.heap.push { cls:=.type "list_iterator",data:=.fields #[.ref p,.int 0 0] }).get? b=some o:=fun b o e=>Heap.get?_push_of_some _ e
 have hl:its.toArray.size=bs.length:=by rw [List.size_toArray,← rv.length,List.length_map]
 refine ⟨s.heap.objs.size,_,_,_,_,_,fun i=>bs.getD i false,rfl,Walks.list (A:=X.A.in1) (show X.A.in1.handled=none from I.ok.hd hc) _ p (Nat.ne_of_lt hlt) its.toArray,⟨⟨_,Heap.get?_push_size _ rfl,rfl,rfl⟩,?_⟩,Fi rv rfl,fun h' tk hk=>?_⟩
 . obtain ⟨o,g1,g2⟩:=pl.isList
   exact ⟨o,old _ _ g1,g2⟩
 . rw [hl,range_all]
   refine ⟨.bl _,H,I.kept (t':=tk) fun b o e=>hk b o ?_ (old b o e),rfl,q⟩
   have:=Heap.lt_size e
   simp
   exact Nat.ne_of_lt this
noncomputable def boolsOf:List PV->Option (List Bool)
 | []=>some []
 | .bl b::r=>(boolsOf r).map (b::·)
 | _=>none
theorem Ao {Z:ZG}:∀ {ps:List PV} {bs:List Bool} {vs:List V},boolsOf ps=some bs->aG K Z ps vs->vs=bs.map V.bl
 | [],bs,vs,h,r=>by cases h; exact r.inv0
 | p::ps,bs,vs,h,r=>by
  cases p with
  | bl b=>
   obtain ⟨cs,h1,rfl⟩:=map_some h
   obtain ⟨v,w,rfl,r1,r2⟩:=r.inv
   rw [cP r1,Ao h1 r2]
   rfl
  | _=>cases h
noncomputable def Tq:PV->Option Lc
 | .lst ps=>(boolsOf ps).map fun bs=>.sh (.bl (bs.all id))
 | _=>none
noncomputable abbrev all1:List PV->Option Lc:=fun ps=>match ps with | [p]=>Tq p | _=>none
theorem J9:nM K (fun xs H Q=>∃ (p:Addr) (bs:List Bool),xs=[.ref p]/\bY K H p (bs.map V.bl)/\Q (.bl (bs.all id)) H) all1:=nM.one fun H0 Z0 σ ρ pd H v p l Q s e k=>by
 obtain ⟨_,r⟩:=s.repH
 cases p with
 | lst ps=>
  obtain ⟨bs,h1,rfl⟩:=map_some (show (boolsOf ps).map (fun bs=>Lc.sh (.bl (bs.all id)))=some l from e)
  unfold Rep at r
  obtain ⟨a,vs,rfl,h2,h3⟩:=r
  have:=Ao h1 h3
  subst this
  exact ⟨a,bs,rfl,h2,k _ H (s.pop.scal dm)⟩
 | _=>cases e
noncomputable def VN:PV->Option String
 | .non=>some "NoneType"
 | .bl _=>some "bool"
 | .int _=>some "int"
 | .str _=>some "str"
 | .tup _=>some "tuple"
 | .lst _=>some "list"
 | _=>none
noncomputable def Dj (p:PV) (C:String):Option Bool:=(VN p).bind fun T=>if (Value.type T==Value.type C)=true then some true else if W.kitMeta C=true then (fastBuiltinMro T).map fun x=>x.contains (.type C) else none
theorem nA {p:PV} {T C:String} {b:Bool} (h1:VN p=some T) (h:Dj p C=some b):W.kitOne K (.type T) (.type C)=some b:=by
 unfold Dj at h
 rw [h1,Option.bind_some] at h
 exact h
theorem vR:qz X (.builtin "isinstance") (fun xs H Q=>∃ x C g p b,xs=[x,.ty C]/\Rep X.K ⟨H,g⟩ p x/\Dj p C=some b/\Q (.bl b) H):=by
 intro pins s σ H xs us Q I r h
 obtain ⟨x,C,g,p,b,rfl,rp,e,q⟩:=h
 obtain ⟨u,w',rfl,ru,rw'⟩:=vals2 r
 cases rw'
 have fin:∀ tk,EP X pins σ Q (.bool b) { s with toks:=tk }:=fun tk=>⟨.bl b,H,I.tok tk,rfl,q⟩
 cases p with
 | non=>have:=gk rp; subst this; cases ru; exact W.kia_one W.kitx_none I.kIn trivial (nA rfl e) (by intro z; cases z) fin
 | bl c=>have:=cP rp; subst this; cases ru; exact W.kia_one W.kitx_bool I.kIn trivial (nA rfl e) (by intro z; cases z) fin
 | int i=>have:=bF rp; subst this; obtain ⟨t,rfl⟩:=ru; exact W.kia_one W.kitx_int I.kIn trivial (nA rfl e) (by intro z; cases z) fin
 | str i=>have:=bR rp; subst this; obtain ⟨t,rfl⟩:=ru; exact W.kia_one W.kitx_str I.kIn trivial (nA rfl e) (by intro z; cases z) fin
 | tup ps=>
  obtain ⟨a,vs,its,rfl,_,_,_,o,t1,t2,_⟩:=rD I rp ru
  exact W.kia_one (t:=.type "tuple") W.kitx_tuple I.kIn ⟨o,t1,t2⟩ (nA rfl e) (by intro z; cases z) fin
 | lst ps=>
  obtain ⟨a,vs,its,rfl,_,_,_,o,t1,t2,_⟩:=nW I rp ru
  exact W.kia_one (t:=.type "list") W.kitx_list I.kIn ⟨o,t1,t2⟩ (nA rfl e) (by intro z; cases z) fin
 | _=>cases e
noncomputable def rH (C:String) (f:EF):EF:=fun ρ=>(f ρ).bind fun x=>(Dj x.1.pv C).map fun b=>(.sh (.bl b),x.2)
theorem VP {C:String} {f:EF} {e c:Expr} {pp pos:Pos} (h:PE X (.Call (.Name "isinstance" pp) [e,c] [] pos) (Ck (fun xs H Q=>∃ x C g p b,xs=[x,.ty C]/\Rep X.K ⟨H,g⟩ p x/\Dj p C=some b/\Q (.bl b) H) (vf (tP X.K f) (vf (tC (.ty C)) Cg)))):
 PE X (.Call (.Name "isinstance" pp) [e,c] [] pos) (tP X.K (rH C f)):=PE.imp h fun σ H Q q=>by
 obtain ⟨H0,Z0,ρ,pd,r,ρ',s,h,k⟩:=q
 obtain ⟨x,h1,h2⟩:=bind_some h
 obtain ⟨b,h3,h4⟩:=map_some h2
 cases h4
 refine ⟨H0,Z0,ρ,pd,x.1,x.2,s,h1,fun v H1 s1=>?_⟩
 obtain ⟨g,r1⟩:=s1.freeze.repH
 exact ⟨v,C,g,_,b,rfl,r1,h3,k _ H1 (s1.pop.scal dm)⟩
noncomputable def strsOf:List PV->Option (List Str)
 | []=>some []
 | .str x::r=>(strsOf r).map (x::·)
 | _=>none
theorem tG {Z:ZG}:∀ {ps:List PV} {xs:List Str} {vs:List V},strsOf ps=some xs->aG K Z ps vs->vs=xs.map V.str
 | [],xs,vs,h,r=>by cases h; exact r.inv0
 | p::ps,xs,vs,h,r=>by
  cases p with
  | str b=>
   obtain ⟨cs,h1,rfl⟩:=map_some h
   obtain ⟨v,w,rfl,r1,r2⟩:=r.inv
   rw [bR r1,tG h1 r2]
   rfl
  | _=>cases h
theorem xR:∀ {xs:List Str} {its:List Value},Vals (xs.map V.str) its->StrsAre its xs
 | [],_,.nil=>.nil
 | x::xs,_,.cons r t=>by
  obtain ⟨tk,rfl⟩:=r
  exact .cons _ _ (xR t)
theorem Gh:VF X "str.join" (fun x xs H Q=>∃ (z:Str) (p:Addr) (ys:List Str),x=.str z/\xs=[.ref p]/\bY X.K H p (ys.map V.str)/\(ys.map (·.length)).sum+ys.length*z.length<=16777216/\Q (.str (Txt.join z ys)) H):=by
 intro pins s σ H x vs v us Q I rx rv h
 obtain ⟨z,p,ys,rfl,rfl,hq,hz,q⟩:=h
 obtain ⟨t,rfl⟩:=rx
 obtain ⟨u,rfl,ru⟩:=rv.one
 cases ru
 obtain ⟨its,rvs,pl,_⟩:=I.list hq
 exact join_list pl.isList (by simpa using xR rvs) hz fun t' k=>⟨.str _,H,I.tok k,⟨t',rfl⟩,q⟩
noncomputable def nP (f:EF) (a:AF):EF:=fun ρ=>(f ρ).bind fun x=>(a x.2).bind fun y=>match x.1.pv,y.1.map Lc.pv with
 | .str z,[.lst ps]=>(strsOf ps).bind fun xs=>if (xs.map (·.length)).sum+xs.length*z.length<=100000 then some (.sh (.str (Txt.join z xs)),y.2) else none
 | _,_=>none
theorem O3 {o e:Expr} {f:EF} {a:AF} {apos cpos:Pos} (h:PE X (.Call (.Attribute o "join" apos) [e] [] cpos) (Jy X.K "str" (fun x xs H Q=>∃ (z:Str) (p:Addr) (ys:List Str),x=.str z/\xs=[.ref p]/\bY X.K H p (ys.map V.str)/\(ys.map (·.length)).sum+ys.length*z.length<=16777216/\Q (.str (Txt.join z ys)) H) (tP X.K f) (jk X.K a))):
 PE X (.Call (.Attribute o "join" apos) [e] [] cpos) (tP X.K (nP f a)):=PE.imp h fun σ H Q q=>by
 obtain ⟨H0,Z0,ρ,pd,r,ρ',s,h,k⟩:=q
 obtain ⟨x,h1,h2⟩:=bind_some h
 obtain ⟨y,h3,h4⟩:=bind_some h2
 refine ⟨H0,Z0,ρ,pd,x.1,x.2,s,h1,fun v H1 s1=>?_⟩
 split at h4
 . rename_i z ps ez ep
   obtain ⟨xs,h5,h6⟩:=bind_some h4
   split at h6
   . rename_i hz
     cases h6
     obtain ⟨_,rz⟩:=s1.freeze.repH
     rw [ez] at rz
     have:=bR rz
     subst this
     refine ⟨rfl,H0,Z0,x.2,pd,y.1,y.2,s1.pop,h3,fun vs H2 e2 s2=>?_⟩
     obtain ⟨el,Z,hg,zz,rl,ss⟩:=s2.repl e2
     rw [ep] at rl
     obtain ⟨w,rr,rfl,r1,r2⟩:=rl.inv
     have:=r2.inv0
     subst this
     unfold Rep at r1
     obtain ⟨b,ws,rfl,g1,g2⟩:=r1
     have:=tG h5 g2
     subst this
     exact ⟨z,b,xs,rfl,rfl,bY.same zz.zh g1,by omega,k _ H2 (.mk (Z:=Z) el hg zz (ss.consS (kh _)))⟩
   . cases h6
 . cases h4
end
section
variable {prog:Program} {w:World} {A:Around} {E:Value->Shared->Prop} {s:Shared}
theorem Ar {it t:Addr} {items:Array Value} (hne:t≠it):∀ (n i:Nat) (s:Shared) (Q:List Value->Shared->Prop),s.heap.IsListIter it t i->s.heap.IsList t items->i+n<=items.size->
 (∀ h',h'.IsListIter it t (i+n)->Heap.SameBut it s.heap h'->Q ((items.toList.drop i).take n) { s with heap:=h' })->wpAny (model prog w) A (draw (.ref it) n) Q E s
 | 0,i,s,Q,hit,_,_,hQ=>by
  show wpAny _ _ (pure []) Q E s
  exact wpAny_pure (by simpa using hQ s.heap hit (Heap.SameBut.refl ..))
 | n+1,i,s,Q,hit,ht,hle,hQ=>by
  have hlt:i<items.size:=by omega
  show wpAny _ _ (pyNext (.ref it) >>= _) Q E s
  refine wpAny_bind (wpAny_pyNext_list_item hit ht (x:=items[i]) (by simp [hlt]) fun h₁ hit₁ hs₁=>?_)
  refine wpAny_bind (wpAny_holding (Ar hne n (i+1) _ _ hit₁ (ht.extBut hs₁.extBut hne) (by omega) fun h₂ hit₂ hs₂=>wpAny_pure ?_))
  have hd:items.toList.drop i=items[i]::items.toList.drop (i+1):=by simp [List.drop_eq_getElem_cons,hlt]
  have:=hQ h₂ (by rw [show i+(n+1)=i+1+n by omega]; exact hit₂) (hs₁.trans hs₂)
  rw [hd,List.take_succ_cons] at this
  exact this
theorem wu {t:Addr} {items:Array Value} {Q:List Value->Shared->Prop} (hh:A.handled=none) (ht:s.heap.IsList t items)
 (hQ:∀ h',Heap.ExtBut s.heap.objs.size s.heap h'->Q items.toList { s with heap:=h' }):wpAny (model prog w) A (unpackItems (.ref t) items.size none) Q E s:=by
 have hlt:t≠s.heap.objs.size:=by obtain ⟨o,ho,_⟩:=ht; exact Nat.ne_of_lt (Heap.lt_size ho)
 unfold unpackItems
 refine wpAny_bind ?_
 . unfold notIterableAtAll
   refine wpAny_bind (wpAny_specialOf ht.typeIs slot_list_iter.lookup ?_)
   refine wpAny_pure ?_
   simp only [Bool.false_eq_true,if_false]
   refine wpAny_bind (wpAny_holding (wpAny_pyIter_list ht ?_))
   refine wpAny_bind (wpAny_holding (Ar hlt items.size 0 _ _ ⟨_,Heap.get?_push_size _ rfl,rfl,rfl⟩ (by obtain ⟨o,g1,g2⟩:=ht; exact ⟨o,Heap.get?_push_of_some _ g1,g2⟩) (by omega) fun h₁ hit₁ hs₁=>?_))
   have hall:List.take items.size (List.drop 0 items.toList)=items.toList:=by
    rw [List.drop_zero]; exact List.take_of_length_le (by simp)
   rw [hall]
   rw [if_neg (by simp)]
   have ht₁:h₁.IsList t items:=Heap.IsList.extBut (by obtain ⟨o,g1,g2⟩:=ht; exact ⟨o,Heap.get?_push_of_some _ g1,g2⟩) hs₁.extBut hlt
   refine wpAny_bind (wpAny_holding (wpAny_pyNext_list_end hh hit₁ ht₁ (by simp) fun h₂ he₂=>?_))
   simp only [Option.isSome_none,Bool.false_eq_true,if_false]
   refine wpAny_pure (hQ h₂ fun b o hb e=>he₂ b o hb (hs₁.extBut b o hb (Heap.get?_push_of_some _ e)))
end
section
variable {X:Cx} {pos:Pos}
noncomputable def Tr (K:FG) (n:Nat) (t:tW):TG:=fun v σ H Q=>∃ a xs,v=.ref a/\(cW K H a xs\/bY K H a xs)/\xs.length=n/\t xs σ H Q
theorem rJ {es:List Expr} {k:Nat} {t:tW} {n:Nat} (hc:X.calm=true) (h:Ji X es t)
 (hn:(assignEach es X.env).length=n:=by rfl) (hst:(assignEach es X.env).findIdx? (·.1)=none:=by rfl):PG X (.Tuple es k pos) (Tr X.K n t):=by
 intro pins s σ H v u Q I r hw
 obtain ⟨a,xs,e1,hq,hl,hw⟩:=hw
 rcases hq with hq | hq
 . exact RD hc h hn hst pins s σ H v u Q I r ⟨a,xs,e1,hq,hl,hw⟩
 . subst e1
   cases r
   obtain ⟨its,rv,ht,hz⟩:=I.list hq
   rw [assign_Tuple]
   refine wpAny_bind (wpAny_standAt ?_)
   unfold unpack
   have hsz:(assignEach es X.env).length=its.toArray.size:=by simp [hn,← hl,rv.length]
   rw [hsz,hst]
   refine wpAny_bind (wpAny_holding (wu (I.ok.hd hc) ht.isList fun h' hx=>?_))
   have I1:Inv X pins σ H { s with heap:=h' }:=I.kept (t':=s.toks) fun b o e=>hx b o (Nat.ne_of_lt (Heap.lt_size e)) e
   exact h pins _ σ H xs _ Q I1 (by simpa using rv) hw
noncomputable def iZ (n:Nat) (bs:CG):BF:=fun p ρ=>match p with
 | .tup ps=>if ps.length=n then bs ps ρ else none
 | .lst ps=>if ps.length=n then bs ps ρ else none
 | _=>none
theorem rK {n:Nat} {t:tW} {bs:CG} (h1:OD K t bs):GS K (Tr K n t) (iZ n bs):=by
 intro H0 Z0 σ H ρ pd v p ρ' Q s h k
 cases p with
 | tup ps=>
  have h':(if ps.length=n then bs ps ρ else none)=some ρ':=h
  split at h'
  . rename_i hn
    obtain ⟨e,Z,hg,z,r,sl'⟩:=s.sh
    unfold Rep at r
    obtain ⟨a,vs,rfl,h2,h3⟩:=r
    exact ⟨a,vs,rfl,.inl (cW.same z.zh h2),by rw [h3.length]; exact hn,h1 H0 Z0 σ H ρ pd vs ps ρ' Q h3.length (SR.items e hg z h3 sl') h' k⟩
  . cases h'
 | lst ps=>
  have h':(if ps.length=n then bs ps ρ else none)=some ρ':=h
  split at h'
  . rename_i hn
    obtain ⟨e,Z,hg,z,r,sl'⟩:=s.sh
    unfold Rep at r
    obtain ⟨a,vs,rfl,h2,h3⟩:=r
    exact ⟨a,vs,rfl,.inr (bY.same z.zh h2),by rw [h3.length]; exact hn,h1 H0 Z0 σ H ρ pd vs ps ρ' Q h3.length (SR.items e hg z h3 sl') h' k⟩
  . cases h'
 | _=>cases h
noncomputable def Wr (K:FG) (tl:TE):TI:=fun σ H R=>tl σ H fun x H1=>(∃ a,x=.ref a/\(∃ xs,bY K H1 a xs)/\R (Oi K a) H1)\/(∃ a,x=.ref a/\(∃ xs,cW K H1 a xs)/\R (Oj K a) H1)\/∃ z,x=.str z/\R (tD z) H1
theorem Tt {tg l:Expr} {tl:TE} (hl:PE X l tl):PI X tg l (Wr X.K tl):=by
 intro pins s σ H R I h
 have at':∀ (v:Value) (s1:Shared) (x:V) (H1:Hp),Inv X pins σ H1 s1->RelV x v->((∃ a,x=.ref a/\(∃ xs,bY X.K H1 a xs)/\R (Oi X.K a) H1)\/(∃ a,x=.ref a/\(∃ xs,cW X.K H1 a xs)/\R (Oj X.K a) H1)\/∃ z,x=.str z/\R (tD z) H1)->
  wpAny (model X.prog X.w) X.A (pyIter v) (PIE X pins σ tg R) X.xe s1:=fun v s1 x H1 I1 r1 q=>by
  have fp:∀ b,b∈[s1.heap.objs.size]->mD X pins H1 b:=fun b hb=>by
   have e:b=s1.heap.objs.size:=by simpa using hb
   subst e
   exact I1.fpOk (Nat.le_refl _) (I1.hok.fresh (Nat.le_refl _))
  rcases q with ⟨a,rfl,⟨xs,hq⟩,q⟩ | ⟨a,rfl,⟨xs,hq⟩,q⟩ | ⟨z,rfl,q⟩
  . cases r1
    obtain ⟨its,rv,p,hz⟩:=I1.list hq
    exact wpAny_pyIter_list p.isList ⟨s1.heap.objs.size,[s1.heap.objs.size],_,_,H1,rfl,I1.kept (t':=s1.toks) fun b o e=>Heap.get?_push_of_some _ e,Jl a _,⟨_,Heap.get?_push_size _ rfl,rfl,rfl⟩,fp,q⟩
  . cases r1
    obtain ⟨its,rv,p,hz⟩:=I1.tuple hq
    exact wpAny_pyIter_tuple p ⟨s1.heap.objs.size,[s1.heap.objs.size],_,_,H1,rfl,I1.kept (t':=s1.toks) fun b o e=>Heap.get?_push_of_some _ e,G9 a _,⟨_,Heap.get?_push_size _ rfl,rfl,rfl⟩,fp,q⟩
  . obtain ⟨t,rfl⟩:=r1
    have kp:∀ (o:Obj),Inv X pins σ H1 { s1 with heap:=s1.heap.push o }:=fun o=>I1.kept (t':=s1.toks) fun b u e=>Heap.get?_push_of_some _ e
    have ob:∀ {n:String} (i:Nat) (h:Heap),h.IsStrIter s1.heap.objs.size n z t i->∃ o,h.get? s1.heap.objs.size=some o/\∀ v,o.data≠.cell v:=fun i h st=>by
     obtain ⟨o,ho,_,hd⟩:=st
     exact ⟨o,ho,fun v e=>by rw [hd] at e; cases e⟩
    cases ha:z.cps.all (·<128)
    . exact wpAny_pyIter_wide ha ⟨s1.heap.objs.size,[s1.heap.objs.size],_,tD z,H1,rfl,kp _,Di _ z (fun A' hA=>Walks.strWide hA _ z t) ob (fun A i s Q E st h=>wpAny_pyIter_striter_wide st h),⟨_,Heap.get?_push_size _ rfl,rfl,rfl⟩,fp,q⟩
    . exact wpAny_pyIter_ascii ha ⟨s1.heap.objs.size,[s1.heap.objs.size],_,tD z,H1,rfl,kp _,Di _ z (fun A' hA=>Walks.strAscii hA _ z t) ob (fun A i s Q E st h=>wpAny_pyIter_striter_ascii st h),⟨_,Heap.get?_push_size _ rfl,rfl,rfl⟩,fp,q⟩
 exact bu (hl pins s σ H _ I h) fun v s1 ⟨x,H1,I1,r1,q⟩=>at' v s1 x H1 I1 r1 q
noncomputable def bV:PV->Option (List PV)
 | .lst ps=>some ps
 | .tup ps=>some ps
 | .str x=>some (signs x)
 | _=>none
theorem dR {tg l:Expr} {f:EF} (hl:PE X l (tP X.K f)):PI X tg l (Al X.K (d7 f bV)):=PI.imp (Tt hl) fun σ H R q=>by
 obtain ⟨H0,Z0,ρ,pd,xs,ρ',s,h,k⟩:=q
 obtain ⟨x,h1,h2⟩:=bind_some h
 obtain ⟨ys,h3,h4⟩:=map_some h2
 cases h4
 refine ⟨H0,Z0,ρ,pd,x.1,x.2,s,h1,fun v H1 s1=>?_⟩
 have s2:=s1.freeze
 cases e:x.1.pv with
 | lst ps=>
  rw [e] at h3 s2
  cases h3
  obtain ⟨Z,z,r⟩:=s2.rep
  unfold Rep at r
  obtain ⟨b,vs,rfl,h1',h2'⟩:=r
  exact .inl ⟨b,rfl,⟨vs,bY.same z h1'⟩,k _ _ _ s2 J0 (List.sublist_cons_self _ _)⟩
 | tup ps=>
  rw [e] at h3 s2
  cases h3
  obtain ⟨Z,z,r⟩:=s2.rep
  unfold Rep at r
  obtain ⟨b,vs,rfl,h1',h2'⟩:=r
  exact .inr (.inl ⟨b,rfl,⟨vs,cW.same z h1'⟩,k _ _ _ s2 MN (List.sublist_cons_self _ _)⟩)
 | str z=>
  rw [e] at h3 s2
  cases h3
  obtain ⟨_,r⟩:=s2.repH
  exact .inr (.inr ⟨z,bR r,k _ _ _ s2.pop M3 (List.Sublist.refl _)⟩)
 | _=>rw [e] at h3; cases h3
noncomputable def rM (g g':PV->PV->Option Lc) (fa fb fc:EF):EF:=fun ρ=>(fa ρ).bind fun x=>(fb x.2).bind fun y=>(g x.1.pv y.1.pv).bind fun z=>match z.pv with
 | .bl true=>(fc y.2).bind fun w=>(g' y.1.pv w.1.pv).map fun l=>(l,w.2)
 | .bl false=>some (.sh (.bl false),y.2)
 | _=>none
theorem Ka {r r':R2} {g g':PV->PV->Option Lc} (hs:iT X.K r g) (hs':iT X.K r' g') {fa fb fc:EF}:∀ σ H Q,tP X.K (rM g g' fa fb fc) σ H Q->Js r r' (tP X.K fa) (tP X.K fb) (tP X.K fc) σ H Q:=fun σ H Q q=>by
 obtain ⟨H0,Z0,ρ,pd,l,ρ',s,f,k⟩:=q
 obtain ⟨x,h1,h2⟩:=bind_some f
 obtain ⟨y,h3,h4⟩:=bind_some h2
 obtain ⟨z,h5,h6⟩:=bind_some h4
 refine ⟨H0,Z0,ρ,pd,x.1,x.2,s,h1,fun v H1 s1=>⟨H0,Z0,x.2,_,y.1,y.2,s1,h3,fun w H2 s2=>?_⟩⟩
 have s3:=s2.freeze.swap.freeze.swap
 have s4:SR X.K H0 Z0 σ H2 y.2 ((w,.sh y.1.pv)::(v,.sh x.1.pv)::(w,.sh y.1.pv)::pd):=s3.dup.perm ((List.Perm.swap _ _ _).cons _)
 refine hs H0 Z0 σ y.2 _ H2 v w x.1.pv y.1.pv z _ s4 h5 fun u H3 s5=>?_
 obtain ⟨_,ru⟩:=s5.freeze.repH
 split at h6
 . rename_i e
   rw [e] at ru
   refine ⟨true,cP ru,?_⟩
   rw [if_pos rfl]
   obtain ⟨t,h7,h8⟩:=bind_some h6
   obtain ⟨l',h9,h10⟩:=map_some h8
   cases h10
   refine ⟨H0,Z0,y.2,_,t.1,t.2,s5.pop,h7,fun b H4 s6=>?_⟩
   exact hs' H0 Z0 σ t.2 pd H4 w b y.1.pv t.1.pv _ Q s6.freeze h9 k
 . rename_i e
   rw [e] at ru
   refine ⟨false,cP ru,?_⟩
   rw [if_neg Bool.false_ne_true]
   cases h6
   exact k _ H3 (s5.pop.pop.scal dm)
 . cases h6
theorem Tu {op op':CmpOp} {a b c:Expr} {r r':R2} {g g':PV->PV->Option Lc} {fa fb fc:EF} (ho:dY X (compareOp op) r) (ho':dY X (compareOp op') r') (hs:iT X.K r g) (hs':iT X.K r' g') (ha:PE X a (tP X.K fa)) (hb:PE X b (tP X.K fb)) (hc:PE X c (tP X.K fc))
 (hm:lastMarks [op,op'] [b,c]=false:=by with_unfolding_all rfl):PE X (.Compare a [op,op'] [b,c] pos) (tP X.K (rM g g' fa fb fc)):=PE.imp (Ln ho ho' ha hb hc hm) (Ka hs hs')
end
section
variable {P:Program} {w:World} {K:FG} {mg:Str->Option Value} {base:Heap}
noncomputable def Tv (mg:Str->Option Value) (L:List Str):Prop:=∀ x∈L,mg x=none
noncomputable def BR (K:FG):Sp:=fun vs H Q _=>∃ (a:Addr) (ns:List Int),vs=[.ref a]/\bY K H a (ns.map V.int)/\ns.length<=63/\∀ H',Q (.bl true) H'
theorem Tz {f:Addr} {fd:FuncData} {k:Nat} {g:GF} (F:jr P w K mg base mZ k f fd ["_law_script"] (bM K 1 g)) (h:∀ ns:List Int,ns.length<=63->∃ mu',g [.lst (ns.map PV.int)] []=some (.sh (.bl true),mu')):jr P w K mg base mZ k f fd ["_law_script"] (BR K):=
 F.imp fun vs H Q E q=>by
  obtain ⟨a,ns,rfl,hs,hl,k⟩:=q
  obtain ⟨mu',e⟩:=h ns hl
  refine ⟨⟨H,[]⟩,[.lst (ns.map PV.int)],[],_,mu',rfl,rfl,cG.refl _,aG.cons ?_ .nil,⟨fun e he=>(by cases he),List.nodup_nil⟩,e,fun v H' r=>?_⟩
  . unfold Rep
    refine ⟨a,ns.map V.int,rfl,hs,?_⟩
    clear hs e hl
    induction ns with
    | nil=>exact .nil
    | cons n r ih=>exact aG.cons (eG _) ih
  . obtain ⟨Z',_,_,s⟩:=r
    obtain ⟨x,e1,e2⟩:=s.1 _ List.mem_cons_self
    cases e1
    rw [cP e2]
    exact k H'
end
theorem aQ:∀ ρ ls ρ1,ao ρ=some (ls,ρ1)->ls.length=0:=fun ρ ls ρ1 h=>by cases h; rfl
theorem aA {f:EF} {g:AF} {n:Nat} (h:∀ ρ ls ρ1,g ρ=some (ls,ρ1)->ls.length=n):∀ ρ ls ρ1,aj f g ρ=some (ls,ρ1)->ls.length=n+1:=fun ρ ls ρ1 e=>by
 obtain ⟨x,h1,h2⟩:=bind_some e
 obtain ⟨y,h3,h4⟩:=map_some h2
 cases h4
 rw [List.length_cons,h _ _ _ h3]
theorem Vj {X:Cx} {M F:List Str} {ixs:List Nat} {sc:Scope} (S:Scope) (hS:X.env.scope=S) (kind:sc.kind=.function) (locs:∀ y∈sc.names,y.2=.local->sc.names.lookup y.1=some .local) (cel:∀ y∈sc.names,y.2=.cell->sc.names.lookup y.1=some .cell)
 (own:∀ p∈sc.names,p.2=.free->S.names.lookup p.1=some .cell\/S.names.lookup p.1=some .free) (frs:∀ x∈F,sc.names.lookup x=some .free) (ix:ixs.map (fun i=>X.N[i]?)=F.map some):ie X M F ixs sc:=by
 refine ⟨kind,locs,cel,fun p hp e=>by rw [hS]; exact own p hp e,frs,?_,fun j i h=>?_⟩
 . have:=congrArg List.length ix
   simpa using this
 . have h2:(ixs.map (fun i=>X.N[i]?))[j]?=some X.N[i]?:=by rw [List.getElem?_map,h]; rfl
   rw [ix,List.getElem?_map] at h2
   cases q:F[j]? with
   | none=>rw [q] at h2; cases h2
   | some x=>rw [q] at h2; exact (Option.some.inj h2).symm
section
variable {P:Program} {w:World} {K:FG} {mg:Str->Option Value} {base:Heap}
theorem m5.okP {x:Str} {st:Stmt} {N ps:List Str} {k:Nat} {g:GF} {f:Addr} {fd:FuncData} (F:m5 K x x st f fd) (S:aR N ps (aq st))
 (h:∀ (cdv:Value) (A:Around) (outer:List PySem.Env) (s:Shared) (H:Hp) (E:XK),eQ k (A.deeper (envOfC x (aq st) s.heap.objs.size f cdv))->
   ∃ g':SF,(∀ a mu,g a mu=cQ N.length g' a mu)/\dg (jW mZ P w K mg base N x (aq st) f cdv A outer s H E).nox (aN st) (dZ K g')):jr P w K mg base mZ (k+1) f fd ps (bM K ps.length g):=by
 refine F.ok S (fun vs H Q E q=>?_) (fun cdv A outer s H vs Q E hr q=>?_)
 . obtain ⟨Z,qs,mu,r,mu',e,_⟩:=q; exact e
 . obtain ⟨g',eg,b⟩:=h cdv A outer s H E hr
   obtain ⟨Z,qs,mu,r,mu',e,hg,z,rl,c,hr',kk⟩:=q
   rw [eg] at hr'
   obtain ⟨fl,h1,h2⟩:=bind_some hr'
   refine ⟨_,b,iU H (lr Z.g mu),Z,_,[],fl,sU hg z rl c,h1,?_⟩
   cases fl with
   | rt r' ρ'=>
    cases h2
    intro v σ' H' s'
    obtain ⟨el,Z',hg',z',s''⟩:=s'.top
    refine kk v H' ⟨Z',hg',z',s''.sub ?_⟩
    exact (List.sublist_append_left _ _).cons_cons _
   | nx ρ'=>
    cases h2
    intro σ' H' s'
    obtain ⟨el,Z',hg',z',s''⟩:=s'
    exact kk .non H' ⟨Z',hg',z',(s''.sub (List.sublist_append_left _ _)).consS (rm _)⟩
   | bk ρ'=>cases h2
   | ct ρ'=>cases h2
end
section
variable {X:Cx}
noncomputable def Ws:PV->Option PV
 | .int i=>some (.int (-i))
 | _=>none
noncomputable def lJ (f:EF):EF:=fun ρ=>(f ρ).bind fun x=>(Ws x.1.pv).map fun p=>(.sh p,x.2)
theorem ww {a:Expr} {f:EF} {pos:Pos} (ha:PE X a (tP X.K f)):PE X (.UnaryOp .USub a pos) (tP X.K (lJ f)):=PE.imp (U7 RQ ha) fun σ H Q q=>by
 obtain ⟨H0,Z0,ρ,pd,r,ρ',s,h,k⟩:=q
 obtain ⟨x,h1,h2⟩:=bind_some h
 obtain ⟨p,h3,h4⟩:=map_some h2
 cases h4
 refine ⟨H0,Z0,ρ,pd,x.1,x.2,s,h1,fun v H1 s1=>?_⟩
 obtain ⟨_,r1⟩:=s1.freeze.repH
 cases e:x.1.pv with
 | int i=>
  rw [e] at h3 r1
  cases h3
  exact ⟨i,bF r1,k _ H1 (s1.pop.scal eG)⟩
 | _=>rw [e] at h3; cases h3
end
theorem zj {b:BF} {body:SF} {xs:List PV} (I:Nat->Ev->Prop) (h0:I 0 ρ) (hs:∀ (i:Nat) x ρ,xs[i]?=some x->I i ρ->∃ ρ1,b x ρ=some ρ1/\∃ ρ2,(body ρ1=some (.nx ρ2)\/body ρ1=some (.ct ρ2))/\I (i+1) ρ2):∃ ρ',dG b body xs ρ=some (.nx ρ')/\I xs.length ρ':=by
 induction xs generalizing ρ I with
 | nil=>exact ⟨ρ,rfl,h0⟩
 | cons x xs ih=>
  obtain ⟨ρ1,e1,ρ2,e2,h2⟩:=hs 0 x ρ rfl h0
  obtain ⟨ρ',e3,h3⟩:=ih (ρ:=ρ2) (fun i ρ=>I (i+1) ρ) h2 (fun i y ρ h=>hs (i+1) y ρ (by simpa using h))
  refine ⟨ρ',?_,h3⟩
  show (b x ρ).bind _=_
  rw [e1,Option.bind_some]
  rcases e2 with e2 | e2<;>rw [e2,Option.bind_some]<;>exact e3
theorem lK {b:BF} {tc:TF} {te:EF} {mu:Mu} (J:Ev->Prop) (hJ:∀ ρ,J ρ->ρ.mu=mu) (c:PV->Bool) (f:PV->PV):∀ {xs:List PV} {ρ:Ev} {acc:List PV},J ρ->acc.length+xs.length<=100000->
 (∀ x∈xs,∀ ρ,J ρ->∃ ρ1,b x ρ=some ρ1/\∃ ρ2,tc ρ1=some (c x,ρ2)/\J ρ2/\(c x=true->∃ l ρ3,te ρ2=some (l,ρ3)/\l.pv=f x/\J ρ3))->fO b tc te xs ρ acc=some (acc++(xs.filter c).map f,mu)
 | [],ρ,acc,h,_,_=>by
  show some (acc,ρ.mu)=_
  rw [hJ ρ h]
  simp
 | x::xs,ρ,acc,h,hl,hs=>by
  obtain ⟨ρ1,e1,ρ2,e2,h2,h3⟩:=hs x List.mem_cons_self ρ h
  have hs':∀ y∈xs,∀ ρ,J ρ->∃ ρ1,b y ρ=some ρ1/\∃ ρ2,tc ρ1=some (c y,ρ2)/\J ρ2/\(c y=true->∃ l ρ3,te ρ2=some (l,ρ3)/\l.pv=f y/\J ρ3):=fun y hy=>hs y (List.mem_cons_of_mem _ hy)
  rw [List.length_cons] at hl
  show (b x ρ).bind _=_
  rw [e1,Option.bind_some,e2,Option.bind_some]
  cases hc:c x with
  | false=>
   simp only [Bool.false_eq_true,if_false]
   rw [lK J hJ c f h2 (by omega) hs',List.filter_cons_of_neg (by simp [hc])]
  | true=>
   obtain ⟨l,ρ3,e3,ef,h4⟩:=h3 hc
   simp only [if_true]
   rw [e3,Option.bind_some,if_pos (by omega),lK J hJ c f h4 (by rw [List.length_append,List.length_singleton]; omega) hs',List.filter_cons_of_pos (by simp [hc]),ef]
   simp
theorem nY {b:BF} {te:EF} {mu:Mu} (J:Ev->Prop) (hJ:∀ ρ,J ρ->ρ.mu=mu) (f:PV->PV) {xs:List PV} (h:J ρ) (hl:xs.length<=100000)
 (hs:∀ x∈xs,∀ ρ,J ρ->∃ ρ1,b x ρ=some ρ1/\∃ l ρ3,te ρ1=some (l,ρ3)/\l.pv=f x/\J ρ3) (hb:∀ x∈xs,∀ ρ ρ1,J ρ->b x ρ=some ρ1->J ρ1):fO b cM te xs ρ []=some (xs.map f,mu):=by
 rw [lK J hJ (fun _=>true) f h (by simpa using hl) fun x hx ρ hρ=>?_]
 . rw [List.nil_append,List.filter_eq_self.mpr (fun _ _=>rfl)]
 . obtain ⟨ρ1,e1,l,ρ3,e3⟩:=hs x hx ρ hρ
   exact ⟨ρ1,e1,ρ1,rfl,hb x hx ρ ρ1 hρ e1,fun _=>⟨l,ρ3,e3⟩⟩
theorem du {a b:Int} (h:0<b):bA (.int a) (.int b)=some (.sh (.int (a%b))):=by
 show (if decide (0<b)=true then _ else _)=_
 rw [if_pos (decide_eq_true h)]
theorem fC {a b:Int} (h:0<b) (h2:b<1073741824):bc (.int a) (.int b)=some (.sh (.int (a/b))):=by
 show (if decide (0<b/\b<1073741824)=true then _ else _)=_
 rw [if_pos (decide_eq_true ⟨h,h2⟩)]
theorem Kc {a b:Int} (h:-18446744073709551616<a) (h2:a<18446744073709551616):jK (.int a) (.int b)=some (.sh (.int (a*b))):=by
 show (if decide ((-(2 ^ 64)<a/\a<2 ^ 64)\/(-(2 ^ 64)<b/\b<2 ^ 64))=true then _ else _)=_
 rw [if_pos (decide_eq_true (.inl ⟨by omega,by omega⟩))]
theorem TQ {a b:Int} (h:-18446744073709551616<b) (h2:b<18446744073709551616):jK (.int a) (.int b)=some (.sh (.int (a*b))):=by
 show (if decide ((-(2 ^ 64)<a/\a<2 ^ 64)\/(-(2 ^ 64)<b/\b<2 ^ 64))=true then _ else _)=_
 rw [if_pos (decide_eq_true (.inr ⟨by omega,by omega⟩))]
theorem uH {g:PV->PV->Option Lc} {fa fb:EF} {ρ ρ1 ρ2:Ev} {x y l:Lc} (h1:fa ρ=some (x,ρ1)) (h2:fb ρ1=some (y,ρ2)) (h3:g x.pv y.pv=some l):au g fa fb ρ=some (l,ρ2):=by
 unfold au
 rw [h1,Option.bind_some,h2,Option.bind_some,h3]
 rfl
theorem wy {α:Type} {l:List α} {i:Int} (h0:0<=i) (h1:i<l.length):∃ x,gj l i=some x/\l[i.toNat]?=some x:=by
 have hi:i.toNat<l.length:=by omega
 refine ⟨l[i.toNat],?_,List.getElem?_eq_getElem hi⟩
 unfold gj qG
 rw [if_pos h0,if_pos h1,Option.bind_some,List.getElem?_eq_getElem hi]
theorem lU {lo:Int} {n:Nat}:(fW lo n).length=n:=by simp [fW]
theorem zm {lo:Int} {n:Nat} {p:PV} (h:p∈fW lo n):∃ i:Nat,i<n/\p=.int (lo+i):=by
 unfold fW at h
 obtain ⟨i,hi,rfl⟩:=List.mem_map.mp h
 exact ⟨i,List.mem_range.mp hi,rfl⟩
theorem Dk {b:BF} {te:EF} {mu:Mu} (J:Ev->Prop) (hJ:∀ ρ,J ρ->ρ.mu=mu) (R:PV->PV->Prop):∀ {xs:List PV} {ρ:Ev} {acc:List PV},J ρ->acc.length+xs.length<=100000->
 (∀ x∈xs,∀ ρ,J ρ->∃ ρ1,b x ρ=some ρ1/\∃ l ρ3,te ρ1=some (l,ρ3)/\R x l.pv/\J ρ3)->∃ ys,fO b cM te xs ρ acc=some (acc++ys,mu)/\Paired R xs ys
 | [],ρ,acc,h,_,_=>⟨[],by show some (acc,ρ.mu)=_; rw [hJ ρ h]; simp,.nil⟩
 | x::xs,ρ,acc,h,hl,hs=>by
  obtain ⟨ρ1,e1,l,ρ3,e3,r,h3⟩:=hs x List.mem_cons_self ρ h
  rw [List.length_cons] at hl
  obtain ⟨ys,e,p⟩:=Dk J hJ R (xs:=xs) (ρ:=ρ3) (acc:=acc++[l.pv]) h3 (by rw [List.length_append,List.length_singleton]; omega) fun y hy=>hs y (List.mem_cons_of_mem _ hy)
  refine ⟨l.pv::ys,?_,.cons r p⟩
  show (b x ρ).bind _=_
  rw [e1,Option.bind_some]
  show (if true=true then (te ρ1).bind _ else fO b cM te xs ρ1 acc)=_
  rw [if_pos rfl,e3,Option.bind_some,if_pos (by omega),e]
  simp
theorem Paired.right {α β:Type} {F:α->β->Prop} {Q:β->Prop} (h:∀ a b,F a b->Q b):∀ {l:List α} {r:List β},Paired F l r->∀ b∈r,Q b
 | _,_,.nil,b,hb=>by cases hb
 | _,_,.cons h1 t,b,hb=>by
  rcases List.mem_cons.mp hb with rfl | hb
  . exact h _ _ h1
  . exact Paired.right h t b hb
theorem QG {f g:SF} {ρ ρ':Ev} (h:f ρ=some (.nx ρ')):aK f g ρ=g ρ':=by unfold aK; rw [h,Option.bind_some]
theorem fP {f g:SF} {ρ ρ':Ev} {r:Lc} (h:f ρ=some (.rt r ρ')):aK f g ρ=some (.rt r ρ'):=by unfold aK; rw [h,Option.bind_some]
theorem QH {i:Nat} {f:EF} {ρ ρ1:Ev} {l:Lc} (h:f ρ=some (l,ρ1)) (hi:i<ρ1.vs.length):aL i f ρ=some (.nx (ρ1.set i (some l))):=by unfold aL; rw [h,Option.bind_some,if_pos hi]
theorem gf {c:TF} {f g:SF} {ρ ρ1:Ev} (h:c ρ=some (true,ρ1)):dq c f g ρ=f ρ1:=by unfold dq; rw [h,Option.bind_some,if_pos rfl]
theorem cD {c:TF} {f g:SF} {ρ ρ1:Ev} (h:c ρ=some (false,ρ1)):dq c f g ρ=g ρ1:=by unfold dq; rw [h,Option.bind_some,if_neg Bool.false_ne_true]
theorem QJ {f:EF} {ρ ρ1:Ev} {l:Lc} (h:f ρ=some (l,ρ1)):cj f ρ=some (.rt l ρ1):=by unfold cj; rw [h]; rfl
theorem Gi {f:IF} {b:BF} {body:SF} {ρ ρ1:Ev} {xs:List PV} (h:f ρ=some (xs,ρ1)):gw f b body ρ=dG b body xs ρ1:=by unfold gw; rw [h,Option.bind_some]
theorem aX {n:Nat} {g:SF} {ps:List PV} {mu:Mu} {r:Lc} (h:g (env0 n ps mu)=some (.rt r ρ)):cQ n g ps mu=some (r,ρ.mu):=by unfold cQ; rw [h,Option.bind_some]
theorem zp {n:Nat} {g:SF} {ps:List PV} {mu:Mu} (h:g (env0 n ps mu)=some (.nx ρ)):cQ n g ps mu=some (.sh .non,ρ.mu):=by unfold cQ; rw [h,Option.bind_some]
theorem M4 {g:GF} {a:AF} {ρ ρ1:Ev} {ls:List Lc} {r:Lc} {mu:Mu} (h:a ρ=some (ls,ρ1)) (h2:g (ls.map Lc.pv) ρ1.mu=some (r,mu)):aH g a ρ=some (r,⟨ρ1.vs,mu⟩):=by unfold aH; rw [h,Option.bind_some,h2]; rfl
theorem M5 {f:EF} {a:AF} {ρ ρ1 ρ2:Ev} {l:Lc} {ls:List Lc} (h:f ρ=some (l,ρ1)) (h2:a ρ1=some (ls,ρ2)):aj f a ρ=some (l::ls,ρ2):=by unfold aj; rw [h,Option.bind_some,h2]; rfl
theorem Vk {g:List PV->Option Lc} {a:AF} {ρ ρ1:Ev} {ls:List Lc} {r:Lc} (h:a ρ=some (ls,ρ1)) (h2:g (ls.map Lc.pv)=some r):eB g a ρ=some (r,ρ1):=by unfold eB; rw [h,Option.bind_some,h2]; rfl
theorem eX {f:IF} {m:Nat} {ixs:List Nat} {b:BF} {tc:TF} {te:EF} {ρ ρ1:Ev} {xs ys:List PV} {mu:Mu} (h:f ρ=some (xs,ρ1)) (h2:fO b tc te xs (pP m ixs (iK ixs ρ1)) []=some (ys,mu)):b7 f m ixs b tc te ρ=some (.own (.lst ys),⟨(iK ixs ρ1).vs,mu⟩):=by unfold b7; rw [h,Option.bind_some,h2]; rfl
theorem Dl {f:EF} {g:PV->Option (List PV)} {ρ ρ1:Ev} {l:Lc} {xs:List PV} (h:f ρ=some (l,ρ1)) (h2:g l.pv=some xs):d7 f g ρ=some (xs,ρ1):=by unfold d7; rw [h,Option.bind_some,h2]; rfl
theorem oR {a:AF} {ρ ρ1:Ev} {l:Lc} {n:Int} (h:a ρ=some ([l],ρ1)) (hl:l.pv=.int n) (h1:-4611686018427387904<=n) (h2:n<4611686018427387904):fM a ρ=some (fW 0 n.toNat,ρ1):=by
 unfold fM
 rw [h,Option.bind_some]
 show (match [l.pv] with | [.int j]=>_ | _=>_)=_
 rw [hl]
 show (if -(2 ^ 62)<=n/\n<2 ^ 62 then _ else _)=_
 rw [if_pos ⟨by omega,by omega⟩]
theorem M6 {f:TF} {ρ ρ1:Ev} {b:Bool} (h:f ρ.peek=some (b,ρ1)):oN f ρ=some (b,ρ):=by unfold oN; rw [h]; rfl
theorem M7 {f:EF} {ρ ρ1:Ev} {l:Lc} (h:f ρ.peek=some (l,ρ1)) (hf:xQ l=true):vy f ρ=some (l,ρ):=by unfold vy; rw [h,Option.bind_some,if_pos hf]
theorem Vl {f:EF} {tr:PV->Option Bool} {ρ ρ1:Ev} {l:Lc} {b:Bool} (h:f ρ=some (l,ρ1)) (h2:tr l.pv=some b):tT f tr ρ=some (b,ρ1):=by unfold tT; rw [h,Option.bind_some,h2]; rfl
theorem M8 {f:EF} {a:AF} {ρ ρ1 ρ2:Ev} {l m:Lc} {z:Str} {ps:List PV} {xs:List Str} (h:f ρ=some (l,ρ1)) (h2:a ρ1=some ([m],ρ2)) (hl:l.pv=.str z) (hm:m.pv=.lst ps) (hx:strsOf ps=some xs) (hs:(xs.map (·.length)).sum+xs.length*z.length<=100000):nP f a ρ=some (.sh (.str (Txt.join z xs)),ρ2):=by
 unfold nP
 rw [h,Option.bind_some,h2,Option.bind_some,hl]
 show (match PV.str z,[m.pv] with | .str z,[.lst ps]=>_ | _,_=>_)=_
 rw [hm]
 show (strsOf ps).bind _=_
 rw [hx,Option.bind_some,if_pos hs]
section
variable {f g:SF} {ρ ρ1 ρ2 ρ':Ev} {R:Option Fl} {l m r:Lc} {fa fb fc:EF} {c d:TF} {a:AF} {b:Bool}
theorem aD (h:f ρ=some (.nx ρ')) (h2:g ρ'=R):aK f g ρ=R:=(QG h).trans h2
theorem aY {i:Nat} (h:fa ρ=some (l,ρ1)) (hi:Nat.blt i ρ1.vs.length=true) (e:ρ1.set i (some l)=ρ'):aL i fa ρ=some (.nx ρ'):=by
 rw [QH h (by simpa using hi),e]
theorem cI (h:fa ρ=some (l,ρ1)):cj fa ρ=some (.rt l ρ1):=QJ h
theorem Gj (h:fa ρ=some (l,ρ1)):xr fa ρ=some (.nx ρ1):=by unfold xr; rw [h]; rfl
theorem aM {o:PV->PV->Option Lc} {p q:PV} (h1:fa ρ=some (l,ρ1)) (hx:l.pv=p) (h2:fb ρ1=some (m,ρ2)) (hy:m.pv=q) (h3:o p q=some r):au o fa fb ρ=some (r,ρ2):=uH h1 h2 (by rw [hx,hy]; exact h3)
theorem aW {G:GF} {ls:List Lc} {ps:List PV} {mu:Mu} {v:List (Option Lc)} {mu1:Mu} (h:a ρ=some (ls,ρ1)) (hp:ls.map Lc.pv=ps) (hv:ρ1.vs=v) (hm:ρ1.mu=mu1) (h2:G ps mu1=some (r,mu)):aH G a ρ=some (r,⟨v,mu⟩):=by
 subst hp hv hm
 exact M4 h h2
theorem M9 {G:List PV->Option Lc} {ls:List Lc} {ps:List PV} (h:a ρ=some (ls,ρ1)) (hp:ls.map Lc.pv=ps) (h2:G ps=some r):eB G a ρ=some (r,ρ1):=by
 subst hp
 exact Vk h h2
theorem az {ls:List Lc} (h:fa ρ=some (l,ρ1)) (h2:a ρ1=some (ls,ρ2)):aj fa a ρ=some (l::ls,ρ2):=M5 h h2
theorem bG {tr:PV->Option Bool} {p:PV} (h:fa ρ=some (l,ρ1)) (hp:l.pv=p) (h2:tr p=some b):tT fa tr ρ=some (b,ρ1):=by
 subst hp
 exact Vl h h2
theorem rN (h:c ρ=some (b,ρ1)):jO c ρ=some (!b,ρ1):=by unfold jO; rw [h]; rfl
theorem uI {b2:Bool} (h:c ρ=some (b,ρ1)) (h2:d ρ1=some (b2,ρ1)):iI c d ρ=some (b&&b2,ρ1):=by
 unfold iI
 rw [h,Option.bind_some]
 cases b with
 | true=>rw [if_pos rfl,h2]; rfl
 | false=>rfl
theorem qM {b2:Bool} (h:c ρ=some (b,ρ1)) (h2:d ρ1=some (b2,ρ1)):gP c d ρ=some (b||b2,ρ1):=by
 unfold gP
 rw [h,Option.bind_some]
 cases b with
 | true=>rfl
 | false=>rw [if_neg Bool.false_ne_true,h2]; rfl
theorem wz (h:c ρ.peek=some (b,ρ1)):oN c ρ=some (b,ρ):=M6 h
theorem Dm (h:fa ρ.peek=some (l,ρ1)) (hf:xQ l=true):vy fa ρ=some (l,ρ):=M7 h hf
theorem pX {ls:List Lc} {ps:List PV} (h:a ρ=some (ls,ρ1)) (hl:Nat.ble ls.length 1000=true) (hp:ls.map Lc.pv=ps):iz a ρ=some (.own (.lst ps),ρ1):=by
 subst hp
 unfold iz
 rw [h,Option.bind_some,if_pos (by simpa using hl)]
theorem pY {ls:List Lc} {ps:List PV} (h:a ρ=some (ls,ρ1)) (hl:Nat.ble ls.length 1000=true) (hp:ls.map Lc.pv=ps):jt a ρ=some (.sh (.tup ps),ρ1):=by
 subst hp
 unfold jt
 rw [h,Option.bind_some,if_pos (by simpa using hl)]
theorem iM {p q:PV} (h1:fa ρ=some (l,ρ1)) (hx:l.pv=p) (h2:fb ρ1=some (m,ρ2)) (hy:m.pv=q) (hn:∀ n,p≠.ptr n) (h3:pU p q=some r):bz fa fb ρ=some (r,ρ2):=by
 subst hx hy
 unfold bz
 rw [h1,Option.bind_some,h2,Option.bind_some]
 split
 . rename_i n k e1 e2
   exact (hn n e1).elim
 . rw [h3]; rfl
theorem WM {n:Nat} {k:Int} {ws:List PV} {p:PV} (h1:fa ρ=some (l,ρ1)) (hx:l.pv=.ptr n) (h2:fb ρ1=some (m,ρ2)) (hy:m.pv=.int k) (hm:ρ2.mu[n]?=some (some (.lst ws))) (h3:gj ws k=some p):bz fa fb ρ=some (.sh p,ρ2):=by
 unfold bz
 rw [h1,Option.bind_some,h2,Option.bind_some,hx,hy]
 show (match ρ2.mu[n]? with | some (some (.lst ws))=>_ | _=>_)=_
 rw [hm]
 show (gj ws k).map _=_
 rw [h3]
 rfl
theorem xT {i:Nat} {ws0 ws:List PV} {p:PV} (h0:ρ.vs[i]?=some (some (.own (.lst ws0)))) (h:fa ρ=some (l,ρ1)) (hp:l.pv=p) (h1:ρ1.vs[i]?=some (some (.own (.lst ws)))) (hz:ws.length<100000) (e:ρ1.set i (some (.own (.lst (ws++[p]))))=ρ'):nu i fa ρ=some (.nx ρ'):=by
 subst hp
 unfold nu
 rw [h0]
 show (fa ρ).bind _=_
 rw [h,Option.bind_some]
 show (match ρ1.vs[i]? with | some (some (.own (.lst ws)))=>_ | _=>_)=_
 rw [h1]
 show (if ws.length<100000 then _ else _)=_
 rw [if_pos hz,e]
theorem Gk {i:Nat} {fi fv:EF} {ws0 ws:List PV} {k:Int} {j:Nat} {x y:Lc} {p:PV} (h:fv ρ=some (x,ρ1)) (hxp:x.pv=p) (h0:ρ1.vs[i]?=some (some (.own (.lst ws0)))) (h2:fi ρ1=some (y,ρ2)) (hy:y.pv=.int k) (h1:ρ2.vs[i]?=some (some (.own (.lst ws)))) (hj:qG ws.length k=some j) (e:ρ2.set i (some (.own (.lst (ws.set j p))))=ρ'):nO i fi fv ρ=some (.nx ρ'):=by
 subst hxp
 unfold nO
 rw [h,Option.bind_some]
 show (match ρ1.vs[i]? with | some (some (.own (.lst _)))=>_ | _=>_)=_
 rw [h0]
 show (fi ρ1).bind _=_
 rw [h2,Option.bind_some,hy]
 show (match PV.int k,ρ2.vs[i]? with | .int k,some (some (.own (.lst ws)))=>_ | _,_=>_)=_
 rw [h1]
 show (qG ws.length k).map _=_
 rw [hj,Option.map_some,e]
theorem ik {F:IF} {B:BF} {body:SF} {xs:List PV} (h:F ρ=some (xs,ρ1)) (h2:dG B body xs ρ1=R):gw F B body ρ=R:=(Gi h).trans h2
theorem fD {G:PV->Option (List PV)} {p:PV} {xs:List PV} (h:fa ρ=some (l,ρ1)) (hp:l.pv=p) (h2:G p=some xs):d7 fa G ρ=some (xs,ρ1):=by
 subst hp
 exact Dl h h2
theorem Dn {x y:PV} {p q:Int} (hx:x=.int p) (hy:y=.int q) (h:-18446744073709551616<p) (h2:p<18446744073709551616):jK x y=some (.sh (.int (p*q))):=by subst hx hy; exact Kc h h2
theorem Do {x y:PV} {p q:Int} (hx:x=.int p) (hy:y=.int q) (h:-18446744073709551616<q) (h2:q<18446744073709551616):jK x y=some (.sh (.int (p*q))):=by subst hx hy; exact TQ h h2
end
section
variable {X:Cx}
noncomputable def gQ (f:EF) (lo hi:OF):EF:=fun ρ=>(f ρ).bind fun x=>(lo x.2).bind fun y=>(hi y.2).bind fun z=>match x.1.pv with
 | .lst ps=>some (.own (.lst (jY ps y.1 z.1)),z.2)
 | .str t=>if t.length<=100000 then some (.sh (.str (dM t y.1 z.1)),z.2) else none
 | _=>none
theorem lV {e:Expr} {lo hi:Option Expr} {p2 pos:Pos} {f:EF} {fl fh:OF} (he:PE X e (tP X.K f)) (hl:PO X lo (Df X.K fl)) (hu:PO X hi (Df X.K fh)):PE X (.Subscript e (.Slice lo hi none p2) pos) (tP X.K (gQ f fl fh)):=PE.imp (LK (Qi.or Sx) he hl hu) fun σ H Q q=>by
 obtain ⟨H0,Z0,ρ,pd,r,ρ',s,h,k⟩:=q
 obtain ⟨x,h1,h2⟩:=bind_some h
 obtain ⟨y,h3,h4⟩:=bind_some h2
 obtain ⟨z,h5,h6⟩:=bind_some h4
 refine ⟨H0,Z0,ρ,pd,x.1,x.2,s,h1,fun v H1 s1=>⟨H0,Z0,x.2,_,y.1,y.2,s1.freeze,h3,fun H2 s2=>⟨H0,Z0,y.2,_,z.1,z.2,s2,h5,fun H3 s3=>?_⟩⟩⟩
 cases e:x.1.pv with
 | lst ps=>
  rw [e] at h6 s3
  cases h6
  obtain ⟨el,Z,hg,zz,r1,s4⟩:=s3.sh
  unfold Rep at r1
  obtain ⟨a,vs,rfl,g1,g2⟩:=r1
  refine .inl ⟨a,vs,rfl,bY.same zz.zh g1,fun p hp=>k _ _ ?_⟩
  obtain ⟨z',s'⟩:=s4.new (o:=.lst (vZ vs y.1 z.1)) (p:=.lst (jY ps y.1 z.1)) zz hp ⟨_,bj,g2.cut⟩
  exact .mk el hg z' s'
 | str t=>
  rw [e] at h6 s3
  have h6':(if t.length<=100000 then some (Lc.sh (.str (dM t y.1 z.1)),z.2) else none)=some (r,ρ'):=h6
  split at h6'
  . rename_i hz
    cases h6'
    obtain ⟨_,r1⟩:=s3.repH
    unfold Rep at r1
    exact .inr ⟨t,r1,small hz,k _ H3 (s3.pop.scal kh)⟩
  . cases h6'
 | _=>rw [e] at h6; cases h6
noncomputable def WW (i:Nat):EF:=fun ρ=>match ρ.vs[i]? with
 | some (some (.own (.lst ws)))=>(ws[ws.length-1]?).map fun p=>(.sh p,ρ.set i (some (.own (.lst ws.dropLast))))
 | _=>none
noncomputable def Gm (K:FG):V->List V->Hp->VK->Prop:=fun x vs H Q=>∃ g p qs w,vs=[w]/\Rep K ⟨H,g⟩ p w/\Rep K ⟨H,g⟩ (.lst qs) x/\jJ (bC 150) p qs=some true/\qs.length<=100000/\Q (.int (qs.findIdx fun q=>(bC 150 q p).getD false)) H
theorem wA {k:Nat} (hr:eQ k X.A):Fz X "list.index" (Gm X.K):=by
 intro pins s σ H x vs v us Q I rx rv h
 obtain ⟨g,p,qs,w,rfl,rp,rq,e,hz,q⟩:=h
 have hA:X.A.in1.units+150<cLine:=by have:=hr.un; show X.A.units+1+150<cLine; omega
 obtain ⟨u,rfl,ru⟩:=rv.one
 obtain ⟨i1,i2⟩:=rE e
 obtain ⟨a,vs,its,rfl,q1,l1,rv1,t1⟩:=nW I rq rx
 have hl:its.length=qs.length:=by rw [← rv1.length,l1.length]
 have hex:∃ q∈qs,(fun q=>(bC 150 q p).getD false) q=true:=List.any_eq_true.mp i2.symm
 have hj:qs.findIdx (fun q=>(bC 150 q p).getD false)<qs.length:=List.findIdx_lt_length.mpr hex
 have hat:∀ m (hm:m<its.toArray.size),worth X.K ⟨H,g⟩ p qs vs its its.toArray[m]=(bC 150 (qs[m]'(by rw [List.size_toArray] at hm; omega)) p).getD false:=fun m hm=>by
  have hm':m<its.length:=by simpa using hm
  exact sZ (xv:=w) (xu:=u) I l1 rv1 i1 (j:=m) (List.getElem?_eq_getElem (by omega)) (by simp)
 obtain ⟨⟨oc,od,oD,os⟩,ht,hc,n,hd⟩:=t1
 have hc':oc=.type "list" := hc
 have hd':oD=.seq its.toArray n:=hd
 subst hc' hd'
 refine call_meets F.slot_list_index ⟨_,ht,rfl⟩ F.entry_list_index (F.args_list_index_2 _ _) (SeqAt.list_indexAt a its.toArray n od os u (worth X.K ⟨H,g⟩ p qs vs its) (qs.findIdx fun q=>(bC 150 q p).getD false) (by rw [List.size_toArray]; omega) (by omega) ?_ ?_) ⟨ht,m9 I rp ru l1 rv1 i1 hA,?_⟩
 . rw [hat]
   exact List.findIdx_getElem (w:=hj)
 . intro m hm hlt
   rw [hat]
   have:=List.not_of_lt_findIdx hlt
   simpa using this
 . exact ⟨.int _,H,I.tok _,⟨_,rfl⟩,q⟩
noncomputable def mO (f g:EF):EF:=fun ρ=>(f ρ).bind fun x=>(g x.2).bind fun y=>match x.1.pv with
 | .lst qs=>if jJ (bC 150) y.1.pv qs=some true/\qs.length<=100000 then some (.sh (.int (qs.findIdx fun q=>(bC 150 q y.1.pv).getD false)),y.2) else none
 | _=>none
theorem Dp {o e:Expr} {f g:EF} {apos cpos:Pos} (h:PE X (.Call (.Attribute o "index" apos) [e] [] cpos) (Jy X.K "list" (Gm X.K) (tP X.K f) (jk X.K (aj g ao)))):PE X (.Call (.Attribute o "index" apos) [e] [] cpos) (tP X.K (mO f g)):=PE.imp h fun σ H Q q=>by
 obtain ⟨H0,Z0,ρ,pd,r,ρ',s,h,k⟩:=q
 obtain ⟨x,h1,h2⟩:=bind_some h
 obtain ⟨y,h3,h4⟩:=bind_some h2
 refine ⟨H0,Z0,ρ,pd,x.1,x.2,s,h1,fun v H1 s1=>?_⟩
 have s1':=s1.freeze
 cases e:x.1.pv with
 | lst qs=>
  rw [e] at h4 s1'
  have h4':(if jJ (bC 150) y.1.pv qs=some true/\qs.length<=100000 then some (Lc.sh (.int (qs.findIdx fun q=>(bC 150 q y.1.pv).getD false)),y.2) else none)=some (r,ρ'):=h4
  split at h4'
  . rename_i hc
    cases h4'
    obtain ⟨_,r1⟩:=s1'.repH
    have r1':=r1
    unfold Rep at r1'
    obtain ⟨a,us,rfl,hq,_⟩:=r1'
    refine ⟨.inl ⟨rfl,us,hq⟩,H0,Z0,x.2,_,[y.1],y.2,s1',?_,fun vs H2 e2 s2=>?_⟩
    . unfold aj ao
      rw [h3]
      rfl
    . obtain ⟨w,rfl⟩:=rA e2
      have s3:SR X.K H0 Z0 σ H2 y.2 ((w,.sh y.1.pv)::(.ref a,.sh (.lst qs))::pd):=SR.freeze s2
      obtain ⟨g,ra,rb⟩:=s3.rep2H
      exact ⟨g,y.1.pv,qs,w,rfl,rb,ra,hc.1,hc.2,k _ H2 (s3.pop.pop.scal eG)⟩
  . cases h4'
 | _=>rw [e] at h4; cases h4
noncomputable abbrev PD:=List (Key×PV)
noncomputable def lL:PD->Key->Option PV
 | [],_=>none
 | kv::r,k=>if kv.1=k then some kv.2 else lL r k
noncomputable def HH (k:Key) (v:PV):PD->PD
 | []=>[]
 | kv::r=>(if kv.1=k then (kv.1,v) else kv)::HH k v r
noncomputable def tH (l:PD) (k:Key) (v:PV):PD:=match lL l k with
 | some _=>HH k v l
 | none=>l++[(k,v)]
noncomputable def zq:PV->Option Key
 | .int i=>some (.inl i)
 | .str x=>some (.inr x)
 | _=>none
noncomputable def vU:Key->PV
 | .inl i=>.int i
 | .inr x=>.str x
noncomputable def mQ (l:PD):PV:=.dk (l.map (·.1)) (l.map (·.2))
noncomputable def eY (K:FG) (Z:ZG):PD->List (Key×V)->Prop:=Paired fun p q=>p.1=q.1/\Rep K Z p.2 q.2
section
variable {K:FG} {Z Z':ZG}
theorem lW:∀ {kvs:List (Key×V)} {ks:List Key} {ps:List PV},kvs.map (·.1)=ks->aG K Z ps (kvs.map (·.2))->eY K Z (ks.zip ps) kvs
 | [],ks,ps,h1,h2=>by
  subst h1
  exact .nil
 | kv::r,ks,ps,h1,h2=>by
  subst h1
  cases ps with
  | nil=>have:=h2.inv0; simp at this
  | cons p ps=>
   obtain ⟨v,r',e,h3,h4⟩:=h2.inv
   rw [List.map_cons] at e
   injection e with e1 e2
   subst e1 e2
   rw [List.map_cons,List.zip_cons_cons]
   exact .cons ⟨rfl,h3⟩ (lW rfl h4)
theorem eY.keys:∀ {l:PD} {kvs:List (Key×V)},eY K Z l kvs->kvs.map (·.1)=l.map (·.1)
 | _,_,.nil=>rfl
 | _,_,.cons h t=>by rw [List.map_cons,List.map_cons,h.1,eY.keys t]
theorem eY.vals:∀ {l:PD} {kvs:List (Key×V)},eY K Z l kvs->aG K Z (l.map (·.2)) (kvs.map (·.2))
 | _,_,.nil=>.nil
 | _,_,.cons h t=>aG.cons h.2 (eY.vals t)
theorem eY.len:∀ {l:PD} {kvs:List (Key×V)},eY K Z l kvs->kvs.length=l.length
 | _,_,.nil=>rfl
 | _,_,.cons h t=>by rw [List.length_cons,List.length_cons,eY.len t]
theorem eY.val {k:Key}:∀ {l:PD} {kvs:List (Key×V)},eY K Z l kvs->(∀ p,lL l k=some p->∃ v,lF kvs k=some v/\Rep K Z p v)/\(lL l k=none->lF kvs k=none)
 | _,_,.nil=>⟨fun p h=>(by cases h),fun _=>rfl⟩
 | p::l,q::kvs,.cons h t=>by
  have ih:=eY.val (k:=k) t
  by_cases e:p.1=k
  . have e':q.1=k:=by rw [← h.1]; exact e
    refine ⟨fun x hx=>⟨q.2,pI e',?_⟩,fun hx=>?_⟩
    . unfold lL at hx; rw [if_pos e] at hx; cases hx; exact h.2
    . unfold lL at hx; rw [if_pos e] at hx; cases hx
  . have e':¬ q.1=k:=by rw [← h.1]; exact e
    rw [pJ e']
    unfold lL
    rw [if_neg e]
    exact ih
theorem eY.repl {k:Key} {p:PV} {v:V} (r:Rep K Z p v):∀ {l:PD} {kvs:List (Key×V)},eY K Z l kvs->eY K Z (HH k p l) (kvs.map fun kv=>if kv.1=k then (kv.1,v) else kv)
 | _,_,.nil=>.nil
 | a::l,b::kvs,.cons h t=>by
  refine .cons ?_ (eY.repl r t)
  by_cases e:a.1=k
  . have e':b.1=k:=by rw [← h.1]; exact e
    rw [if_pos e]
    dsimp only
    rw [if_pos e']
    exact ⟨h.1,r⟩
  . have e':¬ b.1=k:=by rw [← h.1]; exact e
    rw [if_neg e]
    dsimp only
    rw [if_neg e']
    exact h
theorem eY.app:∀ {l l':PD} {kvs kvs':List (Key×V)},eY K Z l kvs->eY K Z l' kvs'->eY K Z (l++l') (kvs++kvs')
 | _,_,_,_,.nil,h=>h
 | _,_,_,_,.cons a t,h=>.cons a (eY.app t h)
theorem eY.put {k:Key} {p:PV} {v:V} {l:PD} {kvs:List (Key×V)} (h:eY K Z l kvs) (r:Rep K Z p v):eY K Z (tH l k p) (putK kvs k v):=by
 have hv:=h.val (k:=k)
 unfold tH
 cases e:lL l k with
 | none=>
  rw [Cq v (hv.2 e)]
  exact h.app (.cons ⟨rfl,r⟩ .nil)
 | some q=>
  obtain ⟨u,hu,_⟩:=hv.1 q e
  have e2:putK kvs k v=kvs.map fun kv=>if kv.1=k then (kv.1,v) else kv:=by
   unfold putK
   rw [pK,hu]
   rfl
  rw [e2]
  exact h.repl r
theorem vz {p:PV} {k:Key} {v:V} (h:zq p=some k) (r:Rep K Z p v):v=kV k:=by
 cases p with
 | int i=>cases h; exact bF r
 | str x=>cases h; exact bR r
 | _=>cases h
theorem Gn {k:Key}:Rep K Z (vU k) (kV k):=by
 cases k with
 | inl i=>exact eG _
 | inr x=>exact kh _
end
noncomputable def jl (fa fb:EF):EF:=fun ρ=>(fa ρ).bind fun x=>(fb x.2).bind fun y=>match x.1.pv with
 | .dk ks ps=>(zq y.1.pv).bind fun k=>(lL (ks.zip ps) k).map fun p=>(.sh p,y.2)
 | .df ks ps=>(zq y.1.pv).bind fun k=>(lL (ks.zip ps) k).map fun p=>(.sh p,y.2)
 | _=>bz (fun _=>some x) (fun _=>some y) ρ
theorem QK {ρ ρ0 ρ':Ev} {v w:V} {x y:Lc×Ev} {l:Lc} {Q:VK} (hy:y.2=ρ) (s3:SR X.K H0 Z0 σ H ρ ((w,.sh y.1.pv)::(v,.sh x.1.pv)::pd)) (h:bz (fun _=>some x) (fun _=>some y) ρ0=some (l,ρ')) (k:∀ u H',SR X.K H0 Z0 σ H' ρ' ((u,l)::pd)->Q u H'):R7 X.K v w H Q:=by
 unfold bz at h
 rw [Option.bind_some,Option.bind_some] at h
 subst hy
 split at h
 . rename_i n kk en ek
   split at h
   . rename_i ws em
     obtain ⟨p,h5,h6⟩:=map_some h
     cases h6
     rw [en,ek] at s3
     obtain ⟨_,rw'⟩:=s3.repH
     have ew:=bF rw'
     obtain ⟨a,rfl,s5⟩:=s3.pop.cellO em
     obtain ⟨el,Z,hg,z,so⟩:=s5.top
     obtain ⟨_,ea,⟨us,hu,hr⟩,_⟩:=so.1 _ List.mem_cons_self
     cases ea
     obtain ⟨j,e1,e2⟩:=vq h5 hr.length
     obtain ⟨u,e3,e4⟩:=hr.get e1
     refine .inl ⟨a,us,kk,u,rfl,ew,bY.of hu,e2 u e3,k u H ?_⟩
     have s6:SR X.K H0 Z0 σ H ⟨y.2.vs,y.2.mu.set n none⟩ ((u,.sh p)::(.ref a,.own (.lst ws))::(.ref a,.sh (.ptr n))::pd):=.mk (Z:=Z) el hg z ((so.perm cU).consS e4)
     have hn:n<y.2.mu.length:=(List.getElem?_eq_some_iff.mp em).1
     have s7:SR X.K H0 Z0 σ H ⟨y.2.vs,y.2.mu.set n none⟩ ((.ref a,.own (.lst ws))::(.ref a,.sh (.ptr n))::(u,.sh p)::pd):=s6.perm (((List.Perm.swap _ _ _).cons _).trans (List.Perm.swap _ _ _))
     have s8:=s7.cellP (by show (y.2.mu.set n none)[n]?=_; rw [List.getElem?_set_self hn])
     have e8:(y.2.mu.set n none).set n (some (.lst ws))=y.2.mu:=by rw [List.set_set]; exact set_same em
     have s9:SR X.K H0 Z0 σ H ⟨y.2.vs,(y.2.mu.set n none).set n (some (.lst ws))⟩ ((u,.sh p)::pd):=s8
     rw [e8] at s9
     exact s9
   . cases h
 . obtain ⟨l',h5,h6⟩:=map_some h
   cases h6
   exact J5 H0 Z0 σ y.2 pd H v w x.1.pv y.1.pv _ Q s3 h5 k
theorem Av {a b:Expr} {pos:Pos} {fa fb:EF} (hu:X.A.units+1<cLine) (ha:PE X a (tP X.K fa)) (hb:PE X b (tP X.K fb)) (hm:vg b):PE X (.Subscript a b pos) (tP X.K (jl fa fb)):=PE.imp (Hm (Jw.or (FP hu)) ha hb hm) fun σ H Q q=>by
 obtain ⟨H0,Z0,ρ,pd,l,ρ',s,f,k⟩:=q
 obtain ⟨x,h1,h2⟩:=bind_some f
 obtain ⟨y,h3,h4⟩:=bind_some h2
 refine ⟨H0,Z0,ρ,pd,x.1,x.2,s,h1,fun v H1 s1=>⟨H0,Z0,x.2,_,y.1,y.2,s1,h3,fun w H2 s2=>?_⟩⟩
 have s3:=s2.freeze.swap.freeze.swap
 split at h4
 . rename_i ks ps en
   obtain ⟨kk,h5,h6⟩:=bind_some h4
   obtain ⟨p,h7,h8⟩:=map_some h6
   cases h8
   obtain ⟨_,rw'⟩:=s3.repH
   have ew:=vz h5 rw'
   have s4:=s3.pop
   rw [en] at s4
   obtain ⟨Z,z,r⟩:=s4.rep
   unfold Rep at r
   obtain ⟨b',kvs,rfl,g1,g2,g3⟩:=r
   obtain ⟨u,hu',ru⟩:=(lW g2 g3).val.1 p h7
   have e1:=z _ _ g1
   refine .inr ⟨b',u,rfl,.inl ⟨kvs,kk,.inl e1,ew,hu'.symm⟩,k u H2 ?_⟩
   refine (s4.part (u:=u) (q:=p) fun Z' z' r'=>?_).sub ((List.sublist_cons_self _ _).cons_cons _)
   unfold Rep at r'
   obtain ⟨b2,kvs2,eb,g1',g2',g3'⟩:=r'
   cases eb
   have e2:=z' _ _ g1'
   rw [e1] at e2
   cases e2
   obtain ⟨u2,hu2,ru2⟩:=(lW g2' g3').val.1 p h7
   rw [hu'] at hu2
   cases hu2
   exact ru2
 . rename_i ks ps en
   obtain ⟨kk,h5,h6⟩:=bind_some h4
   obtain ⟨p,h7,h8⟩:=map_some h6
   cases h8
   obtain ⟨_,rw'⟩:=s3.repH
   have ew:=vz h5 rw'
   have s4:=s3.pop
   rw [en] at s4
   obtain ⟨Z,z,r⟩:=s4.rep
   unfold Rep at r
   obtain ⟨b',ob,kvs,rfl,g1,g2,g3⟩:=r
   obtain ⟨u,hu',ru⟩:=(lW g2 g3).val.1 p h7
   have e1:=z _ _ g1
   refine .inr ⟨b',u,rfl,.inl ⟨kvs,kk,.inr ⟨ob,e1⟩,ew,hu'.symm⟩,k u H2 ?_⟩
   refine (s4.part (u:=u) (q:=p) fun Z' z' r'=>?_).sub ((List.sublist_cons_self _ _).cons_cons _)
   unfold Rep at r'
   obtain ⟨b2,ob2,kvs2,eb,g1',g2',g3'⟩:=r'
   cases eb
   have e2:=z' _ _ g1'
   rw [e1] at e2
   cases e2
   obtain ⟨u2,hu2,ru2⟩:=(lW g2' g3').val.1 p h7
   rw [hu'] at hu2
   cases hu2
   exact ru2
 . exact .inl (QK rfl s3 h4 k)
theorem SR.takeD {i:Nat} {ks:List Key} {ps:List PV} (s:SR K H0 Z0 σ H ρ pd) (e:ρ.vs[i]?=some (some (.own (.dk ks ps)))):
 ∃ a,σ[i]?=some (some (.ref a))/\SR K H0 Z0 σ H (ρ.set i none) ((.ref a,.own (.dk ks ps))::pd):=by
 obtain ⟨v,e1,s1⟩:=s.take e
 obtain ⟨_,Z,_,z,so⟩:=s1.top
 obtain ⟨a,ea,_⟩:=so.1 _ List.mem_cons_self
 have ea':v=.ref a:=Option.some.inj ea
 subst ea'
 exact ⟨a,e1,s1⟩
theorem SR.setD {v:V} {p:PV} {a:Addr} {ks:List Key} {ps:List PV} {k:Key} (s:SR K H0 Z0 σ H ρ ((v,.sh p)::(.ref a,.own (.dk ks ps))::pd)):
 ∃ kvs,H a=some (.dK kvs)/\kvs.length=ks.length/\SR K H0 Z0 σ (upd H a (.dK (putK kvs k v))) ρ ((.ref a,.own (mQ (tH (ks.zip ps) k p)))::pd):=by
 obtain ⟨el,Z,hg,z,r,so⟩:=s.sh
 have so2:=so.perm cU.symm
 obtain ⟨_,eb,⟨kvs,hu,hk,hr⟩,_⟩:=so2.1 _ List.mem_cons_self
 cases eb
 refine ⟨kvs,hu,by rw [← hk,List.length_map],?_⟩
 have d:=(lW hk hr).put (k:=k) r
 obtain ⟨z',s'⟩:=so2.write (o:=.dK (putK kvs k v)) (q:=mQ (tH (ks.zip ps) k p)) z ⟨putK kvs k v,bj,d.keys,d.vals⟩
 exact .mk el hg z' s'
noncomputable def xU (i:Nat) (fi fv:EF):SF:=fun ρ=>(fv ρ).bind fun x=>match x.2.vs[i]? with
 | some (some (.own (.dk _ _)))=>(fi x.2).bind fun y=>match zq y.1.pv,y.2.vs[i]? with
  | some k,some (some (.own (.dk ks ps)))=>if ks.length<100000 then some (.nx (y.2.set i (some (.own (mQ (tH (ks.zip ps) k x.1.pv)))))) else none
  | _,_=>none
 | _=>none
theorem QL {i:Nat} {o ix e:Expr} {fi fv:EF} {tpos pos:Pos} (h:PS X (.Assign [.Subscript o ix tpos] e pos) (yW (tP X.K fv) (G8 (sE i) (tP X.K fi) Hu))):PS X (.Assign [.Subscript o ix tpos] e pos) (dZ X.K (xU i fi fv)):=PS.imp h fun D σ H q=>by
 obtain ⟨H0,Z0,ρ,pd,fl,s,h,k⟩:=q
 obtain ⟨x,h1,h2⟩:=bind_some h
 refine ⟨H0,Z0,ρ,pd,x.1,x.2,s,h1,fun v H1 s1=>?_⟩
 split at h2
 . rename_i ks0 ps0 e0
   obtain ⟨y,h3,h4⟩:=bind_some h2
   obtain ⟨a,ea,_⟩:=s1.takeD e0
   refine ⟨.ref a,ea,H0,Z0,x.2,_,y.1,y.2,s1.freeze,h3,fun w H2 s2=>?_⟩
   split at h4
   . rename_i kk ks ps ek e3
     split at h4
     . rename_i hlen
       cases h4
       obtain ⟨_,rw'⟩:=s2.freeze.repH
       have ew:=vz ek rw'
       obtain ⟨a',ea',s3⟩:=s2.pop.takeD e3
       rw [ea] at ea'; cases ea'
       obtain ⟨kvs,hu,hl,s4⟩:=s3.swap.setD (k:=kk)
       refine ⟨a,_,rfl,.inl ⟨kvs,kk,hu,ew,by rw [hl,sizeLine_eq]; omega,rfl⟩,k σ _ ?_⟩
       have s5:=s4.put ea
       rw [Ev.set_set] at s5
       exact s5
     . cases h4
   . cases h4
 . cases h2
noncomputable def WP (fo fv:EF):SF:=fun ρ=>(fo ρ).bind fun o=>match o.1.pv with
 | .ptr n=>match o.2.mu[n]? with
  | some (some (.lst _))=>(fv o.2).bind fun y=>match y.2.mu[n]? with
   | some (some (.lst ws))=>if ws.length<100000 then some (.nx ⟨y.2.vs,y.2.mu.set n (some (.lst (ws++[y.1.pv])))⟩) else none
   | _=>none
  | _=>none
 | _=>none
noncomputable abbrev DF:=Ev->Option (List (Lc×Lc)×Ev)
noncomputable def Ow:List (V×V)->List V
 | []=>[]
 | p::r=>p.1::p.2::Ow r
noncomputable def Kd:EF:=fun ρ=>some (.own (.dk [] []),ρ)
theorem TV {pos:Pos}:PE X (.Dict [] [] pos) (tP X.K Kd):=PE.imp Mh fun σ H Q q=>by
 obtain ⟨H0,Z0,ρ,pd,l,ρ',s,f,k⟩:=q
 cases f
 exact fun p hp=>k _ _ (s.newO hp fun Z _ _=>⟨[],bj,rfl,.nil⟩)
theorem SR.fzD {a:Addr} {ks:List Key} {ps:List PV} (s:SR K H0 Z0 σ H ρ ((.ref a,.own (.dk ks ps))::pd)):
 ∃ kvs,H a=some (.dK kvs)/\∀ o,SR K H0 Z0 σ (upd H a (.frz o (.dK kvs))) ρ ((.ref a,.sh (.df ks ps))::pd):=by
 obtain ⟨el,Z,hg,z,so⟩:=s.top
 obtain ⟨_,eb,⟨kvs,hu,hk,hr⟩,e3,e4⟩:=so.1 _ List.mem_cons_self
 cases eb
 refine ⟨kvs,hu,fun o=>?_⟩
 have sz:cG Z.z (upd Z.z a (.frz o (.dK kvs))):=fun b u e=>by rw [aP (bN e e3)]; exact e
 have lz:gK Z (Z.put a (.frz o (.dK kvs))):=⟨sz,List.prefix_refl _⟩
 have nd:(a::(sl Z.g σ ρ pd).filterMap jM).Nodup:=so.2
 have hL:Slots K H0 Z H (sl Z.g σ ρ pd):=so.sub (List.sublist_cons_self _ _)
 refine .mk (Z:=Z.put a (.frz o (.dK kvs))) el hg ⟨fun b u e=>?_,fun b u e=>by rw [aP (bN e e4)]; exact z.h0 b u e,z.z0.trans lz,fun b u e=>?_⟩ (Slots.consS ?_ ?_)
 . have e:upd Z.z a (.frz o (.dK kvs)) b=some u:=e
   unfold upd at e ⊢
   split
   . rename_i q; rw [if_pos q] at e; exact e
   . rename_i q; rw [if_neg q] at e; exact z.zh b u e
 . have e:upd Z.z a (.frz o (.dK kvs)) b=some u:=e
   unfold upd at e
   split at e
   . rename_i q; rw [q]; exact .inr (.inl e4)
   . exact z.new b u e
 . refine hL.step lz fun e he b hb=>?_
   have hba:b≠a:=fun q=>by
    rw [q] at hb
    exact (List.nodup_cons.mp nd).1 (List.mem_filterMap.mpr ⟨e,he,hb⟩)
   exact ⟨aP hba,by show upd Z.z a _ b=none; rw [aP hba]; exact (gr hL he hb).1⟩
 . unfold Rep
   exact ⟨a,o,kvs,rfl,by show upd Z.z a _ a=_; rw [bj],hk,hr.mono lz⟩
noncomputable def nZ (f:EF):EF:=fun ρ=>(f ρ).bind fun x=>match x.1 with
 | .own (.dk ks ps)=>some (.sh (.df ks ps),x.2)
 | _=>none
theorem O4 {e:Expr} {f:EF} (h:PE X e (tP X.K f)):PE X e (tP X.K (nZ f)):=PE.imp (Vc h) fun σ H Q q=>by
 obtain ⟨H0,Z0,ρ,pd,r,ρ',s,h,k⟩:=q
 obtain ⟨x,h1,h2⟩:=bind_some h
 refine ⟨H0,Z0,ρ,pd,x.1,x.2,s,h1,fun v H1 s1=>?_⟩
 split at h2
 . rename_i ks ps e1
   cases h2
   rw [e1] at s1
   obtain ⟨_,Z,_,z,so⟩:=s1.top
   obtain ⟨a,ea,_⟩:=so.1 _ List.mem_cons_self
   have ea':v=.ref a:=Option.some.inj ea
   subst ea'
   obtain ⟨kvs,hu,st⟩:=s1.fzD
   exact ⟨a,kvs,rfl,hu,fun o=>k _ _ (st o)⟩
 . cases h2
theorem SR.weak {H0 H H1:Hp} {Z0 Z₁:ZG} (zo:jN H0 Z0 Z₁ H1) (s:SR K H0 Z₁ σ H ρ pd):SR K H0 Z0 σ H ρ pd:=by
 obtain ⟨e,Z,hg,z,so⟩:=s
 exact ⟨e,Z,hg,⟨z.zh,z.h0,zo.z0.trans z.z0,fun b o e=>(z.new b o e).elim (fun h=>zo.new b o h) .inr⟩,so⟩
noncomputable def Ke (f:EF):IF:=fun ρ=>(f ρ).bind fun x=>match x.1.pv with
 | .df ks _=>some (ks.map vU,x.2)
 | _=>none
theorem HJ {H0:Hp} {Z:ZG} {a:Addr} {o:Obj} {kvs:List (Key×V)} {ks:List Key} (g1:Z.z a=some (.frz o (.dK kvs))) (g2:kvs.map (·.1)=ks):mK K H0 Z pd (Sy a o kvs) (ks.map vU):=by
 intro σ H ρ i s
 have at':H a=some (.frz o (.dK kvs)):=by
  obtain ⟨_,Z',_,z',_⟩:=s
  exact z'.zh _ _ (z'.z0.1 _ _ g1)
 have hlen:kvs.length=ks.length:=by rw [← g2,List.length_map]
 refine ⟨fun x hx=>?_,fun e=>⟨at',by rw [e,List.length_map,hlen]; exact Nat.le_refl _⟩⟩
 rw [List.getElem?_map] at hx
 obtain ⟨kk,hk,rfl⟩:=map_some hx
 refine ⟨⟨at',by rw [hlen]; exact (List.getElem?_eq_some_iff.mp hk).1⟩,fun v H' hy=>?_⟩
 obtain ⟨rfl,k2,hk2,rfl⟩:=hy
 rw [g2,hk] at hk2
 cases hk2
 exact s.scal fun Z=>Gn
theorem Gp {tg iter:Expr} {body:List Stmt} {f:EF} {g:TG} {b:BF} {fb:SF} {pos:Pos} (hp:PassesOwn (model X.prog X.w) X.A X.env X.xe) (hc:X.calm=true) (hl:PE X iter (tP X.K f)) (hg:PG X tg g) (hb':GS X.K g b) (hb:dg X body (dZ X.K fb))
 (hs:∀ x,foldedSetIterable iter X.env x=pure x:=by intro _; rfl):PS X (.For tg iter body [] pos) (dZ X.K (gw (Ke f) b fb)):=PS.imp (wO hp hc (Qo hl) hg hb hs) fun D σ H q=>by
 obtain ⟨H0,Z0,ρ,pd,fl,s,h,k⟩:=q
 obtain ⟨y,h1,h2⟩:=bind_some h
 obtain ⟨x,h3,h4⟩:=bind_some h1
 refine ⟨H0,Z0,ρ,pd,x.1,x.2,s,h3,fun v H1 s1=>?_⟩
 refine qT fun G kG=>?_
 split at h4
 . rename_i ks ps en
   cases h4
   have s2:=s1.freeze
   rw [en] at s2
   obtain ⟨el,Z,hgg,z,r,so⟩:=s2.sh
   unfold Rep at r
   obtain ⟨a,o,kvs,rfl,g1,g2,g3⟩:=r
   have hst:SR X.K H0 Z σ H1 x.2 pd:=⟨el,Z,hgg,⟨z.zh,z.h0,gK.refl Z,fun b u e=>.inl e⟩,so⟩
   exact kG ⟨a,o,kvs,rfl,z.zh _ _ g1,v7 hb' (HJ g1 g2) (k.imp (fun s=>s.weak z) fun s=>s.weak z) hst h2⟩
 . cases h4
noncomputable def qU (f:EF):EF:=fun ρ=>(f ρ).bind fun x=>match x.1.pv with
 | .ptr n=>match x.2.mu[n]? with
  | some (some (.lst ws))=>some (.sh (.int (ws.length:Nat)),x.2)
  | _=>none
 | p=>(MP p).map fun l=>(l,x.2)
theorem Nb {x:Str} {e:Expr} {f:EF} {p pos:Pos} (h:PE X (.Call (.Name x p) [e] [] pos) (Ck (fun xs H Q=>∃ x n,xs=[x]/\Ls X.K x H n/\Q (.int n) H) (jk X.K (aj f ao)))):PE X (.Call (.Name x p) [e] [] pos) (tP X.K (qU f)):=PE.imp h fun σ H Q q=>by
 obtain ⟨H0,Z0,ρ,pd,l,ρ',s,ff,k⟩:=q
 obtain ⟨y,h1,h2⟩:=bind_some ff
 refine ⟨H0,Z0,ρ,pd,[y.1],y.2,s,?_,fun vs H1 e1 s1=>?_⟩
 . unfold aj ao
   rw [h1]
   rfl
 . obtain ⟨v,rfl⟩:=rA e1
   have s2:SR X.K H0 Z0 σ H1 y.2 ((v,.sh y.1.pv)::pd):=SR.freeze s1
   split at h2
   . rename_i n en
     split at h2
     . rename_i ws em
       cases h2
       rw [en] at s2
       obtain ⟨a,rfl,s5⟩:=s2.cellO em
       obtain ⟨_,Z,_,z,so⟩:=s5.top
       obtain ⟨_,ea,⟨us,hu,hr⟩,_⟩:=so.1 _ List.mem_cons_self
       cases ea
       exact ⟨.ref a,ws.length,rfl,.inl ⟨us,bY.of hu,hr.length.symm⟩,k _ H1 (s2.pop.scal eG)⟩
     . cases h2
   . obtain ⟨l',h3,h4⟩:=map_some h2
     cases h4
     exact J6 H0 Z0 σ y.2 pd H1 [v] [y.1.pv] _ Q rfl s2 h3 k
end
open PySem.SeqAt
section
variable {X:Cx}
noncomputable def HN (n:Nat):PD->PD->Option Bool
 | [],_=>some true
 | kv::r,lb=>match lL lb kv.1 with
  | none=>some false
  | some q=>(bC n kv.2 q).bind fun e=>(HN n r lb).map fun c=>e&&c
noncomputable def xV (n:Nat) (la lb:PD):Option Bool:=if la.length=lb.length then HN n la lb else some false
theorem Gq {pins:List (Addr×Obj)} {H:Hp} {s:Shared} {g:List Addr} (I:Inv X pins σ H s) {n:Nat} {A:Around} (hA:A.units+n<cLine) {lb:PD} {kb:List (Key×V)} {vb:List (Key×Value)} (rb:eY X.K ⟨H,g⟩ lb kb) (qb:KV kb vb):
 ∀ {la:PD} {ka:List (Key×V)} {va:List (Key×Value)} {b:Bool},eY X.K ⟨H,g⟩ la ka->KV ka va->HN n la lb=some b->W.KeqHits A s vb va b
 | _,_,va,b,.nil,qa,h=>by
  cases h
  cases (show Paired _ [] va from qa)
  exact .nil
 | p::la,q::ka,va,b,.cons hpq t,qa,h=>by
  cases (show Paired _ (q::ka) va from qa) with
  | @cons _ u _ vr e qr=>
   obtain ⟨u1,u2⟩:=u
   have ek:p.1=u1:=hpq.1.trans e.1
   unfold HN at h
   have rel:=qb.val p.1
   cases hv:lL lb p.1 with
   | none=>
    rw [hv] at h
    cases h
    rw [rb.val.2 hv] at rel
    refine .miss ?_
    rw [← ek]
    cases hx:valueAt vb p.1 with
    | none=>rfl
    | some y=>rw [hx] at rel; exact rel.elim
   | some q'=>
    rw [hv] at h
    obtain ⟨e1,h1,h2⟩:=bind_some h
    obtain ⟨c,h3,h4⟩:=map_some h2
    subst h4
    obtain ⟨v',hv',rv'⟩:=rb.val.1 q' hv
    rw [hv'] at rel
    cases hx:valueAt vb p.1 with
    | none=>rw [hx] at rel; exact rel.elim
    | some y=>
     rw [hx] at rel
     refine .hit (y:=y) (by rw [← ek]; exact hx) (xJ I n hpq.2 rv' e.2 rel h1 A hA).1 (Gq I hA rb qb t qr h3)
noncomputable def TX (K:FG) (neg:Bool):R2:=fun x y H Q=>∃ g ks ps js qs b,Rep K ⟨H,g⟩ (.dk ks ps) x/\Rep K ⟨H,g⟩ (.dk js qs) y/\xV 150 (ks.zip ps) (js.zip qs)=some b/\Q (.bl (if neg then !b else b)) H
theorem TY {pins:List (Addr×Obj)} {H:Hp} {s:Shared} {g:List Addr} (I:Inv X pins σ H s) (hA:X.A.in1.units+150<cLine) {ks js:List Key} {ps qs:List PV} {x y:V} {v u:Value} {b:Bool}
 (r1:Rep X.K ⟨H,g⟩ (.dk ks ps) x) (r2:Rep X.K ⟨H,g⟩ (.dk js qs) y) (rx:RelV x v) (ry:RelV y u) (e:xV 150 (ks.zip ps) (js.zip qs)=some b):
 ∃ a a' va vb r,v=.ref a/\u=.ref a'/\(a==sysModules)=false/\(a'==sysModules)=false/\s.heap.DictOf (cR X.prog X.w) a va/\s.heap.DictOf (cR X.prog X.w) a' vb/\(va.length=vb.length->W.KeqHits X.A.in1 s vb va r)/\(va.length==vb.length&&r)=b:=by
 unfold Rep at r1 r2
 obtain ⟨a,ka,rfl,h1,h2,h3⟩:=r1
 obtain ⟨a',kb,rfl,h1',h2',h3'⟩:=r2
 cases rx
 cases ry
 obtain ⟨_,d1,va,q1,dd1⟩:=Hr I.hok h1
 obtain ⟨_,d2,vb,q2,dd2⟩:=Hr I.hok h1'
 have ra:=lW h2 h3
 have rb:=lW h2' h3'
 have la:va.length=(ks.zip ps).length:=by rw [← q1.length,ra.len]
 have lb:vb.length=(js.zip qs).length:=by rw [← q2.length,rb.len]
 unfold xV at e
 split at e
 . rename_i hl
   refine ⟨a,a',va,vb,b,rfl,rfl,d1,d2,dd1,dd2,fun _=>Gq I hA rb q2 ra q1 e,?_⟩
   rw [la,lb,hl]
   simp
 . rename_i hl
   cases e
   refine ⟨a,a',va,vb,false,rfl,rfl,d1,d2,dd1,dd2,fun z=>(hl (by rw [← la,← lb]; exact z)).elim,by simp⟩
theorem T4 {k:Nat} (hr:eQ k X.A):dY X (compareOp .Eq) (TX X.K false):=by
 intro pins s σ H x y v u Q I rx ry h
 obtain ⟨g,ks,ps,js,qs,b,r1,r2,e,k'⟩:=h
 have hA:X.A.in1.units+150<cLine:=by have:=hr.un; show X.A.units+1+150<cLine; omega
 obtain ⟨a,a',va,vb,r,rfl,rfl,d1,d2,dd1,dd2,hits,eb⟩:=TY I hA r1 r2 rx ry e
 refine W.keq_eq d1 d2 dd1 dd2 (by have:=hr.un; omega) hits ?_
 rw [eb]
 exact ⟨.bl b,H,I,rfl,k'⟩
noncomputable def Dr (p q:PV):Option Lc:=match p,q with
 | .dk ks ps,.dk js qs=>(xV 150 (ks.zip ps) (js.zip qs)).map fun b=>.sh (.bl b)
 | p,q=>eqP p q
noncomputable def T5 (K:FG) (neg:Bool):R2:=fun x y H Q=>CZ K neg x y H Q\/TX K neg x y H Q
theorem Kf {k:Nat} (hr:eQ k X.A):dY X (compareOp .Eq) (T5 X.K false):=(dN hr).or (T4 hr)
theorem Gr:iT K (T5 K false) Dr:=by
 intro H0 Z0 σ ρ pd H v w x y l Q s e k
 unfold Dr at e
 split at e
 . obtain ⟨b,e1,rfl⟩:=map_some e
   obtain ⟨g,r1,r2⟩:=s.rep2H
   exact .inr ⟨g,_,_,_,_,b,r1,r2,e1,k _ H (s.pop.pop.scal dm)⟩
 . exact .inl (dO H0 Z0 σ ρ pd H v w _ _ l Q s e k)
end
end PL
namespace L2
open PySem PySem.Spec PyProof.Rows
variable {pins:List (Addr×Obj)} {E:Value->Shared->Prop} {s:Shared} {A:Around} {w:World} {P:Program}
section
variable {X:Cx}
end
end L2
namespace PL
open PySem PySem.Spec PyProof.Rows L2
variable {K:FG} {H0 H:Hp} {Z0:ZG} {σ:L2.St} {ρ:Ev} {pd:Pd}
section
variable {X:Cx}
noncomputable def O5:List PV->Option (List Int)
 | []=>some []
 | .int x::ps=>(O5 ps).map (x::·)
 | _::_=>none
noncomputable def WX:PV->Option Lc
 | .lst ps=>(O5 ps).bind fun ns=>if (ns.all fun n=>decide (0<=n))&&decide (ns.sum<4611686018427387904) then some (.sh (.int ns.sum)) else none
 | _=>none
theorem pZ {Z:ZG} {ps:List PV} {us:List V} (h:aG K Z ps us):∀ n:Nat,aG K Z (List.replicate n ps).flatten (List.replicate n us).flatten
 | 0=>by simp; exact aG.nil
 | n+1=>by
  rw [List.replicate_succ,List.replicate_succ,List.flatten_cons,List.flatten_cons]
  exact h.append (pZ h n)
noncomputable def zr (f g:EF):EF:=fun ρ=>(f ρ).bind fun x=>(g x.2).bind fun y=>match x.1,y.1.pv with
 | .own (.lst ps),.int k=>if 0<=k/\k<=100000/\ps.length*k.toNat<=100000 then some (.own (.lst (List.replicate k.toNat ps).flatten),y.2) else none
 | _,_=>none
theorem Vm {a b:Expr} {pos:Pos} {f g:EF} (ha:PE X a (tP X.K f)) (hb:PE X b (tP X.K g)):PE X (.BinOp a .Mult b pos) (tP X.K (zr f g)):=PE.imp (Om Sg ha hb) fun σ H Q q=>by
 obtain ⟨H0,Z0,ρ,pd,l,ρ',s,h,k⟩:=q
 obtain ⟨x,h1,h2⟩:=bind_some h
 obtain ⟨y,h3,h4⟩:=bind_some h2
 refine ⟨H0,Z0,ρ,pd,x.1,x.2,s,h1,fun v H1 s1=>⟨H0,Z0,x.2,_,y.1,y.2,s1,h3,fun u H2 s2=>?_⟩⟩
 split at h4
 . rename_i ps n ex ey
   split at h4
   . rename_i hc
     cases h4
     rw [ex] at s2
     have s3:=s2.freeze
     rw [ey] at s3
     obtain ⟨el,Z,hg,z,r,so⟩:=s3.sh
     unfold Rep at r
     subst r
     have so2:=so.perm cU.symm
     obtain ⟨c,ec,⟨us,hu,hr⟩,_⟩:=so2.1 _ List.mem_cons_self
     cases ec
     refine ⟨c,n,us,rfl,rfl,hu,by omega,by omega,by rw [hr.length,sizeLine_eq]; omega,fun p hp=>k _ _ ?_⟩
     obtain ⟨z',s'⟩:=(so2.sub (List.sublist_cons_self _ _)).new (o:=.lst (List.replicate n.toNat us).flatten) (p:=.lst (List.replicate n.toNat ps).flatten) z hp ⟨_,bj,pZ hr _⟩
     exact .mk el hg z' s'
   . cases h4
 . cases h4
noncomputable abbrev ir:=List (List Key×PV)
noncomputable def lM:ir->List Key->Option PV
 | [],_=>none
 | kv::r,k=>if kv.1=k then some kv.2 else lM r k
noncomputable def xW (k:List Key) (v:PV):ir->ir
 | []=>[]
 | kv::r=>(if kv.1=k then (kv.1,v) else kv)::xW k v r
noncomputable def p7 (l:ir) (k:List Key) (v:PV):ir:=match lM l k with
 | some _=>xW k v l
 | none=>l++[(k,v)]
noncomputable def gA (l:ir):PV:=.dt (l.map (·.1)) (l.map (·.2))
noncomputable def gR (K:FG) (Z:ZG):ir->List (List Key×V)->Prop:=Paired fun p q=>p.1=q.1/\Rep K Z p.2 q.2
section
variable {K:FG} {Z Z':ZG}
theorem vA:∀ {kvs:List (List Key×V)} {ks:List (List Key)} {ps:List PV},kvs.map (·.1)=ks->aG K Z ps (kvs.map (·.2))->gR K Z (ks.zip ps) kvs
 | [],ks,ps,h1,h2=>by
  subst h1
  exact .nil
 | kv::r,ks,ps,h1,h2=>by
  subst h1
  cases ps with
  | nil=>have:=h2.inv0; simp at this
  | cons p ps=>
   obtain ⟨v,r',e,h3,h4⟩:=h2.inv
   rw [List.map_cons] at e
   injection e with e1 e2
   subst e1 e2
   rw [List.map_cons,List.zip_cons_cons]
   exact .cons ⟨rfl,h3⟩ (vA rfl h4)
theorem gR.keys:∀ {l:ir} {kvs:List (List Key×V)},gR K Z l kvs->kvs.map (·.1)=l.map (·.1)
 | _,_,.nil=>rfl
 | _,_,.cons h t=>by rw [List.map_cons,List.map_cons,h.1,gR.keys t]
theorem gR.vals:∀ {l:ir} {kvs:List (List Key×V)},gR K Z l kvs->aG K Z (l.map (·.2)) (kvs.map (·.2))
 | _,_,.nil=>.nil
 | _,_,.cons h t=>aG.cons h.2 (gR.vals t)
theorem gR.val {k:List Key}:∀ {l:ir} {kvs:List (List Key×V)},gR K Z l kvs->(∀ p,lM l k=some p->∃ v,lF kvs k=some v/\Rep K Z p v)/\(lM l k=none->lF kvs k=none)
 | _,_,.nil=>⟨fun p h=>(by cases h),fun _=>rfl⟩
 | p::l,q::kvs,.cons h t=>by
  have ih:=gR.val (k:=k) t
  by_cases e:p.1=k
  . have e':q.1=k:=by rw [← h.1]; exact e
    refine ⟨fun x hx=>⟨q.2,pI e',?_⟩,fun hx=>?_⟩
    . unfold lM at hx; rw [if_pos e] at hx; cases hx; exact h.2
    . unfold lM at hx; rw [if_pos e] at hx; cases hx
  . have e':¬ q.1=k:=by rw [← h.1]; exact e
    rw [pJ e']
    unfold lM
    rw [if_neg e]
    exact ih
theorem gR.repl {k:List Key} {p:PV} {v:V} (r:Rep K Z p v):∀ {l:ir} {kvs:List (List Key×V)},gR K Z l kvs->gR K Z (xW k p l) (kvs.map fun kv=>if kv.1=k then (kv.1,v) else kv)
 | _,_,.nil=>.nil
 | a::l,b::kvs,.cons h t=>by
  refine .cons ?_ (gR.repl r t)
  by_cases e:a.1=k
  . have e':b.1=k:=by rw [← h.1]; exact e
    rw [if_pos e]
    dsimp only
    rw [if_pos e']
    exact ⟨h.1,r⟩
  . have e':¬ b.1=k:=by rw [← h.1]; exact e
    rw [if_neg e]
    dsimp only
    rw [if_neg e']
    exact h
theorem gR.app:∀ {l l':ir} {kvs kvs':List (List Key×V)},gR K Z l kvs->gR K Z l' kvs'->gR K Z (l++l') (kvs++kvs')
 | _,_,_,_,.nil,h=>h
 | _,_,_,_,.cons a t,h=>.cons a (gR.app t h)
theorem gR.put {k:List Key} {p:PV} {v:V} {l:ir} {kvs:List (List Key×V)} (h:gR K Z l kvs) (r:Rep K Z p v):gR K Z (p7 l k p) (putK kvs k v):=by
 have hv:=h.val (k:=k)
 unfold p7
 cases e:lM l k with
 | none=>
  rw [Cq v (hv.2 e)]
  exact h.app (.cons ⟨rfl,r⟩ .nil)
 | some q=>
  obtain ⟨u,hu,_⟩:=hv.1 q e
  have e2:putK kvs k v=kvs.map fun kv=>if kv.1=k then (kv.1,v) else kv:=by
   unfold putK
   rw [pK,hu]
   rfl
  rw [e2]
  exact h.repl r
end
noncomputable def vB:List PV->Option (List Key)
 | []=>some []
 | p::ps=>(zq p).bind fun k=>(vB ps).map (k::·)
theorem uJ {Z:ZG}:∀ {ps:List PV} {vs:List V} {ks:List Key},vB ps=some ks->aG K Z ps vs->vs=ks.map kV
 | [],vs,ks,h,r=>by
  cases h
  exact r
 | p::ps,vs,ks,h,r=>by
  obtain ⟨v,r',rfl,h1,h2⟩:=r
  obtain ⟨k,g1,g2⟩:=bind_some h
  obtain ⟨t,g3,g4⟩:=map_some g2
  cases g4
  rw [vz g1 h1,uJ g3 h2]
  rfl
theorem SR.takeT {i:Nat} {ks:List (List Key)} {ps:List PV} (s:SR K H0 Z0 σ H ρ pd) (e:ρ.vs[i]?=some (some (.own (.dt ks ps)))):
 ∃ a,σ[i]?=some (some (.ref a))/\SR K H0 Z0 σ H (ρ.set i none) ((.ref a,.own (.dt ks ps))::pd):=by
 obtain ⟨v,e1,s1⟩:=s.take e
 obtain ⟨_,Z,_,z,so⟩:=s1.top
 obtain ⟨a,ea,_⟩:=so.1 _ List.mem_cons_self
 have ea':v=.ref a:=Option.some.inj ea
 subst ea'
 exact ⟨a,e1,s1⟩
theorem SR.setT {v:V} {p:PV} {a:Addr} {ks:List (List Key)} {ps:List PV} {k:List Key} (s:SR K H0 Z0 σ H ρ ((v,.sh p)::(.ref a,.own (.dt ks ps))::pd)):
 ∃ kvs,H a=some (.dT kvs)/\kvs.length=ks.length/\SR K H0 Z0 σ (upd H a (.dT (putK kvs k v))) ρ ((.ref a,.own (gA (p7 (ks.zip ps) k p)))::pd):=by
 obtain ⟨el,Z,hg,z,r,so⟩:=s.sh
 have so2:=so.perm cU.symm
 obtain ⟨_,eb,⟨kvs,hu,hk,hr⟩,_⟩:=so2.1 _ List.mem_cons_self
 cases eb
 refine ⟨kvs,hu,by rw [← hk,List.length_map],?_⟩
 have d:=(vA hk hr).put (k:=k) r
 obtain ⟨z',s'⟩:=so2.write (o:=.dT (putK kvs k v)) (q:=gA (p7 (ks.zip ps) k p)) z ⟨putK kvs k v,bj,d.keys,d.vals⟩
 exact .mk el hg z' s'
noncomputable def xX (i:Nat) (fi:AF) (fv:EF):SF:=fun ρ=>(fv ρ).bind fun x=>match x.2.vs[i]? with
 | some (some (.own (.dt _ _)))=>(fi x.2).bind fun y=>match vB (y.1.map Lc.pv),y.2.vs[i]? with
  | some k,some (some (.own (.dt ks ps)))=>if ks.length<100000/\k.length<=1000 then some (.nx (y.2.set i (some (.own (gA (p7 (ks.zip ps) k x.1.pv)))))) else none
  | _,_=>none
 | _=>none
theorem QM {i:Nat} {o ix e:Expr} {fi:AF} {fv:EF} {tpos pos:Pos} (h:PS X (.Assign [.Subscript o ix tpos] e pos) (yW (tP X.K fv) (G8 (sE i) (RZ (jk X.K fi)) Hu))):PS X (.Assign [.Subscript o ix tpos] e pos) (dZ X.K (xX i fi fv)):=PS.imp h fun D σ H q=>by
 obtain ⟨H0,Z0,ρ,pd,fl,s,h,k⟩:=q
 obtain ⟨x,h1,h2⟩:=bind_some h
 refine ⟨H0,Z0,ρ,pd,x.1,x.2,s,h1,fun v H1 s1=>?_⟩
 split at h2
 . rename_i ks0 ps0 e0
   obtain ⟨y,h3,h4⟩:=bind_some h2
   obtain ⟨a,ea,_⟩:=s1.takeT e0
   refine ⟨.ref a,ea,H0,Z0,x.2,_,y.1,y.2,s1.freeze,h3,fun ws H2 e2 s2=>?_⟩
   split at h4
   . rename_i kk ks ps ek e3
     split at h4
     . rename_i hlen
       cases h4
       obtain ⟨el,Z,hg,z,rl,so⟩:=s2.repl e2
       have ew:=uJ ek rl
       refine ⟨by rw [ew,List.length_map,sizeLine_eq]; omega,fun b hb=>?_⟩
       obtain ⟨z',lz,so'⟩:=so.newF z (a:=b) (o:=.tup ws) hb
       have s3:SR X.K H0 Z0 σ (upd H2 b (.tup ws)) y.2 ((v,.sh x.1.pv)::pd):=⟨el,Z.put b (.tup ws),hg,z',so'⟩
       obtain ⟨a',ea',s4⟩:=s3.takeT e3
       rw [ea] at ea'; cases ea'
       obtain ⟨kvs,hu,hl,s5⟩:=s4.swap.setT (k:=kk)
       refine ⟨a,_,rfl,.inr ⟨kvs,kk,b,hu,rfl,by rw [bj,ew],by rw [hl,sizeLine_eq]; omega,rfl⟩,k σ _ ?_⟩
       have s6:=s5.put ea
       rw [Ev.set_set] at s6
       exact s6
     . cases h4
   . cases h4
 . cases h2
noncomputable def Kg:EF:=fun ρ=>some (.own (.dt [] []),ρ)
theorem T6 {pos:Pos}:PE X (.Dict [] [] pos) (tP X.K Kg):=PE.imp Mi fun σ H Q q=>by
 obtain ⟨H0,Z0,ρ,pd,l,ρ',s,f,k⟩:=q
 cases f
 exact fun p hp=>k _ _ (s.newO hp fun Z _ _=>⟨[],bj,rfl,.nil⟩)
theorem SR.fzT {a:Addr} {ks:List (List Key)} {ps:List PV} (s:SR K H0 Z0 σ H ρ ((.ref a,.own (.dt ks ps))::pd)):
 ∃ kvs,H a=some (.dT kvs)/\∀ o,SR K H0 Z0 σ (upd H a (.frz o (.dT kvs))) ρ ((.ref a,.sh (.dtf ks ps))::pd):=by
 obtain ⟨el,Z,hg,z,so⟩:=s.top
 obtain ⟨_,eb,⟨kvs,hu,hk,hr⟩,e3,e4⟩:=so.1 _ List.mem_cons_self
 cases eb
 refine ⟨kvs,hu,fun o=>?_⟩
 have sz:cG Z.z (upd Z.z a (.frz o (.dT kvs))):=fun b u e=>by rw [aP (bN e e3)]; exact e
 have lz:gK Z (Z.put a (.frz o (.dT kvs))):=⟨sz,List.prefix_refl _⟩
 have nd:(a::(sl Z.g σ ρ pd).filterMap jM).Nodup:=so.2
 have hL:Slots K H0 Z H (sl Z.g σ ρ pd):=so.sub (List.sublist_cons_self _ _)
 refine .mk (Z:=Z.put a (.frz o (.dT kvs))) el hg ⟨fun b u e=>?_,fun b u e=>by rw [aP (bN e e4)]; exact z.h0 b u e,z.z0.trans lz,fun b u e=>?_⟩ (Slots.consS ?_ ?_)
 . have e:upd Z.z a (.frz o (.dT kvs)) b=some u:=e
   unfold upd at e ⊢
   split
   . rename_i q; rw [if_pos q] at e; exact e
   . rename_i q; rw [if_neg q] at e; exact z.zh b u e
 . have e:upd Z.z a (.frz o (.dT kvs)) b=some u:=e
   unfold upd at e
   split at e
   . rename_i q; rw [q]; exact .inr (.inl e4)
   . exact z.new b u e
 . refine hL.step lz fun e he b hb=>?_
   have hba:b≠a:=fun q=>by
    rw [q] at hb
    exact (List.nodup_cons.mp nd).1 (List.mem_filterMap.mpr ⟨e,he,hb⟩)
   exact ⟨aP hba,by show upd Z.z a _ b=none; rw [aP hba]; exact (gr hL he hb).1⟩
 . unfold Rep
   exact ⟨a,o,kvs,rfl,by show upd Z.z a _ a=_; rw [bj],hk,hr.mono lz⟩
noncomputable def HQ (f:EF):EF:=fun ρ=>(f ρ).bind fun x=>match x.1 with
 | .own (.dt ks ps)=>some (.sh (.dtf ks ps),x.2)
 | _=>none
theorem Wt {e:Expr} {f:EF} (h:PE X e (tP X.K f)):PE X e (tP X.K (HQ f)):=PE.imp (S5 h) fun σ H Q q=>by
 obtain ⟨H0,Z0,ρ,pd,r,ρ',s,h,k⟩:=q
 obtain ⟨x,h1,h2⟩:=bind_some h
 refine ⟨H0,Z0,ρ,pd,x.1,x.2,s,h1,fun v H1 s1=>?_⟩
 split at h2
 . rename_i ks ps e1
   cases h2
   rw [e1] at s1
   obtain ⟨_,Z,_,z,so⟩:=s1.top
   obtain ⟨a,ea,_⟩:=so.1 _ List.mem_cons_self
   have ea':v=.ref a:=Option.some.inj ea
   subst ea'
   obtain ⟨kvs,hu,st⟩:=s1.fzT
   exact ⟨a,kvs,rfl,hu,fun o=>k _ _ (st o)⟩
 . cases h2
theorem Slots.know {Z0 Z:ZG} {L:Sl} (h:Slots K H0 Z H L) (zo:jN H0 Z0 Z H) {a:Addr} {vs:List V} (ha:H a=some (.tup vs)):jN H0 Z0 (Z.put a (.tup vs)) H/\gK Z (Z.put a (.tup vs))/\Slots K H0 (Z.put a (.tup vs)) H L:=by
 have sz:cG Z.z (upd Z.z a (.tup vs)):=fun b u e=>by
  unfold upd
  split
  . rename_i q
    rw [q] at e
    rw [← ha,← zo.zh _ _ e]
  . exact e
 have lz:gK Z (Z.put a (.tup vs)):=⟨sz,List.prefix_refl _⟩
 refine ⟨⟨fun b u e=>?_,zo.h0,zo.z0.trans lz,fun b u e=>?_⟩,lz,?_⟩
 . have e:upd Z.z a (.tup vs) b=some u:=e
   unfold upd at e
   split at e
   . rename_i q; rw [q,ha]; exact e
   . exact zo.zh b u e
 . have e:upd Z.z a (.tup vs) b=some u:=e
   unfold upd at e
   split at e
   . cases e; exact .inr (.inr True.intro)
   . exact zo.new b u e
 . refine h.step lz fun e he b hb=>?_
   obtain ⟨h1,h2,o',h3,h4⟩:=gr h he hb
   have hba:b≠a:=fun q=>by
    rw [q,ha] at h3
    cases h3
    exact h4 True.intro
   exact ⟨rfl,by show upd Z.z a _ b=none; rw [aP hba]; exact h1⟩
noncomputable def n6 (ks:List (List Key)) (ps:List PV):List PV:=List.zipWith (fun k p=>.tup [.tup (k.map vU),p]) ks ps
theorem HR {ks:List (List Key)} {ps:List PV} {i:Nat} {x:PV} (h:(n6 ks ps)[i]?=some x):∃ k p,ks[i]?=some k/\ps[i]?=some p/\x=.tup [.tup (k.map vU),p]:=by
 unfold n6 at h
 rw [List.getElem?_zipWith] at h
 cases h1:ks[i]? with
 | none=>rw [h1] at h; cases h
 | some p=>
  cases h2:ps[i]? with
  | none=>rw [h1,h2] at h; cases h
  | some q=>rw [h1,h2] at h; cases h; exact ⟨p,q,rfl,rfl,rfl⟩
theorem Aw {Z:ZG}:∀ {k:List Key},aG K Z (k.map vU) (k.map kV)
 | []=>.nil
 | _::_=>aG.cons Gn Aw
theorem HS {H0:Hp} {a:Addr} {ks:List (List Key)} {ps:List PV} {o:Obj} {kvs:List (List Key×V)} {H1:Hp} (h1:H1 a=some (.frz o (.dT kvs))) (hz:Z0.z a=some (.frz o (.dT kvs))) (hk:kvs.map (·.1)=ks) (hl:ps.length=ks.length):mK K H0 Z0 ((.ref a,.sh (.dtf ks ps))::pd) (SN a o kvs) (n6 ks ps):=by
 intro σ H ρ i s
 obtain ⟨el,Z,hg,z,r,so⟩:=s.sh
 have r0:=r
 unfold Rep at r
 obtain ⟨b',o',kvs',e,g1,g2,g3⟩:=r
 cases e
 have e1:=z.z0.1 _ _ hz
 rw [g1] at e1
 cases e1
 have hH:H a=some (.frz o (.dT kvs)):=z.zh _ _ g1
 have hlen:kvs.length=ks.length:=by rw [← hk,List.length_map]
 refine ⟨fun x hx=>?_,fun hi=>⟨hH,?_⟩⟩
 . obtain ⟨k,p,hk',hp,rfl⟩:=HR hx
   have hi:i<ks.length:=(List.getElem?_eq_some_iff.mp hk').1
   refine ⟨⟨hH,by omega⟩,fun v' H' y=>?_⟩
   obtain ⟨T,kb,kv,hT,rfl,hkv,hkb,rfl⟩:=y
   have hk2:k=kv.1:=by
    have:=congrArg (fun l=>l[i]?) hk
    simp only [List.getElem?_map,hkv,hk',Option.map_some] at this
    exact (Option.some.inj this).symm
   obtain ⟨v,hv,rv⟩:=g3.get hp
   rw [List.getElem?_map,hkv] at hv
   cases hv
   obtain ⟨z1,lz1,so1⟩:=so.know z hkb
   obtain ⟨z',lz,so'⟩:=(so1.consS (r0.mono lz1)).newF z1 (a:=T) (o:=.tup [.ref kb,kv.2]) hT
   refine .mk (Z:=(Z.put kb (.tup (kv.1.map kV))).put T (.tup [.ref kb,kv.2])) el hg z' (Slots.perm (Slots.consS so' ?_) (cU.cons _))
   unfold Rep
   refine ⟨T,[.ref kb,kv.2],rfl,.inl (.inl (by show upd _ T _ T=_; rw [bj])),aG.cons (Rep.mono (Z:=Z.put kb (.tup (kv.1.map kV))) lz ?_) (aG.cons ((rv.mono lz1).mono lz) .nil)⟩
   unfold Rep
   exact ⟨kb,kv.1.map kV,rfl,.inl (.inl (by show upd _ kb _ kb=_; rw [bj])),by rw [hk2]; exact Aw⟩
 . unfold n6 at hi
   rw [List.length_zipWith] at hi
   omega
noncomputable def HW (f:EF):IF:=fun ρ=>(f ρ).bind fun x=>match x.1.pv with
 | .dtf ks ps=>if ps.length=ks.length then some (n6 ks ps,x.2) else none
 | _=>none
theorem SR.ext {l:Addr} {o:HO} (s:SR K H0 Z0 σ H ρ pd) (hl:H l=none):SR K H0 Z0 σ (upd H l o) ρ pd:=by
 obtain ⟨el,Z,hg,z,so⟩:=s
 obtain ⟨z',lz,so'⟩:=so.newF z (o:=o) hl
 exact ⟨el,Z.put l o,hg,z',so'⟩
theorem Fj {o:Expr} {elts:List Expr} {x1} {tpos apos cpos:Pos} {body:List Stmt} {f:EF} {g:TG} {b:BF} {fb:SF} {pos:Pos} (hp:PassesOwn (model X.prog X.w) X.A X.env X.xe) (hc:X.calm=true) (hl:PE X o (tP X.K f)) (hg:PG X (.Tuple elts x1 tpos) g) (hb':GS X.K g b) (hb:dg X body (dZ X.K fb))
 (hbase:attributeBase o "items" X.env (eval o X.env)=eval o X.env:=by rfl) (hline:(apos.endLine==cpos.line)=true:=by rfl)
 (hs:∀ x,foldedSetIterable (.Call (.Attribute o "items" apos) [] [] cpos) X.env x=pure x:=by intro _; rfl):PS X (.For (.Tuple elts x1 tpos) (.Call (.Attribute o "items" apos) [] [] cpos) body [] pos) (dZ X.K (gw (HW f) b fb)):=PS.imp (wO hp hc (Mq (Ms hl hbase hline)) hg hb hs) fun D σ H q=>by
 obtain ⟨H0,Z0,ρ,pd,fl,s,h,k⟩:=q
 obtain ⟨y,h1,h2⟩:=bind_some h
 obtain ⟨x,h3,h4⟩:=bind_some h1
 refine ⟨H0,Z0,ρ,pd,x.1,x.2,s,h3,fun v H1 s1=>?_⟩
 refine qT fun G kG=>?_
 split at h4
 . rename_i ks ps en
   split at h4
   . rename_i hlp
     cases h4
     have s2:=s1.freeze
     rw [en] at s2
     obtain ⟨el,Z,hgg,z,r,so⟩:=s2.sh
     have r0:=r
     unfold Rep at r
     obtain ⟨a,o,kvs,rfl,g1,g2,g3⟩:=r
     have e1:H1 a=some (.frz o (.dT kvs)):=z.zh _ _ g1
     have hst0:SR X.K H0 Z σ H1 x.2 ((.ref a,.sh (.dtf ks ps))::pd):=.mk (Z:=Z) el hgg ⟨z.zh,z.h0,gK.refl Z,fun b u e=>.inl e⟩ (so.consS r0)
     exact kG ⟨a,o,kvs,rfl,rfl,e1,fun l hl=>⟨l,a,o,kvs,rfl,bj,by rw [aP (bN e1 hl)]; exact e1,v7 hb' (HS e1 g1 g2 hlp) (k.imp (fun s=>s.pop.weak z) fun s=>(s.sub ((List.sublist_cons_self _ _).cons_cons _)).weak z) (hst0.ext hl) h2⟩⟩
   . cases h4
 . cases h4
noncomputable def nQ:SF:=fun _=>none
theorem ph {st:Stmt}:PS X st (dZ X.K nQ):=fun pins s σ H D I q=>by
 obtain ⟨H0,Z0,ρ,pd,fl,s,h,k⟩:=q
 cases h
noncomputable abbrev FD:=List (Str×PV)
noncomputable def gh:FD->Str->Option PV
 | [],_=>none
 | kv::r,k=>if kv.1=k then some kv.2 else gh r k
noncomputable def gH (f:Str) (p:PV):FD->FD
 | []=>[(f,p)]
 | kv::r=>if kv.1=f then (kv.1,p)::r else kv::gH f p r
noncomputable def di (C:Str) (l:FD):PV:=.obj C (l.map (·.1)) (l.map (·.2))
noncomputable def mR (K:FG) (Z:ZG):FD->List (Str×V)->Prop:=Paired fun p q=>p.1=q.1/\Rep K Z p.2 q.2
section
variable {K:FG} {Z Z':ZG}
theorem zu:∀ {kvs:List (Str×V)} {ks:List Str} {ps:List PV},kvs.map (·.1)=ks->aG K Z ps (kvs.map (·.2))->mR K Z (ks.zip ps) kvs
 | [],ks,ps,h1,h2=>by
  subst h1
  exact .nil
 | kv::r,ks,ps,h1,h2=>by
  subst h1
  cases ps with
  | nil=>have:=h2.inv0; simp at this
  | cons p ps=>
   obtain ⟨v,r',e,h3,h4⟩:=h2.inv
   rw [List.map_cons] at e
   injection e with e1 e2
   subst e1 e2
   rw [List.map_cons,List.zip_cons_cons]
   exact .cons ⟨rfl,h3⟩ (zu rfl h4)
theorem mR.keys:∀ {l:FD} {kvs:List (Str×V)},mR K Z l kvs->kvs.map (·.1)=l.map (·.1)
 | _,_,.nil=>rfl
 | _,_,.cons h t=>by rw [List.map_cons,List.map_cons,h.1,mR.keys t]
theorem mR.vals:∀ {l:FD} {kvs:List (Str×V)},mR K Z l kvs->aG K Z (l.map (·.2)) (kvs.map (·.2))
 | _,_,.nil=>.nil
 | _,_,.cons h t=>aG.cons h.2 (mR.vals t)
theorem mR.look {f:Str}:∀ {l:FD} {kvs:List (Str×V)},mR K Z l kvs->(∀ p,gh l f=some p->∃ v,kvs.lookup f=some v/\Rep K Z p v)/\(gh l f=none->kvs.lookup f=none)
 | _,_,.nil=>⟨fun p h=>(by cases h),fun _=>rfl⟩
 | p::l,q::kvs,.cons h t=>by
  have ih:=mR.look (f:=f) t
  have e0:(q::kvs).lookup f=if f=q.1 then some q.2 else kvs.lookup f:=by
   obtain ⟨q1,q2⟩:=q
   rw [List.lookup_cons]
   by_cases e:f=q1
   . subst e; simp
   . rw [if_neg e,show (f==q1)=false from beq_eq_false_iff_ne.mpr e]
  rw [e0]
  by_cases e:p.1=f
  . have e':f=q.1:=by rw [← h.1]; exact e.symm
    rw [if_pos e']
    refine ⟨fun x hx=>⟨q.2,rfl,?_⟩,fun hx=>?_⟩
    . unfold gh at hx; rw [if_pos e] at hx; cases hx; exact h.2
    . unfold gh at hx; rw [if_pos e] at hx; cases hx
  . have e':¬ f=q.1:=by rw [← h.1]; exact fun z=>e z.symm
    rw [if_neg e']
    unfold gh
    rw [if_neg e]
    exact ih
theorem mR.put {f:Str} {p:PV} {v:V} (r:Rep K Z p v):∀ {l:FD} {kvs:List (Str×V)},mR K Z l kvs->mR K Z (gH f p l) (gO f v kvs)
 | _,_,.nil=>.cons ⟨rfl,r⟩ .nil
 | a::l,b::kvs,.cons h t=>by
  obtain ⟨b1,b2⟩:=b
  unfold gH gO
  have h1:a.1=b1:=h.1
  by_cases e:a.1=f
  . rw [if_pos e,if_pos (by rw [← h1]; exact e)]
    exact .cons ⟨h1,r⟩ t
  . rw [if_neg e,if_neg (by rw [← h1]; exact e)]
    exact .cons h (mR.put r t)
end
structure p8 (K:FG) (mg:Str->Option Value) (C:Str) (c:Addr):Prop where
 cn:CN K C c
 cl:uf K c
 mgC:mg C=some (.ref c)
theorem qN {C:Str} {c d:Addr} (h:CN K C c) (g:CN K C d):c=d:=by
 have:(some (some (Value.ref c)))=some (some (.ref d)):=h.symm.trans g
 cases this
 rfl
noncomputable def iB (C f:Str) (fo:EF):EF:=fun ρ=>(fo ρ).bind fun x=>match x.1.pv with
 | .ptr n=>match x.2.mu[n]? with
  | some (some (.obj D ks ps))=>if D=C then (gh (ks.zip ps) f).map fun p=>(.sh p,x.2) else none
  | _=>none
 | _=>none
theorem SR.cellB {pd pe:Pd} {a:Addr} {n:Nat} {p:PV} (hm:ρ.mu[n]?=some (some p)) (s:SR K H0 Z0 σ H ⟨ρ.vs,ρ.mu.set n none⟩ ((.ref a,.own p)::(.ref a,.sh (.ptr n))::pd)):SR K H0 Z0 σ H ρ pd:=by
 have hn:n<ρ.mu.length:=(List.getElem?_eq_some_iff.mp hm).1
 have s8:=s.cellP (by show (ρ.mu.set n none)[n]?=_; rw [List.getElem?_set_self hn])
 have e8:(ρ.mu.set n none).set n (some p)=ρ.mu:=by rw [List.set_set]; exact set_same hm
 have s9:SR K H0 Z0 σ H ⟨ρ.vs,(ρ.mu.set n none).set n (some p)⟩ pd:=s8
 rw [e8] at s9
 exact s9
theorem SR.objAt {v:V} {n:Nat} {C:Str} {ks:List Str} {ps:List PV} (s:SR K H0 Z0 σ H ρ ((v,.sh (.ptr n))::pd)) (hm:ρ.mu[n]?=some (some (.obj C ks ps))):
 ∃ a c dx fs,v=.ref a/\CN K C c/\H a=some (.ins c dx fs)/\fs.map (·.1)=ks/\(∀ f p,gh (ks.zip ps) f=some p->∃ u,fs.lookup f=some u/\SR K H0 Z0 σ H ρ ((u,.sh p)::(v,.sh (.ptr n))::pd))/\∀ f,gh (ks.zip ps) f=none->fs.lookup f=none:=by
 have sdup:SR K H0 Z0 σ H ρ ((v,.sh (.ptr n))::(v,.sh (.ptr n))::pd):=s.part fun Z _ r=>r
 obtain ⟨a,rfl,s5⟩:=sdup.cellO hm
 obtain ⟨el,Z,hg,z,so⟩:=s5.top
 obtain ⟨_,ea,⟨c,dx,fs,cn,hu,hk,hr⟩,_⟩:=so.1 _ List.mem_cons_self
 cases ea
 have rf:=zu hk hr
 refine ⟨a,c,dx,fs,rfl,cn,hu,hk,fun f p hl=>?_,fun f hl=>rf.look.2 hl⟩
 obtain ⟨u,h1,h2⟩:=rf.look.1 p hl
 refine ⟨u,h1,?_⟩
 have s6:SR K H0 Z0 σ H ⟨ρ.vs,ρ.mu.set n none⟩ ((u,.sh p)::(.ref a,.own (.obj C ks ps))::(.ref a,.sh (.ptr n))::(.ref a,.sh (.ptr n))::pd):=.mk (Z:=Z) el hg z ((so.perm cU).consS h2)
 have s7:SR K H0 Z0 σ H ⟨ρ.vs,ρ.mu.set n none⟩ ((.ref a,.own (.obj C ks ps))::(.ref a,.sh (.ptr n))::(u,.sh p)::(.ref a,.sh (.ptr n))::pd):=s6.perm (((List.Perm.swap _ _ _).cons _).trans (List.Perm.swap _ _ _))
 exact SR.cellB (pe:=pd) hm s7
theorem qd {C f:Str} {c:Addr} {o:Expr} {fo:EF} {pos:Pos} (T:p8 X.K X.mg C c) (na:lg X.K c f) (ho:PE X o (tP X.K fo)) (hb:attributeBase o f X.env (eval o X.env)=eval o X.env:=by rfl):PE X (.Attribute o f pos) (tP X.K (iB C f fo)):=PE.imp (RW ho hb) fun σ H Q q=>by
 obtain ⟨H0,Z0,ρ,pd,l,ρ',s,h,k⟩:=q
 obtain ⟨x,h1,h2⟩:=bind_some h
 refine ⟨H0,Z0,ρ,pd,x.1,x.2,s,h1,fun v H1 s1=>?_⟩
 split at h2
 . rename_i n en
   split at h2
   . rename_i D ks ps em
     split at h2
     . rename_i eD
       subst eD
       obtain ⟨p,h3,h4⟩:=map_some h2
       cases h4
       have s2:=s1.freeze
       rw [en] at s2
       obtain ⟨a,c',dx,fs,rfl,cn,hH,hk,hl,_⟩:=s2.objAt em
       have:=qN T.cn cn
       subst this
       obtain ⟨u,h5,s6⟩:=hl f p h3
       exact ⟨a,c,dx,fs,u,rfl,hH,T.cl,na,h5,k u H1 (s6.sub ((List.sublist_cons_self _ _).cons_cons _))⟩
     . cases h2
   . cases h2
 . cases h2
noncomputable def iQ (C f:Str) (fo fv:EF):SF:=fun ρ=>(fv ρ).bind fun y=>(fo y.2).bind fun x=>match x.1.pv with
 | .ptr n=>match x.2.mu[n]? with
  | some (some (.obj D ks ps))=>if D=C/\ks.length<1000 then some (.nx ⟨x.2.vs,x.2.mu.set n (some (di C (gH f y.1.pv (ks.zip ps))))⟩) else none
  | _=>none
 | _=>none
theorem pq {C f:Str} {c:Addr} {o value:Expr} {fo fv:EF} {pos' pos:Pos} (T:p8 X.K X.mg C c) (na:lg X.K c f) (ho:PE X o (tP X.K fo)) (hv:PE X value (tP X.K fv)) (hs:swapsWith value (some (.Attribute o f pos')) pos.line X.env=pure false:=by rfl):PS X (.Assign [.Attribute o f pos'] value pos) (dZ X.K (iQ C f fo fv)):=PS.imp (RX ho hv hs) fun D σ H q=>by
 obtain ⟨H0,Z0,ρ,pd,fl,s,h,k⟩:=q
 obtain ⟨y,h1,h2⟩:=bind_some h
 obtain ⟨x,h3,h4⟩:=bind_some h2
 refine ⟨H0,Z0,ρ,pd,y.1,y.2,s,h1,fun v H1 s1=>⟨H0,Z0,y.2,_,x.1,x.2,s1.freeze,h3,fun w H2 s2=>?_⟩⟩
 split at h4
 . rename_i n en
   split at h4
   . rename_i D' ks ps em
     split at h4
     . rename_i eD
       obtain ⟨eD,hz⟩:=eD
       subst eD
       cases h4
       have s3:=s2.freeze
       rw [en] at s3
       obtain ⟨a,rfl,s5⟩:=s3.cellO em
       have s6:SR X.K H0 Z0 σ H2 ⟨x.2.vs,x.2.mu.set n none⟩ ((v,.sh y.1.pv)::(.ref a,.own (.obj D' ks ps))::(.ref a,.sh (.ptr n))::pd):=s5.perm ((List.Perm.swap _ _ _).trans ((List.Perm.swap _ _ _).cons _))
       obtain ⟨el,Z,hg,z,r,so⟩:=s6.sh
       have so2:=so.perm cU.symm
       obtain ⟨_,eb,⟨c',dx,fs,cn,hu,hk,hr⟩,_⟩:=so2.1 _ List.mem_cons_self
       cases eb
       have:=qN T.cn cn
       subst this
       have rf:=zu hk hr
       have rp:=rf.put (f:=f) r
       have hlen:fs.length=ks.length:=by rw [← hk,List.length_map]
       refine ⟨a,c,dx,fs,rfl,hu,T.cl,na,by omega,k σ _ ?_⟩
       obtain ⟨z',s'⟩:=so2.write (o:=.ins c dx (gO f v fs)) (q:=di D' (gH f y.1.pv (ks.zip ps))) z ⟨c,dx,gO f v fs,cn,bj,rp.keys,rp.vals⟩
       have s7:SR X.K H0 Z0 σ (upd H2 a (.ins c dx (gO f v fs))) ⟨x.2.vs,x.2.mu.set n none⟩ ((.ref a,.own (di D' (gH f y.1.pv (ks.zip ps))))::(.ref a,.sh (.ptr n))::pd):=.mk el hg z' s'
       have hn:n<x.2.mu.length:=(List.getElem?_eq_some_iff.mp em).1
       have s8:=s7.cellP (by show (x.2.mu.set n none)[n]?=_; rw [List.getElem?_set_self hn])
       have e8:(x.2.mu.set n none).set n (some (di D' (gH f y.1.pv (ks.zip ps))))=x.2.mu.set n (some (di D' (gH f y.1.pv (ks.zip ps)))):=List.set_set ..
       have s9:SR X.K H0 Z0 σ (upd H2 a (.ins c dx (gO f v fs))) ⟨x.2.vs,(x.2.mu.set n none).set n (some (di D' (gH f y.1.pv (ks.zip ps))))⟩ pd:=s8
       rw [e8] at s9
       exact s9
     . cases h4
   . cases h4
 . cases h4
end
section
variable {P:Program} {w:World} {K:FG} {mg:Str->Option Value} {base:Heap}
noncomputable def kO (K:FG) (c:Addr) (m qual:Str) (st:Stmt) (ps:List Str):Prop:=∃ f fd,m5 K m qual st f fd/\W.findIn K (.ref c) m=some (some (.ref f))/\W.isFn K (.ref f)=true/\Binds K fd ps []
noncomputable def uK (P:Program) (w:World) (K:FG) (mg:Str->Option Value) (base:Heap) (c:Addr) (m:Str) (k:Nat) (ps:List Str) (sp:Sp):Prop:=∃ f fd,jr P w K mg base mZ k f fd ps sp/\Meth K c m f/\Binds K fd ps []
theorem m5.okQ {x qual:Str} {st:Stmt} {N ps:List Str} {k:Nat} {g:GF} {f:Addr} {fd:FuncData} (F:m5 K x qual st f fd) (S:aR N ps (aq st))
 (h:∀ (cdv:Value) (A:Around) (outer:List PySem.Env) (s:Shared) (H:Hp) (E:XK),eQ k (A.deeper (envOfC qual (aq st) s.heap.objs.size f cdv))->
   ∃ g':SF,(∀ a mu,g a mu=cQ N.length g' a mu)/\dg (jW mZ P w K mg base N qual (aq st) f cdv A outer s H E).nox (aN st) (dZ K g')):jr P w K mg base mZ (k+1) f fd ps (bM K ps.length g):=by
 refine F.ok S (fun vs H Q E q=>?_) (fun cdv A outer s H vs Q E hr q=>?_)
 . obtain ⟨Z,qs,mu,r,mu',e,_⟩:=q; exact e
 . obtain ⟨g',eg,b⟩:=h cdv A outer s H E hr
   obtain ⟨Z,qs,mu,r,mu',e,hg,z,rl,c,hr',kk⟩:=q
   rw [eg] at hr'
   obtain ⟨fl,h1,h2⟩:=bind_some hr'
   refine ⟨_,b,iU H (lr Z.g mu),Z,_,[],fl,sU hg z rl c,h1,?_⟩
   cases fl with
   | rt r' ρ'=>
    cases h2
    intro v σ' H' s'
    obtain ⟨el,Z',hg',z',s''⟩:=s'.top
    refine kk v H' ⟨Z',hg',z',s''.sub ?_⟩
    exact (List.sublist_append_left _ _).cons_cons _
   | nx ρ'=>
    cases h2
    intro σ' H' s'
    obtain ⟨el,Z',hg',z',s''⟩:=s'
    exact kk .non H' ⟨Z',hg',z',(s''.sub (List.sublist_append_left _ _)).consS (rm _)⟩
   | bk ρ'=>cases h2
   | ct ρ'=>cases h2
theorem kO.ok {c:Addr} {m qual:Str} {st:Stmt} {N ps:List Str} {k:Nat} {g:GF} (F:kO K c m qual st ps) (S:aR N ps (aq st))
 (h:∀ (f:Addr) (cdv:Value) (A:Around) (outer:List PySem.Env) (s:Shared) (H:Hp) (E:XK),eQ k (A.deeper (envOfC qual (aq st) s.heap.objs.size f cdv))->
   ∃ g':SF,(∀ a mu,g a mu=cQ N.length g' a mu)/\dg (jW mZ P w K mg base N qual (aq st) f cdv A outer s H E).nox (aN st) (dZ K g')):uK P w K mg base c m (k+1) ps (bM K ps.length g):=by
 obtain ⟨f,fd,F,h1,h2,hb⟩:=F
 exact ⟨f,fd,m5.okQ F S (h f),⟨h1,h2,F.kp⟩,hb⟩
end
section
variable {X:Cx}
noncomputable def lC (C m:Str) (g:GF) (fo:EF) (a:AF):EF:=fun ρ=>(fo ρ).bind fun x=>match x.1.pv with
 | .ptr n=>match x.2.mu[n]? with
  | some (some (.obj D ks _))=>if D=C/\ks.contains m=false then (a x.2).bind fun y=>(g (.ptr n::y.1.map Lc.pv) y.2.mu).map fun r=>(r.1,⟨y.2.vs,r.2⟩) else none
  | _=>none
 | _=>none
theorem uL {m:Str}:∀ {fs:List (Str×V)},(fs.map (·.1)).contains m=false->fs.lookup m=none
 | [],_=>rfl
 | (g,x)::r,h=>by
  rw [List.map_cons,List.contains_cons,Bool.or_eq_false_iff] at h
  rw [List.lookup_cons,h.1]
  exact uL h.2
theorem Ds {C m:Str} {c:Addr} {g:GF} {fo:EF} {a:AF} {n':Nat} {E:XK} (T:p8 X.K X.mg C c) (hn:∀ ρ ls ρ1,a ρ=some (ls,ρ1)->ls.length+1=n'):∀ σ H Q,tP X.K (lC C m g fo a) σ H Q->Bw c m (bM X.K n' g) [] E (tP X.K fo) (jk X.K a) σ H Q:=fun σ H Q q=>by
 obtain ⟨H0,Z0,ρ,pd,l,ρ',s,h,k⟩:=q
 obtain ⟨x,h1,h2⟩:=bind_some h
 refine ⟨H0,Z0,ρ,pd,x.1,x.2,s,h1,fun v H1 s1=>?_⟩
 split at h2
 . rename_i n en
   split at h2
   . rename_i D ks ps em
     split at h2
     . rename_i eD
       obtain ⟨eD,hk⟩:=eD
       subst eD
       obtain ⟨y,h3,h4⟩:=bind_some h2
       obtain ⟨r,h5,h6⟩:=map_some h4
       cases h6
       have s2:=s1.freeze
       rw [en] at s2
       obtain ⟨a',c',dx,fs,rfl,cn,hH,hks,_,_⟩:=s2.objAt em
       have:=qN T.cn cn
       subst this
       refine ⟨a',dx,fs,rfl,hH,uL (by rw [hks]; exact hk),H0,Z0,x.2,_,y.1,y.2,s2,h3,fun vs H2 e2 s3=>?_⟩
       have s4:SR X.K H0 Z0 σ H2 y.2 ((V.ref a'::vs).zip (Lc.sh (.ptr n)::y.1)++pd):=s3.perm (by
        rw [List.zip_cons_cons,List.cons_append]
        exact List.perm_middle.symm)
       obtain ⟨el,Z,hg,z,rl,sl'⟩:=s4.repl (by rw [List.length_cons,List.length_cons,e2])
       refine ⟨Z,.ptr n::y.1.map Lc.pv,y.2.mu,r.1,r.2,?_,hg,z.zh,?_,sl'.cells hg,h5,fun v H' rr=>k v H' (SR.called el hg z sl' rr)⟩
       . rw [List.append_nil,List.length_cons,e2]; exact hn _ _ _ h3
       . rw [List.append_nil]; exact rl
     . cases h2
   . cases h2
 . cases h2
theorem WQ {C m:Str} {c:Addr} {k:Nat} {ps:List Str} {g:GF} {fo:EF} {e o:Expr} {es:List Expr} {a:AF} {apos pos:Pos} {pl:Sem Bool} (T:p8 X.K X.mg C c) (M:uK X.prog X.w X.K X.mg X.base c m k ps (bM X.K ps.length g)) (hr:eQ k X.A) (ho:PE X o (tP X.K fo)) (ha:PA X (e::es) (jk X.K a)) (hn:∀ ρ ls ρ1,a ρ=some (ls,ρ1)->ls.length+1=ps.length)
 (hst:starEach (e::es) X.env=(false,eval e X.env)::starEach es X.env:=by rfl) (hpl:(backTo pos (starEach es X.env)).any (·.1)=false:=by rfl)
 (ht:eval (.Call (.Attribute o m apos) (e::es) [] pos) X.env=(do
   let ov ← eval o X.env
   standAt apos.atName
   let (f,first) ← holding [ov] (getMethod ov m pl)
   callWith pos f first (backTo pos (starEach (e::es) X.env)) (backToKw pos (keywordEach [] X.env))):=by rfl):PE X (.Call (.Attribute o m apos) (e::es) [] pos) (tP X.K (lC C m g fo a)):=by
 obtain ⟨f,fd,F,hm,hb⟩:=M
 exact PE.imp (Fx (pl:=pl) (E:=E0) ho T.cl hm F hr hb .nil Bx ha hst hpl ht) (Ds T hn)
theorem Dt {C m:Str} {c:Addr} {k:Nat} {ps:List Str} {g:GF} {fo:EF} {o:Expr} {apos pos:Pos} {pl:Sem Bool} (T:p8 X.K X.mg C c) (M:uK X.prog X.w X.K X.mg X.base c m k ps (bM X.K ps.length g)) (hr:eQ k X.A) (ho:PE X o (tP X.K fo)) (hn:1=ps.length)
 (ht:eval (.Call (.Attribute o m apos) [] [] pos) X.env=(do
   let ov ← eval o X.env
   standAt apos.atName
   let (f,first) ← holding [ov] (getMethod ov m pl)
   callWith pos f first (backTo pos (starEach [] X.env)) (backToKw pos (keywordEach [] X.env))):=by rfl):PE X (.Call (.Attribute o m apos) [] [] pos) (tP X.K (lC C m g fo ao)):=by
 obtain ⟨f,fd,F,hm,hb⟩:=M
 refine PE.imp (Lz (pl:=pl) (E:=E0) ho T.cl hm F hr hb .nil Bx ht) fun σ H Q q=>?_
 have:=Ds (X:=X) (E:=E0) (a:=ao) (n':=ps.length) T (fun ρ ls ρ1 h=>by cases h; rw [← hn]; rfl) σ H Q q
 obtain ⟨H0,Z0,ρ,pd,l,ρ',s,h,k⟩:=this
 refine ⟨H0,Z0,ρ,pd,l,ρ',s,h,fun v H1 s1=>?_⟩
 obtain ⟨a,dx,fs,e1,e2,e3,H0',Z0',ρ2,pd2,ls,ρ3,s2,h2,k2⟩:=k v H1 s1
 cases h2
 exact ⟨a,dx,fs,e1,e2,e3,k2 [] H1 rfl s2⟩
theorem SR.toCell {a:Addr} {p:PV} (s:SR K H0 Z0 σ H ρ ((.ref a,.own p)::pd)):SR K H0 Z0 σ H ⟨ρ.vs,ρ.mu++[some p]⟩ ((.ref a,.sh (.ptr ρ.mu.length))::pd):=by
 obtain ⟨el,Z,hg,z,so⟩:=s.top
 have lz:gK Z ⟨Z.z,Z.g++[a]⟩:=⟨cG.refl _,List.prefix_append _ _⟩
 have so2:=so.step (Z':=⟨Z.z,Z.g++[a]⟩) (H':=H) lz fun e he b hb=>⟨rfl,(gr so he hb).1⟩
 refine .mk (Z:=⟨Z.z,Z.g++[a]⟩) el (by simp [hg]) ⟨z.zh,z.h0,z.z0.trans lz,z.new⟩ (Slots.consS ?_ ?_)
 . refine so2.perm ?_
   have ec:cel (Z.g++[a]) (ρ.mu++[some p])=cel Z.g ρ.mu++[(some (.ref a),some (.own p))]:=by
    unfold cel
    rw [List.map_append,List.map_append,List.zip_append (by simp [hg])]
    rfl
   unfold sl
   show List.Perm (cel (Z.g++[a]) (ρ.mu++[some p])++_) _
   rw [ec,List.append_assoc]
   exact List.perm_middle
 . unfold Rep
   exact ⟨a,rfl,by show (Z.g++[a])[ρ.mu.length]?=some a; rw [hg,List.getElem?_append_right (Nat.le_refl _)]; simp⟩
noncomputable def vC (C:Str) (g:GF) (a:AF):EF:=fun ρ=>(a ρ).bind fun y=>(g (.ptr y.2.mu.length::y.1.map Lc.pv) (y.2.mu++[some (.obj C [] [])])).bind fun r=>match r.1 with
 | .sh .non=>some (.sh (.ptr y.2.mu.length),⟨y.2.vs,r.2⟩)
 | _=>none
noncomputable def Nf (P:Program) (w:World) (K:FG) (mg:Str->Option Value) (base:Heap) (c:Addr) (k:Nat) (ps:List Str) (sp:Sp):Prop:=∃ f fd,jr P w K mg base mZ k f fd ps sp/\Mk K c f/\Binds K fd ps []
theorem Ng {C:Str} {c:Addr} {g:GF} {a:AF} {n':Nat} {E:XK} (T:p8 X.K X.mg C c) (hn:∀ ρ ls ρ1,a ρ=some (ls,ρ1)->ls.length+1=n'):∀ σ H Q,tP X.K (vC C g a) σ H Q->Oq c (bM X.K n' g) [] E (jk X.K a) σ H Q:=fun σ H Q q=>by
 obtain ⟨H0,Z0,ρ,pd,l,ρ',s,h,k⟩:=q
 obtain ⟨y,h1,h2⟩:=bind_some h
 obtain ⟨r,h3,h4⟩:=bind_some h2
 split at h4
 . rename_i er
   cases h4
   refine ⟨H0,Z0,ρ,pd,y.1,y.2,s,h1,fun vs H1 e1 s1 x dx hx hdx hne=>?_⟩
   have s2:SR X.K H0 Z0 σ (upd H1 dx (.own x)) y.2 (vs.zip y.1++pd):=s1.ext hdx
   have s3:SR X.K H0 Z0 σ (upd (upd H1 dx (.own x)) x (.ins c dx [])) y.2 ((.ref x,.own (.obj C [] []))::(vs.zip y.1++pd)):=s2.newO (by rw [aP hne.symm]; exact hx) fun Z _ _=>⟨c,dx,[],T.cn,bj,rfl,.nil⟩
   have s4:=s3.toCell
   have s5:SR X.K H0 Z0 σ (upd (upd H1 dx (.own x)) x (.ins c dx [])) ⟨y.2.vs,y.2.mu++[some (.obj C [] [])]⟩ ((.ref x,.sh (.ptr y.2.mu.length))::(.ref x,.sh (.ptr y.2.mu.length))::(vs.zip y.1++pd)):=s4.part fun Z _ r=>r
   have s6:SR X.K H0 Z0 σ (upd (upd H1 dx (.own x)) x (.ins c dx [])) ⟨y.2.vs,y.2.mu++[some (.obj C [] [])]⟩ ((V.ref x::vs).zip (Lc.sh (.ptr y.2.mu.length)::y.1)++(.ref x,.sh (.ptr y.2.mu.length))::pd):=s5.perm (by
    rw [List.zip_cons_cons,List.cons_append]
    exact List.perm_middle.cons _)
   obtain ⟨el,Z,hg,z,rl,sl'⟩:=s6.repl (by rw [List.length_cons,List.length_cons,e1])
   refine ⟨Z,.ptr y.2.mu.length::y.1.map Lc.pv,y.2.mu++[some (.obj C [] [])],r.1,r.2,?_,hg,z.zh,?_,sl'.cells hg,h3,fun v H' rr=>?_⟩
   . rw [List.append_nil,List.length_cons,e1]; exact hn _ _ _ h1
   . rw [List.append_nil]; exact rl
   . have s7:=SR.called el hg z sl' rr
     rw [er] at s7
     obtain ⟨_,r0⟩:=s7.repH
     exact ⟨gk r0,k _ _ s7.pop⟩
 . cases h4
theorem Vn {C:Str} {c:Addr} {k:Nat} {ps:List Str} {g:GF} {e:Expr} {es:List Expr} {a:AF} {p pos:Pos} (T:p8 X.K X.mg C c) (M:Nf X.prog X.w X.K X.mg X.base c k ps (bM X.K ps.length g)) (hr:eQ (k+1) X.A) (hg:Gl X C) (ha:PA X (e::es) (jk X.K a)) (hn:∀ ρ ls ρ1,a ρ=some (ls,ρ1)->ls.length+1=ps.length)
 (hdb:(C==("__debug__" : Str))=false:=by decide) (he:starEach (e::es) X.env=(false,eval e X.env)::starEach es X.env:=by rfl) (hpl:(backTo pos (starEach es X.env)).any (·.1)=false:=by rfl):PE X (.Call (.Name C p) (e::es) [] pos) (tP X.K (vC C g a)):=by
 obtain ⟨f,fd,F,hm,hb⟩:=M
 exact PE.imp (Qc (E:=E0) hm F hr hg T.mgC hb .nil Bx ha hdb he hpl) (Ng T hn)
noncomputable def Du (fa:EF) (fi:AF):EF:=fun ρ=>(fa ρ).bind fun x=>(fi x.2).bind fun y=>match x.1.pv with
 | .dt ks ps=>(vB (y.1.map Lc.pv)).bind fun k=>if k.length<=1000 then (lM (ks.zip ps) k).map fun p=>(.sh p,y.2) else none
 | _=>none
theorem T7 {a:Expr} {es:List Expr} {x1} {tpos pos:Pos} {fa:EF} {fi:AF} (hu:X.A.units+1<cLine) (ha:PE X a (tP X.K fa)) (hb:PA X es (jk X.K fi)) (hm:vg (.Tuple es x1 tpos)):PE X (.Subscript a (.Tuple es x1 tpos) pos) (tP X.K (Du fa fi)):=PE.imp (Hm (FP hu) ha (Ci hb) hm) fun σ H Q q=>by
 obtain ⟨H0,Z0,ρ,pd,l,ρ',s,f,k⟩:=q
 obtain ⟨x,h1,h2⟩:=bind_some f
 obtain ⟨y,h3,h4⟩:=bind_some h2
 refine ⟨H0,Z0,ρ,pd,x.1,x.2,s,h1,fun v H1 s1=>⟨H0,Z0,x.2,_,y.1,y.2,s1.freeze,h3,fun ws H2 e2 s2=>?_⟩⟩
 split at h4
 . rename_i ks ps en
   obtain ⟨kk,h5,h6⟩:=bind_some h4
   split at h6
   . rename_i hlen
     obtain ⟨p,h7,h8⟩:=map_some h6
     cases h8
     obtain ⟨el,Z,hg,z,rl,so⟩:=s2.repl e2
     have ew:=uJ h5 rl
     refine ⟨by rw [ew,List.length_map,sizeLine_eq]; omega,fun b hb=>?_⟩
     obtain ⟨z',lz,so'⟩:=so.newF z (a:=b) (o:=.tup ws) hb
     have s3:SR X.K H0 Z0 σ (upd H2 b (.tup ws)) y.2 ((v,.sh x.1.pv)::pd):=⟨el,Z.put b (.tup ws),hg,z',so'⟩
     rw [en] at s3
     obtain ⟨Z3,z3,r⟩:=s3.rep
     unfold Rep at r
     obtain ⟨d,kvs,rfl,g1,g2,g3⟩:=r
     obtain ⟨u,hu',ru⟩:=(vA g2 g3).val.1 p h7
     have e1:=z3 _ _ g1
     refine ⟨d,u,rfl,.inr ⟨kvs,kk,b,.inl e1,rfl,by rw [bj,ew],hu'.symm⟩,k u _ ?_⟩
     refine (s3.part (u:=u) (q:=p) fun Z' z' r'=>?_).sub ((List.sublist_cons_self _ _).cons_cons _)
     unfold Rep at r'
     obtain ⟨b2,kvs2,eb,g1',g2',g3'⟩:=r'
     cases eb
     have e2:=z' _ _ g1'
     rw [e1] at e2
     cases e2
     obtain ⟨u2,hu2,ru2⟩:=(vA g2' g3').val.1 p h7
     rw [hu'] at hu2
     cases hu2
     exact ru2
   . cases h6
 . cases h4
noncomputable def Gs (K:FG):V->List V->Hp->VK->Prop:=fun x vs H Q=>∃ g p qs w b,vs=[w]/\Rep K ⟨H,g⟩ p w/\Rep K ⟨H,g⟩ (.lst qs) x/\jJ (bC 150) p qs=some b/\qs.length<=100000/\Q (.int (qs.countP fun q=>(bC 150 q p).getD false:Nat)) H
theorem Nh {k:Nat} (hr:eQ k X.A):Fz X "list.count" (Gs X.K):=by
 intro pins s σ H x vs v us Q I rx rv h
 obtain ⟨g,p,qs,w,b,rfl,rp,rq,e,hz,q⟩:=h
 have hA:X.A.in1.units+150<cLine:=by have:=hr.un; show X.A.units+1+150<cLine; omega
 obtain ⟨u,rfl,ru⟩:=rv.one
 obtain ⟨i1,i2⟩:=rE e
 obtain ⟨a,vs,its,rfl,q1,l1,rv1,t1⟩:=nW I rq rx
 have hl:its.length=qs.length:=by rw [← rv1.length,l1.length]
 have hat:∀ m (hm:m<its.length),worth X.K ⟨H,g⟩ p qs vs its its[m]=(bC 150 (qs[m]'(by omega)) p).getD false:=fun m hm=>
  sZ (xv:=w) (xu:=u) I l1 rv1 i1 (j:=m) (List.getElem?_eq_getElem (by omega)) (List.getElem?_eq_getElem hm)
 have hcnt:its.countP (worth X.K ⟨H,g⟩ p qs vs its)=qs.countP fun q=>(bC 150 q p).getD false:=by
  have e1:its.map (worth X.K ⟨H,g⟩ p qs vs its)=qs.map fun q=>(bC 150 q p).getD false:=by
   refine List.ext_getElem (by rw [List.length_map,List.length_map,hl]) fun m h1 h2=>?_
   rw [List.getElem_map,List.getElem_map]
   exact hat m (by simpa using h1)
  have e2:∀ {α:Type} (f:α->Bool) (l:List α),l.countP f=(l.map f).countP id:=fun f l=>by rw [List.countP_map]; rfl
  rw [e2,e1,← e2]
 obtain ⟨⟨oc,od,oD,os⟩,ht,hc,n,hd⟩:=t1
 have hc':oc=.type "list" := hc
 have hd':oD=.seq its.toArray n:=hd
 subst hc' hd'
 refine call_meets F.slot_list_count ⟨_,ht,rfl⟩ F.entry_list_count (F.args_list_count_2 _ _) (SeqAt.list_countAt a its.toArray n od os u (worth X.K ⟨H,g⟩ p qs vs its)) ⟨ht,m9 I rp ru l1 rv1 i1 hA,?_⟩
 have q':Q (.int (its.countP (worth X.K ⟨H,g⟩ p qs vs its):Nat)) H:=by rw [hcnt]; exact q
 exact ⟨.int _,H,I.tok _,⟨_,rfl⟩,q'⟩
noncomputable def xY (f g:EF):EF:=fun ρ=>(f ρ).bind fun x=>(g x.2).bind fun y=>match x.1.pv with
 | .lst qs=>if (jJ (bC 150) y.1.pv qs).isSome=true/\qs.length<=100000 then some (.sh (.int (qs.countP fun q=>(bC 150 q y.1.pv).getD false:Nat)),y.2) else none
 | _=>none
theorem T8 {o e:Expr} {f g:EF} {apos cpos:Pos} (h:PE X (.Call (.Attribute o "count" apos) [e] [] cpos) (Jy X.K "list" (Gs X.K) (tP X.K f) (jk X.K (aj g ao)))):PE X (.Call (.Attribute o "count" apos) [e] [] cpos) (tP X.K (xY f g)):=PE.imp h fun σ H Q q=>by
 obtain ⟨H0,Z0,ρ,pd,r,ρ',s,h,k⟩:=q
 obtain ⟨x,h1,h2⟩:=bind_some h
 obtain ⟨y,h3,h4⟩:=bind_some h2
 refine ⟨H0,Z0,ρ,pd,x.1,x.2,s,h1,fun v H1 s1=>?_⟩
 have s1':=s1.freeze
 cases e:x.1.pv with
 | lst qs=>
  rw [e] at h4 s1'
  have h4':(if (jJ (bC 150) y.1.pv qs).isSome=true/\qs.length<=100000 then some (Lc.sh (.int (qs.countP fun q=>(bC 150 q y.1.pv).getD false:Nat)),y.2) else none)=some (r,ρ'):=h4
  split at h4'
  . rename_i hc
    cases h4'
    obtain ⟨_,r1⟩:=s1'.repH
    have r1':=r1
    unfold Rep at r1'
    obtain ⟨a,us,rfl,hq,_⟩:=r1'
    obtain ⟨bb,hbb⟩:=Option.isSome_iff_exists.mp hc.1
    refine ⟨.inl ⟨rfl,us,hq⟩,H0,Z0,x.2,_,[y.1],y.2,s1',?_,fun vs H2 e2 s2=>?_⟩
    . unfold aj ao
      rw [h3]
      rfl
    . obtain ⟨w,rfl⟩:=rA e2
      have s3:SR X.K H0 Z0 σ H2 y.2 ((w,.sh y.1.pv)::(.ref a,.sh (.lst qs))::pd):=SR.freeze s2
      obtain ⟨g,ra,rb⟩:=s3.rep2H
      exact ⟨g,y.1.pv,qs,w,bb,rfl,rb,ra,hbb,hc.2,k _ _ (s3.pop.pop.scal eG)⟩
  . cases h4'
 | _=>rw [e] at h4; cases h4
end
theorem jz {a:AF} {n m:Nat} (h:∀ ρ ls ρ1,a ρ=some (ls,ρ1)->ls.length=n) (e:n+1=m:=by rfl):∀ ρ ls ρ1,a ρ=some (ls,ρ1)->ls.length+1=m:=fun ρ ls ρ1 g=>by rw [h _ _ _ g,e]
theorem Vo {P:Program} {w:World} {mg:Str->Option Value} {base:Heap} {c:Addr} {k:Nat} {ps:List Str} {sp:Sp} (h:uK P w K mg base c "__init__" k ps sp) (mk:W.makesIn K c=true) (kc:W.keepIn K (.ref c)=true):Nf P w K mg base c k ps sp:=by
 obtain ⟨f,fd,F,m,b⟩:=h
 exact ⟨f,fd,F,⟨mk,m.at_,m.fn,kc⟩,b⟩
end PL
namespace L2
open PySem PySem.Spec PyProof.Rows
variable {pins:List (Addr×Obj)} {E:Value->Shared->Prop} {s:Shared} {A:Around} {w:World} {P:Program}
section
variable {X:Cx}
end
end L2
namespace PL
open PySem PySem.Spec PyProof.Rows L2
variable {K:FG} {H0 H:Hp} {Z0:ZG} {σ:L2.St} {ρ:Ev} {pd:Pd}
section
variable {X:Cx}
end
end PL
namespace L2
open PySem PySem.Spec PyProof.Rows
variable {pins:List (Addr×Obj)} {E:Value->Shared->Prop} {s:Shared} {A:Around} {w:World} {P:Program}
section
variable {X:Cx}
noncomputable def pk {α:Type} (xs:List α) (lo hi st:Option Int):List α:=
 (sliceRange (sliceBounds lo hi st xs.length).1 (sliceBounds lo hi st xs.length).2.1 (sliceBounds lo hi st xs.length).2.2).filterMap fun i=>xs[i]?
theorem Dv {its:List Value} {lo hi st:Option Int}:slicePick its.toArray lo hi st=(pk its lo hi st).toArray:=by
 unfold slicePick pk
 simp
theorem Vals.pick {xs:List V} {its:List Value} (r:Vals xs its):∀ {l:List Nat},Vals (l.filterMap fun i=>xs[i]?) (l.filterMap fun i=>its[i]?)
 | []=>.nil
 | i::l=>by
  have hl:=r.length
  cases h:xs[i]? with
  | none=>
   have h':its[i]?=none:=by rw [List.getElem?_eq_none_iff] at h ⊢; omega
   rw [List.filterMap_cons_none h,List.filterMap_cons_none h']
   exact r.pick
  | some x=>
   obtain ⟨u,h',ru⟩:=r.get h
   rw [List.filterMap_cons_some h,List.filterMap_cons_some h']
   exact .cons ru r.pick
theorem Vals.pk {xs:List V} {its:List Value} {lo hi st:Option Int} (r:Vals xs its):Vals (pk xs lo hi st) (L2.pk its lo hi st):=by
 unfold L2.pk
 rw [r.length]
 exact r.pick
theorem Dw {α:Type}:∀ ys:List α,(List.range ys.length).filterMap (fun i=>ys[i]?)=ys
 | []=>rfl
 | y::t=>by
  rw [List.length_cons,List.range_succ_eq_map,List.filterMap_cons,List.filterMap_map]
  exact congrArg (y::·) (Dw t)
theorem T9 {α:Type} (xs:List α):pk xs none none (some (-1))=xs.reverse:=by
 have hr:sliceRange (sliceBounds none none (some (-1)) xs.length).1 (sliceBounds none none (some (-1)) xs.length).2.1 (sliceBounds none none (some (-1)) xs.length).2.2=(List.range xs.length).map fun k=>xs.length-1-k:=by
  show List.map (fun k:Nat=>((xs.length:Int)-1 + -1*(k:Int)).toNat) (List.range (if (xs.length:Int)-1 > -1 then ((xs.length:Int)-1 - -1 - -1-1)/1 else 0).toNat)=_
  have e:(if (xs.length:Int)-1 > -1 then ((xs.length:Int)-1 - -1 - -1-1)/1 else 0).toNat=xs.length:=by split<;>omega
  rw [e]
  exact List.map_congr_left fun k hk=>by have:=List.mem_range.mp hk; omega
 unfold pk
 rw [hr,List.filterMap_map]
 have hc:∀ l:List Nat,(∀ k∈l,k<xs.length)->l.filterMap ((fun i=>xs[i]?) ∘ fun k=>xs.length-1-k)=l.filterMap fun i=>xs.reverse[i]?:=by
  intro l
  induction l with
  | nil=>exact fun _=>rfl
  | cons k l ih=>
   intro h
   have e:((fun i=>xs[i]?) ∘ fun k=>xs.length-1-k) k=xs.reverse[k]?:=(List.getElem?_reverse (h k List.mem_cons_self)).symm
   rw [List.filterMap_cons,List.filterMap_cons,e,ih fun k hk=>h k (List.mem_cons_of_mem _ hk)]
 rw [hc _ fun k hk=>List.mem_range.mp hk]
 have:=Dw xs.reverse
 rwa [List.length_reverse] at this
noncomputable def Wu (K:FG) (te:TE) (tl th tt:TO):TE:=fun σ H Q=>te σ H fun x H1=>tl σ H1 fun l H2=>th σ H2 fun u H3=>tt σ H3 fun k H4=>∃ a xs,x=.ref a/\bY K H4 a xs/\k≠some 0/\∀ p,H4 p=none->Q (.ref p) (upd H4 p (.lst (pk xs l u k)))
theorem Kh {e:Expr} {lo hi:Option Expr} {st:Expr} {p2 pos:Pos} {te:TE} {tl th tt:TO} (he:PE X e te) (hl:PO X lo tl) (hu:PO X hi th) (ht:PO X (some st) tt):PE X (.Subscript e (.Slice lo hi (some st) p2) pos) (Wu X.K te tl th tt):=by
 intro pins s σ H Q I h
 refine Subscript_ (bu (he pins s σ H _ I h) fun v s1 ⟨x,H1,I1,r1,q1⟩=>?_)
 refine wpAny_Slice (bu (hl pins s1 σ H1 _ I1 q1) fun vl s2 ⟨l,H2,I2,pl,q2⟩=>bu (hu pins s2 σ H2 _ I2 q2) fun vu s3 ⟨u,H3,I3,pu,q3⟩=>bu (ht pins s3 σ H3 _ I3 q3) fun vs s4 ⟨k,H4,I4,pk',q4⟩=>?_)
 obtain ⟨a,xs,rfl,hx,hk,q⟩:=q4
 cases r1
 have I5:Inv X pins σ H4 { s4 with heap:=s4.heap.push { cls:=.type "slice",data:=.fields #[vl,vu,vs] } }:=I4.kept (t':=s4.toks) fun b ob q=>Heap.get?_push_of_some _ q
 obtain ⟨its,r,ht,hz⟩:=I5.list hx
 have hlen:=r.length
 have hg:wpAny (model X.prog X.w) X.A (getItem (.ref a) (.ref s4.heap.objs.size)) (EP X pins σ Q) X.xe { s4 with heap:=s4.heap.push { cls:=.type "slice",data:=.fields #[vl,vu,vs] } }:=by
  refine wpAny_getItem_list_slice ht.isList (Heap.IsSliceOf.new ..) pl pu pk' hk ?_ (by rw [List.size_toArray]<;>omega)
  have hsz:=slicePick_size_le its.toArray l u k
  rw [Dv] at hsz ⊢
  refine ⟨.ref (s4.heap.push { cls:=.type "slice",data:=.fields #[vl,vu,vs] }).objs.size,_,I5.laid (t':=s4.toks) (o:=.lst (pk xs l u k)) (fun b ob q=>Heap.get?_push_of_some _ q) (Nat.le_refl _) ?_,rfl,q _ (I5.hok.fresh (Nat.le_refl _))⟩
  refine ⟨?_,_,0,r.pk,Heap.get?_push_size _ rfl⟩
  have e:=(r.pk (lo:=l) (hi:=u) (st:=k)).length
  rw [List.size_toArray,List.size_toArray] at hsz
  omega
 show wpAny (model X.prog X.w) X.A (subscriptTail e (.Slice lo hi (some st) p2) (.ref a) (.ref s4.heap.objs.size)) (EP X pins σ Q) X.xe { s4 with heap:=s4.heap.push { cls:=.type "slice",data:=.fields #[vl,vu,vs] } }
 exact tail_any (ops:=[.ref a,.ref s4.heap.objs.size]) ht.isList.typeIs slot_list_getitem.lookup hg (by with_unfolding_all rfl)
end
end L2
namespace PL
open PySem PySem.Spec PyProof.Rows L2
variable {K:FG} {H0 H:Hp} {Z0:ZG} {σ:L2.St} {ρ:Ev} {pd:Pd}
section
variable {X:Cx}
theorem aG.pick {Z:ZG} {ps:List PV} {vs:List V} (r:aG K Z ps vs):∀ {l:List Nat},aG K Z (l.filterMap fun i=>ps[i]?) (l.filterMap fun i=>vs[i]?)
 | []=>aG.nil
 | i::l=>by
  have hl:=r.length
  cases h:ps[i]? with
  | none=>
   have h':vs[i]?=none:=by rw [List.getElem?_eq_none_iff] at h ⊢; omega
   rw [List.filterMap_cons_none h,List.filterMap_cons_none h']
   exact r.pick
  | some x=>
   obtain ⟨u,h',ru⟩:=r.get h
   rw [List.filterMap_cons_some h,List.filterMap_cons_some h']
   exact aG.cons ru r.pick
theorem aG.pk {Z:ZG} {ps:List PV} {vs:List V} {lo hi st:Option Int} (r:aG K Z ps vs):aG K Z (L2.pk ps lo hi st) (L2.pk vs lo hi st):=by
 unfold L2.pk
 rw [r.length]
 exact r.pick
noncomputable def Ni (f:EF) (lo hi st:OF):EF:=fun ρ=>(f ρ).bind fun x=>(lo x.2).bind fun y=>(hi y.2).bind fun z=>(st z.2).bind fun t=>match x.1.pv with
 | .lst ps=>if t.1≠some 0 then some (.own (.lst (pk ps y.1 z.1 t.1)),t.2) else none
 | _=>none
theorem QQ {e:Expr} {lo hi:Option Expr} {st:Expr} {p2 pos:Pos} {f:EF} {fl fh fs:OF} (he:PE X e (tP X.K f)) (hl:PO X lo (Df X.K fl)) (hu:PO X hi (Df X.K fh)) (ht:PO X (some st) (Df X.K fs)):
 PE X (.Subscript e (.Slice lo hi (some st) p2) pos) (tP X.K (Ni f fl fh fs)):=PE.imp (Kh he hl hu ht) fun σ H Q q=>by
 obtain ⟨H0,Z0,ρ,pd,r,ρ',s,h,k⟩:=q
 obtain ⟨x,h1,h2⟩:=bind_some h
 obtain ⟨y,h3,h4⟩:=bind_some h2
 obtain ⟨z,h5,h6⟩:=bind_some h4
 obtain ⟨t,h7,h8⟩:=bind_some h6
 refine ⟨H0,Z0,ρ,pd,x.1,x.2,s,h1,fun v H1 s1=>⟨H0,Z0,x.2,_,y.1,y.2,s1.freeze,h3,fun H2 s2=>⟨H0,Z0,y.2,_,z.1,z.2,s2,h5,fun H3 s3=>⟨H0,Z0,z.2,_,t.1,t.2,s3,h7,fun H4 s4=>?_⟩⟩⟩⟩
 split at h8
 . rename_i ps e
   split at h8
   . rename_i hk
     cases h8
     rw [e] at s4
     obtain ⟨el,Z,hg,zz,r1,s5⟩:=s4.sh
     unfold Rep at r1
     obtain ⟨a,vs,rfl,g1,g2⟩:=r1
     refine ⟨a,vs,rfl,bY.same zz.zh g1,hk,fun p hp=>k _ _ ?_⟩
     obtain ⟨z',s'⟩:=s5.new (o:=.lst (pk vs y.1 z.1 t.1)) (p:=.lst (pk ps y.1 z.1 t.1)) zz hp ⟨_,bj,g2.pk⟩
     exact .mk el hg z' s'
   . cases h8
 . cases h8
end
noncomputable def HX (mu:Mu):Nat->PV->PV
 | 0,p=>p
 | k+1,.ptr n=>match mu[n]? with
  | some (some p)=>HX mu k p
  | _=>.ptr n
 | k+1,.tup ps=>.tup (ps.map (HX mu k))
 | k+1,.lst ps=>.lst (ps.map (HX mu k))
 | _+1,p=>p
noncomputable def peekD (mu:Mu):Option Lc->Option Lc
 | some l=>some (.sh (HX mu 40 l.pv))
 | none=>none
noncomputable def Ev.peekD (ρ:Ev):Ev:=⟨ρ.vs.map (PL.peekD ρ.mu),ρ.mu.map fun _=>none⟩
section
variable {X:Cx}
end
class HK where
 hk:List uv->Int
noncomputable def okP:PV->Option uv
 | .non=>some none
 | .int i=>some (some (.inl i))
 | .str x=>some (some (.inr x))
 | _=>none
section
variable {X:Cx} [HK]
end
section
variable {X:Cx}
theorem qw (i:Nat) {x:Str} {pos:Pos} (hN:X.N[i]?=some x:=by rfl) (hv:Jh X.env.scope x:=by first | exact Or.inl rfl | exact Or.inr (Or.inl rfl) | exact Or.inr (Or.inr rfl)) (hd:(x==("__debug__" : Str))=false:=by decide) (hcd:(x==("__classdict__" : Str))=false:=by decide):PE X (.Name x pos) (tP X.K (aa i)):=qv (pv i hN hv hd hcd)
theorem bw {i:Int} {j} {pos:Pos}:PE X (.Constant (.int i) j pos) (tP X.K (eC (.int i))):=qc Rq eG
theorem jm {i:Str} {j} {pos:Pos}:PE X (.Constant (.str i) j pos) (tP X.K (eC (.str i))):=qc Ru kh
theorem xZ {j} {pos:Pos}:PE X (.Constant .none j pos) (tP X.K (eC .non)):=qc Rr rm
theorem qI {a:Expr} {i:Int} {j} {p pos:Pos} {fa:EF} (ha:PE X a (tP X.K fa)):PE X (.Subscript a (.Constant (.int i) j p) pos) (tP X.K (bz fa (eC (.int i)))):=kZ ha bw (fun _ _=>rfl)
theorem qL {e:Expr} {f:EF} {p pos:Pos} (b:X.mg "len" = none) (h:PE X e (tP X.K f)) (hg:Gl X "len" := by rfl) (h0:starEach [e] X.env=(false,eval e X.env)::starEach [] X.env:=by rfl):PE X (.Call (.Name "len" p) [e] [] pos) (tP X.K (eB fB (aj f ao))):=Dg pH J6 (dF pH hg b PySem.boot_len (ak h aC h0) (he:=h0))
theorem d9 (i:Nat) {x:Str} {e:Expr} {pos pos':Pos} {f:EF} (hN:X.N.Nodup) (he:PE X e (tP X.K f)) (hi:X.N[i]?=some x:=by rfl) (hx:L2.Loc X.env.scope x:=by exact Or.inl rfl) (hs:swapsWith e (some (.Name x pos')) pos.line X.env=pure false:=by rfl) (hf:X.fn x=true\/X.env.scope.names.lookup x=some .local:=by first | exact .inl rfl | exact .inr rfl | assumption):
 PS X (.Assign [.Name x pos'] e pos) (dZ X.K (aL i f)):=xx hN hi hx he hs hf
theorem fG (i:Nat) {x:Str} {pos:Pos} (hN:X.N.Nodup) (hi:X.N[i]?=some x:=by rfl) (hx:L2.Loc X.env.scope x:=by exact Or.inl rfl) (hf:X.fn x=true\/X.env.scope.names.lookup x=some .local:=by first | exact .inl rfl | exact .inr rfl | assumption):PG X (.Name x pos) (wM i):=Fw hN hi hx hf
theorem qe {M F:List Str} {ixs:List Nat} {sc:Scope} (S:Scope) (hS:X.env.scope=S:=by rfl) (kind:sc.kind=.function:=by rfl) (locs:∀ y∈sc.names,y.2=.local->sc.names.lookup y.1=some .local:=by decide +kernel) (cel:∀ y∈sc.names,y.2=.cell->sc.names.lookup y.1=some .cell:=by decide +kernel)
 (own:∀ p∈sc.names,p.2=.free->S.names.lookup p.1=some .cell\/S.names.lookup p.1=some .free:=by decide +kernel) (frs:∀ x∈F,sc.names.lookup x=some .free:=by decide +kernel) (ix:ixs.map (fun i=>X.N[i]?)=F.map some:=by rfl):ie X M F ixs sc:=Vj S hS kind locs cel own frs ix
theorem HY {i:Nat} {o e:Expr} {f:EF} {apos cpos pos:Pos} (ho:PE X o (sE i)) (he:PE X e (tP X.K f)) (h0:starEach [e] X.env=(false,eval e X.env)::starEach [] X.env:=by rfl) (h1:attributeBase o "append" X.env (eval o X.env)=eval o X.env:=by rfl)
 (h2:((backTo cpos (starEach [e] X.env)).all (fun x=>!x.1)&&(backToKw cpos (keywordEach [] X.env)).all (fun x=>x.1.isSome)
   && decide (([e]:List Expr).length+([]:List Keyword).length+(if ([]:List Keyword).isEmpty then 0 else 1)<30))=true:=by rfl) (h3:(apos.endLine==cpos.line)=true:=by rfl) (hs:swapsWith (.Call (.Attribute o "append" apos) [e] [] cpos) none pos.line X.env=pure false:=by rfl):
 PS X (.Expr (.Call (.Attribute o "append" apos) [e] [] cpos) pos) (dZ X.K (nu i f)):=Tp (yV (sI F.plainAttrs_list F.slot_list_append F.type_list_append Ad ho (ak he aC h0) h1 h2 h3 h0) hs)
end
inductive XR (α:Type) where
 | ok (a:α)
 | xc (C:Str) (ρ:Ev)
noncomputable abbrev EX:=Ev->Option (XR (Lc×Ev))
noncomputable abbrev SX:=Ev->Option (XR Fl)
noncomputable abbrev GX:=List PV->Mu->Option (XR (Lc×Mu))
noncomputable def yc (K:FG) (E:XK) (f:EX):TE:=fun σ H Q=>∃ H0 Z0 ρ pd,SR K H0 Z0 σ H ρ pd/\((∃ l ρ',f ρ=some (.ok (l,ρ'))/\∀ v H',SR K H0 Z0 σ H' ρ' ((v,l)::pd)->Q v H')\/∃ C ρ',f ρ=some (.xc C ρ')/\∀ c H',CN K C c->SR K H0 Z0 σ H' ρ' pd->E (.ref c) none H')
noncomputable def jP (K:FG) (E:XK) (g:SX):TS:=fun D σ H=>∃ H0 Z0 ρ pd,SR K H0 Z0 σ H ρ pd/\((∃ fl,g ρ=some (.ok fl)/\mJ K H0 Z0 pd D fl)\/∃ C ρ',g ρ=some (.xc C ρ')/\∀ c σ' H',CN K C c->SR K H0 Z0 σ' H' ρ' pd->E (.ref c) none H')
noncomputable def Ia (K:FG) (E:XK) (g:SX):TS:=fun D σ H=>∃ H0 Z0 ρ pd,SR K H0 Z0 σ H ρ pd/\((∃ fl,g ρ=some (.ok fl)/\mJ K H0 Z0 pd D fl)\/∃ C ρ',g ρ=some (.xc C ρ')/\∀ c H',CN K C c->SR K H0 Z0 σ H' ρ' pd->E (.ref c) none H')
theorem jP.a {E:XK} {g:SX} {D:Ends} {H:Hp} (q:jP K E g D σ H):Ia K E g D σ H:=by
 obtain ⟨H0,Z0,ρ,pd,s,q | ⟨C,ρ',h,k⟩⟩:=q
 . exact ⟨H0,Z0,ρ,pd,s,.inl q⟩
 . exact ⟨H0,Z0,ρ,pd,s,.inr ⟨C,ρ',h,fun c H'=>k c σ H'⟩⟩
noncomputable def Gu (K:FG) (n:Nat) (g:GX):Sp:=fun vs H Q E=>∃ (Z:ZG) (ps:List PV) (mu:Mu),vs.length=n/\mu.length=Z.g.length/\cG Z.z H/\aG K Z ps vs/\Slots K (iU H (lr Z.g mu)) Z H (cel Z.g mu)/\
 ((∃ r mu',g ps mu=some (.ok (r,mu'))/\∀ v H',Cz K H Z (lr Z.g mu) H' mu' v r->Q v H')\/∃ C ρ',g ps mu=some (.xc C ρ')/\∀ c v H',CN K C c->Cz K H Z (lr Z.g mu) H' ρ'.mu v (.sh .non)->E (.ref c) none H')
noncomputable def jL (n:Nat) (g:SX):GX:=fun ps mu=>(g (env0 n ps mu)).bind fun x=>match x with
 | .ok (.rt r ρ)=>some (.ok (r,ρ.mu))
 | .ok (.nx ρ)=>some (.ok (.sh .non,ρ.mu))
 | .xc C ρ=>some (.xc C ρ)
 | _=>none
noncomputable def iR (g:SF):SX:=fun ρ=>(g ρ).map .ok
noncomputable def gB (f g:SX):SX:=fun ρ=>(f ρ).bind fun x=>match x with
 | .ok (.nx ρ')=>g ρ'
 | y=>some y
noncomputable def rO (c:TF) (f g:SX):SX:=fun ρ=>(c ρ).bind fun x=>if x.1=true then f x.2 else g x.2
noncomputable def xB (f:EX) (k:Lc×Ev->Option Fl):SX:=fun ρ=>(f ρ).bind fun x=>match x with
 | .ok y=>(k y).map .ok
 | .xc C ρ'=>some (.xc C ρ')
noncomputable def nC (i:Nat):Lc×Ev->Option Fl:=fun y=>if i<y.2.vs.length then some (.nx (y.2.set i (some y.1))) else none
noncomputable def oU:Lc×Ev->Option Fl:=fun y=>some (.nx y.2)
noncomputable def zx:Lc×Ev->Option Fl:=fun y=>some (.rt y.1 y.2)
section
variable {X:Cx} {E:XK}
theorem rP {st:Stmt} {g:SF} (h:PS X st (dZ X.K g)):PS X st (jP X.K E (iR g)):=PS.imp h fun D σ H q=>by
 obtain ⟨H0,Z0,ρ,pd,s,⟨fl,h1,k⟩ | ⟨C,ρ',h1,k⟩⟩:=q
 . obtain ⟨a,h2,h3⟩:=map_some h1
   cases h3
   exact ⟨H0,Z0,ρ,pd,fl,s,h2,k⟩
 . obtain ⟨a,h2,h3⟩:=map_some h1
   cases h3
theorem vD:dg X [] (jP X.K E (iR bO)):=dg.imp Ft fun D σ H q=>by
 obtain ⟨H0,Z0,ρ,pd,s,⟨fl,h1,k⟩ | ⟨C,ρ',h1,k⟩⟩:=q
 . cases h1; exact k σ H s
 . cases h1
theorem gC {st:Stmt} {rest:List Stmt} {f g:SX} (h1:PS X st (jP X.K E f)) (h2:dg X rest (jP X.K E g)):dg X (st::rest) (jP X.K E (gB f g)):=dg.imp (BZ h1 h2) fun D σ H q=>by
 obtain ⟨H0,Z0,ρ,pd,s,q⟩:=q
 refine ⟨H0,Z0,ρ,pd,s,?_⟩
 unfold gB at q
 cases e:f ρ with
 | none=>rw [e] at q; rcases q with ⟨_,z,_⟩ | ⟨_,_,z,_⟩<;>cases z
 | some x=>
  rw [e,Option.bind_some] at q
  cases x with
  | xc C ρ'=>
   rcases q with ⟨_,z,_⟩ | ⟨_,_,z,k⟩
   . cases z
   . cases z; exact .inr ⟨C,ρ',rfl,k⟩
  | ok fl=>
   refine .inl ⟨fl,rfl,?_⟩
   cases fl with
   | nx ρ'=>exact fun σ' H' s'=>⟨H0,Z0,ρ',pd,s',q⟩
   | rt r ρ'=>rcases q with ⟨_,z,k⟩ | ⟨_,_,z,k⟩<;>cases z; exact k
   | bk ρ'=>rcases q with ⟨_,z,k⟩ | ⟨_,_,z,k⟩<;>cases z; exact k
   | ct ρ'=>rcases q with ⟨_,z,k⟩ | ⟨_,_,z,k⟩<;>cases z; exact k
theorem jb {st:Stmt} {f:SX} (h1:PS X st (jP X.K E f)):dg X [st] (jP X.K E f):=Fv h1
theorem BV {c:Expr} {a b:List Stmt} {fc:TF} {f g:SX} {pos:Pos} (hc:PT X c (fL X.K fc)) (ha:dg X a (jP X.K E f)) (hb:dg X b (jP X.K E g)):PS X (.If c a b pos) (jP X.K E (rO fc f g)):=PS.imp (Og hc ha hb) fun D σ H q=>by
 obtain ⟨H0,Z0,ρ,pd,s,q⟩:=q
 have hx:∃ x,fc ρ=some x:=by
  cases e:fc ρ with
  | some x=>exact ⟨x,rfl⟩
  | none=>unfold rO at q; rw [e] at q; rcases q with ⟨_,z,_⟩ | ⟨_,_,z,_⟩<;>cases z
 obtain ⟨x,h1⟩:=hx
 unfold rO at q
 rw [h1,Option.bind_some] at q
 refine ⟨H0,Z0,ρ,pd,x.1,x.2,s,h1,fun H1 s1=>?_⟩
 dsimp only
 split
 . rename_i c; rw [if_pos c] at q; exact ⟨H0,Z0,x.2,pd,s1,q⟩
 . rename_i c; rw [if_neg c] at q; exact ⟨H0,Z0,x.2,pd,s1,q⟩
theorem xb {f:EX} {k:Lc×Ev->Option Fl} {D:Ends} {H:Hp} {Q:VK} (q:Ia K E (xB f k) D σ H) (h:∀ H0 Z0 pd l ρ' fl v H',k (l,ρ')=some fl->mJ K H0 Z0 pd D fl->SR K H0 Z0 σ H' ρ' ((v,l)::pd)->Q v H'):yc K E f σ H Q:=by
 obtain ⟨H0,Z0,ρ,pd,s,q⟩:=q
 refine ⟨H0,Z0,ρ,pd,s,?_⟩
 unfold xB at q
 cases e:f ρ with
 | none=>rw [e] at q; rcases q with ⟨_,z,_⟩ | ⟨_,_,z,_⟩<;>cases z
 | some x=>
  rw [e,Option.bind_some] at q
  cases x with
  | xc C ρ'=>
   rcases q with ⟨_,z,_⟩ | ⟨_,_,z,kk⟩
   . cases z
   . cases z; exact .inr ⟨C,ρ',rfl,kk⟩
  | ok y=>
   rcases q with ⟨fl,z,kk⟩ | ⟨_,_,z,_⟩
   . obtain ⟨fl',z1,z2⟩:=map_some z
     cases z2
     exact .inl ⟨y.1,y.2,rfl,fun v H' s'=>h H0 Z0 pd y.1 y.2 fl v H' z1 kk s'⟩
   . obtain ⟨fl',z1,z2⟩:=map_some z
     cases z2
theorem Ua {H0 H':Hp} {D:Ends} {i:Nat} {l:Lc} {ρ':Ev} {fl:Fl} {v:V} (h:nC i (l,ρ')=some fl) (k:mJ K H0 Z0 pd D fl) (s:SR K H0 Z0 σ H' ρ' ((v,l)::pd)):D.nx (σ.set i (some v)) H':=by
 unfold nC at h
 split at h
 . rename_i hl
   cases h
   exact k _ _ (s.store hl)
 . cases h
theorem Ub {i:Nat} {x:Str} {e:Expr} {pos pos':Pos} {f:EX} (hN:X.N.Nodup) (hi:X.N[i]?=some x) (hx:L2.Loc X.env.scope x) (he:PE X e (yc X.K E f)) (hs:swapsWith e (some (.Name x pos')) pos.line X.env=pure false:=by rfl) (hf:X.fn x=true\/X.env.scope.names.lookup x=some .local:=by first | exact .inl rfl | exact .inr rfl | assumption):
 PS X (.Assign [.Name x pos'] e pos) (jP X.K E (xB f (nC i))):=PS.imp (Jj hN hi hx he hs hf) fun D σ H q=>xb q.a fun _ _ _ _ _ _ _ _ h k s=>Ua h k s
theorem pA {e:Expr} {pos:Pos} {f:EX} (he:PE X e (yc X.K E f)) (hs:swapsWith e none pos.line X.env=pure false:=by rfl):PS X (.Expr e pos) (jP X.K E (xB f oU)):=PS.imp (yV he hs) fun D σ H q=>xb q.a fun _ _ _ _ _ _ _ _ h k s=>by cases h; exact k _ _ s.pop
theorem yd {e:Expr} {pos:Pos} {f:EX} (he:PE X e (yc X.K E f)):PS X (.Return (some e) pos) (jP X.K E (xB f zx)):=PS.imp (Ca he) fun D σ H q=>xb q.a fun _ _ _ _ _ _ _ _ h k s=>by cases h; exact k _ _ _ s
structure zy (K:FG) (mg:Str->Option Value) (C:Str) (c:Addr):Prop where
 cn:CN K C c
 mgC:mg C=some (.ref c)
 ex:W.excIn K c mF mG=true
noncomputable abbrev JF:=Ev->Option Ev
noncomputable def Dy (K:FG) (f:JF):TJ:=fun σ H Q=>∃ H0 Z0 ρ pd ρ',SR K H0 Z0 σ H ρ pd/\f ρ=some ρ'/\∀ H',SR K H0 Z0 σ H' ρ' pd->Q H'
noncomputable def Uc:PV->Bool
 | .str x=>bZ x
 | .lst ps=>decide (ps.length<=64)&&(match strsOf ps with | some xs=>xs.all bZ | none=>false)
 | .tup ps=>decide (ps.length<=64)&&(match strsOf ps with | some xs=>xs.all bZ | none=>false)
 | _=>false
theorem Dz:∀ {ps:List PV} {xs:List Str},strsOf ps=some xs->xs.length=ps.length
 | [],xs,h=>by cases h; rfl
 | .str z::ps,xs,h=>by
  obtain ⟨ys,h3,h4⟩:=map_some h
  subst h4
  rw [List.length_cons,List.length_cons,Dz h3]
theorem Kl {ps:List PV} (h:(decide (ps.length<=64)&&(match strsOf ps with | some xs=>xs.all bZ | none=>false))=true):∃ xs,strsOf ps=some xs/\xs.length<=64/\xs.all bZ=true:=by
 rw [Bool.and_eq_true,decide_eq_true_eq] at h
 obtain ⟨h1,h2⟩:=h
 split at h2
 . rename_i xs e
   exact ⟨xs,e,by rw [Dz e]; exact h1,h2⟩
 . cases h2
theorem Ud {p:PV} {v:V} (h:Uc p=true) (s:SR K H0 Z0 σ H ρ ((v,.sh p)::pd)):HB K H v:=by
 obtain ⟨g,r⟩:=s.repH
 cases p with
 | str x=>exact .inl ⟨x,bR r,h⟩
 | lst ps=>
  obtain ⟨xs,h1,h2,h3⟩:=Kl h
  unfold Rep at r
  obtain ⟨a,vs,rfl,r1,r2⟩:=r
  rw [tG h1 r2] at r1
  exact .inr ⟨a,xs,rfl,.inl r1,h2,h3⟩
 | tup ps=>
  obtain ⟨xs,h1,h2,h3⟩:=Kl h
  unfold Rep at r
  obtain ⟨a,vs,rfl,r1,r2⟩:=r
  rw [tG h1 r2] at r1
  exact .inr ⟨a,xs,rfl,.inr r1,h2,h3⟩
 | _=>cases h
noncomputable def Nj:JF:=fun ρ=>some ρ
noncomputable def jR (f:EF) (g:JF):JF:=fun ρ=>(f ρ).bind fun x=>if Uc x.1.pv=true then g x.2 else none
theorem Ue:PJ X [] 0 (Dy X.K Nj):=fun pins s σ H Q acc I hl q=>by
 obtain ⟨H0,Z0,ρ,pd,ρ',sr,h,k⟩:=q
 cases h
 exact S6 pins s σ H Q acc I hl (k H sr)
theorem Wv {c:Str} {es:List Expr} {j n:Nat} {p:Pos} {f:JF} (hc:c.length<=100) (h:PJ X es n (Dy X.K f)):PJ X (.Constant (.str c) j p::es) (n+100) (Dy X.K f):=Wk hc h
theorem Ww {k n:Nat} {e:Expr} {es:List Expr} {p:Pos} {fe:EF} {f:JF} (hr:eQ k X.A) (he:PE X e (tP X.K fe)) (h:PJ X es n (Dy X.K f)):PJ X (.FormattedValue e 114 none p::es) (n+700000) (Dy X.K (jR fe f)):=fun pins s σ H Q acc I hl q=>Wl hr he h pins s σ H Q acc I hl (by
 obtain ⟨H0,Z0,ρ,pd,ρ',sr,h,k⟩:=q
 obtain ⟨x,h1,h2⟩:=bind_some h
 split at h2
 . rename_i hs
   exact ⟨H0,Z0,ρ,pd,x.1,x.2,sr,h1,fun v H' s'=>⟨Ud hs s'.freeze,H0,Z0,x.2,pd,ρ',s'.pop,h2,k⟩⟩
 . cases h2)
noncomputable def DG (C:Str) (f:JF):SX:=fun ρ=>(f ρ).map fun ρ'=>.xc C ρ'
theorem Km {C:Str} {c:Addr} {f:JF} {D:Ends} {H:Hp} (hc:CN K C c) (q:jP K E (DG C f) D σ H):Dy K f σ H fun H'=>E (.ref c) none H':=by
 obtain ⟨H0,Z0,ρ,pd,s,q⟩:=q
 rcases q with ⟨_,z,_⟩ | ⟨C',ρ',z,k⟩
 . obtain ⟨_,_,z2⟩:=map_some z
   cases z2
 . obtain ⟨ρ1,z1,z2⟩:=map_some z
   cases z2
   exact ⟨H0,Z0,ρ,pd,ρ',s,z1,fun H' s'=>k c σ H' hc s'⟩
theorem Ko {C:Str} {c:Addr} {np cpos pos jp:Pos} {v1 v2:Expr} {es:List Expr} {n k:Nat} {f:JF} (R:Raises X E) (hr:eQ k X.A) (hg:Gl X C) (T:zy X.K X.mg C c) (hj:PJ X (v1::v2::es) n (Dy X.K f)) (hn:n<=sizeLine)
 (hdb:(C==("__debug__" : Str))=false:=by decide) (hst:starEach [Expr.JoinedStr (v1::v2::es) jp] X.env=[(false,eval (Expr.JoinedStr (v1::v2::es) jp) X.env)]:=by rfl) (hpl:(backTo cpos (starEach [Expr.JoinedStr (v1::v2::es) jp] X.env)).any (·.1)=false:=by rfl):
 PS X (.Raise (some (.Call (.Name C np) [.JoinedStr (v1::v2::es) jp] [] cpos)) none pos) (jP X.K E (DG C f)):=PS.imp (Mv R hr hg T.mgC T.ex (JS hj hn) hdb hst hpl) fun D σ H q=>by
 obtain ⟨H0,Z0,ρ,pd,ρ',s,h,k⟩:=Km T.cn q
 exact ⟨H0,Z0,ρ,pd,ρ',s,h,fun H' s' z=>⟨rfl,k H' s'⟩⟩
end
section
variable {P:Program} {w:World} {K:FG} {mg:Str->Option Value} {base:Heap}
theorem m5.okX {x qual:Str} {st:Stmt} {N ps:List Str} {k:Nat} {g:GX} {f:Addr} {fd:FuncData} (F:m5 K x qual st f fd) (S:aR N ps (aq st))
 (h:∀ (cdv:Value) (A:Around) (outer:List PySem.Env) (s:Shared) (H:Hp) (E:XK),eQ k (A.deeper (envOfC qual (aq st) s.heap.objs.size f cdv))->
   ∃ g':SX,(∀ a mu,g a mu=jL N.length g' a mu)/\(Raises (jW (iG P w) P w K mg base N qual (aq st) f cdv A outer s H E) E->lq (iG P w) (jW (iG P w) P w K mg base N qual (aq st) f cdv A outer s H E) E->dg (jW (iG P w) P w K mg base N qual (aq st) f cdv A outer s H E) (aN st) (jP K E g'))):
 jr P w K mg base (iG P w) (k+1) f fd ps (Gu K ps.length g):=by
 obtain ⟨oc,od,kV,doc,pm,an,cdv,ct,osl,rfl,lk,hcd⟩:=F.ex
 refine Ot lk hcd S (fun vs H Q E q=>?_) fun A outer s H vs Q E hr q=>?_
 . obtain ⟨Z,qs,mu,e,_⟩:=q; exact e
 . obtain ⟨g',eg,b⟩:=h cdv A outer s H E hr
   obtain ⟨Z,qs,mu,e,hg,z,rl,c,kk⟩:=q
   rw [eg] at kk
   refine ⟨_,b (fun pins σ H s h' e C args I hm hE=>Qt I hm hE) Qs,iU H (lr Z.g mu),Z,_,[],sU hg z rl c,?_⟩
   have fin:∀ {σ':L2.St} {H':Hp} {ρ':Ev},SR K (iU H (lr Z.g mu)) Z σ' H' ρ' []->Cz K H Z (lr Z.g mu) H' ρ'.mu .non (.sh .non):=fun s'=>by
    obtain ⟨el,Z',hg',z',s''⟩:=s'
    exact ⟨Z',hg',z',(s''.sub (List.sublist_append_left _ _)).consS (rm _)⟩
   unfold jL at kk
   cases q:g' (env0 N.length qs mu) with
   | none=>rw [q] at kk; rcases kk with ⟨_,_,z,_⟩ | ⟨_,_,z,_⟩<;>cases z
   | some x=>
    rw [q,Option.bind_some] at kk
    cases x with
    | xc C ρ'=>
     rcases kk with ⟨_,_,z,_⟩ | ⟨_,_,z,kk⟩
     . cases z
     . cases z
       exact .inr ⟨C,ρ',rfl,fun c' σ' H' hc s'=>kk c' .non H' hc (fin s')⟩
    | ok fl=>
     refine .inl ⟨fl,rfl,?_⟩
     cases fl with
     | rt r' ρ'=>
      rcases kk with ⟨_,_,z,kk⟩ | ⟨_,_,z,_⟩<;>cases z
      intro v σ' H' s'
      obtain ⟨el,Z',hg',z',s''⟩:=s'.top
      refine kk v H' ⟨Z',hg',z',s''.sub ?_⟩
      exact (List.sublist_append_left _ _).cons_cons _
     | nx ρ'=>
      rcases kk with ⟨_,_,z,kk⟩ | ⟨_,_,z,_⟩<;>cases z
      exact fun σ' H' s'=>kk .non H' (fin s')
     | bk ρ'=>rcases kk with ⟨_,_,z,_⟩ | ⟨_,_,z,_⟩<;>cases z
     | ct ρ'=>rcases kk with ⟨_,_,z,_⟩ | ⟨_,_,z,_⟩<;>cases z
noncomputable def DefX (P:Program) (w:World) (K:FG) (mg:Str->Option Value) (base:Heap) (x:Str) (k:Nat) (ps:List Str) (g:GX):Prop:=∃ f fd,jr P w K mg base (iG P w) k f fd ps (Gu K ps.length g)/\mg x=some (.ref f)/\W.keepIn K (.ref f)=true/\Binds K fd ps []
noncomputable def MX (P:Program) (w:World) (K:FG) (mg:Str->Option Value) (base:Heap) (c:Addr) (m:Str) (k:Nat) (ps:List Str) (g:GX):Prop:=∃ f fd,jr P w K mg base (iG P w) k f fd ps (Gu K ps.length g)/\Meth K c m f/\Binds K fd ps []
end
section
variable {X:Cx} {E:XK}
noncomputable def rX (vs:List (Option Lc)):XR (Lc×Mu)->XR (Lc×Ev)
 | .ok r=>.ok (r.1,⟨vs,r.2⟩)
 | .xc C ρ'=>.xc C ⟨vs,ρ'.mu⟩
noncomputable def jA (g:GX) (a:AF):EX:=fun ρ=>(a ρ).bind fun y=>(g (y.1.map Lc.pv) y.2.mu).map (rX y.2.vs)
theorem Kp {H0 H1:Hp} {y:List Lc×Ev} {vs:List V} {n:Nat} {g:GX} {Q:VK} (hn:y.1.length=n) (e2:vs.length=y.1.length) (s2:SR K H0 Z0 σ H1 y.2 (vs.zip y.1++pd)) {x:XR (Lc×Mu)} (hg:g (y.1.map Lc.pv) y.2.mu=some x)
 (k:match rX y.2.vs x with | .ok r=>∀ v H',SR K H0 Z0 σ H' r.2 ((v,r.1)::pd)->Q v H' | .xc C ρ'=>∀ c H',CN K C c->SR K H0 Z0 σ H' ρ' pd->E (.ref c) none H'):Gu K n g (vs++[]) H1 Q E:=by
 obtain ⟨el,Z,hg',z,rl,sl'⟩:=s2.repl e2
 refine ⟨Z,y.1.map Lc.pv,y.2.mu,by rw [List.append_nil,e2]; exact hn,hg',z.zh,by rw [List.append_nil]; exact rl,sl'.cells hg',?_⟩
 cases x with
 | ok r=>exact .inl ⟨r.1,r.2,hg,fun v H' rr=>k v H' (SR.called el hg' z sl' rr)⟩
 | xc C ρ'=>exact .inr ⟨C,ρ',hg,fun c v H' hc rr=>k c H' hc (SR.called el hg' z sl' rr).pop⟩
theorem Kq {n:Nat} {g:GX} {a:AF} (hn:∀ ρ ls ρ1,a ρ=some (ls,ρ1)->ls.length=n):∀ σ H Q,yc K E (jA g a) σ H Q->Bv (Gu K n g) [] E (jk K a) σ H Q:=fun σ H Q q=>by
 obtain ⟨H0,Z0,ρ,pd,s,q⟩:=q
 have hx:∃ y x,a ρ=some y/\g (y.1.map Lc.pv) y.2.mu=some x:=by
  have:∃ z,jA g a ρ=some z:=by rcases q with ⟨l,ρ',h,_⟩ | ⟨C,ρ',h,_⟩<;>exact ⟨_,h⟩
  obtain ⟨z,hz⟩:=this
  obtain ⟨y,h1,h2⟩:=bind_some hz
  obtain ⟨x,h3,_⟩:=map_some h2
  exact ⟨y,x,h1,h3⟩
 obtain ⟨y,x,h1,h3⟩:=hx
 have he:jA g a ρ=some (rX y.2.vs x):=by unfold jA; rw [h1,Option.bind_some,h3]; rfl
 rw [he] at q
 refine ⟨H0,Z0,ρ,pd,y.1,y.2,s,h1,fun vs H2 e2 s2=>Kp (hn _ _ _ h1) e2 s2 h3 ?_⟩
 cases x with
 | ok r=>rcases q with ⟨l,ρ',h,k⟩ | ⟨C,ρ',h,k⟩<;>cases h; exact k
 | xc C ρ'=>rcases q with ⟨l,ρ',h,k⟩ | ⟨C,ρ',h,k⟩<;>cases h; exact k
theorem Aj.imp {pins:List (Addr×Obj)} {e:Expr} {t t':TE} (h:Aj X pins σ e t) (i:∀ H Q,t' σ H Q->t σ H Q):Aj X pins σ e t':=fun s H Q I q=>h s H Q I (i H Q q)
theorem Ak.imp {pins:List (Addr×Obj)} {b:List Stmt} {t t':TS} (h:Ak X pins σ b t) (i:∀ D H,t' D σ H->t D σ H):Ak X pins σ b t':=fun s H D I q=>h s H D I (i D H q)
theorem QR {pins:List (Addr×Obj)} {x:Str} {k:Nat} {ps:List Str} {g:GX} {e:Expr} {es:List Expr} {a:AF} {p pos:Pos} (D:DefX X.prog X.w X.K X.mg X.base x k ps g) (hx:By X pins σ E) (hr:eQ k X.A) (hg:Gl X x)
 (ha:PA X (e::es) (jk X.K a)) (hn:∀ ρ ls ρ1,a ρ=some (ls,ρ1)->ls.length=ps.length) (hdb:(x==("__debug__" : Str))=false:=by decide) (he:starEach (e::es) X.env=(false,eval e X.env)::starEach es X.env:=by rfl) (hpl:(backTo pos (starEach es X.env)).any (·.1)=false:=by rfl):Aj X pins σ (.Call (.Name x p) (e::es) [] pos) (yc X.K E (jA g a)):=by
 obtain ⟨f,fd,F,hm,hk,hb⟩:=D
 exact Aj.imp (Mw (E:=E) F hr hg hm hk hb hx ha hdb he hpl) fun H Q q=>Kq hn σ H Q q
theorem Ug {pins:List (Addr×Obj)} {i:Nat} {x:Str} {e:Expr} {pos pos':Pos} {f:EX} (hN:X.N.Nodup) (hi:X.N[i]?=some x) (hx:L2.Loc X.env.scope x) (he:Aj X pins σ e (yc X.K E f)) (hs:swapsWith e (some (.Name x pos')) pos.line X.env=pure false:=by rfl) (hf:X.fn x=true\/X.env.scope.names.lookup x=some .local:=by first | exact .inl rfl | exact .inr rfl | assumption):
 Ak X pins σ [.Assign [.Name x pos'] e pos] (Ia X.K E (xB f (nC i))):=Ak.imp (Qv hN hi hx he hs hf) fun D H q=>xb q fun _ _ _ _ _ _ _ _ h k s=>Ua h k s
noncomputable def O6 (X:Cx) (hs:List ExceptHandler) (h:Str->SF):Prop:=∃ th,PH X hs th/\∀ H0 Z0 pd D C c ρ' fl σ H',CN X.K C c->h C ρ'=some fl->SR X.K H0 Z0 σ H' ρ' pd->mJ X.K H0 Z0 pd D fl->W.excIn X.K c mF mG=true/\th c D σ H'
noncomputable def DK:Str->SF:=fun _ _=>none
theorem Uh {hs:List ExceptHandler}:O6 X hs DK:=⟨_,S8,fun _ _ _ _ _ _ _ _ _ _ _ z=>by cases z⟩
noncomputable def zA (b:SX) (h:Str->SF):SF:=fun ρ=>(b ρ).bind fun x=>match x with
 | .ok fl=>some fl
 | .xc C ρ'=>h C ρ'
theorem Ui {body:List Stmt} {h₀:ExceptHandler} {hs:List ExceptHandler} {pos:Pos} {b:SX} {h:Str->SF} (hst:X.stack=X.env::X.outer) (hf:X.env.frame=some X.env.locals)
 (hb:∀ pins σ xe E,By (X.wish xe) pins σ E->Ak (X.wish xe) pins σ body (Ia X.K E b)) (hh:O6 X (h₀::hs) h):PS X (.Try body (h₀::hs) [] [] pos) (dZ X.K (zA b h)):=by
 obtain ⟨th,hh1,hh2⟩:=hh
 refine PS.imp (S9 hst hf hb hh1) fun D σ H q=>?_
 obtain ⟨H0,Z0,ρ,pd,fl,s,e,k⟩:=q
 obtain ⟨x,e1,e2⟩:=bind_some e
 cases x with
 | ok fl'=>
  cases e2
  exact ⟨fun _ _ _=>False,⟨H0,Z0,ρ,pd,s,.inl ⟨fl,e1,k⟩⟩,fun _ _ z=>z.elim⟩
 | xc C ρ'=>
  refine ⟨fun cv _ H'=>∃ c,cv=.ref c/\CN X.K C c/\SR X.K H0 Z0 σ H' ρ' pd,⟨H0,Z0,ρ,pd,s,.inr ⟨C,ρ',e1,fun c H' hc s'=>⟨c,rfl,hc,s'⟩⟩⟩,fun c H' ⟨c',z1,z2,z3⟩=>?_⟩
  cases z1
  exact hh2 H0 Z0 pd D C c ρ' fl σ H' z2 e2 z3 k
end
section
variable {X:Cx}
theorem qg {α:Type} [BEq α] [LawfulBEq α]:∀ {l r:List α},l.Nodup->(∀ x∈l,x∈r)->l.length<=r.length
 | [],_,_,_=>Nat.zero_le _
 | x::l,r,h,s=>by
  have hx:=s x List.mem_cons_self
  have h1:=List.nodup_cons.mp h
  have:=qg (r:=r.erase x) h1.2 fun y hy=>(List.mem_erase_of_ne (fun e:y=x=>h1.1 (by rw [← e]; exact hy))).mpr (s y (List.mem_cons_of_mem _ hy))
  have e:=List.length_erase_of_mem hx
  have:0<r.length:=List.length_pos_of_mem hx
  rw [List.length_cons]
  omega
end
section
variable {P:Program} {w:World} {K:FG} {mg:Str->Option Value} {base:Heap}
theorem aZ.okX {x:Str} {st:Stmt} {N ps:List Str} {k:Nat} {g:GX} (F:aZ K mg x st ps) (S:aR N ps (aq st))
 (h:∀ (f:Addr) (cdv:Value) (A:Around) (outer:List PySem.Env) (s:Shared) (H:Hp) (E:XK),eQ k (A.deeper (envOfC x (aq st) s.heap.objs.size f cdv))->
   ∃ g':SX,(∀ a mu,g a mu=jL N.length g' a mu)/\(Raises (jW (iG P w) P w K mg base N x (aq st) f cdv A outer s H E) E->lq (iG P w) (jW (iG P w) P w K mg base N x (aq st) f cdv A outer s H E) E->dg (jW (iG P w) P w K mg base N x (aq st) f cdv A outer s H E) (aN st) (jP K E g'))):DefX P w K mg base x (k+1) ps g:=by
 obtain ⟨f,fd,F,hm,hb⟩:=F
 exact ⟨f,fd,m5.okX F S (h f),hm,F.kp,hb⟩
theorem kO.okX {c:Addr} {m qual:Str} {st:Stmt} {N ps:List Str} {k:Nat} {g:GX} (F:kO K c m qual st ps) (S:aR N ps (aq st))
 (h:∀ (f:Addr) (cdv:Value) (A:Around) (outer:List PySem.Env) (s:Shared) (H:Hp) (E:XK),eQ k (A.deeper (envOfC qual (aq st) s.heap.objs.size f cdv))->
   ∃ g':SX,(∀ a mu,g a mu=jL N.length g' a mu)/\(Raises (jW (iG P w) P w K mg base N qual (aq st) f cdv A outer s H E) E->lq (iG P w) (jW (iG P w) P w K mg base N qual (aq st) f cdv A outer s H E) E->dg (jW (iG P w) P w K mg base N qual (aq st) f cdv A outer s H E) (aN st) (jP K E g'))):MX P w K mg base c m (k+1) ps g:=by
 obtain ⟨f,fd,F,h1,h2,hb⟩:=F
 exact ⟨f,fd,m5.okX F S (h f),⟨h1,h2,F.kp⟩,hb⟩
end
section
variable {X:Cx} {E:XK}
noncomputable def b8 (C m:Str) (g:GX) (fo:EF) (a:AF):EX:=fun ρ=>(fo ρ).bind fun x=>match x.1.pv with
 | .ptr n=>match x.2.mu[n]? with
  | some (some (.obj D ks _))=>if D=C/\ks.contains m=false then (a x.2).bind fun y=>(g (.ptr n::y.1.map Lc.pv) y.2.mu).map (rX y.2.vs) else none
  | _=>none
 | _=>none
theorem Kr {C m:Str} {c:Addr} {g:GX} {fo:EF} {a:AF} {n':Nat} (T:p8 X.K X.mg C c) (hn:∀ ρ ls ρ1,a ρ=some (ls,ρ1)->ls.length+1=n'):∀ σ H Q,yc X.K E (b8 C m g fo a) σ H Q->Bw c m (Gu X.K n' g) [] E (tP X.K fo) (jk X.K a) σ H Q:=fun σ H Q q=>by
 obtain ⟨H0,Z0,ρ,pd,s,q⟩:=q
 have:∃ z,b8 C m g fo a ρ=some z:=by rcases q with ⟨l,ρ',h,_⟩ | ⟨C,ρ',h,_⟩<;>exact ⟨_,h⟩
 obtain ⟨z,hz⟩:=this
 rw [hz] at q
 obtain ⟨x,h1,h2⟩:=bind_some hz
 refine ⟨H0,Z0,ρ,pd,x.1,x.2,s,h1,fun v H1 s1=>?_⟩
 split at h2
 . rename_i n en
   split at h2
   . rename_i D ks ps em
     split at h2
     . rename_i eD
       obtain ⟨eD,hk⟩:=eD
       subst eD
       obtain ⟨y,h3,h4⟩:=bind_some h2
       obtain ⟨r,h5,h6⟩:=map_some h4
       cases h6
       have s2:=s1.freeze
       rw [en] at s2
       obtain ⟨a',c',dx,fs,rfl,cn,hH,hks,_,_⟩:=s2.objAt em
       have:=qN T.cn cn
       subst this
       refine ⟨a',dx,fs,rfl,hH,uL (by rw [hks]; exact hk),H0,Z0,x.2,_,y.1,y.2,s2,h3,fun vs H2 e2 s3=>?_⟩
       have s4:SR X.K H0 Z0 σ H2 y.2 ((V.ref a'::vs).zip (Lc.sh (.ptr n)::y.1)++pd):=s3.perm (by
        rw [List.zip_cons_cons,List.cons_append]
        exact List.perm_middle.symm)
       refine Kp (y:=(Lc.sh (.ptr n)::y.1,y.2)) (vs:=V.ref a'::vs) (by rw [List.length_cons]; exact hn _ _ _ h3) (by rw [List.length_cons,List.length_cons,e2]) s4 h5 ?_
       cases r with
       | ok r=>rcases q with ⟨l,ρ',h,k⟩ | ⟨C,ρ',h,k⟩<;>cases h; exact k
       | xc C ρ'=>rcases q with ⟨l,ρ',h,k⟩ | ⟨C,ρ',h,k⟩<;>cases h; exact k
     . cases h2
   . cases h2
 . cases h2
theorem jc {C m:Str} {c:Addr} {k:Nat} {ps:List Str} {g:GX} {fo:EF} {e o:Expr} {es:List Expr} {a:AF} {apos pos:Pos} {pl:Sem Bool} (T:p8 X.K X.mg C c) (M:MX X.prog X.w X.K X.mg X.base c m k ps g) (hx:lq (iG X.prog X.w) X E) (hr:eQ k X.A) (ho:PE X o (tP X.K fo)) (ha:PA X (e::es) (jk X.K a)) (hn:∀ ρ ls ρ1,a ρ=some (ls,ρ1)->ls.length+1=ps.length)
 (hst:starEach (e::es) X.env=(false,eval e X.env)::starEach es X.env:=by rfl) (hpl:(backTo pos (starEach es X.env)).any (·.1)=false:=by rfl)
 (ht:eval (.Call (.Attribute o m apos) (e::es) [] pos) X.env=(do
   let ov ← eval o X.env
   standAt apos.atName
   let (f,first) ← holding [ov] (getMethod ov m pl)
   callWith pos f first (backTo pos (starEach (e::es) X.env)) (backToKw pos (keywordEach [] X.env))):=by rfl):PE X (.Call (.Attribute o m apos) (e::es) [] pos) (yc X.K E (b8 C m g fo a)):=by
 obtain ⟨f,fd,F,hm,hb⟩:=M
 exact PE.imp (Fx (pl:=pl) (E:=E) ho T.cl hm F hr hb .nil hx ha hst hpl ht) (Kr T hn)
noncomputable def tK (b:BF) (body:SX):List PV->SX
 | [],ρ=>some (.ok (.nx ρ))
 | x::xs,ρ=>(b x ρ).bind fun ρ1=>(body ρ1).bind fun y=>match y with
  | .ok (.nx ρ2)=>tK b body xs ρ2
  | .ok (.ct ρ2)=>tK b body xs ρ2
  | .ok (.bk ρ2)=>some (.ok (.nx ρ2))
  | .ok (.rt r ρ2)=>some (.ok (.rt r ρ2))
  | .xc C ρ2=>some (.xc C ρ2)
noncomputable def Ib (f:IF) (b:BF) (body:SX):SX:=fun ρ=>(f ρ).bind fun y=>tK b body y.1 y.2
noncomputable def Ks (K:FG) (H0:Hp) (Z0:ZG) (pd:Pd) (E:XK) (D:Ends):XR Fl->Prop
 | .ok fl=>mJ K H0 Z0 pd D fl
 | .xc C ρ'=>∀ c σ' H',CN K C c->SR K H0 Z0 σ' H' ρ' pd->E (.ref c) none H'
theorem Gv {g:SX} {D:Ends} {H:Hp}:jP K E g D σ H ↔ ∃ H0 Z0 ρ pd r,SR K H0 Z0 σ H ρ pd/\g ρ=some r/\Ks K H0 Z0 pd E D r:=by
 constructor
 . rintro ⟨H0,Z0,ρ,pd,s,⟨fl,h,k⟩ | ⟨C,ρ',h,k⟩⟩
   . exact ⟨H0,Z0,ρ,pd,.ok fl,s,h,k⟩
   . exact ⟨H0,Z0,ρ,pd,.xc C ρ',s,h,k⟩
 . rintro ⟨H0,Z0,ρ,pd,r,s,h,k⟩
   cases r with
   | ok fl=>exact ⟨H0,Z0,ρ,pd,s,.inl ⟨fl,h,k⟩⟩
   | xc C ρ'=>exact ⟨H0,Z0,ρ,pd,s,.inr ⟨C,ρ',h,k⟩⟩
noncomputable def VV (K:FG) (H0:Hp) (Z0:ZG) (pd:Pd) (b:BF) (fb:SX) (xs:List PV) (r:XR Fl) (i m:Nat) (σ:L2.St) (H:Hp):Prop:=m=xs.length-i/\i<=xs.length/\∃ ρ,SR K H0 Z0 σ H ρ pd/\tK b fb (xs.drop i) ρ=some r
theorem Ku {g:TG} {b:BF} {fb:SX} (hb:GS K g b) {J:It} {xs:List PV} {r:XR Fl} {D:Ends} (it:mK K H0 Z0 pd J xs) (k:Ks K H0 Z0 pd E D r) (s:SR K H0 Z0 σ H ρ pd) (h:tK b fb xs ρ=some r):
 ∃ W:Nat->Nat->L2.St->Hp->Prop,(∃ m,W 0 m σ H)/\∀ i m σ H,W i m σ H->
  (J.stop i H/\D.nx σ H)\/(J.go i H/\∃ N:L2.St->Hp->Prop,(∀ σ' H',N σ' H'->∃ m',m'<m/\W (i+1) m' σ' H')/\∀ x H',J.yld i H x H'->g x σ H' fun σ2 H2=>jP K E fb { D with nx:=N,ct:=N,bk:=D.nx } σ2 H2):=by
 refine ⟨VV K H0 Z0 pd b fb xs r,⟨_,rfl,Nat.zero_le _,ρ,s,h⟩,fun i m σ' H' w=>?_⟩
 refine qT fun G kG=>?_
 obtain ⟨rfl,hi,ρ',s',h'⟩:=w
 obtain ⟨i1,i2⟩:=it σ' H' ρ' i s'
 by_cases hlt:i<xs.length
 . obtain ⟨go,yl⟩:=i1 _ (List.getElem?_eq_getElem hlt)
   rw [List.drop_eq_getElem_cons hlt] at h'
   obtain ⟨ρ1,e1,e2⟩:=bind_some h'
   obtain ⟨r1,e3,e4⟩:=bind_some e2
   refine kG (.inr ⟨go,fun σ'' H''=>VV K H0 Z0 pd b fb xs r (i+1) (xs.length-(i+1)) σ'' H'',fun σ'' H'' w=>⟨_,by omega,w⟩,fun x H2 hy=>hb H0 Z0 σ' H2 ρ' pd x _ ρ1 _ (yl x H2 hy) e1 fun σ2 s2=>Gv.mpr ⟨H0,Z0,ρ1,pd,r1,s2,e3,?_⟩⟩)
   cases r1 with
   | xc C ρ2=>cases e4; exact k
   | ok fl1=>
    cases fl1 with
    | nx ρ2=>exact fun σ3 H3 s3=>⟨rfl,hlt,ρ2,s3,e4⟩
    | ct ρ2=>exact fun σ3 H3 s3=>⟨rfl,hlt,ρ2,s3,e4⟩
    | bk ρ2=>cases e4; exact k
    | rt r ρ2=>cases e4; exact k
 . have e:i=xs.length:=Nat.le_antisymm hi (Nat.le_of_not_lt hlt)
   subst e
   rw [List.drop_length] at h'
   cases h'
   exact kG (.inl ⟨i2 rfl,k σ' H' s'⟩)
theorem Ks.imp {H0:Hp} {Z0 Z₁:ZG} {pd pd':Pd} {D:Ends} {r:XR Fl} (k:Ks K H0 Z0 pd E D r) (w:∀ {τ:L2.St} {J:Hp} {q:Ev},SR K H0 Z₁ τ J q pd'->SR K H0 Z0 τ J q pd) (w':∀ {τ:L2.St} {J:Hp} {q:Ev} {e:V×Lc},SR K H0 Z₁ τ J q (e::pd')->SR K H0 Z0 τ J q (e::pd)):Ks K H0 Z₁ pd' E D r:=by
 cases r with
 | ok fl=>exact mJ.imp (D:=D) k w w'
 | xc C ρ'=>exact fun c σ' H' hc s=>k c σ' H' hc (w s)
theorem Uj {tg iter:Expr} {body:List Stmt} {f:IF} {g:TG} {b:BF} {fb:SX} {pos:Pos} (hp:PassesOwn (model X.prog X.w) X.A X.env X.xe) (hc:X.calm=true) (hi:PI X tg iter (Al X.K f)) (hg:PG X tg g) (hb':GS X.K g b) (hb:dg X body (jP X.K E fb))
 (hs:∀ x,foldedSetIterable iter X.env x=pure x:=by intro _; rfl):PS X (.For tg iter body [] pos) (jP X.K E (Ib f b fb)):=PS.imp (wO hp hc hi hg hb hs) fun D σ H q=>by
 refine qT fun G kG=>?_
 obtain ⟨H0,Z0,ρ,pd,r,s,h,k⟩:=Gv.mp q
 obtain ⟨y,h1,h2⟩:=bind_some h
 exact kG ⟨H0,Z0,ρ,pd,y.1,y.2,s,h1,fun J H1 pd' s1 it sub=>Ku hb' it (k.imp (fun s=>s.sub sub) fun s=>s.sub (sub.cons_cons _)) s1 h2⟩
end
section
variable {K:FG} {H0 H:Hp} {Z0:ZG} {σ:L2.St} {ρ:Ev} {pd:Pd}
theorem SR.drop {i:Nat} (h:SR K H0 Z0 σ H ρ pd) (hi:i<ρ.vs.length):SR K H0 Z0 (σ.set i none) H (ρ.set i none) pd:=by
 obtain ⟨el,Z,hg,z,s⟩:=h
 have hρ:ρ.vs[i]?=some ρ.vs[i]:=List.getElem?_eq_getElem hi
 obtain ⟨R,x,hσ,h1,h2⟩:=xg el hρ
 refine ⟨by rw [List.length_set,Ev.set_len]; exact el,Z,hg,z,?_⟩
 have s1:=(s.perm (h1 Z.g pd).symm).sub (List.sublist_cons_self _ _)
 refine Slots.perm (L:=(none,none)::(cel Z.g ρ.mu++(R++pd.map fun e=>(some e.1,some e.2)))) ⟨fun e he=>?_,?_⟩ (h2 Z.g pd none none)
 . rcases List.mem_cons.mp he with rfl | he
   . trivial
   . exact s1.1 e he
 . rw [List.filterMap_cons_none rfl]; exact s1.2
end
noncomputable def Uk (i:Nat):Fl->Option Fl
 | .nx ρ=>if i<ρ.vs.length then some (.nx (ρ.set i none)) else none
 | .bk ρ=>if i<ρ.vs.length then some (.bk (ρ.set i none)) else none
 | .ct ρ=>if i<ρ.vs.length then some (.ct (ρ.set i none)) else none
 | .rt r ρ=>some (.rt r ρ)
theorem QS {H0:Hp} {D:Ends} {i:Nat} {f fl:Fl} (h:Uk i f=some fl) (k:mJ K H0 Z0 pd D fl):mJ K H0 Z0 pd (D.un i) f:=by
 cases f with
 | rt r ρ=>cases h; exact k
 | nx ρ=>
  have h':(if i<ρ.vs.length then some (Fl.nx (ρ.set i none)) else none)=some fl:=h
  split at h'
  . rename_i hl; cases h'; exact fun σ' H' s=>k _ _ (s.drop hl)
  . cases h'
 | bk ρ=>
  have h':(if i<ρ.vs.length then some (Fl.bk (ρ.set i none)) else none)=some fl:=h
  split at h'
  . rename_i hl; cases h'; exact fun σ' H' s=>k _ _ (s.drop hl)
  . cases h'
 | ct ρ=>
  have h':(if i<ρ.vs.length then some (Fl.ct (ρ.set i none)) else none)=some fl:=h
  split at h'
  . rename_i hl; cases h'; exact fun σ' H' s=>k _ _ (s.drop hl)
  . cases h'
noncomputable def qi (i:Nat) (L1 L2:List Str) (f:SF) (r:Str->SF):Str->SF:=fun C ρ=>if C∈L1 then (if i<ρ.vs.length then (f (ρ.set i (some (.sh (.exc C))))).bind (Uk i) else none) else if C∈L2 then r C ρ else none
section
variable {X:Cx} {E:XK}
theorem Vp {x n:Str} {i:Nat} {d:Addr} {L1 L2:List Str} {b₀:Stmt} {suite:List Stmt} {pos np:Pos} {rest:List ExceptHandler} {f:SF} {r:Str->SF} (hN:X.N.Nodup) (hi:X.N[i]?=some n) (hk:X.env.scope.names.lookup n=some .local) (hg:Gl X x) (T:zy X.K X.mg x d) (h1:∀ C∈L1,∃ c,CN X.K C c/\W.excIn X.K c mF mG=true/\mroIn X.K c d=true) (h2:∀ C∈L2,∃ c,CN X.K C c/\W.excIn X.K c mF mG=true/\mroIn X.K c d=false)
 (hs:∀ e,dg (X.hand e) (b₀::suite) (dZ X.K f)) (hr:O6 X rest r) (hdb:(x==("__debug__" : Str))=false:=by decide):O6 X (.ExceptHandler (some (.Name x np)) (some n) (b₀::suite) pos::rest) (qi i L1 L2 f r):=by
 obtain ⟨th,hr1,hr2⟩:=hr
 refine ⟨_,Vf hg T.mgC T.ex hN hi hk hs hr1 hdb,fun H0 Z0 pd D C c ρ' fl σ H' hc h s k=>?_⟩
 unfold qi at h
 unfold Cu
 split at h
 . rename_i hC
   obtain ⟨c',e1,e2,e3⟩:=h1 C hC
   have:=qN hc e1
   subst this
   rw [if_pos e3]
   refine ⟨e2,fun e he=>?_⟩
   split at h
   . rename_i hl
     obtain ⟨fl',h3,h4⟩:=bind_some h
     have s1:SR X.K H0 Z0 σ (upd H' e (.ext (sO e c))) ρ' ((.ref e,.own (.exc C))::pd):=s.newO he fun Z _ _=>⟨c,hc,bj⟩
     have s2:SR X.K H0 Z0 σ (upd H' e (.ext (sO e c))) ρ' ((.ref e,.sh (.exc C))::pd):=s1.freeze
     exact ⟨H0,Z0,_,pd,fl',s2.store hl,h3,QS h4 k⟩
   . cases h
 . split at h
   . rename_i hC
     obtain ⟨c',e1,e2,e3⟩:=h2 C hC
     have:=qN hc e1
     subst this
     rw [if_neg (by rw [e3]; decide)]
     exact hr2 H0 Z0 pd D C c ρ' fl σ H' hc h s k
   . cases h
noncomputable def jZ (L1 L2:List Str) (f:EF):EF:=fun ρ=>(f ρ).bind fun x=>match x.1.pv with
 | .exc C=>if C∈L1 then some (.sh (.bl true),x.2) else if C∈L2 then some (.sh (.bl false),x.2) else none
 | _=>none
noncomputable def gM (K:FG) (cv:V) (b:Bool) (C:Str):Prop:=∃ c u,CN K C c/\RelV cv u/\pL K c/\W.kitOne K (.ref c) u=some b
theorem wB {cv:V} {L1 L2:List Str} {f:EF} {e ce:Expr} {pp pos:Pos} (h1:∀ C∈L1,gM X.K cv true C) (h2:∀ C∈L2,gM X.K cv false C) (h:PE X (.Call (.Name "isinstance" pp) [e,ce] [] pos) (Ck (Tc X.K cv) (vf (tP X.K f) (vf (tC cv) Cg)))):
 PE X (.Call (.Name "isinstance" pp) [e,ce] [] pos) (tP X.K (jZ L1 L2 f)):=PE.imp h fun σ H Q q=>by
 obtain ⟨H0,Z0,ρ,pd,r,ρ',s,h,k⟩:=q
 obtain ⟨x,h3,h4⟩:=bind_some h
 refine ⟨H0,Z0,ρ,pd,x.1,x.2,s,h3,fun v H1 s1=>?_⟩
 obtain ⟨g,r1⟩:=s1.freeze.repH
 cases e:x.1.pv with
 | exc C=>
  rw [e] at h4 r1
  unfold Rep at r1
  obtain ⟨a,c,rfl,cn,hz⟩:=r1
  dsimp only at h4
  split at h4
  . rename_i hC
    cases h4
    obtain ⟨c',u,e1,e2,e3,e4⟩:=h1 C hC
    have:=qN cn e1
    subst this
    exact ⟨a,c,u,true,rfl,e2,hz,e3,e4,k _ H1 (s1.pop.scal dm)⟩
  . split at h4
    . rename_i hC
      cases h4
      obtain ⟨c',u,e1,e2,e3,e4⟩:=h2 C hC
      have:=qN cn e1
      subst this
      exact ⟨a,c,u,false,rfl,e2,hz,e3,e4,k _ H1 (s1.pop.scal dm)⟩
    . cases h4
 | _=>rw [e] at h4; cases h4
theorem Vq {c d:Addr} (ty:W.typeIn K (.ref d)=some (.type "type")) (cl:(W.clsIn K d).isSome=true) (m:W.mroIn K c (.ref d)=some true):W.kitOne K (.ref c) (.ref d)=some true:=by
 unfold W.kitOne W.kitCls
 split
 . rfl
 . dsimp only; rw [if_pos (by rw [cl,ty]; rfl)]; exact m
theorem ye {c d:Addr} (ty:W.typeIn K (.ref d)=some (.type "type")) (cl:(W.clsIn K d).isSome=true) (m:W.mroIn K c (.ref d)=some false) (nq:(Value.ref c==Value.ref d)=false):W.kitOne K (.ref c) (.ref d)=some false:=by
 unfold W.kitOne W.kitCls
 rw [nq,if_neg (by decide)]
 dsimp only
 rw [if_pos (by rw [cl,ty]; rfl)]; exact m
theorem Vr {c:Addr} {T:String} {b:Bool} (hk:W.kitMeta T=true) (m:W.mroIn K c (.type T)=some b):W.kitOne K (.ref c) (.type T)=some b:=by
 unfold W.kitOne W.kitCls
 rw [show (Value.ref c==Value.type T)=false from rfl,if_neg (by decide)]
 dsimp only
 rw [if_pos hk]; exact m
theorem pB {d:Addr}:∀ u u',RelV (.ref d) u->RelV (.ref d) u'->u=u':=fun u u' h h'=>by cases h; cases h'; rfl
theorem Ul {T:String}:∀ u u',RelV (.ty T) u->RelV (.ty T) u'->u=u':=fun u u' h h'=>by cases h; cases h'; rfl
end
section
variable {X:Cx}
noncomputable abbrev qO (x:Str):Str:=Txt.upper x
theorem Nk:Fz X "str.upper" (fun x xs H Q=>∃ z,x=.str z/\xs=[]/\(qO z).length<=1000/\Q (.str (qO z)) H):=by
 intro pins s σ H x vs v us Q I rx rv h
 obtain ⟨z,rfl,rfl,hz,q⟩:=h
 obtain ⟨t,rfl⟩:=rx
 cases rv
 exact SC.upper (by
  show decide (_>sizeLine)=false
  exact decide_eq_false (Nat.not_lt.mpr (Nat.le_of_lt (JC hz)))) ⟨.str _,H,I.tok _,⟨_,rfl⟩,q⟩
noncomputable def yf (f:EF):EF:=fun ρ=>(f ρ).bind fun x=>match x.1.pv with
 | .str z=>if (qO z).length<=1000 then some (.sh (.str (qO z)),x.2) else none
 | _=>none
theorem Um {o:Expr} {f:EF} {apos cpos:Pos} (h:PE X (.Call (.Attribute o "upper" apos) [] [] cpos) (R9 X.K "str" (fun x xs H Q=>∃ z,x=.str z/\xs=[]/\(qO z).length<=1000/\Q (.str (qO z)) H) (tP X.K f))):PE X (.Call (.Attribute o "upper" apos) [] [] cpos) (tP X.K (yf f)):=PE.imp h fun σ H Q q=>by
 obtain ⟨H0,Z0,ρ,pd,r,ρ',s,h,k⟩:=q
 obtain ⟨x,h1,h2⟩:=bind_some h
 refine ⟨H0,Z0,ρ,pd,x.1,x.2,s,h1,fun v H1 s1=>?_⟩
 split at h2
 . rename_i z ez
   split at h2
   . rename_i hz
     cases h2
     have s2:=s1.freeze
     rw [ez] at s2
     obtain ⟨_,r1⟩:=s2.repH
     have:=bR r1
     subst this
     exact ⟨rfl,z,rfl,rfl,hz,k _ H1 (s1.pop.scal kh)⟩
   . cases h2
 . cases h2
end
end PL
namespace Law
open PySem PySem.Spec PyProof.Rows L2 PL
local macro_rules | `(tactic| walk_at "sc")=>`(tactic| exact ⟨rfl,rfl,rfl,by decide +kernel,rfl,by decide +kernel,by decide +kernel⟩)
noncomputable def top (i:Nat):Stmt:=PySem.Challenge.pw_hushwise_k08_strangers.main.body.getD i (.Pass ⟨0,0,0,0⟩)
noncomputable abbrev j4:Stmt:=top 10
noncomputable abbrev dH:Stmt:=top 11
noncomputable abbrev jo:Stmt:=top 12
noncomputable abbrev gZ:Stmt:=top 13
noncomputable abbrev lX:Stmt:=top 14
noncomputable abbrev jE:Stmt:=top 15
noncomputable abbrev fX:Stmt:=top 16
noncomputable abbrev lY:Stmt:=top 17
noncomputable abbrev nD:Stmt:=top 18
noncomputable abbrev lZ:Stmt:=top 19
noncomputable abbrev mq:Stmt:=top 20
noncomputable abbrev gm:Stmt:=top 21
noncomputable abbrev gn:Stmt:=top 22
noncomputable abbrev gq:Stmt:=top 25
noncomputable abbrev fH:Stmt:=top 26
noncomputable abbrev eE:Stmt:=top 27
noncomputable abbrev fQ:Stmt:=top 28
noncomputable abbrev fU:Stmt:=top 29
noncomputable abbrev g8:Stmt:=top 30
noncomputable abbrev km:Stmt:=top 31
noncomputable abbrev jd:Stmt:=top 32
noncomputable abbrev jF:Stmt:=top 33
noncomputable abbrev je:Stmt:=top 34
noncomputable abbrev iC:Stmt:=top 35
noncomputable abbrev nR:Stmt:=top 36
noncomputable abbrev bW:Stmt:=inClass (top 23) 0
noncomputable abbrev bI:Stmt:=inClass (top 23) 1
noncomputable abbrev dU:Stmt:=inClass (top 23) 2
noncomputable abbrev dW:Stmt:=inClass (top 23) 3
noncomputable abbrev eN:Stmt:=inClass (top 23) 4
noncomputable abbrev eO:Stmt:=inClass (top 23) 5
noncomputable abbrev dz:Stmt:=inClass (top 23) 6
noncomputable abbrev dX:Stmt:=inClass (top 23) 7
noncomputable abbrev cN:Stmt:=inClass (top 23) 8
theorem Ie:aR ["text"] ["text"] (aq j4):=by walk_at "sc"
theorem vK:aR ["some", "pairs", "name"] ["some", "pairs", "name"] (aq dH):=by walk_at "sc"
theorem mU:aR ["names", "pairs", "rest", "climbing"] ["names", "pairs"] (aq jo):=by walk_at "sc"
theorem kE:aR ["some", "pairs", "walk", "above"] ["some", "pairs"] (aq gZ):=by walk_at "sc"
theorem jw:aR ["name", "pairs", "met", "grown", "low", "high"] ["name", "pairs"] (aq lX):=by walk_at "sc"
theorem qj:aR ["names", "pairs", "above", "name"] ["names", "pairs"] (aq jE):=by walk_at "sc"
theorem zB:aR ["names", "pairs"] ["names", "pairs"] (aq fX):=by walk_at "sc"
theorem wC:aR ["reach", "one", "other", "shared", "rank"] ["reach", "one", "other"] (aq lY):=by walk_at "sc"
theorem qP:aR ["reach", "told", "one", "other"] ["reach"] (aq nD):=by walk_at "sc"
theorem tL:aR ["reach", "both", "rank"] ["reach"] (aq lZ):=by walk_at "sc"
theorem tM:aR ["names", "pairs", "apart"] ["names", "pairs"] (aq mq):=by walk_at "sc"
theorem jQ:aR ["names", "pairs", "name", "low", "high"] ["names", "pairs"] (aq gm):=by walk_at "sc"
theorem mV:aR ["names", "pairs", "ring", "lack"] ["names", "pairs"] (aq gn):=by walk_at "sc"
theorem yg:aR ["_law_script", "_law_k"] ["_law_script", "_law_k"] (aq gq):=by walk_at "sc"
theorem dD:aR ["_law_cell", "_law_count", "_law_letters", "_law_names_here", "_law_text", "_law_k", "_law_size", "_law_at", "_law_signs"] ["_law_cell", "_law_count"] (aq fH):=by walk_at "sc"
theorem tY:aR ["_law_names_here", "_law_chain", "_law_amid"] ["_law_names_here", "_law_chain"] (aq eE):=by walk_at "sc"
theorem qm:aR ["_law_names_here", "_law_cell", "_law_name"] ["_law_names_here", "_law_cell"] (aq fQ):=by walk_at "sc"
theorem wD:aR ["_law_names_here", "_law_chain", "_law_one", "_law_other"] ["_law_names_here", "_law_chain", "_law_one", "_law_other"] (aq fU):=by walk_at "sc"
theorem zE:aR ["_law_names_here", "_law_chain", "_law_word", "_law_one", "_law_other"] ["_law_names_here", "_law_chain", "_law_word", "_law_one", "_law_other"] (aq g8):=by walk_at "sc"
theorem lA:aR ["_law_names_here", "_law_chain", "_law_word", "_law_some_here", "_law_one", "_law_best"] ["_law_names_here", "_law_chain", "_law_word", "_law_some_here"] (aq km):=by walk_at "sc"
theorem Bk:aR ["_law_order", "_law_word", "_law_some_here"] ["_law_order", "_law_word", "_law_some_here"] (aq jd):=by walk_at "sc"
theorem mW:aR ["_law_order", "_law_word", "_law_some_here", "_law_got", "_law_e"] ["_law_order", "_law_word", "_law_some_here"] (aq jF):=by walk_at "sc"
theorem tZ:aR ["_law_e", "_law_others"] ["_law_e"] (aq je):=by walk_at "sc"
theorem jf:aR ["_law_names_here", "_law_cell", "_law_size", "_law_word", "_law_some_here"] ["_law_names_here", "_law_cell"] (aq iC):=by walk_at "sc"
theorem gD:aR ["_law_script", "_law_count", "_law_chain", "_law_names_here", "_law_turn", "_law_told_here", "_law_pairs_here", "_law_order", "_law_number", "_law_word", "_law_some_here", "_law_handed", "_law_got", "_law_due_here"] ["_law_script"] (aq nR):=by walk_at "sc"
theorem uM:aR ["self", "names", "pairs"] ["self", "names", "pairs"] (aq bW):=by walk_at "sc"
theorem oV:aR ["self", "rank"] ["self", "rank"] (aq bI):=by walk_at "sc"
theorem yh:aR ["self"] ["self"] (aq dU):=by walk_at "sc"
theorem yj:aR ["self", "one", "other"] ["self", "one", "other"] (aq dW):=by walk_at "sc"
theorem zF:aR ["self", "one", "other"] ["self", "one", "other"] (aq eN):=by walk_at "sc"
theorem zG:aR ["self", "one", "other"] ["self", "one", "other"] (aq eO):=by walk_at "sc"
theorem jx:aR ["self", "some", "rank", "one"] ["self", "some"] (aq dz):=by walk_at "sc"
theorem ym:aR ["self"] ["self"] (aq dX):=by walk_at "sc"
theorem uN:aR ["self"] ["self"] (aq cN):=by walk_at "sc"
noncomputable def jq:PV:=(.str "abcdefghijklmnopqrstuvwxyz")
noncomputable def my:GF:=cQ 1 (cj (pO (rM xN xN (eC (.int 1)) (eB fB (aj (aa 0) ao)) (eC (.int 8))) (eB all1 (aj (b7 (d7 (aa 0) bV) 1 [] (aF 0) cM (au iW (aa 0) (eC jq))) ao))))
noncomputable def bD:GF:=cQ 3 (cj (b7 (d7 (aa 1) bV) 2 [2,0] (iZ 2 (bQ (aF 0) (bQ (aF 1) iV))) (iI (tT (au eqP (aa 0) (aa 2)) aU) (iI (tT (au mL (aa 1) (aa 2)) aU) (tT (au iW (aa 1) (aa 3)) aU))) (aa 1)))
noncomputable def lD:GF:=cQ 4 (aK (aL 2 (iz (aj (bz (aa 0) (eC (.int 0))) ao)))
 (aK (aL 3 (bz (aH bD (aj (aa 0) (aj (aa 1) (aj (bz (aa 0) (eC (.int 0))) ao)))) (eC (.int 0))))
 (aK (xG 20 (oN (tT (au kY (aa 3) (aa 2)) aU))
 (aK (nu 2 (aa 3))
 (aL 3 (bz (aH bD (aj (aa 0) (aj (aa 1) (aj (aa 3) ao)))) (eC (.int 0))))))
 (cj (vy (gQ (aa 2) (cA (mO (aa 2) (aa 3))) fu))))))
noncomputable def mz:GF:=cQ 4 (aK (aL 2 (eB list1 (aj (aa 0) ao)))
 (aK (aL 3 (b7 (d7 (aa 2) bV) 1 [2,1] (aF 0) (tT (aH bD (aj (aa 1) (aj (aa 2) (aj (aa 0) ao)))) cC) (aa 0)))
 (aK (xG 20 (tT (au uF (eB fB (aj (aa 3) ao)) (eB fB (aj (aa 2) ao))) aU)
 (aK (aL 2 (aa 3))
 (aL 3 (b7 (d7 (aa 2) bV) 1 [2,1] (aF 0) (tT (aH bD (aj (aa 1) (aj (aa 2) (aj (aa 0) ao)))) cC) (aa 0)))))
 (aK (dq (jO (tT (aa 2) cC))
 (cj (eC .non))
 bO)
 (cj (aH lD (aj (aa 2) (aj (aa 1) ao))))))))
noncomputable def oh:GF:=cQ 6 (aK (aL 2 (iz (aj (aa 0) ao)))
 (aK (aL 3 (eC (.bl true)))
 (aK (xG 70 (tT (aa 3) cC)
 (aK (aL 3 (eC (.bl false)))
 (gw (d7 (aa 1) bV) (iZ 2 (bQ (aF 4) (bQ (aF 5) iV)))
 (dq (oN (iI (tT (au iW (aa 4) (aa 2)) aU) (tT (au kY (aa 5) (aa 2)) aU)))
 (aK (nu 2 (aa 5))
 (aL 3 (eC (.bl true))))
 bO))))
 (iJ 2))))
noncomputable def cY:GF:=cQ 4 (aK (aL 2 Kd)
 (aK (gw (d7 (aa 0) bV) (aF 3)
 (xU 2 (aa 3) (aH oh (aj (aa 3) (aj (aa 1) ao)))))
 (iJ 2)))
noncomputable def cJ:GF:=cQ 2 (cj (aH cY (aj (aa 0) (aj (b7 (d7 (aa 1) bV) 2 [] (iZ 2 (bQ (aF 0) (bQ (aF 1) iV))) cM (jt (aj (aa 1) (aj (aa 0) ao)))) ao))))
noncomputable def pC:GF:=cQ 5 (aK (aL 3 (b7 (d7 (jl (aa 0) (aa 1)) bV) 1 [0,2] (aF 0) (tT (au iW (aa 0) (jl (aa 1) (aa 2))) aU) (aa 0)))
 (aK (gw (d7 (aa 3) bV) (aF 4)
 (dq (tT (eB all1 (aj (b7 (d7 (aa 3) bV) 1 [0,4] (aF 0) cM (au iW (aa 0) (jl (aa 1) (aa 2)))) ao)) cC)
 (iJ 4)
 bO))
 (cj (eC .non))))
noncomputable def iD:GF:=cQ 4 (aK (aL 1 Kg)
 (aK (gw (Ke (aa 0)) (aF 2)
 (gw (Ke (aa 0)) (aF 3)
 (xX 1 (aj (aa 2) (aj (aa 3) ao)) (aH pC (aj (aa 0) (aj (aa 2) (aj (aa 3) ao)))))))
 (iJ 1)))
noncomputable def fJ:GF:=cQ 3 (aK (gw (HW (HQ (aH iD (aj (aa 0) ao)))) (iZ 2 (bQ (aF 1) (bQ (aF 2) iV)))
 (dq (tT (au HF (aa 2) (eC .non)) aU)
 (iJ 1)
 bO))
 (cj (eC .non)))
noncomputable def ou:GF:=cQ 3 (aK (aL 2 (aH fJ (aj (nZ (aH cY (aj (aa 0) (aj (aa 1) ao)))) ao)))
 (aK (dq (tT (au xM (aa 2) (eC .non)) aU)
 (cj (jt (aj (eC (.str "join")) (aj (bz (aa 2) (eC (.int 0))) (aj (bz (aa 2) (eC (.int 1))) ao)))))
 bO)
 (aK (aL 2 (aH fJ (aj (nZ (aH cJ (aj (aa 0) (aj (aa 1) ao)))) ao)))
 (aK (dq (tT (au xM (aa 2) (eC .non)) aU)
 (cj (jt (aj (eC (.str "meet")) (aj (bz (aa 2) (eC (.int 0))) (aj (bz (aa 2) (eC (.int 1))) ao)))))
 bO)
 (cj (eC .non))))))
noncomputable def kI:GF:=cQ 5 (aK (gw (d7 (aa 0) bV) (aF 2)
 (aK (dq (jO (tT (aH my (aj (aa 2) ao)) cC))
 nQ
 bO)
 (dq (tT (au xO (xY (aa 0) (aa 2)) (eC (.int 1))) aU)
 nQ
 bO)))
 (gw (d7 (aa 1) bV) (iZ 2 (bQ (aF 3) (bQ (aF 4) iV)))
 (dq (gP (tT (au kY (aa 3) (aa 0)) aU) (tT (au kY (aa 4) (aa 0)) aU))
 nQ
 bO)))
noncomputable def kJ:GF:=cQ 4 (aK (dq (jO (tT (aa 0) cC))
 nQ
 bO)
 (aK (aL 2 (aH mz (aj (aa 0) (aj (aa 1) ao))))
 (aK (dq (tT (au xM (aa 2) (eC .non)) aU)
 nQ
 bO)
 (aK (aL 3 (aH ou (aj (aa 0) (aj (aa 1) ao))))
 (dq (tT (au xM (aa 3) (eC .non)) aU)
 nQ
 bO)))))
noncomputable def bK:GF:=cQ 2 (aK (dq (tT (au uF (aa 1) (eB fB (aj (aa 0) ao))) aU)
 (cj (au bA (bz (aa 0) (aa 1)) (eC (.int 1000000007))))
 bO)
 (cj (eC (.int 0))))
noncomputable def j6:GF:=cQ 9 (aK (aL 2 (eC (.str "abcdefghijklmnopqrstuvwxyz")))
 (aK (aL 3 (iz ao))
 (aK (dq (tT (au eqP (au bA (aa 0) (eC (.int 2))) (eC (.int 1))) aU)
 (aK (aL 4 (nP (eC (.str "")) (aj (b7 (fM (aj (eC (.int 10)) ao)) 1 [2,0] (aF 0) cM (bz (aa 1) (au bA (au cH (au bc (aa 2) (eC (.int 2))) (au jK (eC (.int 3)) (aa 0))) (eC (.int 26))))) ao)))
 (aK (gw (fM (aj (aa 1) ao)) (aF 5)
 (nu 3 (gQ (aa 4) (cA (au bA (aa 5) (eC (.int 5)))) (cA (au cH (au cH (au bA (aa 5) (eC (.int 5))) (eC (.int 1))) (au bc (aa 5) (eC (.int 5))))))))
 (iJ 3)))
 bO)
 (aK (aL 6 (bz (iz (aj (eC (.int 1)) (aj (eC (.int 2)) (aj (eC (.int 3)) (aj (eC (.int 5)) (aj (eC (.int 6)) (aj (eC (.int 7)) (aj (eC (.int 8)) ao)))))))) (au bA (au bc (aa 0) (eC (.int 2))) (eC (.int 7)))))
 (aK (aL 7 (au bA (au bc (aa 0) (eC (.int 14))) (aa 6)))
 (aK (gw (fM (aj (aa 1) ao)) (aF 5)
 (aK (aL 8 (b7 (fM (aj (aa 6) ao)) 1 [2,0] (aF 0) cM (bz (aa 1) (au bA (au cH (au bc (aa 2) (au cH (aa 0) (eC (.int 1)))) (au jK (aa 0) (aa 0))) (eC (.int 26))))))
 (aK (nO 8 (aa 7) (bz (aa 2) (au bA (au cH (au bc (aa 0) (eC (.int 112))) (aa 5)) (eC (.int 26)))))
 (nu 3 (nP (eC (.str "")) (aj (aa 8) ao))))))
 (iJ 3)))))))
noncomputable def j7:GF:=cQ 3 (aK (dq (gP (tT (aa 1) cC) (tT (au uF (eB fB (aj (aa 0) ao)) (eC (.int 3))) aU))
 (cj (b7 (vm (aj (eC (.int 1)) (aj (eB fB (aj (aa 0) ao)) ao))) 1 [0] (aF 0) cM (jt (aj (bz (aa 1) (au Tj (aa 0) (eC (.int 1)))) (aj (bz (aa 1) (aa 0)) ao)))))
 bO)
 (aK (aL 2 (gQ (aa 0) (cA (eC (.int 1))) (cA (lJ (eC (.int 1))))))
 (cj (au cH (b7 (d7 (aa 2) bV) 1 [0] (aF 0) cM (jt (aj (bz (aa 1) (eC (.int 0))) (aj (aa 0) ao)))) (b7 (d7 (aa 2) bV) 1 [0] (aF 0) cM (jt (aj (aa 0) (aj (bz (aa 1) (lJ (eC (.int 1)))) ao))))))))
noncomputable def bU:GF:=cQ 3 (aK (aL 2 (bz (aa 0) (au bA (aa 1) (eB fB (aj (aa 0) ao)))))
 (cj (bz (iz (aj (au cH (aa 2) (eC (.str "a"))) (aj (gQ (aa 2) (cA (eC (.int 1))) fu) (aj (au cH (eC (.str "a")) (aa 2)) (aj (gQ (aa 2) fu (cA (lJ (eC (.int 1))))) (aj (eC (.str "zz")) (aj (yf (aa 2)) (aj (eC (.str "")) ao)))))))) (au bA (au bc (aa 1) (eC (.int 8))) (eC (.int 7))))))
noncomputable def dB:GF:=cQ 4 (aK (dq (gP (tT (aa 1) cC) (tT (au uF (eB fB (aj (aa 0) ao)) (eC (.int 3))) aU))
 (cj (au xN (mO (aa 0) (aa 2)) (mO (aa 0) (aa 3))))
 bO)
 (cj (FT (au eqP (aa 2) (aa 3)) (FT (au eqP (aa 2) (bz (aa 0) (eC (.int 0)))) (au eqP (aa 3) (bz (aa 0) (lJ (eC (.int 1)))))))))
noncomputable def cL:GF:=cQ 5 (aK (dq (tT (au eqP (aa 2) (eC (.str "under"))) aU)
 (cj (aH dB (aj (aa 0) (aj (aa 1) (aj (aa 3) (aj (aa 4) ao))))))
 bO)
 (aK (dq (tT (aH dB (aj (aa 0) (aj (aa 1) (aj (aa 3) (aj (aa 4) ao))))) cC)
 (cj (xq (tT (au eqP (aa 2) (eC (.str "join"))) aU) (aa 4) (aa 3)))
 bO)
 (aK (dq (tT (aH dB (aj (aa 0) (aj (aa 1) (aj (aa 4) (aj (aa 3) ao))))) cC)
 (cj (xq (tT (au eqP (aa 2) (eC (.str "join"))) aU) (aa 3) (aa 4)))
 bO)
 (cj (xq (tT (au eqP (aa 2) (eC (.str "join"))) aU) (bz (aa 0) (lJ (eC (.int 1)))) (bz (aa 0) (eC (.int 0))))))))
noncomputable def jy:GF:=cQ 6 (aK (gw (d7 (aa 3) bV) (aF 4)
 (dq (tT (au kY (aa 4) (aa 0)) aU)
 (cj (jt (aj (eC (.str "refused")) ao)))
 bO))
 (aK (dq (tT (au mL (aa 2) (eC (.str "joined"))) aU)
 (cj (aH cL (aj (aa 0) (aj (aa 1) (aj (aa 2) (aj (bz (aa 3) (eC (.int 0))) (aj (bz (aa 3) (eC (.int 1))) ao)))))))
 bO)
 (aK (aL 5 (bz (aa 0) (eC (.int 0))))
 (aK (gw (d7 (aa 3) bV) (aF 4)
 (aL 5 (aH cL (aj (aa 0) (aj (aa 1) (aj (eC (.str "join")) (aj (aa 5) (aj (aa 4) ao))))))))
 (iJ 5)))))
noncomputable def aO:GX:=jL 2 (rO (tT (au kY (aa 1) (iB "Order" "names" (aa 0))) aU)
 (DG "NoName" (jR (aa 1) Nj))
 (iR bO))
noncomputable def cZ:GX:=jL 3 (gB (xB (b8 "Order" "refuse_stranger" aO (aa 0) (aj (aa 1) ao)) oU)
 (gB (xB (b8 "Order" "refuse_stranger" aO (aa 0) (aj (aa 2) ao)) oU)
 (iR (cj (Du (iB "Order" "joins" (aa 0)) (aj (aa 1) (aj (aa 2) ao)))))))
noncomputable def iu:GX:=jL 4 (gB (iR (aL 2 (iB "Order" "lowest" (aa 0))))
 (gB (Ib (d7 (aa 1) bV) (aF 3)
 (xB (b8 "Order" "join" cZ (aa 0) (aj (aa 2) (aj (aa 3) ao))) (nC 2)))
 (iR (iJ 2))))
noncomputable def jB:GX:=jL 3 (gB (xB (b8 "Order" "refuse_stranger" aO (aa 0) (aj (aa 1) ao)) oU)
 (gB (xB (b8 "Order" "refuse_stranger" aO (aa 0) (aj (aa 2) ao)) oU)
 (iR (cj (Du (iB "Order" "meets" (aa 0)) (aj (aa 1) (aj (aa 2) ao)))))))
noncomputable def jg:GX:=jL 3 (gB (xB (b8 "Order" "refuse_stranger" aO (aa 0) (aj (aa 1) ao)) oU)
 (gB (xB (b8 "Order" "refuse_stranger" aO (aa 0) (aj (aa 2) ao)) oU)
 (iR (cj (au iW (aa 2) (jl (iB "Order" "above" (aa 0)) (aa 1)))))))
noncomputable def jh:GX:=jL 3 (gB (rO (tT (au eqP (aa 1) (eC (.str "under"))) aU)
 (xB (b8 "Order" "under" jg (aa 0) (aj (bz (aa 2) (eC (.int 0))) (aj (bz (aa 2) (eC (.int 1))) ao))) zx)
 (iR bO))
 (gB (rO (tT (au eqP (aa 1) (eC (.str "join"))) aU)
 (xB (b8 "Order" "join" cZ (aa 0) (aj (bz (aa 2) (eC (.int 0))) (aj (bz (aa 2) (eC (.int 1))) ao))) zx)
 (iR bO))
 (gB (rO (tT (au eqP (aa 1) (eC (.str "meet"))) aU)
 (xB (b8 "Order" "meet" jB (aa 0) (aj (bz (aa 2) (eC (.int 0))) (aj (bz (aa 2) (eC (.int 1))) ao))) zx)
 (iR bO))
 (xB (b8 "Order" "joined" iu (aa 0) (aj (aa 2) ao)) zx))))
noncomputable def fK:GF:=cQ 2 (aK (aL 1 (iz (aj (jZ [] ["NoName"] (aa 0)) (aj (jZ [] ["NoName"] (aa 0)) (aj (jZ [] ["NoName"] (aa 0)) (aj (jZ [] ["NoName"] (aa 0)) ao))))))
 (aK (dq (gP (tT (au iW (eC (.bl true)) (aa 1)) aU) (gP (tT (jZ [] ["NoName"] (aa 0)) cC) (gP (jO (tT (jZ ["NoName"] [] (aa 0)) cC)) (jO (tT (jZ ["NoName"] [] (aa 0)) cC)))))
 (cj (jt (aj (eC (.str "other")) ao)))
 bO)
 (cj (jt (aj (eC (.str "refused")) ao)))))
noncomputable def jG:GF:=cQ 5 (aK (zA (xB (jA jh (aj (aa 0) (aj (aa 1) (aj (aa 2) ao)))) (nC 3)) (qi 4 ["NoName"] [] (aL 3 (aH fK (aj (aa 4) ao))) DK))
 (iJ 3))
noncomputable def jH:GF:=cQ 5 (aK (aL 2 (eC (.int 2)))
 (aK (aL 3 (bz (iz (aj (eC (.str "under")) (aj (eC (.str "join")) (aj (eC (.str "meet")) (aj (eC (.str "joined")) ao))))) (au bA (aa 1) (eC (.int 4)))))
 (aK (dq (tT (au eqP (aa 3) (eC (.str "joined"))) aU)
 (aL 2 (au bA (au bc (aa 1) (eC (.int 4))) (eC (.int 5))))
 bO)
 (aK (aL 4 (b7 (fM (aj (aa 2) ao)) 1 [0,1] (aF 0) cM (bz (aa 1) (au bA (au bc (aa 2) (au cH (eC (.int 5)) (au jK (eC (.int 7)) (aa 0)))) (eB fB (aj (aa 1) ao))))))
 (aK (dq (iI (tT (au xO (au bA (au bc (aa 1) (eC (.int 4))) (eC (.int 3))) (eC (.int 0))) aU) (tT (au xO (aa 2) (eC (.int 0))) aU))
 (aK (nO 4 (au bA (au bc (aa 1) (eC (.int 12))) (aa 2)) (aH bU (aj (aa 0) (aj (au bc (aa 1) (eC (.int 24))) ao))))
 (dq (tT (au eqP (au bA (au bc (aa 1) (eC (.int 4))) (eC (.int 6))) (eC (.int 1))) aU)
 (aL 4 (zr (iz (aj (aH bU (aj (aa 0) (aj (au bc (aa 1) (eC (.int 24))) ao))) ao)) (aa 2)))
 bO))
 bO)
 (cj (jt (aj (aa 3) (aj (aa 4) ao)))))))))
noncomputable def fY:GF:=cQ 3 (aK (xr (aH kI (aj (aa 1) (aj (aa 2) ao))))
 (aK (xr (aH kJ (aj (aa 1) (aj (aa 2) ao))))
 (aK (iQ "Order" "names" (aa 0) (eB list1 (aj (aa 1) ao)))
 (aK (iQ "Order" "above" (aa 0) (nZ (aH cY (aj (aa 1) (aj (aa 2) ao)))))
 (aK (iQ "Order" "joins" (aa 0) (aH iD (aj (iB "Order" "above" (aa 0)) ao)))
 (aK (iQ "Order" "meets" (aa 0) (aH iD (aj (nZ (aH cJ (aj (aa 1) (aj (aa 2) ao)))) ao)))
 (aK (iQ "Order" "lowest" (aa 0) (jl (b7 (d7 (aa 1) bV) 1 [0,1] (aF 0) (tT (au Dr (qU (jl (iB "Order" "above" (aa 1)) (aa 0))) (qU (aa 2))) aU) (aa 0)) (eC (.int 0))))
 (iQ "Order" "highest" (aa 0) (jl (b7 (d7 (aa 1) bV) 1 [0] (aF 0) (tT (au Dr (qU (jl (iB "Order" "above" (aa 1)) (aa 0))) (eC (.int 1))) aU) (aa 0)) (eC (.int 0)))))))))))
noncomputable def fZ:GF:=cQ 1 (cj (iB "Order" "highest" (aa 0)))
noncomputable def ji:GF:=cQ 1 (cj (iB "Order" "lowest" (aa 0)))
noncomputable def jj:GF:=cQ 1 (cj (eB list1 (aj (iB "Order" "names" (aa 0)) ao)))
noncomputable def Ig:GF:=cQ 14 (aK (aL 1 (au cH (eC (.int 1)) (au bA (aH bK (aj (aa 0) (aj (eC (.int 0)) ao))) (eC (.int 8)))))
 (aK (aL 2 (au eqP (au bA (au bc (aH bK (aj (aa 0) (aj (eC (.int 0)) ao))) (eC (.int 8))) (eC (.int 2))) (eC (.int 0))))
 (aK (aL 3 (aH j6 (aj (au bc (aH bK (aj (aa 0) (aj (eC (.int 0)) ao))) (eC (.int 16))) (aj (aa 1) ao))))
 (aK (aL 4 (au bA (aH bK (aj (aa 0) (aj (eC (.int 1)) ao))) (aa 1)))
 (aK (aL 5 (au cH (gQ (aa 3) (cA (aa 4)) fu) (gQ (aa 3) fu (cA (aa 4)))))
 (aK (aL 6 (aH j7 (aj (aa 3) (aj (aa 2) ao))))
 (aK (dq (tT (au eqP (au bA (au bc (aH bK (aj (aa 0) (aj (eC (.int 1)) ao))) (eC (.int 8))) (eC (.int 2))) (eC (.int 1))) aU)
 (aL 6 (Ni (aa 6) fu fu (cA (lJ (eC (.int 1))))))
 bO)
 (aK (aL 7 (vC "Order" fY (aj (eB list1 (aj (aa 5) ao)) (aj (aa 6) ao))))
 (aK (gw (d7 (gQ (aa 0) fu (cA (eC (.int 60)))) bV) (aF 8)
 (aK (CJ (aH jH (aj (aa 3) (aj (au bA (au jK (aa 8) (eC (.int 48271))) (eC (.int 1000000007))) ao))) (iZ 2 (bQ (aF 9) (bQ (aF 10) iV))))
 (aK (aL 11 (eB list1 (aj (aa 10) ao)))
 (aK (aL 12 (aH jG (aj (aa 7) (aj (aa 9) (aj (aa 11) ao)))))
 (aK (aL 13 (aH jy (aj (aa 3) (aj (aa 2) (aj (aa 9) (aj (aa 10) ao))))))
 (dq (gP (tT (au mL (rH "bool" (aa 12)) (rH "bool" (aa 13))) aU) (gP (tT (au mL (aa 12) (aa 13)) aU) (tT (au mL (aa 11) (aa 10)) aU)))
 (cj (eC (.bl false)))
 bO))))))
 (cj (pO (au eqP (lC "Order" "ranks" jj (aa 7) ao) (aa 5)) (pO (au eqP (lC "Order" "least" ji (aa 7) ao) (bz (aa 3) (eC (.int 0)))) (au eqP (lC "Order" "greatest" fZ (aa 7) ao) (bz (aa 3) (lJ (eC (.int 1)))))))))))))))))
section
variable {P:Program} {w:World} {K:FG} {mg:Str->Option Value} {base:Heap}
theorem Kv {X:Cx} {pos:Pos} (h:∃ t,X.mg "LETTERS" = some (.str "abcdefghijklmnopqrstuvwxyz" t)) (hg:Gl X "LETTERS"):PE X (.Name "LETTERS" pos) (tP X.K (eC jq)):=by
 obtain ⟨t,h⟩:=h
 exact qc (m6 (v:=.str "abcdefghijklmnopqrstuvwxyz") hg h ⟨_,rfl⟩) kh
noncomputable abbrev BL:List Str:=["ValueError", "all", "bool", "isinstance", "len", "list", "range"]
section
variable {mg:Str->Option Value} (B:Tv mg BL)
include B
theorem DN:mg "ValueError" = none:=B _ (.head _)
theorem O7:mg "all" = none:=B _ (.tail _ (.head _))
theorem Kw:mg "bool" = none:=B _ (.tail _ (.tail _ (.head _)))
theorem eF:mg "isinstance" = none:=B _ (.tail _ (.tail _ (.tail _ (.head _))))
theorem lE:mg "len" = none:=B _ (.tail _ (.tail _ (.tail _ (.tail _ (.head _)))))
theorem uO:mg "list" = none:=B _ (.tail _ (.tail _ (.tail _ (.tail _ (.tail _ (.head _))))))
theorem pD:mg "range" = none:=B _ (.tail _ (.tail _ (.tail _ (.tail _ (.tail _ (.tail _ (.head _)))))))
end
section
variable (P:Program) (w:World) (K:FG) (mg:Str->Option Value) (base:Heap) (c:Addr)
noncomputable abbrev Ih:=bB P w K mg base "is_name" 1 ["text"] (bM K 1 my)
noncomputable abbrev oH:=bB P w K mg base "straight_above" 1 ["some", "pairs", "name"] (bM K 3 bD)
noncomputable abbrev zH:=bB P w K mg base "ring_within" 2 ["some", "pairs"] (bM K 2 lD)
noncomputable abbrev Ii:=bB P w K mg base "ring_of" 3 ["names", "pairs"] (bM K 2 mz)
noncomputable abbrev Ij:=bB P w K mg base "climbed" 1 ["name", "pairs"] (bM K 2 oh)
noncomputable abbrev qp:=bB P w K mg base "all_above" 2 ["names", "pairs"] (bM K 2 cY)
noncomputable abbrev rQ:=bB P w K mg base "all_beneath" 3 ["names", "pairs"] (bM K 2 cJ)
noncomputable abbrev Nm:=bB P w K mg base "bound" 1 ["reach", "one", "other"] (bM K 3 pC)
noncomputable abbrev Ax:=bB P w K mg base "bounds" 2 ["reach"] (bM K 1 iD)
noncomputable abbrev Ik:=bB P w K mg base "unbound" 3 ["reach"] (bM K 1 fJ)
noncomputable abbrev Il:=bB P w K mg base "lack_of" 4 ["names", "pairs"] (bM K 2 ou)
noncomputable abbrev yo:=bB P w K mg base "refuse_names" 2 ["names", "pairs"] (bM K 2 kI)
noncomputable abbrev yp:=bB P w K mg base "refuse_order" 5 ["names", "pairs"] (bM K 2 kJ)
noncomputable abbrev yq:=bB P w K mg base "_law_cell_at" 1 ["_law_script", "_law_k"] (bM K 2 bK)
noncomputable abbrev Bl:=bB P w K mg base "_law_names" 1 ["_law_cell", "_law_count"] (bM K 2 j6)
noncomputable abbrev Bm:=bB P w K mg base "_law_pairs" 1 ["_law_names_here", "_law_chain"] (bM K 2 j7)
noncomputable abbrev wF:=bB P w K mg base "_law_stranger" 1 ["_law_names_here", "_law_cell"] (bM K 2 bU)
noncomputable abbrev wG:=bB P w K mg base "_law_is_under" 1 ["_law_names_here", "_law_chain", "_law_one", "_law_other"] (bM K 4 dB)
noncomputable abbrev zJ:=bB P w K mg base "_law_answer" 2 ["_law_names_here", "_law_chain", "_law_word", "_law_one", "_law_other"] (bM K 5 cL)
noncomputable abbrev Fo:=bB P w K mg base "_law_due" 3 ["_law_names_here", "_law_chain", "_law_word", "_law_some_here"] (bM K 4 jy)
noncomputable abbrev Bo:=uB false P w K mg base "_law_class" 1 ["_law_e"] (bM K 1 fK)
noncomputable abbrev DP:=bB P w K mg base "_law_told" 5 ["_law_order", "_law_word", "_law_some_here"] (bM K 3 jG)
noncomputable abbrev DQ:=bB P w K mg base "_law_some" 2 ["_law_names_here", "_law_cell"] (bM K 2 jH)
noncomputable abbrev uP:=Nf P w K mg base c 6 ["self", "names", "pairs"] (bM K 3 fY)
noncomputable abbrev uQ:=uK P w K mg base c "greatest" 1 ["self"] (bM K 1 fZ)
noncomputable abbrev yr:=uK P w K mg base c "least" 1 ["self"] (bM K 1 ji)
noncomputable abbrev yt:=uK P w K mg base c "ranks" 1 ["self"] (bM K 1 jj)
end
variable (B:Tv mg BL) (C_LETTERS:∃ t,mg "LETTERS" = some (.str "abcdefghijklmnopqrstuvwxyz" t)) {c_Order:Addr} (T_Order:p8 K mg "Order" c_Order) (N_Order:∀ f∈(["names", "above", "joins", "meets", "lowest", "highest"]:List Str),lg K c_Order f) {c_HushError:Addr} (XT_HushError:zy K mg "HushError" c_HushError) {c_NoName:Addr} (XT_NoName:zy K mg "NoName" c_NoName) (Y_HushError:∀ C∈(["NoName"]:List Str),∃ c,CN K C c/\W.excIn K c mF mG=true/\mroIn K c c_HushError=true) (Z_HushError:∀ C∈([]:List Str),∃ c,CN K C c/\W.excIn K c mF mG=true/\mroIn K c c_HushError=false) {v_NoFit:Addr} (V_NoFit:mg "NoFit" = some (.ref v_NoFit)) (I_NoFit:∀ C∈([]:List Str),gM K (.ref v_NoFit) true C) (J_NoFit:∀ C∈(["NoName"]:List Str),gM K (.ref v_NoFit) false C) {v_NoInput:Addr} (V_NoInput:mg "NoInput" = some (.ref v_NoInput)) (I_NoInput:∀ C∈([]:List Str),gM K (.ref v_NoInput) true C) (J_NoInput:∀ C∈(["NoName"]:List Str),gM K (.ref v_NoInput) false C) {v_NoName:Addr} (V_NoName:mg "NoName" = some (.ref v_NoName)) (I_NoName:∀ C∈(["NoName"]:List Str),gM K (.ref v_NoName) true C) (J_NoName:∀ C∈([]:List Str),gM K (.ref v_NoName) false C) {v_NoOrder:Addr} (V_NoOrder:mg "NoOrder" = some (.ref v_NoOrder)) (I_NoOrder:∀ C∈([]:List Str),gM K (.ref v_NoOrder) true C) (J_NoOrder:∀ C∈(["NoName"]:List Str),gM K (.ref v_NoOrder) false C) {v_NoRow:Addr} (V_NoRow:mg "NoRow" = some (.ref v_NoRow)) (I_NoRow:∀ C∈([]:List Str),gM K (.ref v_NoRow) true C) (J_NoRow:∀ C∈(["NoName"]:List Str),gM K (.ref v_NoRow) false C) {v_NoText:Addr} (V_NoText:mg "NoText" = some (.ref v_NoText)) (I_NoText:∀ C∈([]:List Str),gM K (.ref v_NoText) true C) (J_NoText:∀ C∈(["NoName"]:List Str),gM K (.ref v_NoText) false C) (I_ValueError:∀ C∈(["NoName"]:List Str),gM K (.ty "ValueError") true C) (J_ValueError:∀ C∈([]:List Str),gM K (.ty "ValueError") false C)
include B C_LETTERS T_Order N_Order XT_HushError XT_NoName Y_HushError Z_HushError V_NoFit I_NoFit J_NoFit V_NoInput I_NoInput J_NoInput V_NoName I_NoName J_NoName V_NoOrder I_NoOrder J_NoOrder V_NoRow I_NoRow J_NoRow V_NoText I_NoText J_NoText I_ValueError J_ValueError
theorem Im (F:aZ K mg "is_name" j4 ["text"]):bB P w K mg base "is_name" 1 ["text"] (bM K 1 my):=
 F.ok (k:=0) Ie fun f cdv A outer s H E hr=>⟨_,fun _ _=>rfl,(aJ (bH (MF (Tu Hc Hc Dd Dd bw (qL (lE B) (qw 0)) bw) (Mz (Dg (tE rfl) J9 (dF (tE rfl) (by rfl) (O7 B) (by kernel_rfl) (ak (nJ ["sign"] [] [] rfl (qe (aq j4)) (dR (qw 0)) (fun _ _ _ _=>(fG 0 (show (["sign"]:List Str).Nodup from by decide +kernel))) bf (fun _ _ _ _=>ju) (fun _ _ _ _=>(pN (pR hr) ni (qw 0) (Kv C_LETTERS rfl) (by with_unfolding_all rfl)))) aC)))))))⟩
theorem vL (F:aZ K mg "straight_above" dH ["some", "pairs", "name"]):bB P w K mg base "straight_above" 1 ["some", "pairs", "name"] (bM K 3 bD):=
 F.ok (k:=0) vK fun f cdv A outer s H E hr=>⟨_,fun _ _=>rfl,(aJ (bH (nJ ["low", "high"] ["name", "some"] [2,0] rfl (qe (aq dH)) (dR (qw 1)) (fun _ _ _ _=>(rJ rfl (fV (fG 0 (show (["low", "high", "name", "some"]:List Str).Nodup from by decide +kernel)) (fV (fG 1 (show (["low", "high", "name", "some"]:List Str).Nodup from by decide +kernel)) oZ)))) (rK (gU bf (gU bf rB))) (fun _ _ _ _=>(m8 (PW.pt (xn (bJ (dN hr) dO (qw 0) (qw 2) (bx _)) (xn (bJ (uD hr) uE (qw 1) (qw 2) (bx _)) (zg (bJ (pR hr) ni (qw 1) (qw 3) (by with_unfolding_all rfl)))))))) (fun _ _ _ _=>(qw 1)))))⟩
theorem zK (F:aZ K mg "ring_within" gZ ["some", "pairs"]) (D_straight_above:oH P w K mg base):bB P w K mg base "ring_within" 2 ["some", "pairs"] (bM K 2 lD):=
 F.ok (k:=1) kE fun f cdv A outer s H E hr=>⟨_,fun _ _=>rfl,(aB (d9 2 kE.nd (uy (ak (qI (qw 0)) aC)))
  (aB (d9 3 kE.nd (qI (bL D_straight_above (hr.mono (by omega)) rfl (ak (qw 0) (ak (qw 1) (ak (qI (qw 0)) aC))) (aA (aA (aA aQ))))))
  (aB (v8 20 PassesOwn.never (J8 (bJ (lQ hr) o9 (qw 3) (qw 2) (by with_unfolding_all rfl)))
  (aB (HY (pv 2) (qw 3))
  (aJ (d9 3 kE.nd (qI (bL D_straight_above (hr.mono (by omega)) rfl (ak (qw 0) (ak (qw 1) (ak (qw 3) aC))) (aA (aA (aA aQ)))))))))
  (aJ (bH (Vi (lV (qw 2) (iY (Dp (sI PySem.F.plainAttrs_list PySem.F.slot_list_index PySem.F.type_list_index (wA hr) (qw 2) (ak (qw 3) aC)))) lR)))))))⟩
theorem Io (F:aZ K mg "ring_of" jo ["names", "pairs"]) (D_ring_within:zH P w K mg base) (D_straight_above:oH P w K mg base):bB P w K mg base "ring_of" 3 ["names", "pairs"] (bM K 2 mz):=
 F.ok (k:=2) mU fun f cdv A outer s H E hr=>⟨_,fun _ _=>rfl,(aB (xx (i:=2) mU.nd rfl (Or.inr rfl) (PE.imp (nT jX (by rfl) (uO B) (by kernel_rfl) (ak (qw 0) aC)) (rF rG)))
  (aB (rC (i:=3) ["name"] ["rest", "pairs"] [2,1] mU.nd rfl rfl rfl (qe (aq jo)) (dR (qw 2)) (fun _ _ _ _=>(fG 0 (show (["name", "rest", "pairs"]:List Str).Nodup from by decide +kernel))) bf (fun _ _ _ _=>(m8 (ig (bL D_straight_above (hr.mono (by omega)) rfl (ak (qw 1) (ak (qw 2) (ak (qw 0) aC))) (aA (aA (aA aQ)))) (fun _=>rfl)))) (fun _ _ _ _=>(qw 0)))
  (aB (v8 20 PassesOwn.never (bJ Bu xP (qL (lE B) (qw 3)) (qL (lE B) (qw 2)) (bx _))
  (aB (xx (i:=2) mU.nd rfl (Or.inr rfl) (qw 3))
  (aJ (rC (i:=3) ["name"] ["rest", "pairs"] [2,1] mU.nd rfl rfl rfl (qe (aq jo)) (dR (qw 2)) (fun _ _ _ _=>(fG 0 (show (["name", "rest", "pairs"]:List Str).Nodup from by decide +kernel))) bf (fun _ _ _ _=>(m8 (ig (bL D_straight_above (hr.mono (by omega)) rfl (ak (qw 1) (ak (qw 2) (ak (qw 0) aC))) (aA (aA (aA aQ)))) (fun _=>rfl)))) (fun _ _ _ _=>(qw 0))))))
  (aB (dh (uA (ig (qw 2) (fun _=>rfl)))
  (aJ (bH xZ))
  bT)
  (aJ (bH (bL D_ring_within (hr.mono (by omega)) rfl (ak (qw 2) (ak (qw 1) aC)) (aA (aA aQ)))))))))⟩
theorem Ip (F:aZ K mg "climbed" lX ["name", "pairs"]):bB P w K mg base "climbed" 1 ["name", "pairs"] (bM K 2 oh):=
 F.ok (k:=0) jw fun f cdv A outer s H E hr=>⟨_,fun _ _=>rfl,(aB (d9 2 jw.nd (uy (ak (qw 0) aC)))
  (aB (d9 3 jw.nd (qc wL dm))
  (aB (v8 70 PassesOwn.never (ig (qw 3) (fun _=>rfl))
  (aB (d9 3 jw.nd (qc wL dm))
  (aJ (lu PassesOwn.never rfl (dR (qw 1)) (rJ rfl (fV (fG 4 jw.nd) (fV (fG 5 jw.nd) oZ))) (rK (gU bf (gU bf rB)))
  (aJ (dh (J8 (PW.pt (xn (bJ (pR hr) ni (qw 4) (qw 2) (by with_unfolding_all rfl)) (zg (bJ (lQ hr) o9 (qw 5) (qw 2) (by with_unfolding_all rfl))))))
  (aB (HY (pv 2) (qw 5))
  (aJ (d9 3 jw.nd (qc wL dm))))
  bT))))))
  (aJ (jD (pv 2))))))⟩
theorem DR (F:aZ K mg "all_above" jE ["names", "pairs"]) (D_climbed:Ij P w K mg base):bB P w K mg base "all_above" 2 ["names", "pairs"] (bM K 2 cY):=
 F.ok (k:=1) qj fun f cdv A outer s H E hr=>⟨_,fun _ _=>rfl,(aB (d9 2 qj.nd TV)
  (aB (lu PassesOwn.never rfl (dR (qw 0)) (fG 3 qj.nd) bf
  (aJ (QL (uc (bL D_climbed (hr.mono (by omega)) rfl (ak (qw 3) (ak (qw 1) aC)) (aA (aA aQ))) (wN (pv 2) (qw 3) (set_dict (lB hr)))))))
  (aJ (jD (pv 2)))))⟩
theorem zL (F:aZ K mg "all_beneath" fX ["names", "pairs"]) (D_all_above:qp P w K mg base):bB P w K mg base "all_beneath" 3 ["names", "pairs"] (bM K 2 cJ):=
 F.ok (k:=2) zB fun f cdv A outer s H E hr=>⟨_,fun _ _=>rfl,(aJ (bH (bL D_all_above (hr.mono (by omega)) rfl (ak (qw 0) (ak (nJ ["low", "high"] [] [] rfl (qe (aq fX)) (dR (qw 1)) (fun _ _ _ _=>(rJ rfl (fV (fG 0 (show (["low", "high"]:List Str).Nodup from by decide +kernel)) (fV (fG 1 (show (["low", "high"]:List Str).Nodup from by decide +kernel)) oZ)))) (rK (gU bf (gU bf rB))) (fun _ _ _ _=>ju) (fun _ _ _ _=>(qR (ak (qw 1) (ak (qw 0) aC))))) aC)) (aA (aA aQ)))))⟩
theorem Np (F:aZ K mg "bound" lY ["reach", "one", "other"]):bB P w K mg base "bound" 1 ["reach", "one", "other"] (bM K 3 pC):=
 F.ok (k:=0) wC fun f cdv A outer s H E hr=>⟨_,fun _ _=>rfl,(aB (rC (i:=3) ["rank"] ["reach", "other"] [0,2] wC.nd rfl rfl rfl (qe (aq lY)) (dR (Av (lB hr) (qw 0) (qw 1) (fun _ _=>rfl))) (fun _ _ _ _=>(fG 0 (show (["rank", "reach", "other"]:List Str).Nodup from by decide +kernel))) bf (fun _ _ _ _=>(m8 (bJ (pR hr) ni (qw 0) (Av (lB hr) (qw 1) (qw 2) (fun _ _=>rfl)) (by with_unfolding_all rfl)))) (fun _ _ _ _=>(qw 0)))
  (aB (lu PassesOwn.never rfl (dR (qw 3)) (Fw (i:=4) wC.nd rfl (Or.inr rfl)) bf
  (aJ (dh (ig (Dg (tE rfl) J9 (dF (tE rfl) (by rfl) (O7 B) (by kernel_rfl) (ak (nJ ["beyond"] ["reach", "rank"] [0,4] rfl (qe (aq lY)) (dR (qw 3)) (fun _ _ _ _=>(fG 0 (show (["beyond", "reach", "rank"]:List Str).Nodup from by decide +kernel))) bf (fun _ _ _ _=>ju) (fun _ _ _ _=>(pN (pR hr) ni (qw 0) (Av (lB hr) (qw 1) (qw 2) (fun _ _=>rfl)) (by with_unfolding_all rfl)))) aC))) (fun _=>rfl))
  (aJ (jD (pv 4)))
  bT)))
  (aJ (bH xZ))))⟩
theorem Ky (F:aZ K mg "bounds" nD ["reach"]) (D_bound:Nm P w K mg base):bB P w K mg base "bounds" 2 ["reach"] (bM K 1 iD):=
 F.ok (k:=1) qP fun f cdv A outer s H E hr=>⟨_,fun _ _=>rfl,(aB (d9 1 qP.nd T6)
  (aB (Gp PassesOwn.never rfl (qw 0) (fG 2 qP.nd) bf
  (aJ (Gp PassesOwn.never rfl (qw 0) (fG 3 qP.nd) bf
  (aJ (QM (uc (bL D_bound (hr.mono (by omega)) rfl (ak (qw 0) (ak (qw 2) (ak (qw 3) aC))) (aA (aA (aA aQ)))) (wN (pv 1) (Ci (ak (qw 2) (ak (qw 3) aC))) (set_dict (lB hr)))))))))
  (aJ (jD (pv 1)))))⟩
theorem Ir (F:aZ K mg "unbound" lZ ["reach"]) (D_bounds:Ax P w K mg base):bB P w K mg base "unbound" 3 ["reach"] (bM K 1 fJ):=
 F.ok (k:=2) tL fun f cdv A outer s H E hr=>⟨_,fun _ _=>rfl,(aB (Fj PassesOwn.never rfl (Wt (bL D_bounds (hr.mono (by omega)) rfl (ak (qw 0) aC) (aA aQ))) (rJ rfl (fV (fG 1 tL.nd) (fV (fG 2 tL.nd) oZ))) (rK (gU bf (gU bf rB)))
  (aJ (dh (bJ RT QC (qw 2) xZ (bx _))
  (aJ (jD (pv 1)))
  bT)))
  (aJ (bH xZ)))⟩
theorem Iu (F:aZ K mg "lack_of" mq ["names", "pairs"]) (D_all_above:qp P w K mg base) (D_all_beneath:rQ P w K mg base) (D_unbound:Ik P w K mg base):bB P w K mg base "lack_of" 4 ["names", "pairs"] (bM K 2 ou):=
 F.ok (k:=3) tM fun f cdv A outer s H E hr=>⟨_,fun _ _=>rfl,(aB (d9 2 tM.nd (bL D_unbound (hr.mono (by omega)) rfl (ak (O4 (bL D_all_above (hr.mono (by omega)) rfl (ak (qw 0) (ak (qw 1) aC)) (aA (aA aQ)))) aC) (aA aQ)))
  (aB (dh (bJ vd tB (qw 2) xZ (bx _))
  (aJ (bH (qR (ak jm (ak (qI (qw 2)) (ak (qI (qw 2)) aC))))))
  bT)
  (aB (d9 2 tM.nd (bL D_unbound (hr.mono (by omega)) rfl (ak (O4 (bL D_all_beneath (hr.mono (by omega)) rfl (ak (qw 0) (ak (qw 1) aC)) (aA (aA aQ)))) aC) (aA aQ)))
  (aB (dh (bJ vd tB (qw 2) xZ (bx _))
  (aJ (bH (qR (ak jm (ak (qI (qw 2)) (ak (qI (qw 2)) aC))))))
  bT)
  (aJ (bH xZ))))))⟩
theorem yu (F:aZ K mg "refuse_names" gm ["names", "pairs"]) (D_is_name:Ih P w K mg base):bB P w K mg base "refuse_names" 2 ["names", "pairs"] (bM K 2 kI):=
 F.ok (k:=1) jQ fun f cdv A outer s H E hr=>⟨_,fun _ _=>rfl,(aB (lu PassesOwn.never rfl (dR (qw 0)) (fG 2 jQ.nd) bf
  (aB (dh (uA (ig (bL D_is_name (hr.mono (by omega)) rfl (ak (qw 2) aC) (aA aQ)) (fun _=>rfl)))
  (aJ ph)
  bT)
  (aJ (dh (bJ Hd De (T8 (sI PySem.F.plainAttrs_list PySem.F.slot_list_count PySem.F.type_list_count (Nh hr) (qw 0) (ak (qw 2) aC))) bw (bx _))
  (aJ ph)
  bT))))
  (aJ (lu PassesOwn.never rfl (dR (qw 1)) (rJ rfl (fV (fG 3 jQ.nd) (fV (fG 4 jQ.nd) oZ))) (rK (gU bf (gU bf rB)))
  (aJ (dh (PW.pt (qJ (bJ (lQ hr) o9 (qw 3) (qw 0) (by with_unfolding_all rfl)) (uz (bJ (lQ hr) o9 (qw 4) (qw 0) (by with_unfolding_all rfl)))))
  (aJ ph)
  bT)))))⟩
theorem yw (F:aZ K mg "refuse_order" gn ["names", "pairs"]) (D_lack_of:Il P w K mg base) (D_ring_of:Ii P w K mg base):bB P w K mg base "refuse_order" 5 ["names", "pairs"] (bM K 2 kJ):=
 F.ok (k:=4) mV fun f cdv A outer s H E hr=>⟨_,fun _ _=>rfl,(aB (dh (uA (ig (qw 0) (fun _=>rfl)))
  (aJ ph)
  bT)
  (aB (d9 2 mV.nd (bL D_ring_of (hr.mono (by omega)) rfl (ak (qw 0) (ak (qw 1) aC)) (aA (aA aQ))))
  (aB (dh (bJ vd tB (qw 2) xZ (bx _))
  (aJ ph)
  bT)
  (aB (d9 3 mV.nd (bL D_lack_of (hr.mono (by omega)) rfl (ak (qw 0) (ak (qw 1) aC)) (aA (aA aQ))))
  (aJ (dh (bJ vd tB (qw 3) xZ (bx _))
  (aJ ph)
  bT))))))⟩
theorem yx (F:aZ K mg "_law_cell_at" gq ["_law_script", "_law_k"]):bB P w K mg base "_law_cell_at" 1 ["_law_script", "_law_k"] (bM K 2 bK):=
 F.ok (k:=0) yg fun f cdv A outer s H E hr=>⟨_,fun _ _=>rfl,(aB (dh (bJ Bu xP (qw 1) (qL (lE B) (qw 0)) (bx _))
  (aJ (bH (cu dj cB (kZ (qw 0) (qw 1) (fun _ _=>rfl)) bw)))
  bT)
  (aJ (bH bw)))⟩
theorem Bp (F:aZ K mg "_law_names" fH ["_law_cell", "_law_count"]):bB P w K mg base "_law_names" 1 ["_law_cell", "_law_count"] (bM K 2 j6):=
 F.ok (k:=0) dD fun f cdv A outer s H E hr=>⟨_,fun _ _=>rfl,(aB (xx (i:=2) dD.nd rfl (Or.inr rfl) jm)
  (aB (d9 3 dD.nd (uy aC))
  (aB (dh (bJ (dN hr) dO (cu dj cB (qw 0) bw) bw (bx _))
  (aB (d9 4 dD.nd (O3 (sI PySem.F.plainAttrs_str PySem.F.slot_str_join PySem.F.type_str_join Gh jm (ak (nJ ["_law_j"] ["_law_letters", "_law_cell"] [2,0] rfl (qe (aq fH)) (nU rfl (pD B) (ak bw aC)) (fun _ _ _ _=>(fG 0 (show (["_law_j", "_law_letters", "_law_cell"]:List Str).Nodup from by decide +kernel))) bf (fun _ _ _ _=>ju) (fun _ _ _ _=>(kZ (qw 1) (cu dj cB (cu gW gY (cu dI cX (qw 2) bw) (cu wQ vp bw (qw 0))) bw) (fun _ _=>rfl)))) aC))))
  (aB (lu PassesOwn.never rfl (nU rfl (pD B) (ak (qw 1) aC)) (fG 5 dD.nd) bf
  (aJ (HY (pv 3) (lV (qw 4) (iY (cu dj cB (qw 5) bw)) (iY (cu gW gY (cu gW gY (cu dj cB (qw 5) bw) bw) (cu dI cX (qw 5) bw)))))))
  (aJ (jD (pv 3)))))
  bT)
  (aB (d9 6 dD.nd (kZ (uy (ak bw (ak bw (ak bw (ak bw (ak bw (ak bw (ak bw aC)))))))) (cu dj cB (cu dI cX (qw 0) bw) bw) (fun _ _=>rfl)))
  (aB (d9 7 dD.nd (cu dj cB (cu dI cX (qw 0) bw) (qw 6)))
  (aB (lu PassesOwn.never rfl (nU rfl (pD B) (ak (qw 1) aC)) (fG 5 dD.nd) bf
  (aB (rC (i:=8) ["_law_j"] ["_law_letters", "_law_cell"] [2,0] dD.nd rfl rfl rfl (qe (aq fH)) (nU rfl (pD B) (ak (qw 6) aC)) (fun _ _ _ _=>(fG 0 (show (["_law_j", "_law_letters", "_law_cell"]:List Str).Nodup from by decide +kernel))) bf (fun _ _ _ _=>ju) (fun _ _ _ _=>(kZ (qw 1) (cu dj cB (cu gW gY (cu dI cX (qw 2) (cu gW gY (qw 0) bw)) (cu wQ vp (qw 0) (qw 0))) bw) (fun _ _=>rfl))))
  (aB (Gg (uc (kZ (qw 2) (cu dj cB (cu gW gY (cu dI cX (qw 0) bw) (qw 5)) bw) (fun _ _=>rfl)) (wN (pv 8) (qw 7) set_list)))
  (aJ (HY (pv 3) (O3 (sI PySem.F.plainAttrs_str PySem.F.slot_str_join PySem.F.type_str_join Gh jm (ak (qw 8) aC))))))))
  (aJ (jD (pv 3)))))))))⟩
theorem Bq (F:aZ K mg "_law_pairs" eE ["_law_names_here", "_law_chain"]):bB P w K mg base "_law_pairs" 1 ["_law_names_here", "_law_chain"] (bM K 2 j7):=
 F.ok (k:=0) tY fun f cdv A outer s H E hr=>⟨_,fun _ _=>rfl,(aB (dh (PW.pt (qJ (ig (qw 1) (fun _=>rfl)) (uz (bJ Bu xP (qL (lE B) (qw 0)) bw (bx _)))))
  (aJ (bH (nJ ["_law_k"] ["_law_names_here"] [0] rfl (qe (aq eE)) (J1 (Jo rfl (pD B) (ak bw (ak (qL (lE B) (qw 0)) aC)))) (fun _ _ _ _=>(fG 0 (show (["_law_k", "_law_names_here"]:List Str).Nodup from by decide +kernel))) bf (fun _ _ _ _=>ju) (fun _ _ _ _=>(qR (ak (kZ (qw 1) (cu RP QD (qw 0) bw) (fun _ _=>rfl)) (ak (kZ (qw 1) (qw 0) (fun _ _=>rfl)) aC)))))))
  bT)
  (aB (d9 2 tY.nd (lV (qw 0) (iY bw) (iY (ww bw))))
  (aJ (bH (cu gW gY (nJ ["_law_name"] ["_law_names_here"] [0] rfl (qe (aq eE)) (dR (qw 2)) (fun _ _ _ _=>(fG 0 (show (["_law_name", "_law_names_here"]:List Str).Nodup from by decide +kernel))) bf (fun _ _ _ _=>ju) (fun _ _ _ _=>(qR (ak (qI (qw 1)) (ak (qw 0) aC))))) (nJ ["_law_name"] ["_law_names_here"] [0] rfl (qe (aq eE)) (dR (qw 2)) (fun _ _ _ _=>(fG 0 (show (["_law_name", "_law_names_here"]:List Str).Nodup from by decide +kernel))) bf (fun _ _ _ _=>ju) (fun _ _ _ _=>(qR (ak (qw 0) (ak (kZ (qw 1) (ww bw) (fun _ _=>rfl)) aC))))))))))⟩
theorem wH (F:aZ K mg "_law_stranger" fQ ["_law_names_here", "_law_cell"]):bB P w K mg base "_law_stranger" 1 ["_law_names_here", "_law_cell"] (bM K 2 bU):=
 F.ok (k:=0) qm fun f cdv A outer s H E hr=>⟨_,fun _ _=>rfl,(aB (d9 2 qm.nd (kZ (qw 0) (cu dj cB (qw 1) (qL (lE B) (qw 0))) (fun _ _=>rfl)))
  (aJ (bH (kZ (uy (ak (cu gW gY (qw 2) jm) (ak (lV (qw 2) (iY bw) lR) (ak (cu gW gY jm (qw 2)) (ak (lV (qw 2) lR (iY (ww bw))) (ak jm (ak (Um (Sd PySem.F.plainAttrs_str PySem.F.slot_str_upper PySem.F.type_str_upper Nk (qw 2))) (ak jm aC)))))))) (cu dj cB (cu dI cX (qw 1) bw) bw) (fun _ _=>rfl)))))⟩
theorem wI (F:aZ K mg "_law_is_under" fU ["_law_names_here", "_law_chain", "_law_one", "_law_other"]):bB P w K mg base "_law_is_under" 1 ["_law_names_here", "_law_chain", "_law_one", "_law_other"] (bM K 4 dB):=
 F.ok (k:=0) wD fun f cdv A outer s H E hr=>⟨_,fun _ _=>rfl,(aB (dh (PW.pt (qJ (ig (qw 1) (fun _=>rfl)) (uz (bJ Bu xP (qL (lE B) (qw 0)) bw (bx _)))))
  (aJ (bH (pN Hc Dd (Dp (sI PySem.F.plainAttrs_list PySem.F.slot_list_index PySem.F.type_list_index (wA hr) (qw 0) (ak (qw 2) aC))) (Dp (sI PySem.F.plainAttrs_list PySem.F.slot_list_index PySem.F.type_list_index (wA hr) (qw 0) (ak (qw 3) aC))) (bx _))))
  bT)
  (aJ (bH (VJ (pN (dN hr) dO (qw 2) (qw 3) (bx _)) (VJ (pN (dN hr) dO (qw 2) (qI (qw 0)) (bx _)) (Mz (pN (dN hr) dO (qw 3) (kZ (qw 0) (ww bw) (fun _ _=>rfl)) (bx _))))))))⟩
theorem zM (F:aZ K mg "_law_answer" g8 ["_law_names_here", "_law_chain", "_law_word", "_law_one", "_law_other"]) (D__law_is_under:wG P w K mg base):bB P w K mg base "_law_answer" 2 ["_law_names_here", "_law_chain", "_law_word", "_law_one", "_law_other"] (bM K 5 cL):=
 F.ok (k:=1) zE fun f cdv A outer s H E hr=>⟨_,fun _ _=>rfl,(aB (dh (bJ (dN hr) dO (qw 2) jm (bx _))
  (aJ (bH (bL D__law_is_under (hr.mono (by omega)) rfl (ak (qw 0) (ak (qw 1) (ak (qw 3) (ak (qw 4) aC)))) (aA (aA (aA (aA aQ)))))))
  bT)
  (aB (dh (ig (bL D__law_is_under (hr.mono (by omega)) rfl (ak (qw 0) (ak (qw 1) (ak (qw 3) (ak (qw 4) aC)))) (aA (aA (aA (aA aQ))))) (fun _=>rfl))
  (aJ (bH (Tf (bJ (dN hr) dO (qw 2) jm (bx _)) (qw 4) (qw 3))))
  bT)
  (aB (dh (ig (bL D__law_is_under (hr.mono (by omega)) rfl (ak (qw 0) (ak (qw 1) (ak (qw 4) (ak (qw 3) aC)))) (aA (aA (aA (aA aQ))))) (fun _=>rfl))
  (aJ (bH (Tf (bJ (dN hr) dO (qw 2) jm (bx _)) (qw 3) (qw 4))))
  bT)
  (aJ (bH (Tf (bJ (dN hr) dO (qw 2) jm (bx _)) (kZ (qw 0) (ww bw) (fun _ _=>rfl)) (qI (qw 0))))))))⟩
theorem Fp (F:aZ K mg "_law_due" km ["_law_names_here", "_law_chain", "_law_word", "_law_some_here"]) (D__law_answer:zJ P w K mg base):bB P w K mg base "_law_due" 3 ["_law_names_here", "_law_chain", "_law_word", "_law_some_here"] (bM K 4 jy):=
 F.ok (k:=2) lA fun f cdv A outer s H E hr=>⟨_,fun _ _=>rfl,(aB (lu PassesOwn.never rfl (dR (qw 3)) (fG 4 lA.nd) bf
  (aJ (dh (bJ (lQ hr) o9 (qw 4) (qw 0) (by with_unfolding_all rfl))
  (aJ (bH (qR (ak jm aC))))
  bT)))
  (aB (dh (bJ (uD hr) uE (qw 2) jm (bx _))
  (aJ (bH (bL D__law_answer (hr.mono (by omega)) rfl (ak (qw 0) (ak (qw 1) (ak (qw 2) (ak (qI (qw 3)) (ak (qI (qw 3)) aC))))) (aA (aA (aA (aA (aA aQ))))))))
  bT)
  (aB (d9 5 lA.nd (qI (qw 0)))
  (aB (lu PassesOwn.never rfl (dR (qw 3)) (fG 4 lA.nd) bf
  (aJ (d9 5 lA.nd (bL D__law_answer (hr.mono (by omega)) rfl (ak (qw 0) (ak (qw 1) (ak jm (ak (qw 5) (ak (qw 4) aC))))) (aA (aA (aA (aA (aA aQ)))))))))
  (aJ (jD (pv 5)))))))⟩
theorem oW (F:kO K c_Order "refuse_stranger" "Order.refuse_stranger" bI ["self", "rank"]):MX P w K mg base c_Order "refuse_stranger" 1 ["self", "rank"] aO:=
 F.okX (k:=0) oV fun f cdv A outer s H E hr=>⟨_,fun _ _=>rfl,fun R PX=>(jb (BV (bJ (lQ hr) o9 (qw 1) (qd T_Order (N_Order _ (.head _)) (qw 0)) (by with_unfolding_all rfl))
  (jb (Ko R hr rfl XT_NoName (Ww hr (qw 1) (Wv (by decide) Ue)) (by decide +kernel)))
  vD))⟩
theorem zN (F:kO K c_Order "join" "Order.join" eN ["self", "one", "other"]) (D_Order__refuse_stranger:MX P w K mg base c_Order "refuse_stranger" 1 ["self", "rank"] aO):MX P w K mg base c_Order "join" 2 ["self", "one", "other"] cZ:=
 F.okX (k:=1) zF fun f cdv A outer s H E hr=>⟨_,fun _ _=>rfl,fun R PX=>(gC (pA (jc T_Order D_Order__refuse_stranger PX (hr.mono (by omega)) (qw 0) (ak (qw 1) aC) (jz (aA aQ))))
  (gC (pA (jc T_Order D_Order__refuse_stranger PX (hr.mono (by omega)) (qw 0) (ak (qw 2) aC) (jz (aA aQ))))
  (jb (rP (bH (T7 (lB hr) (qd T_Order (N_Order _ (.tail _ (.tail _ (.head _)))) (qw 0)) (ak (qw 1) (ak (qw 2) aC)) (fun _ _=>rfl)))))))⟩
theorem wJ (F:kO K c_Order "joined" "Order.joined" dz ["self", "some"]) (D_Order__join:MX P w K mg base c_Order "join" 2 ["self", "one", "other"] cZ):MX P w K mg base c_Order "joined" 3 ["self", "some"] iu:=
 F.okX (k:=2) jx fun f cdv A outer s H E hr=>⟨_,fun _ _=>rfl,fun R PX=>(gC (rP (d9 2 jx.nd (qd T_Order (N_Order _ (.tail _ (.tail _ (.tail _ (.tail _ (.head _)))))) (qw 0))))
  (gC (Uj PassesOwn.leaving rfl (dR (qw 1)) (fG 3 jx.nd) bf
  (jb (Ub (i:=2) jx.nd rfl (Or.inl rfl) (jc T_Order D_Order__join PX (hr.mono (by omega)) (qw 0) (ak (qw 2) (ak (qw 3) aC)) (jz (aA (aA aQ)))))))
  (jb (rP (jD (pv 2))))))⟩
theorem zO (F:kO K c_Order "meet" "Order.meet" eO ["self", "one", "other"]) (D_Order__refuse_stranger:MX P w K mg base c_Order "refuse_stranger" 1 ["self", "rank"] aO):MX P w K mg base c_Order "meet" 2 ["self", "one", "other"] jB:=
 F.okX (k:=1) zG fun f cdv A outer s H E hr=>⟨_,fun _ _=>rfl,fun R PX=>(gC (pA (jc T_Order D_Order__refuse_stranger PX (hr.mono (by omega)) (qw 0) (ak (qw 1) aC) (jz (aA aQ))))
  (gC (pA (jc T_Order D_Order__refuse_stranger PX (hr.mono (by omega)) (qw 0) (ak (qw 2) aC) (jz (aA aQ))))
  (jb (rP (bH (T7 (lB hr) (qd T_Order (N_Order _ (.tail _ (.tail _ (.tail _ (.head _))))) (qw 0)) (ak (qw 1) (ak (qw 2) aC)) (fun _ _=>rfl)))))))⟩
theorem yz (F:kO K c_Order "under" "Order.under" dW ["self", "one", "other"]) (D_Order__refuse_stranger:MX P w K mg base c_Order "refuse_stranger" 1 ["self", "rank"] aO):MX P w K mg base c_Order "under" 2 ["self", "one", "other"] jg:=
 F.okX (k:=1) yj fun f cdv A outer s H E hr=>⟨_,fun _ _=>rfl,fun R PX=>(gC (pA (jc T_Order D_Order__refuse_stranger PX (hr.mono (by omega)) (qw 0) (ak (qw 1) aC) (jz (aA aQ))))
  (gC (pA (jc T_Order D_Order__refuse_stranger PX (hr.mono (by omega)) (qw 0) (ak (qw 2) aC) (jz (aA aQ))))
  (jb (rP (bH (pN (pR hr) ni (qw 2) (Av (lB hr) (qd T_Order (N_Order _ (.tail _ (.head _))) (qw 0)) (qw 1) (fun _ _=>rfl)) (by with_unfolding_all rfl)))))))⟩
theorem Br (F:aZ K mg "_law_asked" jd ["_law_order", "_law_word", "_law_some_here"]) (D_Order__join:MX P w K mg base c_Order "join" 2 ["self", "one", "other"] cZ) (D_Order__joined:MX P w K mg base c_Order "joined" 3 ["self", "some"] iu) (D_Order__meet:MX P w K mg base c_Order "meet" 2 ["self", "one", "other"] jB) (D_Order__under:MX P w K mg base c_Order "under" 2 ["self", "one", "other"] jg):DefX P w K mg base "_law_asked" 4 ["_law_order", "_law_word", "_law_some_here"] jh:=
 F.okX (k:=3) Bk fun f cdv A outer s H E hr=>⟨_,fun _ _=>rfl,fun R PX=>(gC (BV (bJ (dN hr) dO (qw 1) jm (bx _))
  (jb (yd (jc T_Order D_Order__under PX (hr.mono (by omega)) (qw 0) (ak (qI (qw 2)) (ak (qI (qw 2)) aC)) (jz (aA (aA aQ))))))
  vD)
  (gC (BV (bJ (dN hr) dO (qw 1) jm (bx _))
  (jb (yd (jc T_Order D_Order__join PX (hr.mono (by omega)) (qw 0) (ak (qI (qw 2)) (ak (qI (qw 2)) aC)) (jz (aA (aA aQ))))))
  vD)
  (gC (BV (bJ (dN hr) dO (qw 1) jm (bx _))
  (jb (yd (jc T_Order D_Order__meet PX (hr.mono (by omega)) (qw 0) (ak (qI (qw 2)) (ak (qI (qw 2)) aC)) (jz (aA (aA aQ))))))
  vD)
  (jb (yd (jc T_Order D_Order__joined PX (hr.mono (by omega)) (qw 0) (ak (qw 2) aC) (jz (aA aQ))))))))⟩
theorem Bs (F:aZ K mg "_law_class" je ["_law_e"]):uB false P w K mg base "_law_class" 1 ["_law_e"] (bM K 1 fK):=
 F.ok (k:=0) tZ fun f cdv A outer s H E hr=>⟨_,fun _ _=>rfl,(aB (d9 1 tZ.nd (uy (ak (wB I_NoText J_NoText (dF (lH pB) (by rfl) (eF B) (by kernel_rfl) (cT (qw 0) (cT (m6 (v:=.ref v_NoText) rfl V_NoText rfl) jV)))) (ak (wB I_NoInput J_NoInput (dF (lH pB) (by rfl) (eF B) (by kernel_rfl) (cT (qw 0) (cT (m6 (v:=.ref v_NoInput) rfl V_NoInput rfl) jV)))) (ak (wB I_NoFit J_NoFit (dF (lH pB) (by rfl) (eF B) (by kernel_rfl) (cT (qw 0) (cT (m6 (v:=.ref v_NoFit) rfl V_NoFit rfl) jV)))) (ak (wB I_NoRow J_NoRow (dF (lH pB) (by rfl) (eF B) (by kernel_rfl) (cT (qw 0) (cT (m6 (v:=.ref v_NoRow) rfl V_NoRow rfl) jV)))) aC))))))
  (aB (dh (PW.pt (qJ (bJ (pR hr) ni (qc wL dm) (qw 1) (by with_unfolding_all rfl)) (qJ (ig (wB I_NoOrder J_NoOrder (dF (lH pB) (by rfl) (eF B) (by kernel_rfl) (cT (qw 0) (cT (m6 (v:=.ref v_NoOrder) rfl V_NoOrder rfl) jV)))) (fun _=>rfl)) (qJ (uA (ig (wB I_NoName J_NoName (dF (lH pB) (by rfl) (eF B) (by kernel_rfl) (cT (qw 0) (cT (m6 (v:=.ref v_NoName) rfl V_NoName rfl) jV)))) (fun _=>rfl))) (uz (uA (ig (wB I_ValueError J_ValueError (dF (lH Ul) (by rfl) (eF B) (by kernel_rfl) (cT (qw 0) (cT (yU (v:=.ty "ValueError") (u:=.type "ValueError") rfl (DN B) (by kernel_rfl) rfl) jV)))) (fun _=>rfl))))))))
  (aJ (bH (qR (ak jm aC))))
  bT)
  (aJ (bH (qR (ak jm aC))))))⟩
theorem DW (F:aZ K mg "_law_told" jF ["_law_order", "_law_word", "_law_some_here"]) (D__law_asked:DefX P w K mg base "_law_asked" 4 ["_law_order", "_law_word", "_law_some_here"] jh) (D__law_class:Bo P w K mg base):bB P w K mg base "_law_told" 5 ["_law_order", "_law_word", "_law_some_here"] (bM K 3 jG):=
 F.ok (k:=4) mW fun f cdv A outer s H E hr=>⟨_,fun _ _=>rfl,(aB (Ui rfl rfl (fun pins σ xe E hp=>(Ug (i:=3) mW.nd rfl (Or.inl rfl) (QR D__law_asked hp (hr.mono (by omega)) rfl (ak (qw 0) (ak (qw 1) (ak (qw 2) aC))) (aA (aA (aA aQ)))))) (Vp (i:=4) mW.nd rfl rfl rfl XT_HushError Y_HushError Z_HushError (fun e=>(aJ (d9 3 mW.nd (bL D__law_class ((hr.mono (by omega)).mark _) rfl (ak (qw 4) aC) (aA aQ))))) Uh))
  (aJ (jD (pv 3))))⟩
theorem DX (F:aZ K mg "_law_some" iC ["_law_names_here", "_law_cell"]) (D__law_stranger:wF P w K mg base):bB P w K mg base "_law_some" 2 ["_law_names_here", "_law_cell"] (bM K 2 jH):=
 F.ok (k:=1) jf fun f cdv A outer s H E hr=>⟨_,fun _ _=>rfl,(aB (d9 2 jf.nd bw)
  (aB (d9 3 jf.nd (kZ (uy (ak jm (ak jm (ak jm (ak jm aC))))) (cu dj cB (qw 1) bw) (fun _ _=>rfl)))
  (aB (dh (bJ (dN hr) dO (qw 3) jm (bx _))
  (aJ (d9 2 jf.nd (cu dj cB (cu dI cX (qw 1) bw) bw)))
  bT)
  (aB (rC (i:=4) ["_law_k"] ["_law_names_here", "_law_cell"] [0,1] jf.nd rfl rfl rfl (qe (aq iC)) (nU rfl (pD B) (ak (qw 2) aC)) (fun _ _ _ _=>(fG 0 (show (["_law_k", "_law_names_here", "_law_cell"]:List Str).Nodup from by decide +kernel))) bf (fun _ _ _ _=>ju) (fun _ _ _ _=>(kZ (qw 1) (cu dj cB (cu dI cX (qw 2) (cu gW gY bw (cu wQ vp bw (qw 0)))) (qL (lE B) (qw 1))) (fun _ _=>rfl))))
  (aB (dh (PW.pt (xn (bJ Hd De (cu dj cB (cu dI cX (qw 1) bw) bw) bw (bx _)) (zg (bJ Hd De (qw 2) bw (bx _)))))
  (aB (Gg (uc (bL D__law_stranger (hr.mono (by omega)) rfl (ak (qw 0) (ak (cu dI cX (qw 1) bw) aC)) (aA (aA aQ))) (wN (pv 4) (cu dj cB (cu dI cX (qw 1) bw) (qw 2)) set_list)))
  (aJ (dh (bJ (dN hr) dO (cu dj cB (cu dI cX (qw 1) bw) bw) bw (bx _))
  (aJ (d9 4 jf.nd (Vm (uy (ak (bL D__law_stranger (hr.mono (by omega)) rfl (ak (qw 0) (ak (cu dI cX (qw 1) bw) aC)) (aA (aA aQ))) aC)) (qw 2))))
  bT)))
  bT)
  (aJ (bH (qR (ak (qw 3) (ak (qw 4) aC))))))))))⟩
theorem uR (F:kO K c_Order "__init__" "Order.__init__" bW ["self", "names", "pairs"]) (D_all_above:qp P w K mg base) (D_all_beneath:rQ P w K mg base) (D_bounds:Ax P w K mg base) (D_refuse_names:yo P w K mg base) (D_refuse_order:yp P w K mg base):uK P w K mg base c_Order "__init__" 6 ["self", "names", "pairs"] (bM K 3 fY):=
 F.ok (k:=5) uM fun f cdv A outer s H E hr=>⟨_,fun _ _=>rfl,(aB (FZ (bL D_refuse_names (hr.mono (by omega)) rfl (ak (qw 1) (ak (qw 2) aC)) (aA (aA aQ))))
  (aB (FZ (bL D_refuse_order (hr.mono (by omega)) rfl (ak (qw 1) (ak (qw 2) aC)) (aA (aA aQ))))
  (aB (pq T_Order (N_Order _ (.head _)) (qw 0) (PE.imp (nT jX (by rfl) (uO B) (by kernel_rfl) (ak (qw 1) aC)) (rF rG)))
  (aB (pq T_Order (N_Order _ (.tail _ (.head _))) (qw 0) (O4 (bL D_all_above (hr.mono (by omega)) rfl (ak (qw 1) (ak (qw 2) aC)) (aA (aA aQ)))))
  (aB (pq T_Order (N_Order _ (.tail _ (.tail _ (.head _)))) (qw 0) (bL D_bounds (hr.mono (by omega)) rfl (ak (qd T_Order (N_Order _ (.tail _ (.head _))) (qw 0)) aC) (aA aQ)))
  (aB (pq T_Order (N_Order _ (.tail _ (.tail _ (.tail _ (.head _))))) (qw 0) (bL D_bounds (hr.mono (by omega)) rfl (ak (O4 (bL D_all_beneath (hr.mono (by omega)) rfl (ak (qw 1) (ak (qw 2) aC)) (aA (aA aQ)))) aC) (aA aQ)))
  (aB (pq T_Order (N_Order _ (.tail _ (.tail _ (.tail _ (.tail _ (.head _)))))) (qw 0) (Av (lB hr) (nJ ["name"] ["self", "names"] [0,1] rfl (qe (aq bW)) (dR (qw 1)) (fun _ _ _ _=>(fG 0 (show (["name", "self", "names"]:List Str).Nodup from by decide +kernel))) bf (fun _ _ _ _=>(m8 (bJ (Kf hr) Gr (Nb (dF pH (by rfl) (lE B) PySem.boot_len (ak (Av (lB hr) (qd T_Order (N_Order _ (.tail _ (.head _))) (qw 1)) (qw 0) (fun _ _=>rfl)) aC))) (Nb (dF pH (by rfl) (lE B) PySem.boot_len (ak (qw 2) aC))) (bx _)))) (fun _ _ _ _=>(qw 0))) bw (fun _ _=>rfl)))
  (aJ (pq T_Order (N_Order _ (.tail _ (.tail _ (.tail _ (.tail _ (.tail _ (.head _))))))) (qw 0) (Av (lB hr) (nJ ["name"] ["self"] [0] rfl (qe (aq bW)) (dR (qw 1)) (fun _ _ _ _=>(fG 0 (show (["name", "self"]:List Str).Nodup from by decide +kernel))) bf (fun _ _ _ _=>(m8 (bJ (Kf hr) Gr (Nb (dF pH (by rfl) (lE B) PySem.boot_len (ak (Av (lB hr) (qd T_Order (N_Order _ (.tail _ (.head _))) (qw 1)) (qw 0) (fun _ _=>rfl)) aC))) bw (bx _)))) (fun _ _ _ _=>(qw 0))) bw (fun _ _=>rfl)))))))))))⟩
theorem uT (F:kO K c_Order "greatest" "Order.greatest" cN ["self"]):uK P w K mg base c_Order "greatest" 1 ["self"] (bM K 1 fZ):=
 F.ok (k:=0) uN fun f cdv A outer s H E hr=>⟨_,fun _ _=>rfl,(aJ (bH (qd T_Order (N_Order _ (.tail _ (.tail _ (.tail _ (.tail _ (.tail _ (.head _))))))) (qw 0))))⟩
theorem yC (F:kO K c_Order "least" "Order.least" dX ["self"]):uK P w K mg base c_Order "least" 1 ["self"] (bM K 1 ji):=
 F.ok (k:=0) ym fun f cdv A outer s H E hr=>⟨_,fun _ _=>rfl,(aJ (bH (qd T_Order (N_Order _ (.tail _ (.tail _ (.tail _ (.tail _ (.head _)))))) (qw 0))))⟩
theorem yD (F:kO K c_Order "ranks" "Order.ranks" dU ["self"]):uK P w K mg base c_Order "ranks" 1 ["self"] (bM K 1 jj):=
 F.ok (k:=0) yh fun f cdv A outer s H E hr=>⟨_,fun _ _=>rfl,(aJ (bH (PE.imp (nT jX (by rfl) (uO B) (by kernel_rfl) (ak (qd T_Order (N_Order _ (.head _)) (qw 0)) aC)) (rF rG))))⟩
theorem Uo {f:Addr} {fd:FuncData} (F:m5 K "law" "law" nR f fd) (D_Order____init__:uP P w K mg base c_Order) (D_Order__greatest:uQ P w K mg base c_Order) (D_Order__least:yr P w K mg base c_Order) (D_Order__ranks:yt P w K mg base c_Order) (D__law_cell_at:yq P w K mg base) (D__law_due:Fo P w K mg base) (D__law_names:Bl P w K mg base) (D__law_pairs:Bm P w K mg base) (D__law_some:DQ P w K mg base) (D__law_told:DP P w K mg base):jr P w K mg base mZ 8 f fd ["_law_script"] (bM K 1 Ig):=
 m5.okP (k:=7) F gD fun cdv A outer s H E hr=>⟨_,fun _ _=>rfl,(aB (d9 1 gD.nd (cu gW gY bw (cu dj cB (bL D__law_cell_at (hr.mono (by omega)) rfl (ak (qw 0) (ak bw aC)) (aA (aA aQ))) bw)))
  (aB (d9 2 gD.nd (pN (dN hr) dO (cu dj cB (cu dI cX (bL D__law_cell_at (hr.mono (by omega)) rfl (ak (qw 0) (ak bw aC)) (aA (aA aQ))) bw) bw) bw (bx _)))
  (aB (d9 3 gD.nd (bL D__law_names (hr.mono (by omega)) rfl (ak (cu dI cX (bL D__law_cell_at (hr.mono (by omega)) rfl (ak (qw 0) (ak bw aC)) (aA (aA aQ))) bw) (ak (qw 1) aC)) (aA (aA aQ))))
  (aB (d9 4 gD.nd (cu dj cB (bL D__law_cell_at (hr.mono (by omega)) rfl (ak (qw 0) (ak bw aC)) (aA (aA aQ))) (qw 1)))
  (aB (d9 5 gD.nd (cu gW gY (lV (qw 3) (iY (qw 4)) lR) (lV (qw 3) lR (iY (qw 4)))))
  (aB (d9 6 gD.nd (bL D__law_pairs (hr.mono (by omega)) rfl (ak (qw 3) (ak (qw 2) aC)) (aA (aA aQ))))
  (aB (dh (bJ (dN hr) dO (cu dj cB (cu dI cX (bL D__law_cell_at (hr.mono (by omega)) rfl (ak (qw 0) (ak bw aC)) (aA (aA aQ))) bw) bw) bw (bx _))
  (aJ (d9 6 gD.nd (QQ (qw 6) lR lR (iY (ww bw)))))
  bT)
  (aB (d9 7 gD.nd (Vn T_Order D_Order____init__ (hr.mono (by omega)) rfl (ak (PE.imp (nT jX (by rfl) (uO B) (by kernel_rfl) (ak (qw 5) aC)) (rF rG)) (ak (qw 6) aC)) (jz (aA (aA aQ)))))
  (aB (lu PassesOwn.never rfl (dR (lV (qw 0) lR (iY bw))) (fG 8 gD.nd) bf
  (aB (Tg (bL D__law_some (hr.mono (by omega)) rfl (ak (qw 3) (ak (cu dj cB (cu wQ vp (qw 8) bw) bw) aC)) (aA (aA aQ))) (rJ rfl (fV (fG 9 gD.nd) (fV (fG 10 gD.nd) oZ))) (rK (gU bf (gU bf rB))))
  (aB (d9 11 gD.nd (PE.imp (nT jX (by rfl) (uO B) (by kernel_rfl) (ak (qw 10) aC)) (rF rG)))
  (aB (d9 12 gD.nd (bL D__law_told (hr.mono (by omega)) rfl (ak (qw 7) (ak (qw 9) (ak (qw 11) aC))) (aA (aA (aA aQ)))))
  (aB (d9 13 gD.nd (bL D__law_due (hr.mono (by omega)) rfl (ak (qw 3) (ak (qw 2) (ak (qw 9) (ak (qw 10) aC)))) (aA (aA (aA (aA aQ))))))
  (aJ (dh (PW.pt (qJ (bJ (uD hr) uE (VP (dF vR (by rfl) (eF B) (by kernel_rfl) (cT (qw 12) (cT (yU (v:=.ty "bool") (u:=.type "bool") rfl (Kw B) (by kernel_rfl) rfl) jV)))) (VP (dF vR (by rfl) (eF B) (by kernel_rfl) (cT (qw 13) (cT (yU (v:=.ty "bool") (u:=.type "bool") rfl (Kw B) (by kernel_rfl) rfl) jV)))) (bx _)) (qJ (bJ (uD hr) uE (qw 12) (qw 13) (bx _)) (uz (bJ (uD hr) uE (qw 11) (qw 10) (bx _))))))
  (aJ (bH (qc wL dm)))
  bT)))))))
  (aJ (bH (MF (pN (dN hr) dO (Dt T_Order D_Order__ranks (hr.mono (by omega)) (qw 7) rfl) (qw 5) (bx _)) (MF (pN (dN hr) dO (Dt T_Order D_Order__least (hr.mono (by omega)) (qw 7) rfl) (qI (qw 3)) (bx _)) (Mz (pN (dN hr) dO (Dt T_Order D_Order__greatest (hr.mono (by omega)) (qw 7) rfl) (kZ (qw 3) (ww bw) (fun _ _=>rfl)) (bx _))))))))))))))))⟩
end
local macro_rules | `(tactic| walk_at "op")=>`(tactic| first | exact rfl | exact modP_go rfl rfl (by omega) | exact fdivP_go rfl rfl (by omega) (by omega) | exact Do rfl rfl (by omega) (by omega) | exact Dn rfl rfl (by omega) (by omega) | assumption)
local macro_rules | `(tactic| walk_at "ev")=>`(tactic| first
 | ((with_reducible refine' aM ?h1 ?h2 ?h3 ?h4 ?h5); (case h1=>walk_at "ev"); (case h2=>exact rfl); (case h3=>walk_at "ev"); (case h4=>exact rfl); (case h5=>walk_at "op"))
 | ((with_reducible refine' aD ?h1 ?h2); (case h1=>walk_at "ev"); (case h2=>walk_at "ev"))
 | ((with_reducible refine' aY ?h1 ?h2 ?h3); (case h1=>walk_at "ev"); (case h2=>exact rfl); (case h3=>exact rfl))
 | ((with_reducible refine' cI ?h1); (case h1=>walk_at "ev"))
 | ((with_reducible refine' az ?h1 ?h2); (case h1=>walk_at "ev"); (case h2=>walk_at "ev"))
 | ((with_reducible refine' aW ?h1 ?h2 ?h3 ?h4 ?h5); (case h1=>walk_at "ev"); (case h2=>exact rfl); (case h3=>exact rfl); (case h4=>exact rfl); (case h5=>walk_at "call"))
 | ((with_reducible refine' M9 ?h1 ?h2 ?h3); (case h1=>walk_at "ev"); (case h2=>exact rfl); (case h3=>walk_at "op"))
 | ((with_reducible refine' bG ?h1 ?h2 ?h3); (case h1=>walk_at "ev"); (case h2=>exact rfl); (case h3=>exact rfl))
 | ((with_reducible refine' rN ?h1); (case h1=>walk_at "ev"))
 | ((with_reducible refine' uI ?h1 ?h2); (case h1=>walk_at "ev"); (case h2=>walk_at "ev"))
 | ((with_reducible refine' qM ?h1 ?h2); (case h1=>walk_at "ev"); (case h2=>walk_at "ev"))
 | ((with_reducible refine' wz ?h1); (case h1=>walk_at "ev"))
 | ((with_reducible refine' Dm ?h1 ?h2); (case h1=>walk_at "ev"); (case h2=>exact rfl))
 | ((with_reducible refine' pX ?h1 ?h2 ?h3); (case h1=>walk_at "ev"); (case h2=>exact rfl); (case h3=>exact rfl))
 | ((with_reducible refine' pY ?h1 ?h2 ?h3); (case h1=>walk_at "ev"); (case h2=>exact rfl); (case h3=>exact rfl))
 | ((with_reducible refine' newc_go ?h1 ?h2 ?h3 ?h4); (case h1=>walk_at "ev"); (case h2=>exact rfl); (case h3=>exact rfl); (case h4=>exact rfl))
 | ((with_reducible refine' is_go ?h1 ?h2 ?h3); (case h1=>walk_at "ev"); (case h2=>exact rfl); (case h3=>exact rfl))
 | ((with_reducible refine' fD ?h1 ?h2 ?h3); (case h1=>walk_at "ev"); (case h2=>exact rfl); (case h3=>exact rfl))
 | exact rfl
 | assumption)
local macro_rules | `(tactic| walk_at "call")=>`(tactic| first | assumption | exact rfl)
noncomputable abbrev SS (xs:List Str):List PV:=xs.map .str
noncomputable abbrev PP (ps:List (Str×Str)):List PV:=ps.map fun x=>.tup [.str x.1,.str x.2]
noncomputable abbrev zS (x:List Str):Option Lc:=some (.sh (.lst (SS x)))
noncomputable abbrev zP (x:List (Str×Str)):Option Lc:=some (.sh (.lst (PP x)))
noncomputable abbrev zI (x:Int):Option Lc:=some (.sh (.int x))
noncomputable abbrev zT (x:Str):Option Lc:=some (.sh (.str x))
noncomputable abbrev wS (x:List Str):Lc:=.sh (.lst (SS x))
noncomputable abbrev yL (x:List PV):Option Lc:=some (.sh (.lst x))
noncomputable abbrev yO (x:List PV):Option Lc:=some (.own (.lst x))
noncomputable abbrev yS (x:PV):Option Lc:=some (.sh x)
noncomputable def has (xs:List Str) (x:Str):Bool:=xs.any fun y=>y==x
theorem bh {xs:List Str} {x:Str}:has xs x=true ↔ x∈xs:=by
 unfold has
 rw [List.any_eq_true]
 constructor
 . rintro ⟨y,hy,e⟩
   rw [← eq_of_beq e]; exact hy
 . intro h; exact ⟨x,h,by simp⟩
theorem mX {xs:List Str} {x:Str}:has xs x=false ↔ x∉xs:=by rw [← bh]; simp
theorem in_str {x:Str}:∀ xs:List Str,jJ (bC 150) (.str x) (SS xs)=some (has xs x)
 | []=>rfl
 | y::ys=>by
  show (some (y==x)).bind (fun b=>(jJ (bC 150) (.str x) (SS ys)).map fun c=>b||c)=_
  rw [in_str ys]
  rfl
theorem yE {xs:List Str} {x:Str}:iW (.str x) (.lst (SS xs))=yS (.bl (has xs x)):=by
 show (jJ (bC 150) (.str x) (SS xs)).map _=_
 rw [in_str]; rfl
theorem rR {xs:List Str} {x:Str}:kY (.str x) (.lst (SS xs))=yS (.bl (!has xs x)):=by
 show (jJ (bC 150) (.str x) (SS xs)).map _=_
 rw [in_str]; rfl
theorem Up {ns:List Int} {i:Int} (h0:0<=i) (h1:i<ns.length):∃ c∈ns,pU (.lst (ns.map .int)) (.int i)=zI c:=by
 obtain ⟨x,e,e2⟩:=wy (l:=ns.map PV.int) (i:=i) h0 (by rw [List.length_map]; exact h1)
 rw [List.getElem?_map] at e2
 obtain ⟨c,hc,rfl⟩:=map_some e2
 exact ⟨c,List.mem_of_getElem? hc,by show (gj (ns.map PV.int) i).map _=_; rw [e]; rfl⟩
theorem cell_eq {ns:List Int} {k:Int} {mu:Mu} (h0:0<=k):∃ c,0<=c/\bK [.lst (ns.map .int),.int k] mu=some (.sh (.int c),mu):=by
 have t:tT (au uF (aa 1) (eB fB (aj (aa 0) ao))) aU (env0 2 [.lst (ns.map .int),.int k] mu)=some (decide (k<(ns.map PV.int).length),⟨[yL (ns.map .int),zI k],mu⟩):=rfl
 by_cases h:k<(ns.map PV.int).length
 . obtain ⟨c,_,e⟩:=Up (ns:=ns) h0 (by rw [List.length_map] at h; exact h)
   exact ⟨c%1000000007,Int.emod_nonneg _ (by decide),aX (ρ:=⟨[yL (ns.map .int),zI k],mu⟩) (fP ((gf (t.trans (by rw [decide_eq_true h]))).trans (cI (aM (iM (l:=.sh (.lst (ns.map .int))) (m:=.sh (.int k)) rfl rfl rfl rfl (fun n h=>by cases h) e) rfl rfl rfl (du (by decide))))))⟩
 . exact ⟨0,by decide,aX (ρ:=⟨[yL (ns.map .int),zI k],mu⟩) (aD ((cD (t.trans (by rw [decide_eq_false h]))).trans rfl) rfl)⟩
noncomputable abbrev LET:Str := "abcdefghijklmnopqrstuvwxyz"
noncomputable def LE (i:Int):Nat:=97+(i%26).toNat
noncomputable abbrev one (c:Nat):Str:=⟨#[c]⟩
theorem DY (i:Int):pU (.str LET) (.int (i%26))=zT (one (LE i)):=by
 unfold LE
 have h0:=Int.emod_nonneg i (b:=26) (by decide)
 have h1:=Int.emod_lt_of_pos i (b:=26) (by decide)
 generalize i%26=r at h0 h1
 obtain ⟨n,rfl⟩:=Int.eq_ofNat_of_zero_le h0
 have h2:n<26:=by omega
 have:∀ n:Nat,n<26->(match pU (.str LET) (.int (n:Int)) with | some (.sh (.str x))=>x.cps.toList==[97+n] | _=>false)=true:=by decide +kernel
 have h3:=this n h2
 split at h3
 . rename_i x e
   rw [e]
   have h4:x.cps.toList=[97+n]:=by simpa using h3
   have h5:x=one (97+n):=by
    cases x with | mk cps=>
    show Str.mk cps=Str.mk #[97+n]
    congr 1
    exact Array.toList_inj.mp h4
   rw [h5]
   rfl
 . cases h3
theorem Iv:∀ cs:List Nat,Txt.join "" (cs.map one)=⟨cs.toArray⟩:=by
 intro cs
 unfold Txt.join
 rw [StrLaws.glued_eq_join]
 induction cs with
 | nil=>rfl
 | cons c cs ih=>
  cases cs with
  | nil=>rfl
  | cons d cs=>
   show (one c ++ "" ++ Str.join "" ((d::cs).map one):Str)=_
   rw [ih]
   show Str.mk ((#[c]++#[])++(d::cs).toArray)=_
   simp
theorem strs_map:∀ xs:List Str,strsOf (SS xs)=some xs
 | []=>rfl
 | x::xs=>by
  show (strsOf (SS xs)).map _=_
  rw [strs_map xs]
  rfl
theorem Gw:∀ cs:List Nat,((cs.map one).map (·.length)).sum=cs.length
 | []=>rfl
 | c::cs=>by rw [List.map_cons,List.map_cons,List.sum_cons,Gw cs,List.length_cons]; show 1+_=_; omega
theorem Gx {fa:EF} {ρ ρ1:Ev} {m:Lc} {cs:List Nat} (h:fa ρ=some (m,ρ1)) (hm:m.pv=.lst (SS (cs.map one))) (hl:cs.length<=100):nP (eC (.str "")) (aj fa ao) ρ=some (.sh (.str ⟨cs.toArray⟩),ρ1):=by
 rw [← Iv]
 refine M8 rfl (az h rfl) rfl hm (strs_map _) ?_
 rw [Gw,List.length_map,show ("" : Str).length=0 from rfl]
 omega
theorem letters {elt:EF} {c k:Int} {mu:Mu} {g:Nat->Nat} (hk0:0<=k) (hk:k<100) (he:∀ i:Nat,(i:Int)<k->elt ⟨[zI (0+i),zT LET,zI c],mu⟩=some (.sh (.str (one (g i))),⟨[zI (0+i),zT LET,zI c],mu⟩)):
 fO (aF 0) cM elt (fW 0 k.toNat) ⟨[none,zT LET,zI c],mu⟩ []=some (SS (((List.range k.toNat).map g).map one),mu):=by
 have:=nY (b:=aF 0) (te:=elt) (mu:=mu) (fun ρ=>∃ o,ρ=⟨[o,zT LET,zI c],mu⟩) (fun ρ ⟨o,e⟩=>by rw [e]) (fun p=>match p with | .int i=>.str (one (g i.toNat)) | _=>.non)
  (xs:=fW 0 k.toNat) (ρ:=⟨[none,zT LET,zI c],mu⟩) ⟨none,rfl⟩ (by rw [lU]; omega) (by
    rintro x hx ρ ⟨o,rfl⟩
    obtain ⟨i,hi,rfl⟩:=zm hx
    refine ⟨_,rfl,_,_,he i (by omega),?_,_,rfl⟩
    show PV.str _=PV.str (one (g (0+(i:Int)).toNat))
    rw [Int.zero_add,Int.toNat_natCast]) (by
    rintro x hx ρ ρ1 ⟨o,rfl⟩ e
    cases e
    exact ⟨_,rfl⟩)
 rw [this]
 congr 2
 unfold fW SS
 rw [List.map_map,List.map_map,List.map_map]
 refine List.map_congr_left fun i _=>?_
 show PV.str (one (g (0+(i:Int)).toNat))=PV.str (one (g i))
 rw [Int.zero_add,Int.toNat_natCast]
theorem Vs {c:Int}:∃ m:Int,0<m/\m<=8/\pU (.lst [.int 1,.int 2,.int 3,.int 5,.int 6,.int 7,.int 8]) (.int (c%7))=zI m:=by
 have h0:=Int.emod_nonneg c (b:=7) (by decide)
 have h1:=Int.emod_lt_of_pos c (b:=7) (by decide)
 generalize c%7=r at h0 h1
 rcases (by omega:r=0\/r=1\/r=2\/r=3\/r=4\/r=5\/r=6) with rfl | rfl | rfl | rfl | rfl | rfl | rfl
 . exact ⟨1,by decide,by decide,rfl⟩
 . exact ⟨2,by decide,by decide,rfl⟩
 . exact ⟨3,by decide,by decide,rfl⟩
 . exact ⟨5,by decide,by decide,rfl⟩
 . exact ⟨6,by decide,by decide,rfl⟩
 . exact ⟨7,by decide,by decide,rfl⟩
 . exact ⟨8,by decide,by decide,rfl⟩
theorem Ea {xs:List Str} {x:Str}:SS xs++[.str x]=SS (xs++[x]):=by show _=List.map PV.str (xs++[x]); rw [List.map_append]; rfl
noncomputable abbrev NE (c n:Int) (l3 o4 o5 o6 o7 o8:Option Lc) (mu:Mu):Ev:=⟨[zI c,zI n,zT LET,l3,o4,o5,o6,o7,o8],mu⟩
theorem qW {nm:Nat->Str}:∀ {n:Nat},(∀ i j,i<n->j<n->nm i=nm j->i=j)->((List.range n).map nm).Nodup
 | 0,_=>by simp
 | n+1,h=>by
  rw [List.range_succ,List.map_append,List.map_singleton]
  refine List.nodup_append.mpr ⟨qW fun i j hi hj=>h i j (by omega) (by omega),by simp,?_⟩
  rintro a ha b hb e
  obtain ⟨i,hi,rfl⟩:=List.mem_map.mp ha
  have hb':b=nm n:=by simpa using hb
  rw [hb'] at e
  have h1:=List.mem_range.mp hi
  have:=h i n (by omega) (by omega) e
  omega
noncomputable def cO (d:Int):List Nat:=(List.range 10).map fun i:Nat=>LE (d/2+3*(0+i))
noncomputable def vV (d:Int) (k:Nat):Str:=dM ⟨(cO d).toArray⟩ (some ((0+k:Int)%5)) (some ((0+k:Int)%5+1+(0+k:Int)/5))
theorem QT {d:Int}:∀ i j,i<8->j<8->vV d i=vV d j->i=j:=by
 have key:∀ k,k<8->(vV d k).cps.toList=((cO d).drop (k%5)).take (1+k/5):=by
  intro k hk
  rcases (by omega:k=0\/k=1\/k=2\/k=3\/k=4\/k=5\/k=6\/k=7) with rfl | rfl | rfl | rfl | rfl | rfl | rfl | rfl<;>rfl
 have hl:(cO d).length=10:=by unfold cO; rw [List.length_map,List.length_range]
 have hh:∀ k,k<8->(vV d k).cps.toList.length=1+k/5/\(vV d k).cps.toList[0]?=some (LE (d/2+3*(0+((k%5:Nat):Int)))):=fun k hk=>by
  rw [key k hk]
  refine ⟨by rw [List.length_take,List.length_drop,hl]; omega,?_⟩
  rw [List.getElem?_take,if_pos (by omega),List.getElem?_drop,cO,List.getElem?_map,List.getElem?_range (by omega)]
  rfl
 intro i j hi hj h
 obtain ⟨a1,a2⟩:=hh i hi
 obtain ⟨b1,b2⟩:=hh j hj
 rw [h,b1] at a1
 rw [h,b2] at a2
 have:=Option.some.inj a2
 unfold LE at this
 omega
noncomputable def nmE (l:List Nat) (d:Int) (a:Nat) (k:Nat):Str:=⟨(l.set a (LE (d/112+(0+k)))).toArray⟩
theorem QV {l:List Nat} {d:Int} {a:Nat} (ha:a<l.length):∀ i j,i<8->j<8->nmE l d a i=nmE l d a j->i=j:=by
 intro i j hi hj h
 have h':=congrArg (fun z:Str=>z.cps.toList[a]?) h
 have e:∀ k,(nmE l d a k).cps.toList[a]?=some (LE (d/112+(0+k))):=fun k=>by
  show (l.set a (LE (d/112+(0+k)))).toArray.toList[a]?=_
  simp [ha]
 rw [e,e] at h'
 have h2:=Option.some.inj h'
 unfold LE at h2
 omega
theorem QW {l:List Nat} {a c:Nat}:(SS (l.map one)).set a (.str (one c))=SS ((l.set a c).map one):=by
 show (List.map PV.str (l.map one)).set a _=List.map PV.str (List.map one (l.set a c))
 rw [List.map_set,List.map_set]
noncomputable def qt (c:Nat):Bool:=!(Builtin.Str.occurrences ("abcdefghijklmnopqrstuvwxyz" : Str) ⟨#[c]⟩ 0 ("abcdefghijklmnopqrstuvwxyz" : Str).length 1).isEmpty
noncomputable def uU (x:Str):Bool:=decide ((1:Int)<=x.length)&&decide ((x.length:Int)<=8)
noncomputable def nameB (x:Str):Bool:=uU x&&x.cps.toList.all qt
theorem Nq {x:Str} {o:List (Option Lc)} {mu:Mu} (hx:x.length<=100000):rM xN xN (eC (PV.int 1)) (eB fB (aj (aa 0) ao)) (eC (PV.int 8)) ⟨zT x::o,mu⟩=some (.sh (.bl (uU x)),⟨zT x::o,mu⟩):=by
 simp [rM,eC,eB,fB,MP,aj,ao,aa,Ev.set,Lc.pv,xN,ux,hx,uU]
 by_cases h:(1:Int)<=x.length
 . simp [h]
 . simp [h]
theorem yF (f:Nat->Bool):∀ cs:List Nat,boolsOf (cs.map fun c=>.bl (f c))=some (cs.map f)
 | []=>rfl
 | c::cs=>by
  show (boolsOf (cs.map fun c=>.bl (f c))).map _=_
  rw [yF f cs]
  rfl
theorem Nr (f:Nat->Bool) (cs:List Nat):(cs.map f).all id=cs.all f:=by simp [List.all_map]
theorem QX {x:Str} {mu:Mu} (hx:x.length<=100000):my [.str x] mu=some (.sh (.bl (nameB x)),mu):=by
 have comp:fO (aF 0) cM (au iW (aa 0) (eC jq)) (x.cps.toList.map fun c=>.str ⟨#[c]⟩) ⟨[none],mu⟩ []=some (x.cps.toList.map fun c=>.bl (qt c),mu):=by
  have:=nY (b:=aF 0) (te:=au iW (aa 0) (eC jq)) (mu:=mu) (fun ρ=>∃ o,ρ=⟨[o],mu⟩) (fun ρ ⟨o,e⟩=>by rw [e]) (fun p=>match p with | .str y=>.bl (qt (y.cps.toList.getD 0 0)) | _=>.non)
   (xs:=x.cps.toList.map fun c=>.str ⟨#[c]⟩) (ρ:=⟨[none],mu⟩) ⟨none,rfl⟩ (by rw [List.length_map,Array.length_toList]; exact hx) ?_ ?_
  . rw [this,List.map_map]
    rfl
  . rintro y hy ρ ⟨o,rfl⟩
    obtain ⟨c,_,rfl⟩:=List.mem_map.mp hy
    exact ⟨_,rfl,_,_,rfl,rfl,_,rfl⟩
  . rintro y hy ρ ρ1 ⟨o,rfl⟩ h
    cases h
    exact ⟨_,rfl⟩
 have e:my [.str x] mu=((pO (rM xN xN (eC (.int 1)) (eB fB (aj (aa 0) ao)) (eC (.int 8))) (eB all1 (aj (b7 (d7 (aa 0) bV) 1 [] (aF 0) cM (au iW (aa 0) (eC jq))) ao)) ⟨[zT x],mu⟩).map fun x=>Fl.rt x.1 x.2).bind fun x=>match x with
  | .rt r ρ=>some (r,ρ.mu)
  | .nx ρ=>some (.sh .non,ρ.mu)
  | _=>none:=rfl
 have e2:eB all1 (aj (b7 (d7 (aa 0) bV) 1 [] (aF 0) cM (au iW (aa 0) (eC jq))) ao) ⟨[zT x],mu⟩=some (.sh (.bl (x.cps.toList.all qt)),⟨[zT x],mu⟩):=by
  have e3:b7 (d7 (aa 0) bV) 1 [] (aF 0) cM (au iW (aa 0) (eC jq)) ⟨[zT x],mu⟩=some (.own (.lst (x.cps.toList.map fun c=>.bl (qt c))),⟨[zT x],mu⟩):=by
   show (fO (aF 0) cM (au iW (aa 0) (eC jq)) (x.cps.toList.map fun c=>.str ⟨#[c]⟩) ⟨[none],mu⟩ []).map _=_
   rw [comp]
   rfl
  unfold eB aj
  rw [e3]
  show (all1 [.lst _]).map _=_
  show ((boolsOf (x.cps.toList.map fun c=>.bl (qt c))).map _).map _=_
  rw [yF,Option.map_some,Option.map_some,Nr]
 rw [e]
 unfold pO
 rw [Nq hx,Option.bind_some]
 cases hl:uU x with
 | true=>
  show ((eB all1 _ _).map _).bind _=_
  rw [e2]
  simp [nameB,hl]
 | false=>simp [nameB,hl,Lc.pv]
theorem Eb (i:Int):qt (LE i)=true:=by
 unfold LE
 have h0:=Int.emod_nonneg i (b:=26) (by decide)
 have h1:=Int.emod_lt_of_pos i (b:=26) (by decide)
 have:∀ n:Nat,n<26->qt (97+n)=true:=by decide +kernel
 exact this _ (by omega)
theorem Ec {x:Str} (h1:1<=x.cps.toList.length) (h2:x.cps.toList.length<=8) (h:∀ c∈x.cps.toList,qt c=true):nameB x=true:=by
 unfold nameB uU
 have e:x.length=x.cps.toList.length:=by rw [Array.length_toList]; rfl
 rw [Bool.and_eq_true,Bool.and_eq_true]
 exact ⟨⟨decide_eq_true (by omega),decide_eq_true (by omega)⟩,List.all_eq_true.mpr h⟩
theorem Nt {d:Int}:∀ k,k<8->nameB (vV d k)=true:=by
 have hc:cO d=[LE (d/2+3*(0+0)),LE (d/2+3*(0+1)),LE (d/2+3*(0+2)),LE (d/2+3*(0+3)),LE (d/2+3*(0+4)),LE (d/2+3*(0+5)),LE (d/2+3*(0+6)),LE (d/2+3*(0+7)),LE (d/2+3*(0+8)),LE (d/2+3*(0+9))]:=rfl
 have key:∀ k,k<8->(vV d k).cps.toList=((cO d).drop (k%5)).take (1+k/5):=by
  intro k hk
  unfold vV dM
  rw [hc]
  rcases (by omega:k=0\/k=1\/k=2\/k=3\/k=4\/k=5\/k=6\/k=7) with rfl | rfl | rfl | rfl | rfl | rfl | rfl | rfl<;>rfl
 intro k hk
 have hl:(cO d).length=10:=by rw [hc]; rfl
 refine Ec ?_ ?_ fun c h=>?_
 . rw [key k hk,List.length_take,List.length_drop,hl]; omega
 . rw [key k hk,List.length_take,List.length_drop,hl]; omega
 . rw [key k hk] at h
   have:=List.mem_of_mem_drop (List.mem_of_mem_take h)
   unfold cO at this
   obtain ⟨i,_,rfl⟩:=List.mem_map.mp this
   exact Eb _
theorem Nu {l:List Nat} {d:Int} {a:Nat} (h1:1<=l.length) (h8:l.length<=8) (h:∀ c∈l,qt c=true) (k:Nat):nameB (nmE l d a k)=true:=by
 have e:(nmE l d a k).cps.toList=l.set a (LE (d/112+(0+k))):=by unfold nmE; simp
 refine Ec ?_ ?_ fun c hc=>?_
 . rw [e,List.length_set]; exact h1
 . rw [e,List.length_set]; exact h8
 . rw [e] at hc
   rcases List.mem_or_eq_of_mem_set hc with h' | h'
   . exact h c h'
   . rw [h']; exact Eb _
theorem Nv {c n:Int} {mu:Mu} (hn0:0<=n) (hn:n<=8):∃ xs:List Str,j6 [.int c,.int n] mu=some (.own (.lst (SS xs)),mu)/\xs.length=n.toNat/\xs.Nodup/\∀ x∈xs,nameB x=true:=by
 obtain ⟨d,hcc⟩:∃ d,c=d:=⟨c,rfl⟩
 have head:∀ (g:SF) R,g (NE d n (yO (SS [])) none none none none none mu)=R->(aK (aL 2 (eC (.str "abcdefghijklmnopqrstuvwxyz"))) (aK (aL 3 (iz ao)) g)) (env0 9 [.int c,.int n] mu)=R:=fun g R hg=>by
  subst hcc
  exact aD rfl (aD rfl hg)
 have t1:tT (au eqP (au bA (aa 0) (eC (.int 2))) (eC (.int 1))) aU (NE d n (yO (SS [])) none none none none none mu)=some (d%2==1,NE d n (yO (SS [])) none none none none none mu):=rfl
 have rg:∀ l3 o4 o6 o7 o8,fM (aj (aa 1) ao) (NE d n l3 o4 none o6 o7 o8 mu)=some (fW 0 n.toNat,NE d n l3 o4 none o6 o7 o8 mu):=fun l3 o4 o6 o7 o8=>oR (l:=.sh (.int n)) rfl rfl (by omega) (by omega)
 cases h2:(d%2==1) with
 | true=>
  have ec:=letters (elt:=bz (aa 1) (au bA (au cH (au bc (aa 2) (eC (.int 2))) (au jK (eC (.int 3)) (aa 0))) (eC (.int 26)))) (c:=d) (k:=10) (mu:=mu) (g:=fun i:Nat=>LE (d/2+3*(0+i))) (by decide) (by decide) (fun i _=>iM (q:=.int ((d/2+3*(0+i))%26)) rfl rfl (by walk_at "ev") rfl (fun n h=>by cases h) (DY (d/2+3*(0+i))))
  obtain ⟨t,rt,lt⟩:∃ t:Str,t=⟨(cO d).toArray⟩/\t.length<=100000:=⟨_,rfl,by show (cO d).toArray.size<=_; unfold cO; simp⟩
  have ej:∀ (fa:EF) (ρ ρ1:Ev) (m:Lc),fa ρ=some (m,ρ1)->m.pv=.lst (SS ((cO d).map one))->nP (eC (.str "")) (aj fa ao) ρ=some (.sh (.str t),ρ1):=fun fa ρ ρ1 m h hm=>by rw [rt]; exact Gx h hm (by unfold cO; simp)
  have hnm:∀ j:Nat,dM t (some ((0+j:Int)%5)) (some ((0+j:Int)%5+1+(0+j:Int)/5))=vV d j:=fun j=>by rw [rt]; rfl
  clear rt
  have s4:aL 4 (nP (eC (.str "")) (aj (b7 (fM (aj (eC (.int 10)) ao)) 1 [2,0] (aF 0) cM (bz (aa 1) (au bA (au cH (au bc (aa 2) (eC (.int 2))) (au jK (eC (.int 3)) (aa 0))) (eC (.int 26))))) ao)) (NE d n (yO (SS [])) none none none none none mu)=some (.nx (NE d n (yO (SS [])) (zT t) none none none none mu)):=
   aY (ej _ _ (NE d n (yO (SS [])) none none none none none mu) (.own (.lst (SS ((cO d).map one)))) ((eX (ρ1:=NE d n (yO (SS [])) none none none none none mu) (oR (l:=.sh (.int 10)) (n:=10) rfl rfl (by decide) (by decide)) ec).trans rfl) rfl) rfl rfl
  obtain ⟨ρ',ef,xs,o5,rfl,hx⟩:=zj (b:=aF 5) (body:=nu 3 (gQ (aa 4) (cA (au bA (aa 5) (eC (.int 5)))) (cA (au cH (au cH (au bA (aa 5) (eC (.int 5))) (eC (.int 1))) (au bc (aa 5) (eC (.int 5))))))) (xs:=fW 0 n.toNat) (ρ:=NE d n (yO (SS [])) (zT t) none none none none mu)
   (fun i ρ=>∃ xs o5,ρ=NE d n (yO (SS xs)) (zT t) o5 none none none mu/\xs=(List.range i).map (vV d)) ⟨[],none,rfl,rfl⟩ (by
     rintro i x ρ hx ⟨xs,o5,rfl,hl⟩
     have hi:i<n.toNat:=by have:=(List.getElem?_eq_some_iff.mp hx).1; rw [lU] at this; exact this
     obtain ⟨j,rfl,rfl⟩:∃ j:Nat,j=i/\x=.int (0+(j:Int)):=⟨i,rfl,by unfold fW at hx; rw [List.getElem?_map,List.getElem?_range hi] at hx; cases hx; rfl⟩
     have hlx:xs.length=j:=by rw [hl]; simp
     have es:gQ (aa 4) (cA (au bA (aa 5) (eC (.int 5)))) (cA (au cH (au cH (au bA (aa 5) (eC (.int 5))) (eC (.int 1))) (au bc (aa 5) (eC (.int 5))))) (NE d n (yO (SS xs)) (zT t) (zI (0+j)) none none none mu)=some (.sh (.str (dM t (some ((0+j:Int)%5)) (some ((0+j:Int)%5+1+(0+j:Int)/5)))),NE d n (yO (SS xs)) (zT t) (zI (0+j)) none none none mu):=by
      show (if t.length<=100000 then _ else none)=_
      rw [if_pos lt]
      rfl
     refine ⟨_,rfl,NE d n (some (.own (.lst (SS (xs++[dM t (some ((0+j:Int)%5)) (some ((0+j:Int)%5+1+(0+j:Int)/5))]))))) (zT t) (zI (0+j)) none none none mu,.inl ((xT rfl es rfl rfl (by rw [List.length_map]; omega) rfl).trans ?_),_,_,rfl,by rw [hnm,hl,List.range_succ,List.map_append]; rfl⟩
     rw [← Ea]
     rfl)
  rw [lU] at hx
  have hnd:xs.Nodup:=by rw [hx]; exact qW fun i j hi hj=>QT i j (by omega) (by omega)
  have hnm2:∀ x∈xs,nameB x=true:=fun x h=>by
   rw [hx] at h
   obtain ⟨k,hk,rfl⟩:=List.mem_map.mp h
   exact Nt k (by have:=List.mem_range.mp hk; omega)
  have hx:xs.length=n.toNat:=by rw [hx]; simp
  refine ⟨xs,aX (ρ:=NE d n none (zT t) o5 none none none mu) (head _ _ (fP ((gf (t1.trans (by rw [h2]))).trans (aD s4 (aD (ik (rg _ _ _ _ _) ef) rfl))))),hx,hnd,hnm2⟩
 | false=>
  obtain ⟨m,hm0,hm8,em⟩:=Vs (c:=d/2)
  have s6:aL 6 (bz (iz (aj (eC (.int 1)) (aj (eC (.int 2)) (aj (eC (.int 3)) (aj (eC (.int 5)) (aj (eC (.int 6)) (aj (eC (.int 7)) (aj (eC (.int 8)) ao)))))))) (au bA (au bc (aa 0) (eC (.int 2))) (eC (.int 7)))) (NE d n (yO (SS [])) none none none none none mu)=some (.nx (NE d n (yO (SS [])) none none (zI m) none none mu)):=
   aY (iM (l:=.own (.lst [.int 1,.int 2,.int 3,.int 5,.int 6,.int 7,.int 8])) (q:=.int (d/2%7)) rfl rfl rfl rfl (fun n h=>by cases h) em) rfl rfl
  have s7:aL 7 (au bA (au bc (aa 0) (eC (.int 14))) (aa 6)) (NE d n (yO (SS [])) none none (zI m) none none mu)=some (.nx (NE d n (yO (SS [])) none none (zI m) (zI (d/14%m)) none mu)):=
   aY (aM rfl rfl rfl rfl (du hm0)) rfl rfl
  have ha0:=Int.emod_nonneg (d/14) (b:=m) (by omega)
  have ha1:=Int.emod_lt_of_pos (d/14) (b:=m) hm0
  generalize d/14%m=at_ at s7 ha0 ha1
  have ec0:=letters (elt:=bz (aa 1) (au bA (au cH (au bc (aa 2) (au cH (aa 0) (eC (.int 1)))) (au jK (aa 0) (aa 0))) (eC (.int 26)))) (c:=d) (k:=m) (mu:=mu) (g:=fun i:Nat=>LE (d/((0+i:Int)+1)+(0+i)*(0+i))) (by omega) (by omega) (fun i hi=>iM (q:=.int ((d/((0+i:Int)+1)+(0+i)*(0+i))%26)) rfl rfl (uH (uH (uH rfl rfl (fC (by omega) (by omega))) (uH rfl rfl (Kc (by omega) (by omega))) rfl) rfl (du (by decide))) rfl (fun n h=>by cases h) (DY (d/((0+i:Int)+1)+(0+i)*(0+i))))
  obtain ⟨l,rl⟩:∃ l,l=(List.range m.toNat).map fun i:Nat=>LE (d/((0+i:Int)+1)+(0+i)*(0+i)):=⟨_,rfl⟩
  rw [← rl] at ec0
  have l1:l.length=m.toNat:=by rw [rl]; simp
  obtain ⟨ps,hps⟩:∃ ps,ps=SS (l.map one):=⟨_,rfl⟩
  have ec:=ec0
  rw [← hps] at ec
  have lps:ps.length=m.toNat:=by rw [hps,List.length_map,List.length_map,l1]
  obtain ⟨ρ',ef,xs,o5,o8,rfl,hx⟩:=zj (b:=aF 5) (body:=aK (aL 8 (b7 (fM (aj (aa 6) ao)) 1 [2,0] (aF 0) cM (bz (aa 1) (au bA (au cH (au bc (aa 2) (au cH (aa 0) (eC (.int 1)))) (au jK (aa 0) (aa 0))) (eC (.int 26))))))
   (aK (nO 8 (aa 7) (bz (aa 2) (au bA (au cH (au bc (aa 0) (eC (.int 112))) (aa 5)) (eC (.int 26)))))
   (nu 3 (nP (eC (.str "")) (aj (aa 8) ao))))) (xs:=fW 0 n.toNat) (ρ:=NE d n (yO (SS [])) none none (zI m) (zI at_) none mu)
   (fun i ρ=>∃ xs o5 o8,ρ=NE d n (yO (SS xs)) none o5 (zI m) (zI at_) o8 mu/\xs=(List.range i).map (nmE l d at_.toNat)) ⟨[],none,none,rfl,rfl⟩ (by
     rintro i x ρ hx ⟨xs,o5,o8,rfl,hl⟩
     have hi:i<n.toNat:=by have:=(List.getElem?_eq_some_iff.mp hx).1; rw [lU] at this; exact this
     obtain ⟨j,rfl,rfl⟩:∃ j:Nat,j=i/\x=.int (0+(j:Int)):=⟨i,rfl,by unfold fW at hx; rw [List.getElem?_map,List.getElem?_range hi] at hx; cases hx; rfl⟩
     have hlx:xs.length=j:=by rw [hl]; simp
     obtain ⟨ch,hch,e⟩:∃ ch,ch=LE (d/112+(0+j))/\pU (.str LET) (.int ((d/112+(0+j))%26))=yS (.str ⟨#[ch]⟩):=⟨_,rfl,DY _⟩
     obtain ⟨t,rt⟩:∃ t:Str,t=nmE l d at_.toNat j:=⟨_,rfl⟩
     have ej:∀ (fa:EF) (ρ ρ1:Ev) (m:Lc),fa ρ=some (m,ρ1)->m.pv=.lst (ps.set at_.toNat (.str ⟨#[ch]⟩))->nP (eC (.str "")) (aj fa ao) ρ=some (.sh (.str t),ρ1):=fun fa ρ ρ1 m h hm=>by
      rw [rt]
      rw [hps,QW,hch] at hm
      exact Gx h hm (by rw [List.length_set,l1]; omega)
     have g1:aL 8 (b7 (fM (aj (aa 6) ao)) 1 [2,0] (aF 0) cM (bz (aa 1) (au bA (au cH (au bc (aa 2) (au cH (aa 0) (eC (.int 1)))) (au jK (aa 0) (aa 0))) (eC (.int 26))))) (NE d n (yO (SS xs)) none (zI (0+j)) (zI m) (zI at_) o8 mu)=some (.nx (NE d n (yO (SS xs)) none (zI (0+j)) (zI m) (zI at_) (yO ps) mu)):=
      aY ((eX (ρ1:=NE d n (yO (SS xs)) none (zI (0+j)) (zI m) (zI at_) o8 mu) (oR (l:=.sh (.int m)) (n:=m) rfl rfl (by omega) (by omega)) ec).trans rfl) rfl rfl
     have g2:nO 8 (aa 7) (bz (aa 2) (au bA (au cH (au bc (aa 0) (eC (.int 112))) (aa 5)) (eC (.int 26)))) (NE d n (yO (SS xs)) none (zI (0+j)) (zI m) (zI at_) (yO ps) mu)=some (.nx (NE d n (yO (SS xs)) none (zI (0+j)) (zI m) (zI at_) (yO (ps.set at_.toNat (.str ⟨#[ch]⟩))) mu)):=by
      refine Gk (k:=at_) (j:=at_.toNat) (iM (q:=.int ((d/112+(0+j))%26)) rfl rfl rfl rfl (fun n h=>by cases h) e) rfl rfl rfl rfl rfl ?_ rfl
      unfold qG
      rw [if_pos ha0,if_pos (by omega)]
     refine ⟨_,rfl,NE d n (yO (SS (xs++[t]))) none (zI (0+j)) (zI m) (zI at_) (yL (ps.set at_.toNat (.str ⟨#[ch]⟩))) mu,.inl (aD g1 (aD g2 ((xT rfl (ej (aa 8) _ (NE d n (yO (SS xs)) none (zI (0+j)) (zI m) (zI at_) (yL (ps.set at_.toNat (.str ⟨#[ch]⟩))) mu) (.sh (.lst (ps.set at_.toNat (.str ⟨#[ch]⟩)))) rfl rfl) rfl rfl (by rw [List.length_map]; omega) rfl).trans ?_))),_,_,_,rfl,by rw [rt,hl,List.range_succ,List.map_append]; rfl⟩
     rw [← Ea]
     rfl)
  rw [lU] at hx
  have hnd:xs.Nodup:=by rw [hx]; exact qW fun i j hi hj=>QV (by omega) i j (by omega) (by omega)
  have hnm2:∀ x∈xs,nameB x=true:=fun x h=>by
   rw [hx] at h
   obtain ⟨k,hk,rfl⟩:=List.mem_map.mp h
   exact Nu (by omega) (by omega) (fun c hc=>by rw [rl] at hc; obtain ⟨i,_,rfl⟩:=List.mem_map.mp hc; exact Eb _) k
  have hx:xs.length=n.toNat:=by rw [hx]; simp
  exact ⟨xs,aX (ρ:=NE d n none none o5 (zI m) (zI at_) o8 mu) (head _ _ (aD ((cD (t1.trans (by rw [h2]))).trans rfl) (aD s6 (aD s7 (aD (ik (rg _ _ _ _ _) ef) rfl))))),hx,hnd,hnm2⟩
theorem gF {b:BF} {body:SF} {x:PV} {xs:List PV} {ρ ρ1 ρ2:Ev} {R:Option Fl} (h1:b x ρ=some ρ1) (h2:body ρ1=some (.nx ρ2)) (h3:dG b body xs ρ2=R):dG b body (x::xs) ρ=R:=by
 show (b x ρ).bind _=R
 rw [h1,Option.bind_some,h2,Option.bind_some]
 exact h3
theorem at0 {p:PV} {t:List PV}:gj (p::t) 0=some p:=by
 obtain ⟨x,h,h2⟩:=wy (l:=p::t) (i:=0) (by decide) (by simp only [List.length_cons]; omega)
 rw [h,← h2]; rfl
theorem uV {α:Type} {l:List α} {p q:α->Bool} (h:∀ x,q x=true->p x=true) {x:α} (hx:x∈l) (h1:p x=true) (h2:q x=false):(l.filter q).length<(l.filter p).length:=by
 induction l with
 | nil=>cases hx
 | cons y ys ih=>
  have hle:∀ ys:List α,(ys.filter q).length<=(ys.filter p).length:=fun ys=>by
   induction ys with
   | nil=>exact Nat.le_refl _
   | cons z zs ihz=>
    rw [List.filter_cons,List.filter_cons]
    cases hq:q z with
    | true=>rw [h z hq]; simp only [if_true,List.length_cons]; omega
    | false=>cases hpz:p z<;>simp only [if_true,Bool.false_eq_true,if_false,List.length_cons]<;>omega
  rw [List.filter_cons,List.filter_cons]
  rcases List.mem_cons.mp hx with rfl | hx
  . rw [h1,h2]
    simp only [if_true,Bool.false_eq_true,if_false,List.length_cons]
    have:=hle ys
    omega
  . have:=ih hx
    cases hq:q y with
    | true=>rw [h y hq]; simp only [if_true,List.length_cons]; omega
    | false=>cases hpy:p y<;>simp only [if_true,Bool.false_eq_true,if_false,List.length_cons]<;>omega
noncomputable def hit (met:List Str) (q:Str×Str):Bool:=has met q.1&&!has met q.2
noncomputable def pass:List (Str×Str)->List Str->Bool->List Str×Bool
 | [],met,g=>(met,g)
 | q::r,met,g=>if hit met q then pass r (met++[q.2]) true else pass r met g
noncomputable def oJ (ps:List (Str×Str)):Nat->List Str->List Str
 | 0,met=>met
 | n+1,met=>if (pass ps met false).2 then oJ ps n (pass ps met false).1 else (pass ps met false).1
noncomputable def cz (ps:List (Str×Str)) (x:Str):List Str:=oJ ps 69 [x]
noncomputable abbrev CE (N P:PV) (l2 l3 o4 o5:Option Lc) (mu:Mu):Ev:=⟨[yS N,yS P,l2,l3,o4,o5],mu⟩
noncomputable abbrev V0:SF:=dq (oN (iI (tT (au iW (aa 4) (aa 2)) aU) (tT (au kY (aa 5) (aa 2)) aU))) (aK (nu 2 (aa 5)) (aL 3 (eC (.bl true)))) bO
theorem tO:∀ (ps:List (Str×Str)) (met:List Str) (g:Bool),(pass ps met g).1.length<=met.length+ps.length
 | [],met,g=>by simp [pass]
 | q::r,met,g=>by
  unfold pass
  split
  . have:=tO r (met++[q.2]) true
    simp at this ⊢; omega
  . have:=tO r met g
    simp at this ⊢; omega
theorem zQ {N P:PV} {mu:Mu}:∀ (ps:List (Str×Str)) (met:List Str) (g:Bool) (o4 o5:Option Lc),met.length+ps.length<=10000->
 ∃ o4' o5',dG (iZ 2 (bQ (aF 4) (bQ (aF 5) iV))) V0 (PP ps) (CE N P (yO (SS met)) (yS (.bl g)) o4 o5 mu)=some (.nx (CE N P (yO (SS (pass ps met g).1)) (yS (.bl (pass ps met g).2)) o4' o5' mu))
 | [],met,g,o4,o5,_=>⟨o4,o5,rfl⟩
 | q::r,met,g,o4,o5,hz=>by
  rw [List.length_cons] at hz
  have t1:oN (iI (tT (au iW (aa 4) (aa 2)) aU) (tT (au kY (aa 5) (aa 2)) aU)) (CE N P (yO (SS met)) (yS (.bl g)) (yS (.str q.1)) (yS (.str q.2)) mu)=some (hit met q,CE N P (yO (SS met)) (yS (.bl g)) (yS (.str q.1)) (yS (.str q.2)) mu):=
   wz (uI (bG (aM rfl rfl rfl rfl yE) rfl rfl) (bG (aM rfl rfl rfl rfl rR) rfl rfl))
  unfold pass
  cases hh:hit met q with
  | true=>
   obtain ⟨a,b,e⟩:=zQ r (met++[q.2]) true (yS (.str q.1)) (yS (.str q.2)) (by simp; omega)
   refine ⟨a,b,?_⟩
   rw [if_pos rfl]
   refine gF rfl ((gf (t1.trans (by rw [hh]))).trans (aD (xT (l:=.sh (.str q.2)) rfl rfl rfl rfl (by rw [List.length_map]; omega) rfl) (aY rfl rfl rfl))) ?_
   show dG _ _ _ (CE N P (yO (SS met++[.str q.2])) (yS (.bl true)) (yS (.str q.1)) (yS (.str q.2)) mu)=_
   rw [Ea]
   exact e
  | false=>
   obtain ⟨a,b,e⟩:=zQ r met g (yS (.str q.1)) (yS (.str q.2)) (by omega)
   refine ⟨a,b,?_⟩
   rw [if_neg Bool.false_ne_true]
   exact gF rfl ((cD (t1.trans (by rw [hh]))).trans rfl) e
theorem mC:∀ (ps:List (Str×Str)) (met:List Str) (g:Bool) (x:Str),x∈met->x∈(pass ps met g).1
 | [],met,g,x,h=>h
 | q::r,met,g,x,h=>by
  unfold pass
  split
  . exact mC r _ _ x (List.mem_append_left _ h)
  . exact mC r _ _ x h
theorem tQ {P:Str->Prop}:∀ (ps:List (Str×Str)) (met:List Str) (g:Bool),(∀ q∈ps,P q.1->P q.2)->(∀ x∈met,P x)->∀ x∈(pass ps met g).1,P x
 | [],met,g,_,h=>h
 | q::r,met,g,hq,h=>by
  unfold pass
  split
  . rename_i hh
    refine tQ r _ _ (fun q' h'=>hq q' (List.mem_cons_of_mem _ h')) fun x hx=>?_
    rcases List.mem_append.mp hx with hx | hx
    . exact h x hx
    . have e:x=q.2:=by simpa using hx
      subst e
      unfold hit at hh
      rw [Bool.and_eq_true] at hh
      exact hq q List.mem_cons_self (h _ (bh.mp hh.1))
  . exact tQ r _ _ (fun q' h'=>hq q' (List.mem_cons_of_mem _ h')) h
theorem oX:∀ (ps:List (Str×Str)) (met:List Str) (g:Bool),met.Nodup->(pass ps met g).1.Nodup
 | [],met,g,h=>h
 | q::r,met,g,h=>by
  unfold pass
  split
  . rename_i hh
    unfold hit at hh
    rw [Bool.and_eq_true] at hh
    have hn:q.2∉met:=mX.mp (by simpa using hh.2)
    refine oX r _ _ (List.nodup_append.mpr ⟨h,by simp,?_⟩)
    rintro a ha b hb e
    have:b=q.2:=by simpa using hb
    subst this e
    exact hn ha
  . exact oX r _ _ h
theorem zR:∀ (ps:List (Str×Str)) (met:List Str),(pass ps met true).2=true
 | [],met=>rfl
 | q::r,met=>by
  unfold pass
  split
  . exact zR r _
  . exact zR r _
theorem Gy:∀ (ps:List (Str×Str)) (met:List Str),(pass ps met false).2=false->(pass ps met false).1=met/\∀ q∈ps,q.1∈met->q.2∈met
 | [],met,_=>⟨rfl,fun q h=>by cases h⟩
 | q::r,met,h=>by
  unfold pass at h ⊢
  split at h
  . rw [zR] at h; cases h
  . rename_i hh
    obtain ⟨h1,h2⟩:=Gy r met h
    rw [if_neg hh]
    refine ⟨h1,fun q' hq' h3=>?_⟩
    rcases List.mem_cons.mp hq' with rfl | hq'
    . refine Decidable.byContradiction fun h4=>hh ?_
      unfold hit
      rw [bh.mpr h3,mX.mpr h4]
      rfl
    . exact h2 q' hq' h3
theorem Ed:∀ (ps:List (Str×Str)) (met:List Str),(pass ps met false).2=true->∃ q∈ps,q.2∉met/\q.2∈(pass ps met false).1
 | [],met,h=>by cases h
 | q::r,met,h=>by
  unfold pass at h ⊢
  split at h
  . rename_i hh
    rw [if_pos hh]
    have hh':=hh
    unfold hit at hh'
    rw [Bool.and_eq_true] at hh'
    exact ⟨q,List.mem_cons_self,mX.mp (by simpa using hh'.2),mC _ _ _ _ (List.mem_append_right _ (by simp))⟩
  . rename_i hh
    rw [if_neg hh]
    obtain ⟨q',h1,h2⟩:=Ed r met h
    exact ⟨q',List.mem_cons_of_mem _ h1,h2⟩
theorem Ef {ps:List (Str×Str)}:∀ (n:Nat) (met:List Str) (x:Str),x∈met->x∈oJ ps n met
 | 0,met,x,h=>h
 | n+1,met,x,h=>by
  unfold oJ
  split
  . exact Ef n _ x (mC _ _ _ x h)
  . exact mC _ _ _ x h
theorem zU {P:Str->Prop} {ps:List (Str×Str)} (hq:∀ q∈ps,P q.1->P q.2):∀ (n:Nat) (met:List Str),(∀ x∈met,P x)->∀ x∈oJ ps n met,P x
 | 0,met,h=>h
 | n+1,met,h=>by
  unfold oJ
  split
  . exact zU hq n _ (tQ _ _ _ hq h)
  . exact tQ _ _ _ hq h
theorem Ay {ps:List (Str×Str)}:∀ (n:Nat) (met:List Str),met.Nodup->(oJ ps n met).Nodup
 | 0,met,h=>h
 | n+1,met,h=>by
  unfold oJ
  split
  . exact Ay n _ (oX _ _ _ h)
  . exact oX _ _ _ h
noncomputable abbrev left (ps:List (Str×Str)) (met:List Str):Nat:=(ps.filter fun q=>!has met q.2).length
theorem Gz {ps:List (Str×Str)} {met:List Str} (h:(pass ps met false).2=true):left ps (pass ps met false).1<left ps met:=by
 obtain ⟨q,h1,h2,h3⟩:=Ed ps met h
 refine uV (fun x hx=>?_) h1 (by rw [mX.mpr h2]; rfl) (by rw [bh.mpr h3]; rfl)
 have h4:has (pass ps met false).1 x.2=false:=by simpa using hx
 rw [mX.mpr fun z=>mX.mp h4 (mC _ _ _ _ z)]
 rfl
theorem yG {ps:List (Str×Str)}:∀ (n:Nat) (met:List Str),left ps met<n->∀ q∈ps,q.1∈oJ ps n met->q.2∈oJ ps n met
 | n+1,met,h=>by
  unfold oJ
  split
  . rename_i hh
    exact yG n _ (by have:=Gz hh; omega)
  . rename_i hh
    have hh':(pass ps met false).2=false:=by simpa using hh
    obtain ⟨h1,h2⟩:=Gy ps met hh'
    rw [h1]
    exact h2
noncomputable abbrev Eg:SF:=aK (aL 3 (eC (.bl false))) (gw (d7 (aa 1) bV) (iZ 2 (bQ (aF 4) (bQ (aF 5) iV))) V0)
theorem qu {N:PV} {ps:List (Str×Str)} {mu:Mu}:∀ (n:Nat) (met:List Str) (o4 o5:Option Lc),left ps met<n->met.length+n*ps.length<=10000->
 ∃ o4' o5',lw (tT (aa 3) cC) Eg (n+1) (CE N (.lst (PP ps)) (yO (SS met)) (yS (.bl true)) o4 o5 mu)=some (.nx (CE N (.lst (PP ps)) (yO (SS (oJ ps n met))) (yS (.bl false)) o4' o5' mu))
 | n+1,met,o4,o5,hn,hl=>by
  have hp:=tO ps met false
  have e0:(n+1)*ps.length=n*ps.length+ps.length:=Nat.succ_mul _ _
  obtain ⟨a,b,e⟩:=zQ (N:=N) (P:=.lst (PP ps)) (mu:=mu) ps met false o4 o5 (by omega)
  have hb:Eg (CE N (.lst (PP ps)) (yO (SS met)) (yS (.bl true)) o4 o5 mu)=some (.nx (CE N (.lst (PP ps)) (yO (SS (pass ps met false).1)) (yS (.bl (pass ps met false).2)) a b mu)):=
   aD (ρ':=CE N (.lst (PP ps)) (yO (SS met)) (yS (.bl false)) o4 o5 mu) (aY rfl rfl rfl) (ik (ρ1:=CE N (.lst (PP ps)) (yO (SS met)) (yS (.bl false)) o4 o5 mu) (fD (l:=.sh (.lst (PP ps))) rfl rfl rfl) e)
  have hw:∀ (k:Nat),lw (tT (aa 3) cC) Eg (k+1) (CE N (.lst (PP ps)) (yO (SS met)) (yS (.bl true)) o4 o5 mu)=lw (tT (aa 3) cC) Eg k (CE N (.lst (PP ps)) (yO (SS (pass ps met false).1)) (yS (.bl (pass ps met false).2)) a b mu):=fun k=>by
   show ((tT (aa 3) cC _).bind _)=_
   rw [show tT (aa 3) cC (CE N (.lst (PP ps)) (yO (SS met)) (yS (.bl true)) o4 o5 mu)=some (true,CE N (.lst (PP ps)) (yO (SS met)) (yS (.bl true)) o4 o5 mu) from rfl,Option.bind_some,if_pos rfl,hb,Option.bind_some]
  unfold oJ
  rw [hw]
  split
  . rename_i hh
    rw [hh]
    exact qu n _ a b (by have:=Gz hh; omega) (by omega)
  . rename_i hh
    have hh':(pass ps met false).2=false:=by simpa using hh
    rw [hh']
    exact ⟨a,b,rfl⟩
theorem Iw {x:Str} {ps:List (Str×Str)} {mu:Mu} (hl:ps.length<=68):oh [.str x,.lst (PP ps)] mu=some (.own (.lst (SS (cz ps x))),mu):=by
 obtain ⟨a,b,e⟩:=qu (N:=.str x) (ps:=ps) (mu:=mu) 69 [x] none none (by have:=List.length_filter_le (fun q:Str×Str=>!has [x] q.2) ps; show (ps.filter _).length<69; omega) (by simp; omega)
 exact aX (ρ:=CE (.str x) (.lst (PP ps)) none (yS (.bl false)) a b mu) (aD (ρ':=CE (.str x) (.lst (PP ps)) (yO (SS [x])) none none none mu) (aY (pX (ls:=[.sh (.str x)]) rfl rfl rfl) rfl rfl) (aD (ρ':=CE (.str x) (.lst (PP ps)) (yO (SS [x])) (yS (.bl true)) none none mu) (aY rfl rfl rfl) (aD e rfl)))
inductive Rt {α:Type} (E:α->α->Prop):α->α->Prop
 | refl (a:α):Rt E a a
 | step {a b c:α}:Rt E a b->E b c->Rt E a c
theorem Rt.trans {α:Type} {E:α->α->Prop} {a b c:α} (h:Rt E a b) (g:Rt E b c):Rt E a c:=by
 induction g with
 | refl=>exact h
 | step _ e ih=>exact ih.step e
theorem Rt.head {α:Type} {E:α->α->Prop} {a b c:α} (e:E a b) (g:Rt E b c):Rt E a c:=Rt.trans (.step (.refl a) e) g
theorem Rt.back {α:Type} {E:α->α->Prop} {a b:α} (h:Rt E a b):Rt (fun x y=>E y x) b a:=by
 induction h with
 | refl=>exact .refl _
 | step _ e ih=>exact .head e ih
theorem rT {ps:List (Str×Str)} {x y:Str} (hl:ps.length<=68):y∈cz ps x ↔ Rt (fun a b=>(a,b)∈ps) x y:=by
 constructor
 . refine zU (P:=fun y=>Rt (fun a b=>(a,b)∈ps) x y) (fun q hq h=>h.step hq) 69 [x] (fun z hz=>?_) y
   have:z=x:=by simpa using hz
   subst this
   exact .refl _
 . intro h
   induction h with
   | refl=>exact Ef 69 [x] x (by simp)
   | step _ e ih=>exact yG 69 [x] (by have:=List.length_filter_le (fun q:Str×Str=>!has [x] q.2) ps; show (ps.filter _).length<69; omega) _ e ih
theorem uW {ps:List (Str×Str)} {x:Str}:(cz ps x).Nodup:=Ay 69 [x] (by simp)
theorem GC {ps:List (Str×Str)} {x:Str} (hl:ps.length<=68):(cz ps x).length<=10000:=by
 have:∀ (n:Nat) (met:List Str),(oJ ps n met).length<=met.length+n*ps.length:=by
  intro n
  induction n with
  | zero=>intro met; simp [oJ]
  | succ n ih=>
   intro met
   have e0:(n+1)*ps.length=n*ps.length+ps.length:=Nat.succ_mul _ _
   have hp:=tO ps met false
   unfold oJ
   split
   . have:=ih (pass ps met false).1
     omega
   . omega
 have:=this 69 [x]
 simp only [List.length_singleton] at this
 unfold cz
 omega
theorem Eh {α β:Type}:∀ l:List (α×β),(l.map (·.1)).zip (l.map (·.2))=l
 | []=>rfl
 | x::l=>by rw [List.map_cons,List.map_cons,List.zip_cons_cons,Eh l]
theorem QZ {i:Nat} {fi fv:EF} {ρ ρ1 ρ2 ρ':Ev} {x y:Lc} {p:PV} {k:Key} {l0 l:PD} (h:fv ρ=some (x,ρ1)) (hxp:x.pv=p) (h0:ρ1.vs[i]?=some (some (.own (mQ l0)))) (h2:fi ρ1=some (y,ρ2)) (hy:zq y.pv=some k) (h1:ρ2.vs[i]?=some (some (.own (mQ l)))) (hl:l.length<100000) (e:ρ2.set i (some (.own (mQ (tH l k p))))=ρ'):xU i fi fv ρ=some (.nx ρ'):=by
 unfold xU
 rw [h,Option.bind_some]
 dsimp only
 rw [h0]
 unfold mQ at *
 dsimp only
 rw [h2,Option.bind_some]
 dsimp only
 rw [hy,h1]
 dsimp only
 rw [List.length_map,if_pos hl,Eh,hxp]
 rw [← e]
theorem Q0 {i:Nat} {fi:AF} {fv:EF} {ρ ρ1 ρ2 ρ':Ev} {x:Lc} {ys:List Lc} {p:PV} {k:List Key} {l0 l:ir} (h:fv ρ=some (x,ρ1)) (hxp:x.pv=p) (h0:ρ1.vs[i]?=some (some (.own (gA l0)))) (h2:fi ρ1=some (ys,ρ2)) (hy:vB (ys.map Lc.pv)=some k) (h1:ρ2.vs[i]?=some (some (.own (gA l)))) (hl:l.length<100000) (hk:k.length<=1000) (e:ρ2.set i (some (.own (gA (p7 l k p))))=ρ'):xX i fi fv ρ=some (.nx ρ'):=by
 unfold xX
 rw [h,Option.bind_some]
 dsimp only
 rw [h0]
 unfold gA at *
 dsimp only
 rw [h2,Option.bind_some]
 dsimp only
 rw [hy,h1]
 dsimp only
 rw [List.length_map,if_pos ⟨hl,hk⟩,Eh,hxp]
 rw [← e]
theorem uX {fa fb:EF} {ρ ρ1 ρ2:Ev} {l m:Lc} {d:PD} {x:Str} {p:PV} (h1:fa ρ=some (l,ρ1)) (hx:l.pv=.df (d.map (·.1)) (d.map (·.2))) (h2:fb ρ1=some (m,ρ2)) (hy:m.pv=.str x) (h3:lL d (.inr x)=some p):jl fa fb ρ=some (.sh p,ρ2):=by
 unfold jl
 rw [h1,Option.bind_some,h2,Option.bind_some]
 dsimp only
 rw [hx,hy]
 show (some (Sum.inr x:Key)).bind _=_
 rw [Option.bind_some,Eh,h3]
 rfl
noncomputable abbrev ab (ps:List (Str×Str)) (x:Str):Key×PV:=(.inr x,.lst (SS (cz ps x)))
noncomputable abbrev iw (ps:List (Str×Str)) (l:List Str):PD:=l.map (ab ps)
theorem Kz {ps:List (Str×Str)} {x:Str}:∀ {l:List Str},x∉l->lL (iw ps l) (.inr x)=none
 | [],_=>rfl
 | y::l,h=>by
  show (if (Sum.inr y:Key)=.inr x then _ else _)=_
  rw [if_neg (fun e=>h (by cases e; exact List.mem_cons_self))]
  exact Kz fun z=>h (List.mem_cons_of_mem _ z)
theorem pF {ps:List (Str×Str)} {x:Str}:∀ {l:List Str},x∈l->lL (iw ps l) (.inr x)=some (.lst (SS (cz ps x)))
 | y::l,h=>by
  show (if (Sum.inr y:Key)=.inr x then _ else _)=_
  by_cases e:y=x
  . subst e
    rw [if_pos rfl]
  . rw [if_neg (fun e'=>e (by cases e'; rfl))]
    rcases List.mem_cons.mp h with h | h
    . exact absurd h.symm e
    . exact pF h
noncomputable abbrev AE (N P:PV) (l2 o3:Option Lc) (mu:Mu):Ev:=⟨[yS N,yS P,l2,o3],mu⟩
theorem yH {N:PV} {ps:List (Str×Str)} {mu:Mu} (hp:ps.length<=68):∀ (xs dn:List Str) (o3:Option Lc),(dn++xs).Nodup->dn.length+xs.length<=1000->
 ∃ o3',dG (aF 3) (xU 2 (aa 3) (aH oh (aj (aa 3) (aj (aa 1) ao)))) (SS xs) (AE N (.lst (PP ps)) (some (.own (mQ (iw ps dn)))) o3 mu)=some (.nx (AE N (.lst (PP ps)) (some (.own (mQ (iw ps (dn++xs))))) o3' mu))
 | [],dn,o3,_,_=>⟨o3,by rw [List.append_nil]; rfl⟩
 | x::xs,dn,o3,hd,hl=>by
  rw [List.length_cons] at hl
  have hx:x∉dn:=fun h=>(List.nodup_append.mp hd).2.2 x h x List.mem_cons_self rfl
  obtain ⟨a,e⟩:=yH hp (N:=N) (mu:=mu) xs (dn++[x]) (zT x) (by rw [List.append_assoc]; exact hd) (by simp; omega)
  refine ⟨a,?_⟩
  rw [List.append_assoc] at e
  refine gF (ρ1:=AE N (.lst (PP ps)) (some (.own (mQ (iw ps dn)))) (zT x) mu) rfl (QZ (k:=.inr x) (l0:=iw ps dn) (l:=iw ps dn) (aW (r:=.own (.lst (SS (cz ps x)))) (mu:=mu) (az rfl (az rfl rfl)) rfl rfl rfl (Iw hp)) rfl rfl rfl rfl rfl (by rw [List.length_map]; omega) rfl) ?_
  have e2:tH (iw ps dn) (.inr x) (.lst (SS (cz ps x)))=iw ps (dn++[x]):=by
   unfold tH
   rw [Kz hx]
   show iw ps dn++[ab ps x]=List.map (ab ps) (dn++[x])
   rw [List.map_append]
   rfl
  show dG _ _ _ (AE N (.lst (PP ps)) (some (.own (mQ (tH (iw ps dn) (.inr x) (.lst (SS (cz ps x))))))) (zT x) mu)=_
  rw [e2]
  exact e
theorem qx {names:List Str} {ps:List (Str×Str)} {mu:Mu} (hp:ps.length<=68) (hd:names.Nodup) (hl:names.length<=1000):cY [.lst (SS names),.lst (PP ps)] mu=some (.own (mQ (iw ps names)),mu):=by
 obtain ⟨a,e⟩:=yH hp (N:=.lst (SS names)) (mu:=mu) names [] none hd (by simpa using hl)
 exact aX (ρ:=AE (.lst (SS names)) (.lst (PP ps)) none a mu) (aD (ρ':=AE (.lst (SS names)) (.lst (PP ps)) (some (.own (mQ (iw ps [])))) none mu) (aY rfl rfl rfl) (aD (ik (ρ1:=AE (.lst (SS names)) (.lst (PP ps)) (some (.own (mQ (iw ps [])))) none mu) (fD (l:=wS names) rfl rfl rfl) e) rfl))
noncomputable abbrev iH (ps:List (Str×Str)):List (Str×Str):=ps.map fun q=>(q.2,q.1)
theorem rW {names:List Str} {ps:List (Str×Str)} {mu:Mu} (hp:ps.length<=68) (hd:names.Nodup) (hl:names.length<=1000):cJ [.lst (SS names),.lst (PP ps)] mu=some (.own (mQ (iw (iH ps) names)),mu):=by
 have c:fO (iZ 2 (bQ (aF 0) (bQ (aF 1) iV))) cM (jt (aj (aa 1) (aj (aa 0) ao))) (PP ps) ⟨[none,none],mu⟩ []=some (PP (iH ps),mu):=by
  have:=nY (b:=iZ 2 (bQ (aF 0) (bQ (aF 1) iV))) (te:=jt (aj (aa 1) (aj (aa 0) ao))) (mu:=mu) (fun ρ=>∃ o p,ρ=⟨[o,p],mu⟩) (fun ρ ⟨o,p,e⟩=>by rw [e]) (fun p=>match p with | .tup [a,b]=>.tup [b,a] | _=>.non) (xs:=PP ps) (ρ:=⟨[none,none],mu⟩) ⟨none,none,rfl⟩ (by rw [List.length_map]; omega) (by
   rintro x hx ρ ⟨o,p,rfl⟩
   obtain ⟨⟨a,b⟩,_,rfl⟩:=List.mem_map.mp hx
   exact ⟨⟨[zT a,zT b],mu⟩,rfl,.sh (.tup [.str b,.str a]),⟨[zT a,zT b],mu⟩,pY (ls:=[.sh (.str b),.sh (.str a)]) rfl rfl rfl,rfl,_,_,rfl⟩) (by
   rintro x hx ρ ρ1 ⟨o,p,rfl⟩ e
   obtain ⟨⟨a,b⟩,_,rfl⟩:=List.mem_map.mp hx
   cases e
   exact ⟨_,_,rfl⟩)
  rw [this]
  unfold PP iH
  rw [List.map_map,List.map_map]
  rfl
 refine aX (ρ:=⟨[zS names,zP ps],mu⟩) (cI (aW (ls:=[wS names,.own (.lst (PP (iH ps)))]) (ps:=[.lst (SS names),.lst (PP (iH ps))]) (mu:=mu) (az (ρ1:=⟨[zS names,zP ps],mu⟩) rfl (az (l:=.own (.lst (PP (iH ps)))) (ls:=[]) ((eX (ρ1:=⟨[zS names,zP ps],mu⟩) (fD (l:=.sh (.lst (PP ps))) rfl rfl rfl) c).trans rfl) rfl)) rfl rfl rfl (qx (by rw [List.length_map]; exact hp) hd hl)))
theorem KC {α:Type} {f:α->Bool}:∀ l:List α,Tq (.lst (l.map fun x=>.bl (f x)))=yS (.bl (l.all f)):=by
 intro l
 have h:∀ l:List α,boolsOf (l.map fun x=>PV.bl (f x))=some (l.map f):=by
  intro l
  induction l with
  | nil=>rfl
  | cons x l ih=>
   show (boolsOf (l.map fun x=>PV.bl (f x))).map _=_
   rw [ih]
   rfl
 show (boolsOf (l.map fun x=>PV.bl (f x))).map _=_
 rw [h,Option.map_some,List.all_map]
 rfl
noncomputable abbrev DF (ps:List (Str×Str)) (names:List Str):PV:=.df ((iw ps names).map (·.1)) ((iw ps names).map (·.2))
noncomputable def shd (ps:List (Str×Str)) (a b:Str):List Str:=(cz ps a).filter (has (cz ps b))
noncomputable def good (ps:List (Str×Str)) (a b r:Str):Bool:=(shd ps a b).all (has (cz ps r))
noncomputable def bnd (ps:List (Str×Str)) (a b:Str):PV:=match (shd ps a b).find? (good ps a b) with
 | some r=>.str r
 | none=>.non
noncomputable abbrev BE (D A B:PV) (l3 o4:Option Lc) (mu:Mu):Ev:=⟨[yS D,yS A,yS B,l3,o4],mu⟩
theorem j8 {ps:List (Str×Str)} {names:List Str} (hc:∀ q∈ps,q.2∈names) {a x:Str} (ha:a∈names):x∈cz ps a->x∈names:=by
 refine zU (P:=fun y=>y∈names) (fun q hq _=>hc q hq) 69 [a] (fun z hz=>?_) x
 have:z=a:=by simpa using hz
 subst this
 exact ha
noncomputable abbrev O8:SF:=dq (tT (eB all1 (aj (b7 (d7 (aa 3) bV) 1 [0,4] (aF 0) cM (au iW (aa 0) (jl (aa 1) (aa 2)))) ao)) cC) (iJ 4) bO
theorem KD {b:BF} {body:SF} {x:PV} {xs:List PV} {ρ ρ1 ρ2:Ev} {r:Lc} (h1:b x ρ=some ρ1) (h2:body ρ1=some (.rt r ρ2)):dG b body (x::xs) ρ=some (.rt r ρ2):=by
 show (b x ρ).bind _=_
 rw [h1,Option.bind_some,h2,Option.bind_some]
theorem yI {ps:List (Str×Str)} {names:List Str} {a b:Str} {mu:Mu} (hl:(shd ps a b).length<=10000):∀ (xs:List Str) (o4:Option Lc),(∀ x∈xs,x∈names)->
 (match xs.find? (good ps a b) with
   | some r=>∃ ρ',dG (aF 4) O8 (SS xs) (BE (DF ps names) (.str a) (.str b) (zS (shd ps a b)) o4 mu)=some (.rt (.sh (.str r)) ρ')/\ρ'.mu=mu
   | none=>∃ o4',dG (aF 4) O8 (SS xs) (BE (DF ps names) (.str a) (.str b) (zS (shd ps a b)) o4 mu)=some (.nx (BE (DF ps names) (.str a) (.str b) (zS (shd ps a b)) o4' mu)))
 | [],o4,_=>⟨o4,rfl⟩
 | x::xs,o4,hx=>by
  have c:fO (aF 0) cM (au iW (aa 0) (jl (aa 1) (aa 2))) (SS (shd ps a b)) ⟨[none,yS (DF ps names),zT x],mu⟩ []=some ((shd ps a b).map fun y=>.bl (has (cz ps x) y),mu):=by
   have:=nY (b:=aF 0) (te:=au iW (aa 0) (jl (aa 1) (aa 2))) (mu:=mu) (fun ρ=>∃ o,ρ=⟨[o,yS (DF ps names),zT x],mu⟩) (fun ρ ⟨o,e⟩=>by rw [e]) (fun p=>match p with | .str y=>.bl (has (cz ps x) y) | _=>.non) (xs:=SS (shd ps a b)) (ρ:=⟨[none,yS (DF ps names),zT x],mu⟩) ⟨none,rfl⟩ (by rw [List.length_map]; omega) (by
    rintro z hz ρ ⟨o,rfl⟩
    obtain ⟨y,_,rfl⟩:=List.mem_map.mp hz
    exact ⟨⟨[zT y,yS (DF ps names),zT x],mu⟩,rfl,_,_,aM rfl rfl (uX (d:=iw ps names) rfl rfl rfl rfl (pF (hx x List.mem_cons_self))) rfl yE,rfl,_,rfl⟩) (by
    rintro z hz ρ ρ1 ⟨o,rfl⟩ e
    cases e
    exact ⟨_,rfl⟩)
   rw [this,List.map_map]
   rfl
  have t1:tT (eB all1 (aj (b7 (d7 (aa 3) bV) 1 [0,4] (aF 0) cM (au iW (aa 0) (jl (aa 1) (aa 2)))) ao)) cC (BE (DF ps names) (.str a) (.str b) (zS (shd ps a b)) (zT x) mu)=some (good ps a b x,BE (DF ps names) (.str a) (.str b) (zS (shd ps a b)) (zT x) mu):=
   bG (M9 (ls:=[.own (.lst ((shd ps a b).map fun y=>.bl (has (cz ps x) y)))]) (az ((eX (ρ1:=BE (DF ps names) (.str a) (.str b) (zS (shd ps a b)) (zT x) mu) (fD (l:=wS (shd ps a b)) rfl rfl rfl) c).trans rfl) rfl) rfl (KC (f:=has (cz ps x)) (shd ps a b))) rfl rfl
  rw [List.find?_cons]
  cases hg:good ps a b x with
  | true=>
   obtain ⟨ρ',e1,e2⟩:∃ ρ',iJ 4 (BE (DF ps names) (.str a) (.str b) (zS (shd ps a b)) (zT x) mu)=some (.rt (.sh (.str x)) ρ')/\ρ'.mu=mu:=⟨_,rfl,rfl⟩
   exact ⟨ρ',KD rfl ((gf (t1.trans (by rw [hg]))).trans e1),e2⟩
  | false=>
   have ih:=yI (ps:=ps) (names:=names) (a:=a) (b:=b) (mu:=mu) hl xs (zT x) fun y hy=>hx y (List.mem_cons_of_mem _ hy)
   dsimp only
   have e:dG (aF 4) O8 (SS (x::xs)) (BE (DF ps names) (.str a) (.str b) (zS (shd ps a b)) o4 mu)=dG (aF 4) O8 (SS xs) (BE (DF ps names) (.str a) (.str b) (zS (shd ps a b)) (zT x) mu):=gF rfl ((cD (t1.trans (by rw [hg]))).trans rfl) rfl
   rw [e]
   exact ih
theorem Nx {ps:List (Str×Str)} {names:List Str} {a b:Str} {mu:Mu} (hp:ps.length<=68) (hc:∀ q∈ps,q.2∈names) (ha:a∈names) (hb:b∈names):pC [DF ps names,.str a,.str b] mu=some (.sh (bnd ps a b),mu):=by
 have hl:(shd ps a b).length<=10000:=Nat.le_trans (List.length_filter_le _ _) (GC hp)
 have c:fO (aF 0) (tT (au iW (aa 0) (jl (aa 1) (aa 2))) aU) (aa 0) (SS (cz ps a)) ⟨[none,yS (DF ps names),zT b],mu⟩ []=some (SS (shd ps a b),mu):=by
  have:=lK (b:=aF 0) (tc:=tT (au iW (aa 0) (jl (aa 1) (aa 2))) aU) (te:=aa 0) (mu:=mu) (fun ρ=>∃ o,ρ=⟨[o,yS (DF ps names),zT b],mu⟩) (fun ρ ⟨o,e⟩=>by rw [e]) (fun p=>match p with | .str y=>has (cz ps b) y | _=>false) (fun p=>p) (xs:=SS (cz ps a)) (ρ:=⟨[none,yS (DF ps names),zT b],mu⟩) (acc:=[]) ⟨none,rfl⟩ (by have:=GC (x:=a) hp; simp; omega) (by
   rintro z hz ρ ⟨o,rfl⟩
   obtain ⟨y,_,rfl⟩:=List.mem_map.mp hz
   exact ⟨⟨[zT y,yS (DF ps names),zT b],mu⟩,rfl,_,bG (aM rfl rfl (uX (d:=iw ps names) rfl rfl rfl rfl (pF hb)) rfl yE) rfl rfl,⟨_,rfl⟩,fun _=>⟨_,_,rfl,rfl,_,rfl⟩⟩)
  rw [this,List.nil_append,List.filter_map,List.map_map]
  rfl
 have s3:aL 3 (b7 (d7 (jl (aa 0) (aa 1)) bV) 1 [0,2] (aF 0) (tT (au iW (aa 0) (jl (aa 1) (aa 2))) aU) (aa 0)) (BE (DF ps names) (.str a) (.str b) none none mu)=some (.nx (BE (DF ps names) (.str a) (.str b) (yO (SS (shd ps a b))) none mu)):=
  aY ((eX (ρ1:=BE (DF ps names) (.str a) (.str b) none none mu) (fD (l:=wS (cz ps a)) (uX (d:=iw ps names) rfl rfl rfl rfl (pF ha)) rfl rfl) c).trans rfl) rfl rfl
 have lp:=yI (ps:=ps) (names:=names) (a:=a) (b:=b) (mu:=mu) hl (shd ps a b) none fun x hx=>j8 hc ha (List.mem_filter.mp hx).1
 have it:d7 (aa 3) bV (BE (DF ps names) (.str a) (.str b) (yO (SS (shd ps a b))) none mu)=some (SS (shd ps a b),BE (DF ps names) (.str a) (.str b) (zS (shd ps a b)) none mu):=fD (l:=wS (shd ps a b)) rfl rfl rfl
 unfold bnd
 cases hf:(shd ps a b).find? (good ps a b) with
 | some r=>
  rw [hf] at lp
  obtain ⟨ρ',e,hm⟩:=lp
  have:pC [DF ps names,.str a,.str b] mu=some (.sh (.str r),ρ'.mu):=aX (ρ:=ρ') (aD s3 (fP (ik it e)))
  rw [hm] at this
  exact this
 | none=>
  rw [hf] at lp
  obtain ⟨o4,e⟩:=lp
  exact aX (ρ:=BE (DF ps names) (.str a) (.str b) (zS (shd ps a b)) o4 mu) (aD s3 (aD (ik it e) rfl))
noncomputable abbrev en (ps:List (Str×Str)) (a b:Str):List Key×PV:=([.inr a,.inr b],bnd ps a b)
noncomputable def Tb (ps:List (Str×Str)) (names:List Str) (l:ir):Prop:=∀ e∈l,∃ a∈names,∃ b∈names,e=en ps a b
theorem Ei {k:List Key} {p:PV}:∀ {l:ir},lM l k=some p->(k,p)∈l
 | kv::r,h=>by
  unfold lM at h
  split at h
  . rename_i e
    cases h
    subst e
    exact List.mem_cons_self
  . exact List.mem_cons_of_mem _ (Ei h)
theorem Ej {k:List Key} {p:PV}:∀ {l:ir},(∀ e∈l,e.1=k->e.2=p)->xW k p l=l
 | [],_=>rfl
 | kv::r,h=>by
  unfold xW
  rw [Ej fun e he=>h e (List.mem_cons_of_mem _ he)]
  by_cases e:kv.1=k
  . rw [if_pos e]
    have:=h kv List.mem_cons_self e
    rw [← this]
  . rw [if_neg e]
theorem Q3 {ps:List (Str×Str)} {names:List Str} {l:ir} {a b:Str} (h:Tb ps names l) (ha:a∈names) (hb:b∈names):Tb ps names (p7 l [.inr a,.inr b] (bnd ps a b))/\en ps a b∈p7 l [.inr a,.inr b] (bnd ps a b)/\(∀ e∈l,e∈p7 l [.inr a,.inr b] (bnd ps a b))/\(p7 l [.inr a,.inr b] (bnd ps a b)).length<=l.length+1:=by
 have hv:∀ e∈l,e.1=[.inr a,.inr b]->e.2=bnd ps a b:=by
  intro e he e1
  obtain ⟨a',_,b',_,rfl⟩:=h e he
  cases e1
  rfl
 unfold p7
 cases hh:lM l [.inr a,.inr b] with
 | some p=>
  have hm:=Ei hh
  have hp:=hv _ hm rfl
  dsimp only at hp ⊢
  subst hp
  rw [Ej hv]
  exact ⟨h,hm,fun e he=>he,by omega⟩
 | none=>
  dsimp only
  refine ⟨fun e he=>?_,List.mem_append_right _ (by simp),fun e he=>List.mem_append_left _ he,by simp⟩
  rcases List.mem_append.mp he with he | he
  . exact h e he
  . have:e=en ps a b:=by simpa using he
    exact ⟨a,ha,b,hb,this⟩
noncomputable abbrev BB (D:PV) (l1 o2 o3:Option Lc) (mu:Mu):Ev:=⟨[yS D,l1,o2,o3],mu⟩
noncomputable abbrev V1:SF:=xX 1 (aj (aa 2) (aj (aa 3) ao)) (aH pC (aj (aa 0) (aj (aa 2) (aj (aa 3) ao))))
theorem Az {ps:List (Str×Str)} {names:List Str} {a:Str} {mu:Mu} (hp:ps.length<=68) (hc:∀ q∈ps,q.2∈names) (ha:a∈names):∀ (xs:List Str) (l:ir) (o3:Option Lc),(∀ x∈xs,x∈names)->Tb ps names l->l.length+xs.length<=10000->
 ∃ l' o3',dG (aF 3) V1 (SS xs) (BB (DF ps names) (some (.own (gA l))) (zT a) o3 mu)=some (.nx (BB (DF ps names) (some (.own (gA l'))) (zT a) o3' mu))/\Tb ps names l'/\(∀ e∈l,e∈l')/\(∀ x∈xs,en ps a x∈l')/\l'.length<=l.length+xs.length
 | [],l,o3,_,h,_=>⟨l,o3,rfl,h,fun e he=>he,fun x hx=>(by cases hx),by simp⟩
 | x::xs,l,o3,hx,h,hl=>by
  rw [List.length_cons] at hl
  obtain ⟨h1,h2,h3,h4⟩:=Q3 h ha (hx x List.mem_cons_self)
  obtain ⟨l',o',e,h5,h6,h7,h8⟩:=Az hp hc ha (mu:=mu) xs _ (zT x) (fun y hy=>hx y (List.mem_cons_of_mem _ hy)) h1 (by omega)
  refine ⟨l',o',?_,h5,fun e he=>h6 e (h3 e he),fun y hy=>?_,by rw [List.length_cons]; omega⟩
  . refine gF (ρ1:=BB (DF ps names) (some (.own (gA l))) (zT a) (zT x) mu) rfl (Q0 (k:=[.inr a,.inr x]) (l0:=l) (l:=l) (aW (r:=.sh (bnd ps a x)) (mu:=mu) (az rfl (az rfl (az rfl rfl))) rfl rfl rfl (Nx hp hc ha (hx x List.mem_cons_self))) rfl rfl (az rfl (az rfl rfl)) rfl rfl (by omega) (by show 2<=1000; decide) rfl) ?_
    exact e
  . rcases List.mem_cons.mp hy with rfl | hy
    . exact h6 _ h2
    . exact h7 y hy
theorem GD {ps:List (Str×Str)} {names:List Str} {l1 o2 o3:Option Lc} {mu:Mu}:Ke (aa 0) (BB (DF ps names) l1 o2 o3 mu)=some (SS names,BB (DF ps names) l1 o2 o3 mu):=by
 have e:(((iw ps names).map (·.1)).map vU)=SS names:=by
  unfold iw
  rw [List.map_map,List.map_map]
  rfl
 show some (((iw ps names).map (·.1)).map vU,BB (DF ps names) l1 o2 o3 mu)=_
 rw [e]
theorem yJ {ps:List (Str×Str)} {names:List Str} {mu:Mu} (hp:ps.length<=68) (hc:∀ q∈ps,q.2∈names) (hn:names.length<=50):∀ (xs:List Str) (l:ir) (o2 o3:Option Lc),(∀ x∈xs,x∈names)->Tb ps names l->l.length+xs.length*names.length<=10000->
 ∃ l' o2' o3',dG (aF 2) (gw (Ke (aa 0)) (aF 3) V1) (SS xs) (BB (DF ps names) (some (.own (gA l))) o2 o3 mu)=some (.nx (BB (DF ps names) (some (.own (gA l'))) o2' o3' mu))/\Tb ps names l'/\(∀ e∈l,e∈l')/\(∀ x∈xs,∀ y∈names,en ps x y∈l')/\l'.length<=l.length+xs.length*names.length
 | [],l,o2,o3,_,h,_=>⟨l,o2,o3,rfl,h,fun e he=>he,fun x hx=>(by cases hx),by simp⟩
 | x::xs,l,o2,o3,hx,h,hl=>by
  have e0:(xs.length+1)*names.length=xs.length*names.length+names.length:=Nat.succ_mul _ _
  rw [List.length_cons,e0] at hl
  obtain ⟨l1,o1,e1,h1,h2,h3,h4⟩:=Az hp hc (hx x List.mem_cons_self) (mu:=mu) names l o3 (fun y hy=>hy) h (by omega)
  obtain ⟨l',o',o'',e,h5,h6,h7,h8⟩:=yJ hp hc hn (mu:=mu) xs l1 (zT x) o1 (fun y hy=>hx y (List.mem_cons_of_mem _ hy)) h1 (by omega)
  refine ⟨l',o',o'',?_,h5,fun e he=>h6 e (h2 e he),fun y hy z hz=>?_,by rw [List.length_cons,e0]; omega⟩
  . exact gF (ρ1:=BB (DF ps names) (some (.own (gA l))) (zT x) o3 mu) rfl (ik GD e1) e
  . rcases List.mem_cons.mp hy with rfl | hy
    . exact h6 _ (h3 z hz)
    . exact h7 y hy z hz
theorem uY {ps:List (Str×Str)} {names:List Str} {mu:Mu} (hp:ps.length<=68) (hc:∀ q∈ps,q.2∈names) (hn:names.length<=50):∃ l,iD [DF ps names] mu=some (.own (gA l),mu)/\Tb ps names l/\∀ x∈names,∀ y∈names,en ps x y∈l:=by
 have hh:names.length*names.length<=50*50:=Nat.mul_le_mul hn hn
 obtain ⟨l,o2,o3,e,h1,h2,h3,h4⟩:=yJ hp hc hn (mu:=mu) names [] none none (fun y hy=>hy) (fun e he=>(by cases he)) (by simp; omega)
 refine ⟨l,?_,h1,h3⟩
 exact aX (ρ:=BB (DF ps names) none o2 o3 mu) (aD (ρ':=BB (DF ps names) (some (.own (gA []))) none none mu) (aY rfl rfl rfl) (aD (ik GD e) rfl))
noncomputable abbrev GJ (e:List Key×PV):PV:=.tup [.tup (e.1.map vU),e.2]
theorem Ba:∀ l:ir,n6 (l.map (·.1)) (l.map (·.2))=l.map GJ
 | []=>rfl
 | x::l=>by
  show PV.tup [.tup (x.1.map vU),x.2]::n6 (l.map (·.1)) (l.map (·.2))=_
  rw [Ba l]
  rfl
theorem KH {ps:List (Str×Str)} {a b:Str}:(tu (bnd ps a b)=true/\bnd ps a b=.non)\/(tu (bnd ps a b)=false/\bnd ps a b≠.non):=by
 unfold bnd
 split
 . exact .inr ⟨rfl,fun h=>by cases h⟩
 . exact .inl ⟨rfl,rfl⟩
noncomputable abbrev UE (D:PV) (o1 o2:Option Lc) (mu:Mu):Ev:=⟨[yS D,o1,o2],mu⟩
noncomputable abbrev O9:SF:=dq (tT (au HF (aa 2) (eC .non)) aU) (iJ 1) bO
theorem uZ {ps:List (Str×Str)} {names:List Str} {D:PV} {mu:Mu}:∀ (l:ir) (o1 o2:Option Lc),Tb ps names l->
 (∃ o1' o2',dG (iZ 2 (bQ (aF 1) (bQ (aF 2) iV))) O9 (l.map GJ) (UE D o1 o2 mu)=some (.nx (UE D o1' o2' mu))/\∀ e∈l,e.2≠.non)\/
 (∃ ρ' a b,dG (iZ 2 (bQ (aF 1) (bQ (aF 2) iV))) O9 (l.map GJ) (UE D o1 o2 mu)=some (.rt (.sh (.tup [.str a,.str b])) ρ')/\ρ'.mu=mu/\a∈names/\b∈names/\bnd ps a b=.non)
 | [],o1,o2,_=>.inl ⟨o1,o2,rfl,fun e he=>(by cases he)⟩
 | e::l,o1,o2,h=>by
  obtain ⟨a,ha,b,hb,rfl⟩:=h e List.mem_cons_self
  have t1:tT (au HF (aa 2) (eC .non)) aU (UE D (yS (.tup [.str a,.str b])) (yS (bnd ps a b)) mu)=some (tu (bnd ps a b),UE D (yS (.tup [.str a,.str b])) (yS (bnd ps a b)) mu):=bG (l:=.sh (.bl (tu (bnd ps a b)))) (aM rfl rfl rfl rfl rfl) rfl rfl
  rcases KH (ps:=ps) (a:=a) (b:=b) with ⟨hb1,hz⟩ | ⟨hb1,hz⟩
  . rw [hb1] at t1
    obtain ⟨ρ',e1,e2⟩:∃ ρ',iJ 1 (UE D (yS (.tup [.str a,.str b])) (yS (bnd ps a b)) mu)=some (.rt (.sh (.tup [.str a,.str b])) ρ')/\ρ'.mu=mu:=⟨_,rfl,rfl⟩
    exact .inr ⟨ρ',a,b,KD rfl ((gf t1).trans e1),e2,ha,hb,hz⟩
  . rw [hb1] at t1
    have e1:dG (iZ 2 (bQ (aF 1) (bQ (aF 2) iV))) O9 ((en ps a b::l).map GJ) (UE D o1 o2 mu)=dG (iZ 2 (bQ (aF 1) (bQ (aF 2) iV))) O9 (l.map GJ) (UE D (yS (.tup [.str a,.str b])) (yS (bnd ps a b)) mu):=gF rfl ((cD t1).trans rfl) rfl
    rw [e1]
    rcases uZ (D:=D) (mu:=mu) l (yS (.tup [.str a,.str b])) (yS (bnd ps a b)) (fun e he=>h e (List.mem_cons_of_mem _ he)) with ⟨p,q,h1,h2⟩ | r
    . refine .inl ⟨p,q,h1,fun e he=>?_⟩
      rcases List.mem_cons.mp he with rfl | he
      . exact hz
      . exact h2 e he
    . exact .inr r
theorem yK {ps:List (Str×Str)} {names:List Str} {mu:Mu} (hp:ps.length<=68) (hc:∀ q∈ps,q.2∈names) (hn:names.length<=50):
 (fJ [DF ps names] mu=some (.sh .non,mu)/\∀ a∈names,∀ b∈names,bnd ps a b≠.non)\/∃ a∈names,∃ b∈names,fJ [DF ps names] mu=some (.sh (.tup [.str a,.str b]),mu)/\bnd ps a b=.non:=by
 obtain ⟨l,e,h1,h2⟩:=uY (mu:=mu) hp hc hn
 have it:HW (HQ (aH iD (aj (aa 0) ao))) (UE (DF ps names) none none mu)=some (l.map GJ,UE (DF ps names) none none mu):=by
  have e1:aH iD (aj (aa 0) ao) (UE (DF ps names) none none mu)=some (.own (gA l),UE (DF ps names) none none mu):=aW (az rfl rfl) rfl rfl rfl e
  unfold HW HQ
  rw [e1]
  show (if (l.map (·.2)).length=(l.map (·.1)).length then some (n6 (l.map (·.1)) (l.map (·.2)),UE (DF ps names) none none mu) else none)=_
  rw [if_pos (by simp),Ba]
 rcases uZ (D:=DF ps names) (mu:=mu) l none none h1 with ⟨o1,o2,h3,h4⟩ | ⟨ρ',a,b,h3,h4,ha,hb,h5⟩
 . exact .inl ⟨aX (ρ:=UE (DF ps names) o1 o2 mu) (aD (ik it h3) rfl),fun a ha b hb=>h4 _ (h2 a ha b hb)⟩
 . refine .inr ⟨a,ha,b,hb,?_,h5⟩
   have:fJ [DF ps names] mu=some (.sh (.tup [.str a,.str b]),ρ'.mu):=aX (fP (ik it h3))
   rw [h4] at this
   exact this
noncomputable def Uq (names:List Str) (ps:List (Str×Str)) (l:PV):Prop:=
 (l=.non/\(∀ a∈names,∀ b∈names,bnd ps a b≠.non)/\∀ a∈names,∀ b∈names,bnd (iH ps) a b≠.non)\/
 (∃ a∈names,∃ b∈names,l=.tup [.str "join",.str a,.str b]/\bnd ps a b=.non)\/
 (∃ a∈names,∃ b∈names,l=.tup [.str "meet",.str a,.str b]/\bnd (iH ps) a b=.non)
noncomputable abbrev jT (N P:PV) (o2:Option Lc) (mu:Mu):Ev:=⟨[yS N,yS P,o2],mu⟩
theorem Iz {ps:List (Str×Str)} {names:List Str} {mu:Mu} (hp:ps.length<=68) (hc:∀ q∈ps,q.1∈names/\q.2∈names) (hd:names.Nodup) (hn:names.length<=50):∃ l,ou [.lst (SS names),.lst (PP ps)] mu=some (.sh l,mu)/\Uq names ps l:=by
 have hp':(iH ps).length<=68:=by rw [List.length_map]; exact hp
 have hc':∀ q∈iH ps,q.2∈names:=fun q hq=>by
  obtain ⟨q',hq',rfl⟩:=List.mem_map.mp hq
  exact (hc q' hq').1
 have fz1:∀ o2,nZ (aH cY (aj (aa 0) (aj (aa 1) ao))) (jT (.lst (SS names)) (.lst (PP ps)) o2 mu)=some (.sh (DF ps names),jT (.lst (SS names)) (.lst (PP ps)) o2 mu):=fun o2=>by
  have e1:aH cY (aj (aa 0) (aj (aa 1) ao)) (jT (.lst (SS names)) (.lst (PP ps)) o2 mu)=some (.own (mQ (iw ps names)),jT (.lst (SS names)) (.lst (PP ps)) o2 mu):=aW (az rfl (az rfl rfl)) rfl rfl rfl (qx hp hd (by omega))
  unfold nZ
  rw [e1]
  rfl
 have fz2:∀ o2,nZ (aH cJ (aj (aa 0) (aj (aa 1) ao))) (jT (.lst (SS names)) (.lst (PP ps)) o2 mu)=some (.sh (DF (iH ps) names),jT (.lst (SS names)) (.lst (PP ps)) o2 mu):=fun o2=>by
  have e1:aH cJ (aj (aa 0) (aj (aa 1) ao)) (jT (.lst (SS names)) (.lst (PP ps)) o2 mu)=some (.own (mQ (iw (iH ps) names)),jT (.lst (SS names)) (.lst (PP ps)) o2 mu):=aW (az rfl (az rfl rfl)) rfl rfl rfl (rW hp hd (by omega))
  unfold nZ
  rw [e1]
  rfl
 rcases yK (mu:=mu) hp (fun q hq=>(hc q hq).2) hn with ⟨u1,h1⟩ | ⟨a,ha,b,hb,u1,h1⟩
 . have s1:aL 2 (aH fJ (aj (nZ (aH cY (aj (aa 0) (aj (aa 1) ao)))) ao)) (jT (.lst (SS names)) (.lst (PP ps)) none mu)=some (.nx (jT (.lst (SS names)) (.lst (PP ps)) (some (.sh .non)) mu)):=aY (aW (az (fz1 _) rfl) rfl rfl rfl u1) rfl rfl
   rcases yK (mu:=mu) hp' hc' hn with ⟨u2,h2⟩ | ⟨a,ha,b,hb,u2,h2⟩
   . have s2:aL 2 (aH fJ (aj (nZ (aH cJ (aj (aa 0) (aj (aa 1) ao)))) ao)) (jT (.lst (SS names)) (.lst (PP ps)) (some (.sh .non)) mu)=some (.nx (jT (.lst (SS names)) (.lst (PP ps)) (some (.sh .non)) mu)):=aY (aW (az (fz2 _) rfl) rfl rfl rfl u2) rfl rfl
     exact ⟨.non,aX (ρ:=jT (.lst (SS names)) (.lst (PP ps)) (some (.sh .non)) mu) (aD s1 (aD ((cD (ρ1:=jT (.lst (SS names)) (.lst (PP ps)) (some (.sh .non)) mu) rfl).trans rfl) (aD s2 (aD ((cD (ρ1:=jT (.lst (SS names)) (.lst (PP ps)) (some (.sh .non)) mu) rfl).trans rfl) rfl)))),.inl ⟨rfl,h1,h2⟩⟩
   . have s2:aL 2 (aH fJ (aj (nZ (aH cJ (aj (aa 0) (aj (aa 1) ao)))) ao)) (jT (.lst (SS names)) (.lst (PP ps)) (some (.sh .non)) mu)=some (.nx (jT (.lst (SS names)) (.lst (PP ps)) (yS (.tup [.str a,.str b])) mu)):=aY (aW (az (fz2 _) rfl) rfl rfl rfl u2) rfl rfl
     exact ⟨.tup [.str "meet",.str a,.str b],aX (ρ:=jT (.lst (SS names)) (.lst (PP ps)) (yS (.tup [.str a,.str b])) mu) (aD s1 (aD ((cD (ρ1:=jT (.lst (SS names)) (.lst (PP ps)) (some (.sh .non)) mu) rfl).trans rfl) (aD s2 (fP ((gf (ρ1:=jT (.lst (SS names)) (.lst (PP ps)) (yS (.tup [.str a,.str b])) mu) rfl).trans (cI (pY (ls:=[.sh (.str "meet"),.sh (.str a),.sh (.str b)]) rfl rfl rfl))))))),.inr (.inr ⟨a,ha,b,hb,rfl,h2⟩)⟩
 . have s1:aL 2 (aH fJ (aj (nZ (aH cY (aj (aa 0) (aj (aa 1) ao)))) ao)) (jT (.lst (SS names)) (.lst (PP ps)) none mu)=some (.nx (jT (.lst (SS names)) (.lst (PP ps)) (yS (.tup [.str a,.str b])) mu)):=aY (aW (az (fz1 _) rfl) rfl rfl rfl u1) rfl rfl
   exact ⟨.tup [.str "join",.str a,.str b],aX (ρ:=jT (.lst (SS names)) (.lst (PP ps)) (yS (.tup [.str a,.str b])) mu) (aD s1 (fP ((gf (ρ1:=jT (.lst (SS names)) (.lst (PP ps)) (yS (.tup [.str a,.str b])) mu) rfl).trans (cI (pY (ls:=[.sh (.str "join"),.sh (.str a),.sh (.str b)]) rfl rfl rfl))))),.inr (.inl ⟨a,ha,b,hb,rfl,h1⟩)⟩
namespace Rg
noncomputable def edge (sm:List Str) (nm:Str) (q:Str×Str):Bool:=q.1==nm&&(!(q.2==nm)&&has sm q.2)
noncomputable def oA (sm:List Str) (ps:List (Str×Str)) (nm:Str):List Str:=(ps.filter (edge sm nm)).map (·.2)
theorem GK {sm:List Str} {ps:List (Str×Str)} {nm b:Str}:b∈oA sm ps nm ↔ (nm,b)∈ps/\b≠nm/\b∈sm:=by
 unfold oA
 constructor
 . intro h
   obtain ⟨q,hq,rfl⟩:=List.mem_map.mp h
   obtain ⟨h1,h2⟩:=List.mem_filter.mp hq
   unfold edge at h2
   rw [Bool.and_eq_true,Bool.and_eq_true] at h2
   have e:q.1=nm:=eq_of_beq h2.1
   refine ⟨by rw [← e]; exact h1,fun z=>?_,bh.mp h2.2.2⟩
   have:=h2.2.1
   rw [z] at this
   simp at this
 . rintro ⟨h1,h2,h3⟩
   refine List.mem_map.mpr ⟨(nm,b),List.mem_filter.mpr ⟨h1,?_⟩,rfl⟩
   unfold edge
   rw [Bool.and_eq_true,Bool.and_eq_true]
   exact ⟨by simp,by simpa using h2,bh.mpr h3⟩
theorem Ek {sm:List Str} {ps:List (Str×Str)} {nm:Str} {mu:Mu} (hl:ps.length<=1000):bD [.lst (SS sm),.lst (PP ps),.str nm] mu=some (.own (.lst (SS (oA sm ps nm))),mu):=by
 have c:fO (iZ 2 (bQ (aF 0) (bQ (aF 1) iV))) (iI (tT (au eqP (aa 0) (aa 2)) aU) (iI (tT (au mL (aa 1) (aa 2)) aU) (tT (au iW (aa 1) (aa 3)) aU))) (aa 1) (PP ps) ⟨[none,none,zT nm,zS sm],mu⟩ []=some (SS (oA sm ps nm),mu):=by
  have:=lK (b:=iZ 2 (bQ (aF 0) (bQ (aF 1) iV))) (tc:=iI (tT (au eqP (aa 0) (aa 2)) aU) (iI (tT (au mL (aa 1) (aa 2)) aU) (tT (au iW (aa 1) (aa 3)) aU))) (te:=aa 1) (mu:=mu)
   (fun ρ=>∃ o0 o1,ρ=⟨[o0,o1,zT nm,zS sm],mu⟩) (fun ρ ⟨_,_,e⟩=>by rw [e]) (fun p=>match p with | .tup [.str a,.str b]=>edge sm nm (a,b) | _=>false) (fun p=>match p with | .tup [_,b]=>b | _=>.non)
   (xs:=PP ps) (ρ:=⟨[none,none,zT nm,zS sm],mu⟩) (acc:=[]) ⟨none,none,rfl⟩ (by simp; omega) (by
     rintro x hx ρ ⟨o0,o1,rfl⟩
     obtain ⟨⟨a,b⟩,_,rfl⟩:=List.mem_map.mp hx
     refine ⟨_,rfl,⟨[zT a,zT b,zT nm,zS sm],mu⟩,?_,⟨_,_,rfl⟩,fun _=>⟨_,_,rfl,rfl,_,_,rfl⟩⟩
     exact uI (bG (l:=.sh (.bl (a==nm))) rfl rfl rfl) (uI (bG (l:=.sh (.bl (!(b==nm)))) rfl rfl rfl) (bG (aM rfl rfl rfl rfl yE) rfl rfl)))
  rw [this,List.nil_append,List.filter_map,List.map_map]
  unfold SS oA
  rw [List.map_map]
  rfl
 refine aX (ρ:=⟨[zS sm,zP ps,zT nm],mu⟩) (cI ?_)
 exact (eX (ρ1:=⟨[zS sm,zP ps,zT nm],mu⟩) (fD (l:=.sh (.lst (PP ps))) rfl rfl rfl) c).trans rfl
noncomputable def cF (ps:List (Str×Str)) (rest:List Str):List Str:=rest.filter fun n=>!(oA rest ps n).isEmpty
theorem truL {l:List Str}:cC (.lst (SS l))=some (!l.isEmpty):=by cases l<;>rfl
noncomputable abbrev El:EF:=b7 (d7 (aa 2) bV) 1 [2,1] (aF 0) (tT (aH bD (aj (aa 1) (aj (aa 2) (aj (aa 0) ao)))) cC) (aa 0)
theorem Em {N:Option Lc} {ps:List (Str×Str)} {rest:List Str} {o3:Option Lc} {l:Lc} {mu:Mu} (hp:ps.length<=1000) (hr:rest.length<=1000) (hl:l.pv=.lst (SS rest)):El ⟨[N,zP ps,some l,o3],mu⟩=some (.own (.lst (SS (cF ps rest))),⟨[N,zP ps,zS rest,o3],mu⟩):=by
 have c:fO (aF 0) (tT (aH bD (aj (aa 1) (aj (aa 2) (aj (aa 0) ao)))) cC) (aa 0) (SS rest) ⟨[none,zS rest,zP ps],mu⟩ []=some (SS (cF ps rest),mu):=by
  have:=lK (b:=aF 0) (tc:=tT (aH bD (aj (aa 1) (aj (aa 2) (aj (aa 0) ao)))) cC) (te:=aa 0) (mu:=mu)
   (fun ρ=>∃ o0,ρ=⟨[o0,zS rest,zP ps],mu⟩) (fun ρ ⟨_,e⟩=>by rw [e]) (fun p=>match p with | .str a=>!(oA rest ps a).isEmpty | _=>false) (fun p=>p)
   (xs:=SS rest) (ρ:=⟨[none,zS rest,zP ps],mu⟩) (acc:=[]) ⟨none,rfl⟩ (by simp; omega) (by
     rintro x hx ρ ⟨o0,rfl⟩
     obtain ⟨a,_,rfl⟩:=List.mem_map.mp hx
     refine ⟨_,rfl,⟨[zT a,zS rest,zP ps],mu⟩,?_,⟨_,rfl⟩,fun _=>⟨_,_,rfl,rfl,_,rfl⟩⟩
     exact bG (l:=.own (.lst (SS (oA rest ps a)))) (aW (az rfl (az rfl (az rfl rfl))) rfl rfl rfl (Ek hp)) rfl truL)
  rw [this,List.nil_append,List.filter_map,List.map_map]
  rfl
 refine (eX (ρ1:=⟨[N,zP ps,zS rest,o3],mu⟩) (fD (l:=wS rest) ?_ rfl rfl) c).trans rfl
 show some (Lc.sh l.pv,_)=_
 rw [hl]
 rfl
structure zV (names:List Str) (ps:List (Str×Str)) (rest:List Str):Prop where
 sub:∀ x∈rest,x∈names
 hgt:∃ (h:Str->Nat) (k:Nat),(∀ a∈names,a∉rest->h a<k)/\∀ a∈names,a∉rest->∀ b∈names,(a,b)∈ps->b≠a->b∉rest/\h b<h a
theorem zV.step {names:List Str} {ps:List (Str×Str)} {rest:List Str} (I:zV names ps rest):zV names ps (cF ps rest):=by
 obtain ⟨sub,h,k,h1,h2⟩:=I
 have sb:∀ x∈cF ps rest,x∈rest:=fun x hx=>(List.mem_filter.mp hx).1
 refine ⟨fun x hx=>sub x (sb x hx),fun a=>if a∈rest then k else h a,k+1,fun a ha hn=>?_,fun a ha hn b hb he hne=>?_⟩
 . by_cases hr:a∈rest
   . simp only [hr,if_true]; omega
   . simp only [hr,if_false]; have:=h1 a ha hr; omega
 . by_cases hr:a∈rest
   . have hbr:b∉rest:=fun hbr=>by
      apply hn
      refine List.mem_filter.mpr ⟨hr,?_⟩
      have:b∈oA rest ps a:=GK.mpr ⟨he,hne,hbr⟩
      cases hc:oA rest ps a with
      | nil=>rw [hc] at this; cases this
      | cons _ _=>rfl
     refine ⟨fun z=>hbr (sb b z),?_⟩
     simp only [hr,if_true,hbr,if_false]
     exact h1 b hb hbr
   . obtain ⟨q1,q2⟩:=h2 a ha hr b hb he hne
     refine ⟨fun z=>q1 (sb b z),?_⟩
     simp only [hr,if_false,q1]
     exact q2
noncomputable abbrev Ur:TF:=tT (au uF (eB fB (aj (aa 3) ao)) (eB fB (aj (aa 2) ao))) aU
noncomputable abbrev Eg:SF:=aK (aL 2 (aa 3)) (aL 3 El)
theorem qu {names:List Str} {N:Option Lc} {ps:List (Str×Str)} {mu:Mu} (hp:ps.length<=1000):∀ (n:Nat) (rest:List Str),rest.length<n->rest.length<=1000->zV names ps rest->
 ∃ rest',lw Ur Eg n ⟨[N,zP ps,zS rest,yO (SS (cF ps rest))],mu⟩=some (.nx ⟨[N,zP ps,yL (SS rest'),zS (cF ps rest')],mu⟩)/\zV names ps rest'/\cF ps rest'=rest'/\rest'.length<=rest.length
 | n+1,rest,hn,hr,I=>by
  have hc:Ur ⟨[N,zP ps,zS rest,yO (SS (cF ps rest))],mu⟩=some (decide (((SS (cF ps rest)).length:Int)<(SS rest).length),⟨[N,zP ps,zS rest,zS (cF ps rest)],mu⟩):=rfl
  have hle:(cF ps rest).length<=rest.length:=List.length_filter_le _ _
  show ∃ rest',((Ur _).bind _)=_/\_
  rw [hc,Option.bind_some]
  by_cases hlt:(cF ps rest).length<rest.length
  . rw [decide_eq_true (by rw [List.length_map,List.length_map]; omega)]
    obtain ⟨r',e,I',c',l'⟩:=qu hp n (cF ps rest) (by omega) (by omega) I.step
    refine ⟨r',?_,I',c',by omega⟩
    have hb:Eg ⟨[N,zP ps,zS rest,zS (cF ps rest)],mu⟩=some (.nx ⟨[N,zP ps,zS (cF ps rest),yO (SS (cF ps (cF ps rest)))],mu⟩):=
     aD (aY rfl rfl rfl) (aY (Em (l:=wS (cF ps rest)) hp (by omega) rfl) rfl rfl)
    rw [if_pos rfl,hb,Option.bind_some]
    exact e
  . rw [decide_eq_false (by rw [List.length_map,List.length_map]; omega)]
    refine ⟨rest,?_,I,?_,Nat.le_refl _⟩
    . rw [if_neg Bool.false_ne_true]
    . exact (List.filter_sublist).eq_of_length (by show (cF ps rest).length=rest.length; omega)
theorem gF {b:BF} {body:SF} {x:PV} {xs:List PV} {ρ ρ1 ρ2:Ev} {R:Option Fl} (h1:b x ρ=some ρ1) (h2:body ρ1=some (.nx ρ2)) (h3:dG b body xs ρ2=R):dG b body (x::xs) ρ=R:=by
 show (b x ρ).bind _=R
 rw [h1,Option.bind_some,h2,Option.bind_some]
 exact h3
theorem at0 {p:PV} {t:List PV}:gj (p::t) 0=some p:=by
 obtain ⟨x,h,h2⟩:=wy (l:=p::t) (i:=0) (by decide) (by simp only [List.length_cons]; omega)
 rw [h,← h2]; rfl
noncomputable def nx (sm:List Str) (ps:List (Str×Str)) (x:Str):Str:=(oA sm ps x).headD ""
noncomputable def wk (sm:List Str) (ps:List (Str×Str)) (s0:Str):Nat->Str
 | 0=>s0
 | n+1=>nx sm ps (wk sm ps s0 n)
theorem BW {sm:List Str} {ps:List (Str×Str)} (hc:cF ps sm=sm) {x:Str} (hx:x∈sm):oA sm ps x=nx sm ps x::(oA sm ps x).tail/\(x,nx sm ps x)∈ps/\nx sm ps x≠x/\nx sm ps x∈sm:=by
 have h:x∈cF ps sm:=by rw [hc]; exact hx
 have h2:=(List.mem_filter.mp h).2
 unfold nx
 cases e:oA sm ps x with
 | nil=>rw [e] at h2; cases h2
 | cons y ys=>
  have:y∈oA sm ps x:=by rw [e]; exact List.mem_cons_self
  exact ⟨rfl,GK.mp this⟩
theorem u0 {sm:List Str} {ps:List (Str×Str)} {s0:Str} (hc:cF ps sm=sm) (h0:s0∈sm):∀ n,wk sm ps s0 n∈sm
 | 0=>h0
 | n+1=>(BW hc (u0 hc h0 n)).2.2.2
theorem Pa {sm:List Str} {ps:List (Str×Str)} {x:Str} {mu:Mu} {fa:EF} {w o3:Option Lc} {w' o3':Option Lc} (hp:ps.length<=1000) (hc:cF ps sm=sm) (hx:x∈sm)
 (hf:fa ⟨[zS sm,zP ps,w,o3],mu⟩=some (.sh (.str x),⟨[zS sm,zP ps,w',o3'],mu⟩)):
 bz (aH bD (aj (aa 0) (aj (aa 1) (aj fa ao)))) (eC (.int 0)) ⟨[zS sm,zP ps,w,o3],mu⟩=some (.sh (.str (nx sm ps x)),⟨[zS sm,zP ps,w',o3'],mu⟩):=by
 refine iM (l:=.own (.lst (SS (oA sm ps x)))) (aW (ps:=[.lst (SS sm),.lst (PP ps),.str x]) (az rfl (az rfl (az hf rfl))) rfl rfl rfl (Ek hp)) rfl rfl rfl (fun n h=>by cases h) ?_
 show (gj (SS (oA sm ps x)) 0).map _=_
 rw [(BW hc hx).1]
 show (gj (PV.str (nx sm ps x)::SS _) 0).map _=_
 rw [at0]; rfl
theorem uV {l:List Str} {p q:Str->Bool} (h:∀ x,q x=true->p x=true) {x:Str} (hx:x∈l) (h1:p x=true) (h2:q x=false):(l.filter q).length<(l.filter p).length:=by
 induction l with
 | nil=>cases hx
 | cons y ys ih=>
  have hle:∀ ys:List Str,(ys.filter q).length<=(ys.filter p).length:=fun ys=>by
   induction ys with
   | nil=>exact Nat.le_refl _
   | cons z zs ihz=>
    rw [List.filter_cons,List.filter_cons]
    cases hq:q z with
    | true=>rw [h z hq]; simp only [if_true,List.length_cons]; omega
    | false=>cases hpz:p z<;>simp only [if_true,Bool.false_eq_true,if_false,List.length_cons]<;>omega
  rw [List.filter_cons,List.filter_cons]
  rcases List.mem_cons.mp hx with rfl | hx
  . rw [h1,h2]
    simp only [if_true,Bool.false_eq_true,if_false,List.length_cons]
    have:=hle ys
    omega
  . have:=ih hx
    cases hq:q y with
    | true=>rw [h y hq]; simp only [if_true,List.length_cons]; omega
    | false=>cases hpy:p y<;>simp only [if_true,Bool.false_eq_true,if_false,List.length_cons]<;>omega
noncomputable abbrev WK (sm:List Str) (ps:List (Str×Str)) (s0:Str) (k:Nat):List Str:=(List.range (k+1)).map (wk sm ps s0)
theorem zW {sm:List Str} {ps:List (Str×Str)} {s0:Str} {k:Nat}:WK sm ps s0 (k+1)=WK sm ps s0 k++[wk sm ps s0 (k+1)]:=by
 unfold WK
 rw [List.range_succ (n:=k+1),List.map_append]
 rfl
noncomputable abbrev Us:TF:=oN (tT (au kY (aa 3) (aa 2)) aU)
noncomputable abbrev V2:SF:=aK (nu 2 (aa 3)) (aL 3 (bz (aH bD (aj (aa 0) (aj (aa 1) (aj (aa 3) ao)))) (eC (.int 0))))
theorem Bb {sm:List Str} {ps:List (Str×Str)} {s0:Str} {mu:Mu} (hp:ps.length<=1000) (hc:cF ps sm=sm) (h0:s0∈sm):∀ (n k:Nat),(sm.filter fun x=>!has (WK sm ps s0 k) x).length<n->n+k<=1000->(∀ i j,i<j->j<=k->wk sm ps s0 i≠wk sm ps s0 j)->
 ∃ m,lw Us V2 n ⟨[zS sm,zP ps,yO (SS (WK sm ps s0 k)),zT (wk sm ps s0 (k+1))],mu⟩=some (.nx ⟨[zS sm,zP ps,yO (SS (WK sm ps s0 m)),zT (wk sm ps s0 (m+1))],mu⟩)/\
  (∀ i j,i<j->j<=m->wk sm ps s0 i≠wk sm ps s0 j)/\wk sm ps s0 (m+1)∈WK sm ps s0 m/\m<=1000
 | n+1,k,hn,hk,hd=>by
  have hc1:Us ⟨[zS sm,zP ps,yO (SS (WK sm ps s0 k)),zT (wk sm ps s0 (k+1))],mu⟩=some (!has (WK sm ps s0 k) (wk sm ps s0 (k+1)),⟨[zS sm,zP ps,yO (SS (WK sm ps s0 k)),zT (wk sm ps s0 (k+1))],mu⟩):=
   wz (bG (aM rfl rfl rfl rfl rR) rfl rfl)
  show ∃ m,((Us _).bind _)=_/\_
  rw [hc1,Option.bind_some]
  cases hh:has (WK sm ps s0 k) (wk sm ps s0 (k+1)) with
  | true=>
   refine ⟨k,?_,hd,bh.mp hh,by omega⟩
   show (if (!true)=true then _ else _)=_
   rw [if_neg (by decide)]
  | false=>
   have hmem:=u0 hc h0 (k+1)
   have hnot:=mX.mp hh
   have hd':∀ i j,i<j->j<=k+1->wk sm ps s0 i≠wk sm ps s0 j:=fun i j hij hj=>by
    by_cases hjk:j<=k
    . exact hd i j hij hjk
    . have:j=k+1:=by omega
      subst this
      intro e
      exact hnot (List.mem_map.mpr ⟨i,List.mem_range.mpr (by omega),e⟩)
   have hlt:(sm.filter fun x=>!has (WK sm ps s0 (k+1)) x).length<(sm.filter fun x=>!has (WK sm ps s0 k) x).length:=by
    refine uV (fun x hx=>?_) hmem (by simp [hh]) ?_
    . have h1:has (WK sm ps s0 (k+1)) x=false:=by simpa using hx
      have h2:=mX.mp h1
      have:has (WK sm ps s0 k) x=false:=mX.mpr fun z=>h2 (by rw [zW]; exact List.mem_append_left _ z)
      simp [this]
    . have:has (WK sm ps s0 (k+1)) (wk sm ps s0 (k+1))=true:=bh.mpr (by rw [zW]; exact List.mem_append_right _ (by simp))
      simp [this]
   obtain ⟨m,e,r⟩:=Bb hp hc h0 n (k+1) (by omega) (by omega) hd'
   refine ⟨m,?_,r⟩
   show (if (!false)=true then _ else _)=_
   rw [if_pos (by decide)]
   have hb:V2 ⟨[zS sm,zP ps,yO (SS (WK sm ps s0 k)),zT (wk sm ps s0 (k+1))],mu⟩=some (.nx ⟨[zS sm,zP ps,yO (SS (WK sm ps s0 (k+1))),zT (wk sm ps s0 (k+2))],mu⟩):=by
    refine aD (ρ':=⟨[zS sm,zP ps,yO (SS (WK sm ps s0 (k+1))),zT (wk sm ps s0 (k+1))],mu⟩) ?_ ?_
    . refine (xT (l:=.sh (.str (wk sm ps s0 (k+1)))) rfl rfl rfl rfl (by rw [List.length_map,List.length_map,List.length_range]; omega) rfl).trans ?_
      have e1:SS (WK sm ps s0 (k+1))=SS (WK sm ps s0 k)++[.str (wk sm ps s0 (k+1))]:=by rw [zW]; exact List.map_append
      rw [e1]
      rfl
    . exact aY (Pa (x:=wk sm ps s0 (k+1)) hp hc hmem rfl) rfl rfl
   rw [hb,Option.bind_some]
   exact e
structure En (names:List Str) (ps:List (Str×Str)) (r:List Str):Prop where
 two:2<=r.length
 sub:∀ x∈r,x∈names
 dis:∀ (k:Nat) x,r[k]?=some x->x∉r.take k
 nxt:∀ (k:Nat) x,r[k]?=some x->∃ y,r[(k+1)%r.length]?=some y/\(x,y)∈ps
 few:r.length<=2000
theorem GP:∀ l:List Str,pW (SS l)=true
 | []=>rfl
 | x::l=>by
  show (true&&pW (SS l))=true
  rw [GP l]; rfl
theorem KJ {sm:List Str} {ps:List (Str×Str)} {mu:Mu} (hp:ps.length<=1000) (hc:cF ps sm=sm) (hne:sm≠[]) (hl:sm.length<20):∃ r,lD [.lst (SS sm),.lst (PP ps)] mu=some (.own (.lst (SS r)),mu)/\En sm ps r:=by
 obtain ⟨s0,t,rfl⟩:∃ s0 t,sm=s0::t:=by cases sm with | nil=>exact absurd rfl hne | cons a b=>exact ⟨a,b,rfl⟩
 generalize hsm:s0::t=sm at hc hl
 have h0:s0∈sm:=by rw [← hsm]; exact List.mem_cons_self
 have hix:∀ w o3,bz (aa 0) (eC (.int 0)) ⟨[zS sm,zP ps,w,o3],mu⟩=some (.sh (.str s0),⟨[zS sm,zP ps,w,o3],mu⟩):=fun w o3=>by
  refine iM (l:=wS sm) rfl rfl rfl rfl (fun n h=>by cases h) ?_
  show (gj (SS sm) 0).map _=_
  rw [← hsm]
  show (gj (PV.str s0::SS t) 0).map _=_
  rw [at0]; rfl
 have s1:aL 2 (iz (aj (bz (aa 0) (eC (.int 0))) ao)) (env0 4 [.lst (SS sm),.lst (PP ps)] mu)=some (.nx ⟨[zS sm,zP ps,yO (SS (WK sm ps s0 0)),none],mu⟩):=
  aY (pX (ls:=[.sh (.str s0)]) (az (hix none none) rfl) rfl rfl) rfl rfl
 have s2:aL 3 (bz (aH bD (aj (aa 0) (aj (aa 1) (aj (bz (aa 0) (eC (.int 0))) ao)))) (eC (.int 0))) ⟨[zS sm,zP ps,yO (SS (WK sm ps s0 0)),none],mu⟩=some (.nx ⟨[zS sm,zP ps,yO (SS (WK sm ps s0 0)),zT (wk sm ps s0 1)],mu⟩):=
  aY (Pa (x:=s0) hp hc h0 (hix _ _)) rfl rfl
 obtain ⟨m,e,hd,hin,hm⟩:=Bb (mu:=mu) hp hc h0 20 0 (Nat.lt_of_le_of_lt (List.length_filter_le _ _) hl) (by omega) (fun i j hij hj=>by omega)
 have hfi:jJ (bC 150) (.str (wk sm ps s0 (m+1))) (SS (WK sm ps s0 m))=some true:=by rw [in_str,bh.mpr hin]
 have hlen:(WK sm ps s0 m).length=m+1:=by rw [List.length_map,List.length_range]
 generalize hj:(SS (WK sm ps s0 m)).findIdx (fun q=>(bC 150 q (.str (wk sm ps s0 (m+1)))).getD false)=j
 have hex:∃ q∈SS (WK sm ps s0 m),(fun q=>(bC 150 q (.str (wk sm ps s0 (m+1)))).getD false) q=true:=by
  refine ⟨.str (wk sm ps s0 (m+1)),List.mem_map.mpr ⟨_,hin,rfl⟩,?_⟩
  show (wk sm ps s0 (m+1)==wk sm ps s0 (m+1))=true
  simp
 have hjl:j<m+1:=by
  have w:(SS (WK sm ps s0 m)).findIdx (fun q=>(bC 150 q (.str (wk sm ps s0 (m+1)))).getD false)<(SS (WK sm ps s0 m)).length:=List.findIdx_lt_length.mpr hex
  rw [hj,List.length_map,hlen] at w
  exact w
 have hjw:wk sm ps s0 j=wk sm ps s0 (m+1):=by
  have w:(SS (WK sm ps s0 m)).findIdx (fun q=>(bC 150 q (.str (wk sm ps s0 (m+1)))).getD false)<(SS (WK sm ps s0 m)).length:=List.findIdx_lt_length.mpr hex
  have:=List.findIdx_getElem (w:=w)
  simp only [hj] at this
  have e2:(SS (WK sm ps s0 m))[j]'(by rw [hj] at w; exact w)=.str (wk sm ps s0 j):=by simp
  rw [e2] at this
  exact eq_of_beq (show (wk sm ps s0 j==wk sm ps s0 (m+1))=true from this)
 have cut:jY (SS (WK sm ps s0 m)) (some (j:Int)) none=SS ((WK sm ps s0 m).drop j):=by
  unfold jY
  rw [HT.sIx_none,HT.sIx_nat,List.length_map,hlen,show min j (m+1)=j from by omega,← List.map_drop]
  exact List.take_of_length_le (by rw [List.length_map,List.length_drop,hlen]; omega)
 refine ⟨(WK sm ps s0 m).drop j,?_,?_⟩
 . refine aX (ρ:=⟨[zS sm,zP ps,yO (SS (WK sm ps s0 m)),zT (wk sm ps s0 (m+1))],mu⟩) (aD s1 (aD s2 (aD e (cI (Dm (ρ1:=Ev.peek ⟨[zS sm,zP ps,yO (SS (WK sm ps s0 m)),zT (wk sm ps s0 (m+1))],mu⟩) ?_ (GP _))))))
   have hI:mO (aa 2) (aa 3) (Ev.peek ⟨[zS sm,zP ps,yO (SS (WK sm ps s0 m)),zT (wk sm ps s0 (m+1))],mu⟩)=some (.sh (.int (j:Int)),Ev.peek ⟨[zS sm,zP ps,yO (SS (WK sm ps s0 m)),zT (wk sm ps s0 (m+1))],mu⟩):=by
    show (if jJ (bC 150) (.str (wk sm ps s0 (m+1))) (SS (WK sm ps s0 m))=some true/\(SS (WK sm ps s0 m)).length<=100000 then _ else _)=_
    rw [if_pos ⟨hfi,by rw [List.length_map,hlen]; omega⟩]
    show some (Lc.sh (.int (((SS (WK sm ps s0 m)).findIdx (fun q=>(bC 150 q (.str (wk sm ps s0 (m+1)))).getD false):Nat):Int)),_)=_
    rw [hj]
    rfl
   have hO:cA (mO (aa 2) (aa 3)) (Ev.peek ⟨[zS sm,zP ps,yO (SS (WK sm ps s0 m)),zT (wk sm ps s0 (m+1))],mu⟩)=some (some (j:Int),Ev.peek ⟨[zS sm,zP ps,yO (SS (WK sm ps s0 m)),zT (wk sm ps s0 (m+1))],mu⟩):=by
    unfold cA
    rw [hI]
    rfl
   rw [← cut]
   show (((cA (mO (aa 2) (aa 3)) (Ev.peek ⟨[zS sm,zP ps,yO (SS (WK sm ps s0 m)),zT (wk sm ps s0 (m+1))],mu⟩))).bind _)=_
   rw [hO]
   rfl
 . have hnx:∀ i,(wk sm ps s0 i,wk sm ps s0 (i+1))∈ps/\wk sm ps s0 (i+1)≠wk sm ps s0 i:=fun i=>⟨(BW hc (u0 hc h0 i)).2.1,(BW hc (u0 hc h0 i)).2.2.1⟩
   have hjm:j<m:=by
    by_cases h:j=m
    . exfalso; rw [h] at hjw; exact (hnx m).2 hjw.symm
    . omega
   have hL:((WK sm ps s0 m).drop j).length=m+1-j:=by rw [List.length_drop,hlen]
   have hget:∀ k,k<m+1-j->((WK sm ps s0 m).drop j)[k]?=some (wk sm ps s0 (j+k)):=fun k hk=>by
    rw [List.getElem?_drop,List.getElem?_map,List.getElem?_range (by omega)]; rfl
   have hgi:∀ k x,((WK sm ps s0 m).drop j)[k]?=some x->k<m+1-j/\x=wk sm ps s0 (j+k):=fun k x hx=>by
    have hk:=(List.getElem?_eq_some_iff.mp hx).1
    rw [hL] at hk
    rw [hget k hk] at hx
    exact ⟨hk,(Option.some.inj hx).symm⟩
   refine ⟨by omega,fun x hx=>?_,fun k x hx hm'=>?_,fun k x hx=>?_,by omega⟩
   . obtain ⟨i,hi,rfl⟩:=List.mem_map.mp (List.mem_of_mem_drop hx)
     exact u0 hc h0 i
   . obtain ⟨hk,rfl⟩:=hgi k x hx
     obtain ⟨i,hi,e3⟩:=List.getElem_of_mem hm'
     rw [List.length_take,hL] at hi
     have e4:((WK sm ps s0 m).drop j)[i]?=some (wk sm ps s0 (j+k)):=by
      rw [List.getElem_take] at e3
      rw [← e3]
      exact List.getElem?_eq_getElem _
     obtain ⟨_,e5⟩:=hgi i _ e4
     exact hd (j+i) (j+k) (by omega) (by omega) e5.symm
   . obtain ⟨hk,rfl⟩:=hgi k x hx
     refine ⟨wk sm ps s0 (j+k+1),?_,(hnx (j+k)).1⟩
     rw [hL]
     by_cases hlast:k+1=m+1-j
     . rw [hlast,Nat.mod_self,hget 0 (by omega),Nat.add_zero,hjw,show j+k+1=m+1 from by omega]
     . rw [Nat.mod_eq_of_lt (by omega),hget (k+1) (by omega)]
       rfl
theorem ringof_eq {names:List Str} {ps:List (Str×Str)} {mu:Mu} (hp:ps.length<=1000) (hl:names.length<19):(mz [.lst (SS names),.lst (PP ps)] mu=some (.sh .non,mu)/\∃ h:Str->Nat,∀ a∈names,∀ b∈names,(a,b)∈ps->b≠a->h b<h a)\/
 ∃ r,mz [.lst (SS names),.lst (PP ps)] mu=some (.own (.lst (SS r)),mu)/\En names ps r:=by
 have I0:zV names ps names:=⟨fun x h=>h,fun _=>0,0,fun a ha hn=>absurd ha hn,fun a ha hn=>absurd ha hn⟩
 have s1:aL 2 (eB list1 (aj (aa 0) ao)) (env0 4 [.lst (SS names),.lst (PP ps)] mu)=some (.nx ⟨[zS names,zP ps,yO (SS names),none],mu⟩):=rfl
 have s2:aL 3 El ⟨[zS names,zP ps,yO (SS names),none],mu⟩=some (.nx ⟨[zS names,zP ps,zS names,yO (SS (cF ps names))],mu⟩):=
  aY (Em (l:=.own (.lst (SS names))) hp (by omega) rfl) rfl rfl
 obtain ⟨rest,e,I,hc,hlr⟩:=qu (N:=zS names) (mu:=mu) hp 20 names (by omega) (by omega) I0
 have t:jO (tT (aa 2) cC) ⟨[zS names,zP ps,zS rest,zS (cF ps rest)],mu⟩=some (!!rest.isEmpty,⟨[zS names,zP ps,zS rest,zS (cF ps rest)],mu⟩):=
  rN (bG (l:=wS rest) rfl rfl truL)
 cases hr:rest with
 | nil=>
  subst hr
  obtain ⟨_,h,k,h1,h2⟩:=I
  refine .inl ⟨aX (ρ:=⟨[zS names,zP ps,zS [],zS (cF ps [])],mu⟩) (aD s1 (aD s2 (aD e (fP ((gf t).trans rfl))))),h,fun a ha b hb he hne=>(h2 a ha (by simp) b hb he hne).2⟩
 | cons x xs=>
  have hne:rest≠[]:=by rw [hr]; simp
  obtain ⟨r,er,ok⟩:=KJ (mu:=mu) hp hc hne (by omega)
  refine .inr ⟨r,?_,ok.two,fun x hx=>I.sub x (ok.sub x hx),ok.dis,ok.nxt,ok.few⟩
  refine aX (ρ:=⟨[zS names,zP ps,zS rest,zS (cF ps rest)],mu⟩) (aD s1 (aD s2 (aD e (aD ((cD (ρ1:=⟨[zS names,zP ps,zS rest,zS (cF ps rest)],mu⟩) (t.trans (by rw [hr]; rfl))).trans rfl) ?_))))
  exact cI (aW (ps:=[.lst (SS rest),.lst (PP ps)]) (az rfl (az rfl rfl)) rfl rfl rfl er)
theorem ring_no {names r:List Str} {ps:List (Str×Str)} (ok:En names ps r) {h:Str->Nat} (hh:∀ q∈ps,q.1≠q.2->h q.1<h q.2):False:=by
 have two:=ok.two
 have up:∀ k (hk:k<r.length),k+1<r.length->∃ hk1:k+1<r.length,h r[k]<h r[k+1]:=fun k hk hk1=>by
  obtain ⟨y,h1,h2⟩:=ok.nxt k r[k] (List.getElem?_eq_getElem hk)
  rw [Nat.mod_eq_of_lt hk1,List.getElem?_eq_getElem hk1] at h1
  cases h1
  refine ⟨hk1,hh _ h2 fun e=>?_⟩
  have e':r[k]=r[k+1]:=e
  refine ok.dis (k+1) r[k+1] (List.getElem?_eq_getElem hk1) ?_
  rw [← e']
  exact List.mem_take_iff_getElem.mpr ⟨k,by omega,rfl⟩
 have all:∀ k (hk:k<r.length),h (r[0]'(by omega))<=h r[k]:=fun k=>by
  induction k with
  | zero=>exact fun hk=>Nat.le_refl _
  | succ k ih=>
   intro hk
   obtain ⟨_,h1⟩:=up k (by omega) hk
   have:=ih (by omega)
   omega
 obtain ⟨y,h1,h2⟩:=ok.nxt (r.length-1) (r[r.length-1]'(by omega)) (List.getElem?_eq_getElem (by omega))
 rw [show r.length-1+1=r.length by omega,Nat.mod_self,List.getElem?_eq_getElem (by omega)] at h1
 cases h1
 have h3:=hh _ h2 fun e=>by
  have e':r[r.length-1]'(by omega)=r[0]'(by omega):=e
  refine ok.dis (r.length-1) (r[r.length-1]'(by omega)) (List.getElem?_eq_getElem (by omega)) ?_
  rw [e']
  exact List.mem_take_iff_getElem.mpr ⟨0,by omega,rfl⟩
 have h4:=all (r.length-1) (by omega)
 have h5:h (r[r.length-1]'(by omega))<h (r[0]'(by omega)):=h3
 omega
end Rg
structure vG (xs:List Str) (ps:List (Str×Str)):Prop where
 nd:xs.Nodup
 ne:xs≠[]
 l8:xs.length<=8
 lp:ps.length<=68
 nm:∀ x∈xs,nameB x=true
 mem:∀ q∈ps,q.1∈xs/\q.2∈xs
 acyc:∃ h:Str->Nat,∀ q∈ps,q.1≠q.2->h q.1<h q.2
 up:∀ a∈xs,∀ b∈xs,bnd ps a b≠.non
 dn:∀ a∈xs,∀ b∈xs,bnd (iH ps) a b≠.non
 lo:∃ x∈xs,(cz ps x).length=xs.length
 hi:∃ x∈xs,(cz ps x).length=1
theorem Bc {b:BF} {body:SF} {xs:List PV} {ρ:Ev} (J:Ev->Prop) (h0:J ρ) (hs:∀ x∈xs,∀ ρ,J ρ->∃ ρ1,b x ρ=some ρ1/\∃ ρ2,body ρ1=some (.nx ρ2)/\J ρ2):∃ ρ',dG b body xs ρ=some (.nx ρ')/\J ρ':=by
 induction xs generalizing ρ with
 | nil=>exact ⟨ρ,rfl,h0⟩
 | cons x xs ih=>
  obtain ⟨ρ1,e1,ρ2,e2,h2⟩:=hs x List.mem_cons_self ρ h0
  obtain ⟨ρ',e3,h3⟩:=ih h2 fun y hy=>hs y (List.mem_cons_of_mem _ hy)
  exact ⟨ρ',gF e1 e2 e3,h3⟩
theorem Ny {xs:List Str} (hd:xs.Nodup) (x:Str):((SS xs).countP fun q=>(bC 150 q (.str x)).getD false)<=1:=by
 unfold SS
 rw [List.countP_map]
 have e:(fun q:PV=>(bC 150 q (.str x)).getD false) ∘ PV.str=fun y=>y==x:=rfl
 rw [e]
 have:=List.Nodup.count (a:=x) hd
 show List.count x xs<=1
 rw [this]
 split<;>omega
theorem yM {xs:List Str} {ps:List (Str×Str)} {mu:Mu} (ok:vG xs ps):kI [.lst (SS xs),.lst (PP ps)] mu=some (.sh .non,mu):=by
 obtain ⟨ρ1,e1,o2,rfl⟩:=Bc (b:=aF 2) (body:=aK (dq (jO (tT (aH my (aj (aa 2) ao)) cC)) nQ bO) (dq (tT (au xO (xY (aa 0) (aa 2)) (eC (.int 1))) aU) nQ bO)) (xs:=SS xs) (ρ:=⟨[zS xs,zP ps,none,none,none],mu⟩) (fun ρ=>∃ o2,ρ=⟨[zS xs,zP ps,o2,none,none],mu⟩) ⟨none,rfl⟩ (by
  rintro p hp ρ ⟨o2,rfl⟩
  obtain ⟨x,hx,rfl⟩:=List.mem_map.mp hp
  refine ⟨⟨[zS xs,zP ps,zT x,none,none],mu⟩,rfl,⟨[zS xs,zP ps,zT x,none,none],mu⟩,aD (ρ':=⟨[zS xs,zP ps,zT x,none,none],mu⟩) ?_ ?_,_,rfl⟩
  . have hl:x.length<=100000:=by
     have h:=ok.nm x hx
     unfold nameB uU at h
     rw [Bool.and_eq_true,Bool.and_eq_true] at h
     have:=of_decide_eq_true h.1.2
     omega
    refine (cD (ρ1:=⟨[zS xs,zP ps,zT x,none,none],mu⟩) (rN (b:=true) (bG (l:=.sh (.bl true)) ((aW (az rfl rfl) rfl rfl rfl (QX hl)).trans (by rw [ok.nm x hx]; rfl)) rfl rfl))).trans rfl
  . have hc:=Ny ok.nd x
    have ec:xY (aa 0) (aa 2) ⟨[zS xs,zP ps,zT x,none,none],mu⟩=some (.sh (.int (((SS xs).countP fun q=>(bC 150 q (.str x)).getD false:Nat))),⟨[zS xs,zP ps,zT x,none,none],mu⟩):=by
     show (if (jJ (bC 150) (.str x) (SS xs)).isSome=true/\(SS xs).length<=100000 then _ else none)=_
     rw [if_pos ⟨by rw [in_str]; rfl,by rw [List.length_map]; have:=ok.l8; omega⟩]
     rfl
    generalize ((SS xs).countP fun q=>(bC 150 q (.str x)).getD false)=c at hc ec
    refine (cD (ρ1:=⟨[zS xs,zP ps,zT x,none,none],mu⟩) ((bG (l:=.sh (.bl (decide ((1:Int)<(c:Nat))))) (aM ec rfl rfl rfl rfl) rfl rfl).trans (by rw [decide_eq_false (by omega)]))).trans rfl)
 obtain ⟨ρ2,e2,o3,o4,rfl⟩:=Bc (b:=iZ 2 (bQ (aF 3) (bQ (aF 4) iV))) (body:=dq (gP (tT (au kY (aa 3) (aa 0)) aU) (tT (au kY (aa 4) (aa 0)) aU)) nQ bO) (xs:=PP ps) (ρ:=⟨[zS xs,zP ps,o2,none,none],mu⟩) (fun ρ=>∃ o3 o4,ρ=⟨[zS xs,zP ps,o2,o3,o4],mu⟩) ⟨none,none,rfl⟩ (by
  rintro p hp ρ ⟨o3,o4,rfl⟩
  obtain ⟨q,hq,rfl⟩:=List.mem_map.mp hp
  obtain ⟨h1,h2⟩:=ok.mem q hq
  refine ⟨⟨[zS xs,zP ps,o2,yS (.str q.1),yS (.str q.2)],mu⟩,rfl,⟨[zS xs,zP ps,o2,yS (.str q.1),yS (.str q.2)],mu⟩,?_,_,_,rfl⟩
  exact (cD (ρ1:=⟨[zS xs,zP ps,o2,yS (.str q.1),yS (.str q.2)],mu⟩) (qM (b:=false) (b2:=false) ((bG (aM rfl rfl rfl rfl rR) rfl rfl).trans (by rw [bh.mpr h1]; rfl)) ((bG (aM rfl rfl rfl rfl rR) rfl rfl).trans (by rw [bh.mpr h2]; rfl)))).trans rfl)
 exact zp (ρ:=⟨[zS xs,zP ps,o2,o3,o4],mu⟩) (aD (ik (ρ1:=⟨[zS xs,zP ps,none,none,none],mu⟩) (fD (l:=wS xs) rfl rfl rfl) e1) (ik (ρ1:=⟨[zS xs,zP ps,o2,none,none],mu⟩) (fD (l:=.sh (.lst (PP ps))) rfl rfl rfl) e2))
theorem yN {xs:List Str} {ps:List (Str×Str)} {mu:Mu} (ok:vG xs ps):kJ [.lst (SS xs),.lst (PP ps)] mu=some (.sh .non,mu):=by
 have lp:=ok.lp
 have l8:=ok.l8
 have er:mz [.lst (SS xs),.lst (PP ps)] mu=some (.sh .non,mu):=by
  rcases Rg.ringof_eq (names:=xs) (ps:=ps) (mu:=mu) (by omega) (by omega) with ⟨e,_⟩ | ⟨r,e,rk⟩
  . exact e
  . obtain ⟨h,hh⟩:=ok.acyc
    exact (Rg.ring_no rk hh).elim
 have el:ou [.lst (SS xs),.lst (PP ps)] mu=some (.sh .non,mu):=by
  obtain ⟨l,e,h⟩:=Iz (mu:=mu) ok.lp ok.mem ok.nd (by omega)
  rcases h with ⟨rfl,_⟩ | ⟨a,ha,b,hb,_,h⟩ | ⟨a,ha,b,hb,_,h⟩
  . exact e
  . exact (ok.up a ha b hb h).elim
  . exact (ok.dn a ha b hb h).elim
 have hne:xs.isEmpty=false:=by
  have:=ok.ne
  cases xs with
  | nil=>exact absurd rfl this
  | cons _ _=>rfl
 have t0:jO (tT (aa 0) cC) (env0 4 [.lst (SS xs),.lst (PP ps)] mu)=some (false,⟨[zS xs,zP ps,none,none],mu⟩):=(rN (b:=!xs.isEmpty) (bG (l:=wS xs) rfl rfl Rg.truL)).trans (by rw [hne]; rfl)
 exact zp (ρ:=⟨[zS xs,zP ps,some (.sh .non),some (.sh .non)],mu⟩) (aD ((cD t0).trans rfl) (aD (aY (aW (az rfl (az rfl rfl)) rfl rfl rfl er) rfl rfl) (aD ((cD (ρ1:=⟨[zS xs,zP ps,some (.sh .non),none],mu⟩) rfl).trans rfl) (aD (aY (aW (az rfl (az rfl rfl)) rfl rfl rfl el) rfl rfl) ((cD (ρ1:=⟨[zS xs,zP ps,some (.sh .non),some (.sh .non)],mu⟩) rfl).trans rfl)))))
theorem Q4 {C f:Str} {fo fv:EF} {ρ ρ1 ρ2:Ev} {y x:Lc} {p:PV} {n:Nat} {l:FD} (h1:fv ρ=some (y,ρ1)) (hy:y.pv=p) (h2:fo ρ1=some (x,ρ2)) (hx:x.pv=.ptr n) (hm:ρ2.mu[n]?=some (some (di C l))) (hl:l.length<1000):iQ C f fo fv ρ=some (.nx ⟨ρ2.vs,ρ2.mu.set n (some (di C (gH f p l)))⟩):=by
 unfold iQ
 rw [h1,Option.bind_some,h2,Option.bind_some,hx]
 dsimp only
 rw [hm]
 unfold di
 dsimp only
 rw [if_pos ⟨rfl,by rw [List.length_map]; exact hl⟩,Eh,hy]
theorem mY {C f:Str} {fo:EF} {ρ ρ1:Ev} {x:Lc} {p:PV} {n:Nat} {l:FD} (h2:fo ρ=some (x,ρ1)) (hx:x.pv=.ptr n) (hm:ρ1.mu[n]?=some (some (di C l))) (hp:gh l f=some p):iB C f fo ρ=some (.sh p,ρ1):=by
 unfold iB
 rw [h2,Option.bind_some,hx]
 dsimp only
 rw [hm]
 unfold di
 dsimp only
 rw [if_pos rfl,Eh,hp]
 rfl
theorem Q5 {C m:Str} {g:GF} {fo:EF} {a:AF} {ρ ρ1 ρ2:Ev} {x:Lc} {ls:List Lc} {n:Nat} {l:FD} {r:Lc} {mu2:Mu} {ps:List PV} (h1:fo ρ=some (x,ρ1)) (hx:x.pv=.ptr n) (hm:ρ1.mu[n]?=some (some (di C l))) (hc:(l.map (·.1)).contains m=false) (h2:a ρ1=some (ls,ρ2)) (hps:ls.map Lc.pv=ps) (h3:g (.ptr n::ps) ρ2.mu=some (r,mu2)):lC C m g fo a ρ=some (r,⟨ρ2.vs,mu2⟩):=by
 unfold lC
 rw [h1,Option.bind_some,hx]
 dsimp only
 rw [hm]
 unfold di
 dsimp only
 rw [if_pos ⟨rfl,hc⟩,h2,Option.bind_some,hps,h3]
 rfl
theorem Q6 {C:Str} {g:GF} {a:AF} {ρ ρ1:Ev} {ls:List Lc} {ps:List PV} {mu2:Mu} (h:a ρ=some (ls,ρ1)) (hps:ls.map Lc.pv=ps) (h2:g (.ptr ρ1.mu.length::ps) (ρ1.mu++[some (di C [])])=some (.sh .non,mu2)):vC C g a ρ=some (.sh (.ptr ρ1.mu.length),⟨ρ1.vs,mu2⟩):=by
 unfold vC
 rw [h,Option.bind_some,hps]
 rw [show g (.ptr ρ1.mu.length::ps) (ρ1.mu++[some (.obj C [] [])])=_ from h2]
 rfl
noncomputable abbrev oF (xs:List Str) (ps:List (Str×Str)) (lj lm:ir) (lo hi:Str):FD:=[("names",.lst (SS xs)),("above",DF ps xs),("joins",gA lj),("meets",gA lm),("lowest",.str lo),("highest",.str hi)]
structure Pb (xs:List Str) (ps:List (Str×Str)) (l:FD):Prop where
 ex:∃ lj lm lo hi,l=oF xs ps lj lm lo hi/\Tb ps xs lj/\(∀ x∈xs,∀ y∈xs,en ps x y∈lj)/\Tb (iH ps) xs lm/\(∀ x∈xs,∀ y∈xs,en (iH ps) x y∈lm)/\(lo∈xs/\(cz ps lo).length=xs.length)/\hi∈xs/\(cz ps hi).length=1
theorem Bd {xs:List Str} {ps:List (Str×Str)} {mu:Mu} {n:Nat} {l:FD} {c:Nat} {tc:TF} {vs:List (Option Lc)} (hl:xs.length<=1000) (ht:∀ x∈xs,tc ⟨zT x::vs,mu⟩=some (decide ((cz ps x).length=c),⟨zT x::vs,mu⟩)):fO (aF 0) tc (aa 0) (SS xs) ⟨none::vs,mu⟩ []=some (SS (xs.filter fun x=>decide ((cz ps x).length=c)),mu):=by
 have:=lK (b:=aF 0) (tc:=tc) (te:=aa 0) (mu:=mu) (fun ρ=>∃ o,ρ=⟨o::vs,mu⟩) (fun ρ ⟨o,e⟩=>by rw [e]) (fun p=>match p with | .str y=>decide ((cz ps y).length=c) | _=>false) (fun p=>p) (xs:=SS xs) (ρ:=⟨none::vs,mu⟩) (acc:=[]) ⟨none,rfl⟩ (by simp; omega) (by
  rintro z hz ρ ⟨o,rfl⟩
  obtain ⟨y,hy,rfl⟩:=List.mem_map.mp hz
  exact ⟨⟨zT y::vs,mu⟩,rfl,_,ht y hy,⟨_,rfl⟩,fun _=>⟨_,_,rfl,rfl,_,rfl⟩⟩)
 rw [this,List.nil_append,List.filter_map,List.map_map]
 rfl
theorem Ut {ys:List Str} (h:ys≠[]):∃ y∈ys,pU (.lst (SS ys)) (.int 0)=zT y:=by
 cases ys with
 | nil=>exact absurd rfl h
 | cons y t=>exact ⟨y,List.mem_cons_self,by show (gj (SS (y::t)) 0).map _=_; rw [show SS (y::t)=.str y::SS t from rfl,at0]; rfl⟩
theorem KN {fa fb:EF} {ρ ρ1 ρ2:Ev} {l m r:Lc} {qs:List PV} {q:PV} (h1:fa ρ=some (l,ρ1)) (hx:l.pv=.lst qs) (h2:fb ρ1=some (m,ρ2)) (hy:m.pv=q) (h3:pU (.lst qs) q=some r):jl fa fb ρ=some (r,ρ2):=by
 unfold jl
 rw [h1,Option.bind_some,h2,Option.bind_some]
 dsimp only
 rw [hx]
 dsimp only
 exact iM (fa:=fun _=>some (l,ρ1)) (fb:=fun _=>some (m,ρ2)) rfl hx rfl hy (fun n h=>by cases h) h3
theorem GQ {f:EF} {ρ ρ1:Ev} {l:Lc} {qs:List PV} (h:f ρ=some (l,ρ1)) (hl:l.pv=.lst qs):qU f ρ=some (.sh (.int (qs.length:Nat)),ρ1):=by
 unfold qU
 rw [h,Option.bind_some,hl]
 rfl
theorem GR {a b:Int}:Dr (.int a) (.int b)=yS (.bl (a==b)):=rfl
noncomputable abbrev KQ (xs:List Str):FD:=[("names",.lst (SS xs))]
noncomputable abbrev KR (xs:List Str) (ps:List (Str×Str)):FD:=[("names",.lst (SS xs)),("above",DF ps xs)]
noncomputable abbrev Be (xs:List Str) (ps:List (Str×Str)) (lj:ir):FD:=[("names",.lst (SS xs)),("above",DF ps xs),("joins",gA lj)]
noncomputable abbrev GZ (xs:List Str) (ps:List (Str×Str)) (lj lm:ir):FD:=[("names",.lst (SS xs)),("above",DF ps xs),("joins",gA lj),("meets",gA lm)]
noncomputable abbrev G3 (xs:List Str) (ps:List (Str×Str)) (lj lm:ir) (lo:Str):FD:=[("names",.lst (SS xs)),("above",DF ps xs),("joins",gA lj),("meets",gA lm),("lowest",.str lo)]
theorem gG {f g:Str} {p q:PV} {r:FD} (h:¬ g=f):gH f p ((g,q)::r)=(g,q)::gH f p r:=by
 show (if g=f then _ else _)=_
 rw [if_neg h]
theorem Q7 {xs:List Str} {ps:List (Str×Str)} {mu:Mu} (ok:vG xs ps):∃ l,Pb xs ps l/\fY [.ptr mu.length,.lst (SS xs),.lst (PP ps)] (mu++[some (di "Order" [])])=some (.sh .non,mu++[some (di "Order" l)]):=by
 have l8:=ok.l8
 have hset:∀ (p q:Option PV),(mu++[p]).set mu.length q=mu++[q]:=fun p q=>by rw [List.set_append_right _ _ (Nat.le_refl _)]; simp
 have hget:∀ (p:Option PV),(mu++[p])[mu.length]?=some p:=fun p=>by rw [List.getElem?_append_right (Nat.le_refl _)]; simp
 obtain ⟨lj,ej,t1,t2⟩:=uY (ps:=ps) (names:=xs) (mu:=mu++[some (di "Order" (KR xs ps))]) ok.lp (fun q hq=>(ok.mem q hq).2) (by omega)
 have hsw:∀ q∈iH ps,q.2∈xs:=fun q hq=>by
  obtain ⟨q',hq',rfl⟩:=List.mem_map.mp hq
  exact (ok.mem q' hq').1
 obtain ⟨lm,em,t3,t4⟩:=uY (ps:=iH ps) (names:=xs) (mu:=mu++[some (di "Order" (Be xs ps lj))]) (by rw [List.length_map]; exact ok.lp) hsw (by omega)
 let E:FD->Ev:=fun l=>⟨[yS (.ptr mu.length),zS xs,zP ps],mu++[some (di "Order" l)]⟩
 have sf:∀ (f:Str) (fv:EF) (l:FD) (y:Lc),fv (E l)=some (y,E l)->l.length<1000->iQ "Order" f (aa 0) fv (E l)=some (.nx (E (gH f y.pv l))):=fun f fv l y h hl=>by
  rw [Q4 h rfl (x:=.sh (.ptr mu.length)) (ρ2:=E l) rfl rfl (hget _) hl,show (E l).mu=mu++[some (di "Order" l)] from rfl,hset]
 have s1:iQ "Order" "names" (aa 0) (eB list1 (aj (aa 1) ao)) (E [])=some (.nx (E (KQ xs))):=sf _ _ [] (.own (.lst (SS xs))) rfl (by decide)
 have p2:gH "above" (DF ps xs) (KQ xs)=(KR xs ps):=by
  rw [gG (show ¬ (("names" : Str) = "above") from by decide +kernel)]
  rfl
 have s2:iQ "Order" "above" (aa 0) (nZ (aH cY (aj (aa 1) (aj (aa 2) ao)))) (E (KQ xs))=some (.nx (E (KR xs ps))):=by
  rw [← p2]
  refine sf _ _ _ (.sh (DF ps xs)) ?_ (by show 1<1000; decide)
  have e1:aH cY (aj (aa 1) (aj (aa 2) ao)) (E (KQ xs))=some (.own (mQ (iw ps xs)),E (KQ xs)):=aW (az rfl (az rfl rfl)) rfl rfl rfl (qx ok.lp ok.nd (by omega))
  unfold nZ
  rw [e1]
  rfl
 have fab:∀ (fo:EF) (ρ:Ev) (l:FD),fo ρ=some (.sh (.ptr mu.length),ρ)->ρ.mu=mu++[some (di "Order" (("names",.lst (SS xs))::("above",DF ps xs)::l))]->iB "Order" "above" fo ρ=some (.sh (DF ps xs),ρ):=fun fo ρ l h hm=>by
  refine mY h rfl (by rw [hm]; exact hget _) ?_
  show (if ("names" : Str) = "above" then _ else _)=_
  rw [if_neg (show ¬ (("names" : Str) = "above") from by decide +kernel)]
  show (if ("above" : Str) = "above" then _ else _)=_
  rw [if_pos rfl]
 have p3:gH "joins" (gA lj) (KR xs ps)=(Be xs ps lj):=by
  rw [gG (show ¬ (("names" : Str) = "joins") from by decide +kernel),gG (show ¬ (("above" : Str) = "joins") from by decide +kernel)]
  rfl
 have s3:iQ "Order" "joins" (aa 0) (aH iD (aj (iB "Order" "above" (aa 0)) ao)) (E (KR xs ps))=some (.nx (E (Be xs ps lj))):=by
  rw [← p3]
  refine sf _ _ _ (.own (gA lj)) ?_ (by show 2<1000; decide)
  exact aW (az (fab _ _ [] rfl rfl) rfl) rfl rfl rfl ej
 have p4:gH "meets" (gA lm) (Be xs ps lj)=(GZ xs ps lj lm):=by
  rw [gG (show ¬ (("names" : Str) = "meets") from by decide +kernel),gG (show ¬ (("above" : Str) = "meets") from by decide +kernel),gG (show ¬ (("joins" : Str) = "meets") from by decide +kernel)]
  rfl
 have s4:iQ "Order" "meets" (aa 0) (aH iD (aj (nZ (aH cJ (aj (aa 1) (aj (aa 2) ao)))) ao)) (E (Be xs ps lj))=some (.nx (E (GZ xs ps lj lm))):=by
  rw [← p4]
  refine sf _ _ _ (.own (gA lm)) ?_ (by show 3<1000; decide)
  have e1:aH cJ (aj (aa 1) (aj (aa 2) ao)) (E (Be xs ps lj))=some (.own (mQ (iw (iH ps) xs)),E (Be xs ps lj)):=aW (az rfl (az rfl rfl)) rfl rfl rfl (rW ok.lp ok.nd (by omega))
  refine aW (az (l:=.sh (DF (iH ps) xs)) (ls:=[]) (ρ1:=E (Be xs ps lj)) ?_ rfl) rfl rfl rfl em
  unfold nZ
  rw [e1]
  rfl
 have lenA:∀ (ρ:Ev) (l:FD) (x:Str),x∈xs->ρ.vs[0]?=some (zT x)->ρ.vs[1]?=some (yS (.ptr mu.length))->ρ.set 0 (zT x)=ρ->ρ.set 1 (yS (.ptr mu.length))=ρ->ρ.mu=mu++[some (di "Order" (("names",.lst (SS xs))::("above",DF ps xs)::l))]->qU (jl (iB "Order" "above" (aa 1)) (aa 0)) ρ=some (.sh (.int ((cz ps x).length:Nat)),ρ):=fun ρ l x hx h0 h1 hs0 hs1 hm=>by
  have v0:aa 0 ρ=some (.sh (.str x),ρ):=by unfold aa; rw [h0]; show some (Lc.sh (PV.str x),ρ.set 0 (zT x))=_; rw [hs0]
  have v1:aa 1 ρ=some (.sh (.ptr mu.length),ρ):=by unfold aa; rw [h1]; show some (Lc.sh (PV.ptr mu.length),ρ.set 1 (yS (.ptr mu.length)))=_; rw [hs1]
  have:=GQ (uX (d:=iw ps xs) (fab _ _ l v1 hm) rfl v0 rfl (pF hx)) rfl
  rw [this,List.length_map]
 have lo_ne:(xs.filter fun x=>decide ((cz ps x).length=xs.length))≠[]:=by
  obtain ⟨x,hx,h⟩:=ok.lo
  exact List.ne_nil_of_mem (List.mem_filter.mpr ⟨hx,decide_eq_true h⟩)
 have hi_ne:(xs.filter fun x=>decide ((cz ps x).length=1))≠[]:=by
  obtain ⟨x,hx,h⟩:=ok.hi
  exact List.ne_nil_of_mem (List.mem_filter.mpr ⟨hx,decide_eq_true h⟩)
 obtain ⟨lo,hlo,alo⟩:=Ut lo_ne
 obtain ⟨hi,hhi,ahi⟩:=Ut hi_ne
 have p5:gH "lowest" (.str lo) (GZ xs ps lj lm)=(G3 xs ps lj lm lo):=by
  rw [gG (show ¬ (("names" : Str) = "lowest") from by decide +kernel),gG (show ¬ (("above" : Str) = "lowest") from by decide +kernel),gG (show ¬ (("joins" : Str) = "lowest") from by decide +kernel),gG (show ¬ (("meets" : Str) = "lowest") from by decide +kernel)]
  rfl
 have s5:iQ "Order" "lowest" (aa 0) (jl (b7 (d7 (aa 1) bV) 1 [0,1] (aF 0) (tT (au Dr (qU (jl (iB "Order" "above" (aa 1)) (aa 0))) (qU (aa 2))) aU) (aa 0)) (eC (.int 0))) (E (GZ xs ps lj lm))=some (.nx (E (G3 xs ps lj lm lo))):=by
  rw [← p5]
  refine sf _ _ _ (.sh (.str lo)) ?_ (by show 4<1000; decide)
  refine KN (l:=.own (.lst (SS (xs.filter fun x=>decide ((cz ps x).length=xs.length))))) ((eX (ρ1:=E (GZ xs ps lj lm)) (fD (l:=wS xs) rfl rfl rfl) (Bd (ps:=ps) (n:=0) (l:=[]) (c:=xs.length) (vs:=[yS (.ptr mu.length),zS xs]) (mu:=mu++[some (di "Order" (GZ xs ps lj lm))]) (by omega) fun x hx=>?_)).trans rfl) rfl rfl rfl alo
  refine (bG (l:=.sh (.bl ((((cz ps x).length:Nat):Int)==((SS xs).length:Nat)))) (aM (lenA _ _ x hx rfl rfl rfl rfl rfl) rfl (GQ (l:=wS xs) rfl rfl) rfl GR) rfl rfl).trans ?_
  rw [List.length_map]
  congr 2
  rw [Bool.eq_iff_iff,beq_iff_eq,decide_eq_true_eq]
  omega
 have p6:gH "highest" (.str hi) (G3 xs ps lj lm lo)=oF xs ps lj lm lo hi:=by
  rw [gG (show ¬ (("names" : Str) = "highest") from by decide +kernel),gG (show ¬ (("above" : Str) = "highest") from by decide +kernel),gG (show ¬ (("joins" : Str) = "highest") from by decide +kernel),gG (show ¬ (("meets" : Str) = "highest") from by decide +kernel),gG (show ¬ (("lowest" : Str) = "highest") from by decide +kernel)]
  rfl
 have s6:iQ "Order" "highest" (aa 0) (jl (b7 (d7 (aa 1) bV) 1 [0] (aF 0) (tT (au Dr (qU (jl (iB "Order" "above" (aa 1)) (aa 0))) (eC (.int 1))) aU) (aa 0)) (eC (.int 0))) (E (G3 xs ps lj lm lo))=some (.nx (E (oF xs ps lj lm lo hi))):=by
  rw [← p6]
  refine sf _ _ _ (.sh (.str hi)) ?_ (by show 5<1000; decide)
  refine KN (l:=.own (.lst (SS (xs.filter fun x=>decide ((cz ps x).length=1))))) ((eX (ρ1:=E (G3 xs ps lj lm lo)) (fD (l:=wS xs) rfl rfl rfl) (Bd (ps:=ps) (n:=0) (l:=[]) (c:=1) (vs:=[yS (.ptr mu.length)]) (mu:=mu++[some (di "Order" (G3 xs ps lj lm lo))]) (by omega) fun x hx=>?_)).trans rfl) rfl rfl rfl ahi
  refine (bG (l:=.sh (.bl ((((cz ps x).length:Nat):Int)==1))) (aM (lenA _ _ x hx rfl rfl rfl rfl rfl) rfl rfl rfl GR) rfl rfl).trans ?_
  congr 2
  rw [Bool.eq_iff_iff,beq_iff_eq,decide_eq_true_eq]
  omega
 refine ⟨oF xs ps lj lm lo hi,⟨⟨lj,lm,lo,hi,rfl,t1,t2,t3,t4,⟨(List.mem_filter.mp hlo).1,of_decide_eq_true (List.mem_filter.mp hlo).2⟩,(List.mem_filter.mp hhi).1,of_decide_eq_true (List.mem_filter.mp hhi).2⟩⟩,?_⟩
 exact zp (ρ:=E (oF xs ps lj lm lo hi)) (aD (ρ':=E []) (Gj (aW (az rfl (az rfl rfl)) rfl rfl rfl (yM ok))) (aD (ρ':=E []) (Gj (aW (az rfl (az rfl rfl)) rfl rfl rfl (yN ok))) (aD s1 (aD s2 (aD s3 (aD s4 (aD s5 s6)))))))
theorem eZ {f g:Str} {q:PV} {r:FD} (h:¬ g=f):gh ((g,q)::r) f=gh r f:=by
 show (if g=f then _ else _)=_
 rw [if_neg h]
theorem nF {f:Str} {q:PV} {r:FD}:gh ((f,q)::r) f=some q:=by
 show (if f=f then _ else _)=_
 rw [if_pos rfl]
section
variable {xs:List Str} {ps:List (Str×Str)} {lj lm:ir} {lo hi:Str}
theorem Eo:gh (oF xs ps lj lm lo hi) "names" = some (.lst (SS xs)):=by
 exact nF
theorem Nz:gh (oF xs ps lj lm lo hi) "above" = some (DF ps xs):=by
 rw [eZ (show ¬ (("names" : Str) = "above") from by decide +kernel)]
 exact nF
theorem NB:gh (oF xs ps lj lm lo hi) "joins" = some (gA lj):=by
 rw [eZ (show ¬ (("names" : Str) = "joins") from by decide +kernel)]
 rw [eZ (show ¬ (("above" : Str) = "joins") from by decide +kernel)]
 exact nF
theorem NK:gh (oF xs ps lj lm lo hi) "meets" = some (gA lm):=by
 rw [eZ (show ¬ (("names" : Str) = "meets") from by decide +kernel)]
 rw [eZ (show ¬ (("above" : Str) = "meets") from by decide +kernel)]
 rw [eZ (show ¬ (("joins" : Str) = "meets") from by decide +kernel)]
 exact nF
theorem Bf:gh (oF xs ps lj lm lo hi) "lowest" = some (.str lo):=by
 rw [eZ (show ¬ (("names" : Str) = "lowest") from by decide +kernel)]
 rw [eZ (show ¬ (("above" : Str) = "lowest") from by decide +kernel)]
 rw [eZ (show ¬ (("joins" : Str) = "lowest") from by decide +kernel)]
 rw [eZ (show ¬ (("meets" : Str) = "lowest") from by decide +kernel)]
 exact nF
theorem IK:gh (oF xs ps lj lm lo hi) "highest" = some (.str hi):=by
 rw [eZ (show ¬ (("names" : Str) = "highest") from by decide +kernel)]
 rw [eZ (show ¬ (("above" : Str) = "highest") from by decide +kernel)]
 rw [eZ (show ¬ (("joins" : Str) = "highest") from by decide +kernel)]
 rw [eZ (show ¬ (("meets" : Str) = "highest") from by decide +kernel)]
 rw [eZ (show ¬ (("lowest" : Str) = "highest") from by decide +kernel)]
 exact nF
end
theorem zX {ps:List (Str×Str)} {xs:List Str} {a b:Str}:∀ {l:ir},Tb ps xs l->en ps a b∈l->lM l [.inr a,.inr b]=some (bnd ps a b)
 | kv::r,h,hm=>by
  unfold lM
  split
  . rename_i e
    obtain ⟨a',_,b',_,e2⟩:=h kv List.mem_cons_self
    rw [e2] at e ⊢
    cases e
    rfl
  . rename_i e
    rcases List.mem_cons.mp hm with h1 | h1
    . rw [← h1] at e
      exact absurd rfl e
    . exact zX (fun e he=>h e (List.mem_cons_of_mem _ he)) h1
noncomputable def rY (n:Nat) (mu:Mu) (xs:List Str) (ps:List (Str×Str)):Prop:=vG xs ps/\∃ l,Pb xs ps l/\mu[n]?=some (some (di "Order" l))
noncomputable def U (ps:List (Str×Str)) (a b:Str):Bool:=has (cz ps a) b
noncomputable def jn (ps:List (Str×Str)) (a b:Str):Str:=match bnd ps a b with
 | .str r=>r
 | _ => ""
section
variable {n:Nat} {mu:Mu} {xs:List Str} {ps:List (Str×Str)} {a b:Str}
theorem Ep (h:bnd ps a b≠.non):bnd ps a b=.str (jn ps a b):=by
 unfold jn
 unfold bnd at h ⊢
 split
 . rename_i r e
   rfl
 . rename_i e
   rw [e] at h
   exact absurd rfl h
theorem KY {fa:EF} {fi:AF} {ρ ρ1 ρ2:Ev} {l:ir} {x:Lc} {ls:List Lc} {k:List Key} {p:PV} (h1:fa ρ=some (x,ρ1)) (hx:x.pv=gA l) (h2:fi ρ1=some (ls,ρ2)) (hk:vB (ls.map Lc.pv)=some k) (hl:k.length<=1000) (hv:lM l k=some p):Du fa fi ρ=some (.sh p,ρ2):=by
 unfold Du
 rw [h1,Option.bind_some,h2,Option.bind_some,hx]
 unfold gA
 dsimp only
 rw [hk,Option.bind_some,if_pos hl,Eh,hv]
 rfl
theorem G4 {qs:List (Str×Str)} (h:bnd qs a b≠.non):jn qs a b∈cz qs a/\jn qs a b∈cz qs b/\∀ y∈cz qs a,y∈cz qs b->y∈cz qs (jn qs a b):=by
 have e:=Ep h
 unfold bnd at e
 split at e
 . rename_i r hf
   injection e with e
   rw [← e]
   have h1:=List.mem_of_find?_eq_some hf
   have h2:=List.find?_some hf
   unfold shd at h1
   obtain ⟨g1,g2⟩:=List.mem_filter.mp h1
   refine ⟨g1,bh.mp g2,fun y hy hy'=>?_⟩
   unfold good at h2
   exact bh.mp (List.all_eq_true.mp h2 y (List.mem_filter.mpr ⟨hy,bh.mpr hy'⟩))
 . cases e
theorem Vt (ok:vG xs ps) (ha:a∈xs) (hb:b∈xs):jn ps a b∈xs:=j8 (fun q hq=>(ok.mem q hq).2) ha (G4 (ok.up a ha b hb)).1
end
theorem KZ {c:Nat} (h:qt c=true):c<16 ^ 8:=by
 have all:∀ d∈("abcdefghijklmnopqrstuvwxyz" : Str).cps.toList,d<16 ^ 8:=by decide +kernel
 by_cases hc:c<16 ^ 8
 . exact hc
 . unfold qt at h
   rw [W.occ_nil_of_no _ _ 1 fun i hi=>?_] at h
   . cases h
   . cases e:Builtin.Str.subAt ("abcdefghijklmnopqrstuvwxyz" : Str) ⟨#[c]⟩ i with
     | false=>rfl
     | true=>
      have e2:("abcdefghijklmnopqrstuvwxyz" : Str).cps.extract i (i+1)=#[c]:=beq_iff_eq.mp e
      have m:c∈(("abcdefghijklmnopqrstuvwxyz" : Str).cps.extract i (i+1)).toList:=by rw [e2]; exact List.mem_singleton.mpr rfl
      rw [Array.toList_extract] at m
      have m':c∈(("abcdefghijklmnopqrstuvwxyz" : Str).cps.toList.drop i).take (i+1-i):=m
      exact absurd (all c (List.mem_of_mem_drop (List.mem_of_mem_take m'))) hc
theorem Er {x:Str} (h:nameB x=true):bZ x=true:=by
 unfold nameB uU at h
 rw [Bool.and_eq_true,Bool.and_eq_true] at h
 have h2:=of_decide_eq_true h.1.2
 unfold bZ
 rw [Bool.and_eq_true]
 refine ⟨decide_eq_true (by omega),List.all_eq_true.mpr fun c hc=>decide_eq_true (KZ (List.all_eq_true.mp h.2 c hc))⟩
section
variable {f g:SX} {s:SF} {c:TF} {ρ ρ' ρ1:Ev} {R:Option (XR Fl)} {fl:Fl} {C:Str} {b:Bool} {l:Lc}
theorem nG (h:f ρ=some (.ok (.nx ρ'))) (h2:g ρ'=R):gB f g ρ=R:=by unfold gB; rw [h,Option.bind_some]; exact h2
theorem zY (h:f ρ=some (.xc C ρ')):gB f g ρ=some (.xc C ρ'):=by unfold gB; rw [h,Option.bind_some]
theorem tR (h:s ρ=some fl):iR s ρ=some (.ok fl):=by unfold iR; rw [h]; rfl
theorem Pg (h:c ρ=some (true,ρ1)):rO c f g ρ=f ρ1:=by unfold rO; rw [h,Option.bind_some,if_pos rfl]
theorem Ph (h:c ρ=some (false,ρ1)):rO c f g ρ=g ρ1:=by unfold rO; rw [h,Option.bind_some,if_neg Bool.false_ne_true]
theorem Vu {fe:EF} {j:JF} (h:fe ρ=some (l,ρ1)) (hs:Uc l.pv=true):jR fe j ρ=j ρ1:=by unfold jR; rw [h,Option.bind_some,if_pos hs]
theorem Q8 {n:Nat} {ps:List PV} {mu:Mu} (h:f (env0 n ps mu)=some (.ok (.nx ρ))):jL n f ps mu=some (.ok (.sh .non,ρ.mu)):=by unfold jL; rw [h,Option.bind_some]
theorem rZ {n:Nat} {ps:List PV} {mu:Mu} (h:f (env0 n ps mu)=some (.xc C ρ)):jL n f ps mu=some (.xc C ρ):=by unfold jL; rw [h,Option.bind_some]
theorem NP {G:GX} {a:AF} {ls:List Lc} {ps:List PV} {mu:Mu} {v:List (Option Lc)} {mu1:Mu} (h:a ρ=some (ls,ρ1)) (hp:ls.map Lc.pv=ps) (hv:ρ1.vs=v) (hm:ρ1.mu=mu1) (h2:G ps mu1=some (.ok (l,mu))):jA G a ρ=some (.ok (l,⟨v,mu⟩)):=by
 subst hp hv hm
 unfold jA
 rw [h,Option.bind_some,h2]; rfl
theorem NQ {G:GX} {a:AF} {ls:List Lc} {ps:List PV} {v:List (Option Lc)} {mu1:Mu} (h:a ρ=some (ls,ρ1)) (hp:ls.map Lc.pv=ps) (hv:ρ1.vs=v) (hm:ρ1.mu=mu1) (h2:G ps mu1=some (.xc C ρ')):jA G a ρ=some (.xc C ⟨v,ρ'.mu⟩):=by
 subst hp hv hm
 unfold jA
 rw [h,Option.bind_some,h2]; rfl
theorem vH {fe:EX} {k:Lc×Ev->Option Fl} (h:fe ρ=some (.ok (l,ρ1))) (h2:k (l,ρ1)=some fl):xB fe k ρ=some (.ok fl):=by unfold xB; rw [h,Option.bind_some]; show (k (l,ρ1)).map _=_; rw [h2]; rfl
theorem yP {fe:EX} {k:Lc×Ev->Option Fl} (h:fe ρ=some (.xc C ρ1)):xB fe k ρ=some (.xc C ρ1):=by unfold xB; rw [h,Option.bind_some]
end
theorem zZ {n:Nat} {f:SX} {ps:List PV} {mu:Mu} {ρ:Ev} {l:Lc} (h:f (env0 n ps mu)=some (.ok (.rt l ρ))):jL n f ps mu=some (.ok (l,ρ.mu)):=by unfold jL; rw [h,Option.bind_some]
section
variable {C m:Str} {g:GX} {fo:EF} {a:AF} {ρ ρ1 ρ2:Ev} {x:Lc} {ls:List Lc} {n:Nat} {l:FD} {us:List PV}
theorem NT {r:Lc} {mu2:Mu} (h1:fo ρ=some (x,ρ1)) (hx:x.pv=.ptr n) (hm:ρ1.mu[n]?=some (some (di C l))) (hc:(l.map (·.1)).contains m=false) (h2:a ρ1=some (ls,ρ2)) (hps:ls.map Lc.pv=us) (h3:g (.ptr n::us) ρ2.mu=some (.ok (r,mu2))):b8 C m g fo a ρ=some (.ok (r,⟨ρ2.vs,mu2⟩)):=by
 unfold b8
 rw [h1,Option.bind_some,hx]
 dsimp only
 rw [hm]
 unfold di
 dsimp only
 rw [if_pos ⟨rfl,hc⟩,h2,Option.bind_some,hps,h3]
 rfl
theorem NZ {D:Str} {ρ':Ev} (h1:fo ρ=some (x,ρ1)) (hx:x.pv=.ptr n) (hm:ρ1.mu[n]?=some (some (di C l))) (hc:(l.map (·.1)).contains m=false) (h2:a ρ1=some (ls,ρ2)) (hps:ls.map Lc.pv=us) (h3:g (.ptr n::us) ρ2.mu=some (.xc D ρ')):b8 C m g fo a ρ=some (.xc D ⟨ρ2.vs,ρ'.mu⟩):=by
 unfold b8
 rw [h1,Option.bind_some,hx]
 dsimp only
 rw [hm]
 unfold di
 dsimp only
 rw [if_pos ⟨rfl,hc⟩,h2,Option.bind_some,hps,h3]
 rfl
end
section
variable {n:Nat} {mu:Mu} {xs:List Str} {ps:List (Str×Str)} {a b:Str}
noncomputable def lN (c:Bool) (r:PV) (mu:Mu) (x:Option (XR (Lc×Mu))):Prop:=if c=true then x=some (.ok (.sh r,mu)) else ∃ ρ,ρ.mu=mu/\x=some (.xc "NoName" ρ)
theorem Es (O:rY n mu xs ps) (ha:bZ a=true):lN (has xs a) .non mu (aO [.ptr n,.str a] mu):=by
 obtain ⟨ok,l,⟨lj,lm,lo,hi,rfl,_⟩,hm⟩:=O
 have t:tT (au kY (aa 1) (iB "Order" "names" (aa 0))) aU ⟨[yS (.ptr n),zT a],mu⟩=some (!has xs a,⟨[yS (.ptr n),zT a],mu⟩):=bG (aM rfl rfl (mY (x:=.sh (.ptr n)) (ρ1:=⟨[yS (.ptr n),zT a],mu⟩) rfl rfl hm Eo) rfl rR) rfl rfl
 unfold lN
 cases e:has xs a with
 | true=>
  rw [e] at t
  rw [if_pos rfl]
  exact Q8 (ρ:=⟨[yS (.ptr n),zT a],mu⟩) ((Ph t).trans rfl)
 | false=>
  rw [e] at t
  rw [if_neg (by decide)]
  refine ⟨⟨[yS (.ptr n),zT a],mu⟩,rfl,rZ ((Pg t).trans ?_)⟩
  show ((jR (aa 1) Nj _).map _)=_
  rw [Vu (l:=.sh (.str a)) (ρ1:=⟨[yS (.ptr n),zT a],mu⟩) rfl ha]
  rfl
theorem mx {m:Str} {g:GX} {fo:EF} {af:AF} {ls:List Lc} {us:List PV} {ρ:Ev} {c:Bool} {r:PV} (O:rY n mu xs ps) (hρ:ρ.mu=mu) (ho:fo ρ=some (.sh (.ptr n),ρ)) (ha:af ρ=some (ls,ρ)) (hl:ls.map Lc.pv=us) (hc:(["names", "above", "joins", "meets", "lowest", "highest"]:List Str).contains m=false) (hg:lN c r mu (g (.ptr n::us) mu)):if c=true then b8 "Order" m g fo af ρ=some (.ok (.sh r,ρ)) else b8 "Order" m g fo af ρ=some (.xc "NoName" ρ):=by
 obtain ⟨ok,l,⟨lj,lm,lo,hi,rfl,_⟩,hm⟩:=O
 have hm':ρ.mu[n]?=some (some (di "Order" (oF xs ps lj lm lo hi))):=by rw [hρ]; exact hm
 unfold lN at hg
 obtain ⟨vs,mu'⟩:=ρ
 have hρ':mu'=mu:=hρ
 subst hρ'
 split at hg
 . rename_i e
   rw [if_pos e]
   exact NT (l:=oF xs ps lj lm lo hi) ho rfl hm' hc ha hl hg
 . rename_i e
   rw [if_neg e]
   obtain ⟨ρ',h1,h2⟩:=hg
   refine (NZ (l:=oF xs ps lj lm lo hi) ho rfl hm' hc ha hl h2).trans ?_
   rw [h1]
noncomputable abbrev T3 (n:Nat) (a b:Str) (mu:Mu):Ev:=⟨[yS (.ptr n),zT a,zT b],mu⟩
theorem IV (O:rY n mu xs ps) (ha:bZ a=true) (hb:bZ b=true) {f:SX} {r:PV} (h:a∈xs->b∈xs->f (T3 n a b mu)=some (.ok (.rt (.sh r) (T3 n a b mu)))):lN (has xs a&&has xs b) r mu (jL 3 (gB (xB (b8 "Order" "refuse_stranger" aO (aa 0) (aj (aa 1) ao)) oU) (gB (xB (b8 "Order" "refuse_stranger" aO (aa 0) (aj (aa 2) ao)) oU) f)) [.ptr n,.str a,.str b] mu):=by
 have m1:=mx (fo:=aa 0) (af:=aj (aa 1) ao) (ls:=[.sh (.str a)]) (ρ:=T3 n a b mu) (m := "refuse_stranger") O rfl rfl rfl rfl (by decide +kernel) (Es O ha)
 have m2:=mx (fo:=aa 0) (af:=aj (aa 2) ao) (ls:=[.sh (.str b)]) (ρ:=T3 n a b mu) (m := "refuse_stranger") O rfl rfl rfl rfl (by decide +kernel) (Es O hb)
 unfold lN
 cases e1:has xs a with
 | false=>
  rw [e1,if_neg (by decide)] at m1
  rw [Bool.false_and,if_neg (by decide)]
  exact ⟨T3 n a b mu,rfl,rZ (zY (yP m1))⟩
 | true=>
  rw [e1,if_pos rfl] at m1
  cases e2:has xs b with
  | false=>
   rw [e2,if_neg (by decide)] at m2
   rw [Bool.and_false,if_neg (by decide)]
   exact ⟨T3 n a b mu,rfl,rZ (nG (vH m1 rfl) (zY (yP m2)))⟩
  | true=>
   rw [e2,if_pos rfl] at m2
   rw [Bool.and_true,if_pos rfl]
   exact zZ (ρ:=T3 n a b mu) (nG (vH m1 rfl) (nG (vH m2 rfl) (h (bh.mp e1) (bh.mp e2))))
theorem K1 (O:rY n mu xs ps) (ha:bZ a=true) (hb:bZ b=true):lN (has xs a&&has xs b) (.str (jn ps a b)) mu (cZ [.ptr n,.str a,.str b] mu):=IV O ha hb fun ina inb=>by
 obtain ⟨ok,l,⟨lj,lm,lo,hi,rfl,t1,t2,_⟩,hm⟩:=O
 rw [← Ep (ok.up a ina b inb)]
 exact tR (cI (KY (l:=lj) (k:=[.inr a,.inr b]) (mY (x:=.sh (.ptr n)) (ρ1:=T3 n a b mu) rfl rfl hm NB) rfl (az rfl (az rfl rfl)) rfl (by show 2<=1000; decide) (zX t1 (t2 a ina b inb))))
theorem Uu (O:rY n mu xs ps) (ha:bZ a=true) (hb:bZ b=true):lN (has xs a&&has xs b) (.str (jn (iH ps) a b)) mu (jB [.ptr n,.str a,.str b] mu):=IV O ha hb fun ina inb=>by
 obtain ⟨ok,l,⟨lj,lm,lo,hi,rfl,_,_,t1,t2,_⟩,hm⟩:=O
 rw [← Ep (ok.dn a ina b inb)]
 exact tR (cI (KY (l:=lm) (k:=[.inr a,.inr b]) (mY (x:=.sh (.ptr n)) (ρ1:=T3 n a b mu) rfl rfl hm NK) rfl (az rfl (az rfl rfl)) rfl (by show 2<=1000; decide) (zX t1 (t2 a ina b inb))))
theorem under_x (O:rY n mu xs ps) (ha:bZ a=true) (hb:bZ b=true):lN (has xs a&&has xs b) (.bl (U ps a b)) mu (jg [.ptr n,.str a,.str b] mu):=IV O ha hb fun ina inb=>by
 obtain ⟨ok,l,⟨lj,lm,lo,hi,rfl,_⟩,hm⟩:=O
 exact tR (cI (aM rfl rfl (uX (d:=iw ps xs) (mY (x:=.sh (.ptr n)) (ρ1:=T3 n a b mu) rfl rfl hm Nz) rfl rfl rfl (pF ina)) rfl yE))
noncomputable def Et (ps:List (Str×Str)):Str->List Str->Str
 | r,[]=>r
 | r,x::l=>Et ps (jn ps r x) l
theorem N5 (O:rY n mu xs ps) {l:List Str} (hl:∀ x∈l,bZ x=true):∃ lo,(lo∈xs/\(cz ps lo).length=xs.length)/\lN (l.all (has xs)) (.str (Et ps lo l)) mu (iu [.ptr n,.lst (SS l)] mu):=by
 have O':=O
 obtain ⟨ok,fl,⟨lj,lm,lo,hi,rfl,_,_,_,_,⟨h1,h1'⟩,_⟩,hm⟩:=O
 let E:=fun (v:Str) (o3:Option Lc)=>(⟨[yS (.ptr n),zS l,zT v,o3],mu⟩:Ev)
 have lp:∀ (r:List Str) (v:Str) (o3:Option Lc),(∀ x∈r,bZ x=true)->v∈xs->∃ o3' w,tK (aF 3) (xB (b8 "Order" "join" cZ (aa 0) (aj (aa 2) (aj (aa 3) ao))) (nC 2)) (SS r) (E v o3)=if r.all (has xs)=true then some (.ok (.nx (E (Et ps v r) o3'))) else some (.xc "NoName" (E w o3')):=by
  intro r
  induction r with
  | nil=>exact fun v o3 _ _=>⟨o3,v,rfl⟩
  | cons x r ih=>
   intro v o3 hr hv
   have hx:=hr x List.mem_cons_self
   have mj:=mx (fo:=aa 0) (af:=aj (aa 2) (aj (aa 3) ao)) (ls:=[.sh (.str v),.sh (.str x)]) (ρ:=E v (zT x)) (m := "join") O' rfl rfl rfl rfl (by decide +kernel) (K1 O' (Er (ok.nm v hv)) hx)
   rw [bh.mpr hv,Bool.true_and] at mj
   cases e:has xs x with
   | false=>
    rw [e,if_neg (by decide)] at mj
    refine ⟨zT x,v,?_⟩
    rw [List.all_cons,e,Bool.false_and,if_neg (by decide)]
    show (xB _ (nC 2) (E v (zT x))).bind _=_
    rw [yP mj]
    rfl
   | true=>
    rw [e,if_pos rfl] at mj
    obtain ⟨o3',w,e2⟩:=ih (jn ps v x) (zT x) (fun y hy=>hr y (List.mem_cons_of_mem _ hy)) (Vt ok hv (bh.mp e))
    refine ⟨o3',w,?_⟩
    rw [List.all_cons,e,Bool.true_and]
    show (xB _ (nC 2) (E v (zT x))).bind _=_
    rw [vH (fl:=.nx (E (jn ps v x) (zT x))) mj rfl]
    exact e2
 obtain ⟨o,w,e⟩:=lp l lo none hl h1
 refine ⟨lo,⟨h1,h1'⟩,?_⟩
 have s1:iR (aL 2 (iB "Order" "lowest" (aa 0))) (env0 4 [.ptr n,.lst (SS l)] mu)=some (.ok (.nx (E lo none))):=tR (aY (l:=.sh (.str lo)) (ρ1:=⟨[yS (.ptr n),zS l,none,none],mu⟩) (mY (x:=.sh (.ptr n)) rfl rfl hm Bf) rfl rfl)
 have s2:Ib (d7 (aa 1) bV) (aF 3) (xB (b8 "Order" "join" cZ (aa 0) (aj (aa 2) (aj (aa 3) ao))) (nC 2)) (E lo none)=tK (aF 3) (xB (b8 "Order" "join" cZ (aa 0) (aj (aa 2) (aj (aa 3) ao))) (nC 2)) (SS l) (E lo none):=by
  unfold Ib
  rw [fD (l:=wS l) (ρ1:=E lo none) rfl rfl rfl]
  rfl
 rw [e] at s2
 unfold lN
 split at s2
 . rename_i c
   rw [if_pos c]
   exact zZ (ρ:=⟨[yS (.ptr n),zS l,none,o],mu⟩) (nG s1 (nG s2 rfl))
 . rename_i c
   rw [if_neg c]
   exact ⟨E w o,rfl,rZ (nG s1 (zY s2))⟩
end
theorem Q9 {α:Type} {xs:List α} {k:Nat} {p:α} (h:xs[k]?=some p):gj xs (k:Int)=some p:=by
 have hk:=(List.getElem?_eq_some_iff.mp h).1
 unfold gj qG
 rw [if_pos (by omega),if_pos (by omega)]
 exact h
theorem Eu {xs:List Str} (hd:xs.Nodup) {i j:Nat} (hi:i<xs.length) (hj:j<xs.length) (e:xs[i]=xs[j]):i=j:=by
 rcases Nat.lt_trichotomy i j with h | h | h
 . exact absurd e (List.pairwise_iff_getElem.mp hd i j hi hj h)
 . exact h
 . exact absurd e.symm (List.pairwise_iff_getElem.mp hd j i hj hi h)
theorem Ew {xs:List Str} (hd:xs.Nodup) {i j:Nat} {a:Str} (hi:xs[i]?=some a) (hj:xs[j]?=some a):i=j:=by
 obtain ⟨h1,e1⟩:=List.getElem?_eq_some_iff.mp hi
 obtain ⟨h2,e2⟩:=List.getElem?_eq_some_iff.mp hj
 exact Eu hd h1 h2 (e1.trans e2.symm)
theorem gJ {xs:List Str} {a:Str} (h:a∈xs):∃ i:Nat,i<xs.length/\xs[i]?=some a:=by
 obtain ⟨i,hi,e⟩:=List.getElem_of_mem h
 exact ⟨i,hi,by rw [← e]; exact List.getElem?_eq_getElem hi⟩
theorem tU {xs:List Str} {i:Nat} {a:Str} (h:xs[i]?=some a):i<xs.length:=(List.getElem?_eq_some_iff.mp h).1
theorem jU {xs:List Str} {i:Nat} (h:i<xs.length):∃ a∈xs,xs[i]?=some a:=⟨xs[i],List.getElem_mem h,List.getElem?_eq_getElem h⟩
theorem Ra {xs:List Str} (hd:xs.Nodup):∀ {i:Nat} (h:i<xs.length),(SS xs).findIdx (fun q=>(bC 150 q (.str xs[i])).getD false)=i:=by
 intro i h
 rw [List.findIdx_eq (by rw [List.length_map]; exact h)]
 refine ⟨?_,fun j hj=>?_⟩
 . rw [List.getElem_map]
   show (xs[i]==xs[i])=true
   simp
 . have hj':j<xs.length:=by omega
   rw [List.getElem_map]
   show (xs[j]==xs[i])=false
   rw [beq_eq_false_iff_ne]
   intro e
   have:=Eu hd hj' h e
   omega
theorem Pj {xs:List Str} (hd:xs.Nodup) (hl:xs.length<=8) {fa fb:EF} {ρ ρ1 ρ2:Ev} {l m:Lc} {i:Nat} {a:Str} (hi:xs[i]?=some a) (h1:fa ρ=some (l,ρ1)) (hx:l.pv=.lst (SS xs)) (h2:fb ρ1=some (m,ρ2)) (hy:m.pv=.str a):mO fa fb ρ=some (.sh (.int (i:Nat)),ρ2):=by
 obtain ⟨h,rfl⟩:=List.getElem?_eq_some_iff.mp hi
 unfold mO
 rw [h1,Option.bind_some,h2,Option.bind_some,hx]
 dsimp only
 rw [hy,if_pos ⟨by rw [in_str,bh.mpr (List.getElem_mem h)],by rw [List.length_map]; omega⟩,Ra hd h]
theorem IW {xs:List Str} {k:Nat} {x:Str} (h:xs[k]?=some x):pU (.lst (SS xs)) (.int (k:Nat))=zT x:=by
 show (gj (SS xs) (k:Int)).map _=_
 rw [Q9 (p:=.str x) (by rw [List.getElem?_map,h]; rfl)]
 rfl
noncomputable def okN (n:Nat) (qs:List (Nat×Nat)):Prop:=∀ q∈qs,q.1<n/\q.2<n
theorem Rb {ps:List (Str×Str)} {a b:Str} (ok:ps.length<=68):b∈cz (iH ps) a ↔ has (cz ps b) a=true:=by
 rw [bh,rT ok,rT (by rw [List.length_map]; exact ok)]
 have e1:∀ x y:Str,(x,y)∈iH ps ↔ (y,x)∈ps:=fun x y=>by
  constructor
  . intro h
    obtain ⟨q,hq,e⟩:=List.mem_map.mp h
    cases e
    exact hq
  . intro h
    exact List.mem_map.mpr ⟨(y,x),h,rfl⟩
 constructor
 . intro h
   have h':=h.back
   clear h
   induction h' with
   | refl=>exact .refl _
   | step _ e ih=>exact ih.step ((e1 _ _).mp e)
 . intro h
   have h':=h.back
   clear h
   induction h' with
   | refl=>exact .refl _
   | step _ e ih=>exact ih.step ((e1 _ _).mpr e)
noncomputable def K3 (qs:List (Nat×Nat)):Nat->Nat->Prop:=fun a b=>(a,b)∈qs
noncomputable def pos (a:Str):List Str->Nat
 | []=>0
 | y::l=>if y=a then 0 else pos a l+1
theorem Ex {a:Str}:∀ {l:List Str} {i:Nat},l.Nodup->l[i]?=some a->pos a l=i
 | [],i,_,h=>by simp at h
 | y::l,i,nd,h=>by
  unfold pos
  have nd':=List.nodup_cons.mp nd
  cases i with
  | zero=>
   have e:y=a:=by simpa using h
   rw [if_pos e]
  | succ i=>
   have h':l[i]?=some a:=by simpa using h
   have ne:y≠a:=fun e=>nd'.1 (e▸List.mem_of_getElem? h')
   rw [if_neg ne,Ex nd'.2 h']
structure j9 (xs ts:List Str) (ps:List (Str×Str)) (qs:List (Nat×Nat)) (R:Nat->Nat->Bool):Prop where
 nd:xs.Nodup
 ne:0<xs.length
 l8:xs.length<=8
 lp:ps.length<=68
 nm:∀ x∈xs,nameB x=true
 ndt:ts.Nodup
 lt:ts.length=xs.length
 tm:∀ x,x∈ts ↔ x∈xs
 ok:okN xs.length qs
 pm:∀ a b,(a,b)∈ps ↔ ∃ i j:Nat,xs[i]?=some a/\xs[j]?=some b/\(i,j)∈qs
 re:∀ a b,a<xs.length->b<xs.length->(R a b=true ↔ Rt (K3 qs) a b)
structure Ey (n:Nat) (qs:List (Nat×Nat)) (R:Nat->Nat->Bool) (J M:Nat->Nat->Nat):Prop where
 anti:∀ a b,a<n->b<n->R a b=true->R b a=true->a=b
 bot:∀ a,a<n->R 0 a=true
 top:∀ a,a<n->R a (n-1)=true
 ht:∃ h:Nat->Nat,∀ q∈qs,q.1≠q.2->h q.1<h q.2
 jn:∀ a b,a<n->b<n->J a b<n/\R a (J a b)=true/\R b (J a b)=true/\∀ c,c<n->R a c=true->R b c=true->R (J a b) c=true
 mt:∀ a b,a<n->b<n->M a b<n/\R (M a b) a=true/\R (M a b) b=true/\∀ c,c<n->R c a=true->R c b=true->R c (M a b)=true
section
variable {xs ts:List Str} {ps:List (Str×Str)} {qs:List (Nat×Nat)} {R:Nat->Nat->Bool} {J M:Nat->Nat->Nat} {a b:Str} {i j:Nat}
theorem j9.to (S:j9 xs ts ps qs R) {y:Str} (hi:xs[i]?=some a) (h:Rt (fun a b=>(a,b)∈ps) a y):∃ j:Nat,xs[j]?=some y/\Rt (K3 qs) i j:=by
 induction h with
 | refl=>exact ⟨i,hi,.refl i⟩
 | @step y z _ e ih=>
  obtain ⟨j,hj,r⟩:=ih
  obtain ⟨j',k,h1,h2,h3⟩:=(S.pm y z).mp e
  have:=Ew S.nd hj h1
  subst this
  exact ⟨k,h2,r.step h3⟩
theorem j9.up (S:j9 xs ts ps qs R) (hi:xs[i]?=some a) (h:Rt (K3 qs) i j):∃ y,xs[j]?=some y/\Rt (fun a b=>(a,b)∈ps) a y:=by
 induction h with
 | refl=>exact ⟨a,hi,.refl a⟩
 | @step y z _ e ih=>
  obtain ⟨b,hb,r⟩:=ih
  obtain ⟨c,_,hc⟩:=jU (S.ok _ e).2
  exact ⟨c,hc,r.step ((S.pm b c).mpr ⟨y,z,hb,hc,e⟩)⟩
theorem j9.ur (S:j9 xs ts ps qs R) (hi:xs[i]?=some a) (hj:xs[j]?=some b):has (cz ps a) b=R i j:=by
 rw [Bool.eq_iff_iff,bh,rT S.lp,S.re i j (tU hi) (tU hj)]
 constructor
 . intro h
   obtain ⟨k,hk,r⟩:=S.to hi h
   have:=Ew S.nd hj hk
   subst this
   exact r
 . intro h
   obtain ⟨y,hy,r⟩:=S.up hi h
   rw [hj] at hy
   cases hy
   exact r
theorem j9.dr (S:j9 xs ts ps qs R) (hi:xs[i]?=some a) (hj:xs[j]?=some b):has (cz (iH ps) a) b=R j i:=by
 rw [← S.ur hj hi,Bool.eq_iff_iff,bh,Rb S.lp]
theorem j9.mem (S:j9 xs ts ps qs R):∀ q∈ps,q.1∈xs/\q.2∈xs:=fun q hq=>by
 obtain ⟨i,j,h1,h2,_⟩:=(S.pm q.1 q.2).mp hq
 exact ⟨List.mem_of_getElem? h1,List.mem_of_getElem? h2⟩
theorem j9.mem' (S:j9 xs ts ps qs R):∀ q∈iH ps,q.2∈xs:=fun q hq=>by
 obtain ⟨q',hq',rfl⟩:=List.mem_map.mp hq
 exact (S.mem q' hq').1
theorem Ez {zs:List (Str×Str)} {S:Nat->Nat->Bool} (hc:∀ q∈zs,q.2∈xs) (hs:∀ {i j:Nat} {a b:Str},xs[i]?=some a->xs[j]?=some b->has (cz zs a) b=S i j) {k:Nat} (hi:xs[i]?=some a) (hj:xs[j]?=some b) (hk:k<xs.length) (h1:S i k=true) (h2:S j k=true) (h3:∀ c,c<xs.length->S i c=true->S j c=true->S k c=true) (anti:∀ c,c<xs.length->S k c=true->S c k=true->c=k):bnd zs a b≠.non/\xs[k]?=some (jn zs a b):=by
 obtain ⟨z,_,hz⟩:=jU hk
 have hzs:z∈shd zs a b:=List.mem_filter.mpr ⟨bh.mp ((hs hi hz).trans h1),(hs hj hz).trans h2⟩
 have hb:bnd zs a b≠.non:=by
  unfold bnd
  cases e:(shd zs a b).find? (good zs a b) with
  | some r=>exact fun z=>by cases z
  | none=>
   have ng:=List.find?_eq_none.mp e z hzs
   refine absurd (List.all_eq_true.mpr fun y hy=>?_) ng
   obtain ⟨g1,g2⟩:=List.mem_filter.mp hy
   obtain ⟨m,hm,em⟩:=gJ (j8 hc (List.mem_of_getElem? hi) g1)
   exact (hs hz em).trans (h3 m hm ((hs hi em).symm.trans (bh.mpr g1)) ((hs hj em).symm.trans g2))
 refine ⟨hb,?_⟩
 obtain ⟨f1,f2,f3⟩:=G4 hb
 obtain ⟨m,hm,em⟩:=gJ (j8 hc (List.mem_of_getElem? hi) f1)
 have r1:=(hs hi em).symm.trans (bh.mpr f1)
 have r2:=(hs hj em).symm.trans (bh.mpr f2)
 have r3:=(hs em hz).symm.trans (bh.mpr (f3 z (bh.mp ((hs hi hz).trans h1)) (bh.mp ((hs hj hz).trans h2))))
 have:=anti m hm (h3 m hm r1 r2) r3
 rw [← this]
 exact em
theorem j9.jn (S:j9 xs ts ps qs R) (L:Ey xs.length qs R J M) (hi:xs[i]?=some a) (hj:xs[j]?=some b):bnd ps a b≠.non/\xs[J i j]?=some (jn ps a b):=by
 obtain ⟨h0,h1,h2,h3⟩:=L.jn i j (tU hi) (tU hj)
 exact Ez (fun q hq=>(S.mem q hq).2) (fun h g=>S.ur h g) hi hj h0 h1 h2 h3 fun c hc g1 g2=>L.anti c _ hc h0 g2 g1
theorem j9.mt (S:j9 xs ts ps qs R) (L:Ey xs.length qs R J M) (hi:xs[i]?=some a) (hj:xs[j]?=some b):bnd (iH ps) a b≠.non/\xs[M i j]?=some (Law.jn (iH ps) a b):=by
 obtain ⟨h0,h1,h2,h3⟩:=L.mt i j (tU hi) (tU hj)
 exact Ez (S:=fun a b=>R b a) S.mem' (fun h g=>S.dr h g) hi hj h0 h1 h2 h3 fun c hc g1 g2=>L.anti c _ hc h0 g1 g2
theorem j9.ord (S:j9 xs ts ps qs R) (L:Ey xs.length qs R J M):vG ts ps:=by
 have ne:=S.ne
 obtain ⟨lo,_,hlo⟩:=jU ne
 obtain ⟨hi,_,hhi⟩:=jU (xs:=xs) (i:=xs.length-1) (by omega)
 refine ⟨S.ndt,fun e=>?_,by rw [S.lt]; exact S.l8,S.lp,fun x hx=>S.nm x ((S.tm x).mp hx),fun q hq=>⟨(S.tm _).mpr (S.mem q hq).1,(S.tm _).mpr (S.mem q hq).2⟩,?_,fun a ha b hb=>?_,fun a ha b hb=>?_,⟨lo,(S.tm lo).mpr (List.mem_of_getElem? hlo),?_⟩,hi,(S.tm hi).mpr (List.mem_of_getElem? hhi),?_⟩
 . have:=S.lt
   rw [e,List.length_nil] at this
   omega
 . obtain ⟨h,hh⟩:=L.ht
   refine ⟨fun x=>h (pos x xs),fun q hq hne=>?_⟩
   obtain ⟨i,j,h1,h2,h3⟩:=(S.pm q.1 q.2).mp hq
   show h (pos q.1 xs)<h (pos q.2 xs)
   rw [Ex S.nd h1,Ex S.nd h2]
   exact hh _ h3 fun e=>hne (by
    have e':i=j:=e
    rw [e',h2] at h1
    exact (Option.some.inj h1).symm)
 . obtain ⟨i,_,hi⟩:=gJ ((S.tm a).mp ha)
   obtain ⟨j,_,hj⟩:=gJ ((S.tm b).mp hb)
   exact (S.jn L hi hj).1
 . obtain ⟨i,_,hi⟩:=gJ ((S.tm a).mp ha)
   obtain ⟨j,_,hj⟩:=gJ ((S.tm b).mp hb)
   exact (S.mt L hi hj).1
 . refine Nat.le_antisymm (qg uW fun x hx=>(S.tm x).mpr (j8 (fun q hq=>(S.mem q hq).2) (List.mem_of_getElem? hlo) hx)) (qg S.ndt fun x hx=>?_)
   obtain ⟨i,i1,hi⟩:=gJ ((S.tm x).mp hx)
   exact bh.mp ((S.ur hlo hi).trans (L.bot i i1))
 . refine Nat.le_antisymm (qg (r:=[hi]) uW fun x hx=>?_) (List.length_pos_of_mem ((rT S.lp).mpr (.refl hi)))
   obtain ⟨i,i1,hx'⟩:=gJ (j8 (fun q hq=>(S.mem q hq).2) (List.mem_of_getElem? hhi) hx)
   have:=L.anti i (xs.length-1) i1 (by omega) (L.top i i1) ((S.ur hhi hx').symm.trans (bh.mpr hx))
   rw [this,hhi] at hx'
   exact List.mem_singleton.mpr (Option.some.inj hx').symm
theorem j9.low (S:j9 xs ts ps qs R) (L:Ey xs.length qs R J M) {lo:Str} (h:lo∈ts) (hl:(cz ps lo).length=ts.length):xs[0]?=some lo:=by
 obtain ⟨i,i1,hi⟩:=gJ ((S.tm lo).mp h)
 have ne:=S.ne
 obtain ⟨z,_,hz⟩:=jU ne
 have:z∈cz ps lo:=Classical.byContradiction fun hn=>by
  have:=qg (l:=z::cz ps lo) (r:=ts) (List.nodup_cons.mpr ⟨hn,uW⟩) fun y hy=>by
   rcases List.mem_cons.mp hy with rfl | hy
   . exact (S.tm _).mpr (List.mem_of_getElem? hz)
   . exact (S.tm _).mpr (j8 (fun q hq=>(S.mem q hq).2) (List.mem_of_getElem? hi) hy)
  rw [List.length_cons,hl] at this
  omega
 have:=L.anti i 0 i1 ne ((S.ur hi hz).symm.trans (bh.mpr this)) (L.bot i i1)
 rw [← this]
 exact hi
theorem j9.high (S:j9 xs ts ps qs R) (L:Ey xs.length qs R J M) {hi:Str} (h:hi∈ts) (hl:(cz ps hi).length=1):xs[xs.length-1]?=some hi:=by
 obtain ⟨i,i1,hi'⟩:=gJ ((S.tm hi).mp h)
 have ne:=S.ne
 obtain ⟨z,_,hz⟩:=jU (xs:=xs) (i:=xs.length-1) (by omega)
 have h4:z∈cz ps hi:=bh.mp ((S.ur hi' hz).trans (L.top i i1))
 have h5:hi∈cz ps hi:=(rT S.lp).mpr (.refl hi)
 obtain ⟨y,hy⟩:=List.length_eq_one_iff.mp hl
 rw [hy] at h4 h5
 rw [hz,List.mem_singleton.mp h4,List.mem_singleton.mp h5]
end
noncomputable def Lq (ch:Bool) (n i j:Nat):Bool:=if ch=true then decide (i<=j) else decide (i=j\/i=0\/j=n-1)
theorem su {ch:Bool} {n i j:Nat}:Lq ch n i j=true ↔ (ch=true/\i<=j)\/(ch=false/\(i=j\/i=0\/j=n-1)):=by
 unfold Lq
 cases ch with
 | true=>rw [if_pos rfl,decide_eq_true_iff]; simp
 | false=>rw [if_neg (by decide),decide_eq_true_iff]; simp
noncomputable def jI (ch:Bool) (n i j:Nat):Nat:=if Lq ch n i j=true then j else if Lq ch n j i=true then i else n-1
noncomputable def mI (ch:Bool) (n i j:Nat):Nat:=if Lq ch n i j=true then i else if Lq ch n j i=true then j else 0
noncomputable def qC (n:Nat):List (Nat×Nat):=(List.range (n-1)).map fun k=>(k,k+1)
noncomputable def qF (n:Nat):List (Nat×Nat):=((List.range (n-2)).map fun k=>(0,k+1))++(List.range (n-2)).map fun k=>(k+1,n-1)
noncomputable def qL (ch:Bool) (n:Nat):List (Nat×Nat):=if ch=true then qC n else qF n
theorem memC {n a b:Nat}:(a,b)∈qC n ↔ b=a+1/\b<n:=by
 unfold qC
 rw [List.mem_map]
 constructor
 . rintro ⟨k,hk,e⟩
   cases e
   have:=List.mem_range.mp hk
   omega
 . rintro ⟨rfl,h⟩
   exact ⟨a,List.mem_range.mpr (by omega),rfl⟩
theorem wK {n a b:Nat}:(a,b)∈qF n ↔ (a=0/\0<b/\b<n-1)\/(b=n-1/\0<a/\a<n-1):=by
 unfold qF
 rw [List.mem_append,List.mem_map,List.mem_map]
 constructor
 . rintro (⟨k,hk,e⟩ | ⟨k,hk,e⟩)
   . cases e
     have:=List.mem_range.mp hk
     omega
   . cases e
     have:=List.mem_range.mp hk
     omega
 . rintro (⟨rfl,h1,h2⟩ | ⟨rfl,h1,h2⟩)
   . exact .inl ⟨b-1,List.mem_range.mpr (by omega),by rw [show b-1+1=b by omega]⟩
   . exact .inr ⟨a-1,List.mem_range.mpr (by omega),by rw [show a-1+1=a by omega]⟩
theorem Pk {ch:Bool} {n:Nat}:okN n (qL ch n):=fun q hq=>by
 unfold qL at hq
 obtain ⟨a,b⟩:=q
 split at hq
 . have:=memC.mp hq
   show a<n/\b<n
   omega
 . have:=wK.mp hq
   show a<n/\b<n
   omega
theorem Vv {ch:Bool} {n:Nat} (hc:ch=false->3<=n) (a b:Nat) (ha:a<n) (hb:b<n):Lq ch n a b=true ↔ Rt (K3 (qL ch n)) a b:=by
 rw [su]
 cases ch with
 | true=>
  constructor
  . rintro (⟨_,h⟩ | ⟨h,_⟩)
    . induction b with
      | zero=>rw [show a=0 by omega]; exact .refl 0
      | succ b ih=>
       by_cases e:a=b+1
       . rw [e]; exact .refl _
       . exact (ih (by omega) (by omega)).step (memC.mpr ⟨rfl,hb⟩)
    . cases h
  . intro h
    refine .inl ⟨rfl,?_⟩
    clear hb
    induction h with
    | refl=>exact Nat.le_refl _
    | step _ e ih=>
     have:=memC.mp e
     omega
 | false=>
  have h3:=hc rfl
  constructor
  . rintro (⟨h,_⟩ | ⟨_,h⟩)
    . cases h
    . by_cases e:a=b
      . rw [e]; exact .refl _
      . by_cases e0:a=0
        . by_cases e1:b=n-1
          . subst e0 e1
            exact ((Rt.refl 0).step (wK.mpr (.inl ⟨rfl,Nat.lt_succ_self 0,by omega⟩)):Rt (K3 (qL false n)) 0 1).step (wK.mpr (.inr ⟨rfl,Nat.lt_succ_self 0,by omega⟩))
          . exact (Rt.refl a).step (wK.mpr (.inl ⟨e0,by omega,by omega⟩))
        . exact (Rt.refl a).step (wK.mpr (.inr ⟨by omega,by omega,by omega⟩))
  . intro h
    refine .inr ⟨rfl,?_⟩
    clear hb
    induction h with
    | refl=>exact .inl rfl
    | @step y z _ e ih=>
     have:=wK.mp e
     omega
theorem Uv {ch:Bool} {n:Nat} (hn:0<n) (hc:ch=false->3<=n):Ey n (qL ch n) (Lq ch n) (jI ch n) (mI ch n):=by
 refine ⟨fun a b ha hb h g=>?_,fun a ha=>?_,fun a ha=>?_,?_,fun a b ha hb=>?_,fun a b ha hb=>?_⟩
 . rw [su] at h g
   rcases h with ⟨c,h⟩ | ⟨c,h⟩<;>rcases g with ⟨c',g⟩ | ⟨c',g⟩
   . omega
   . rw [c] at c'; cases c'
   . rw [c] at c'; cases c'
   . have:=hc c
     omega
 . rw [su]
   cases ch with
   | true=>exact .inl ⟨rfl,Nat.zero_le _⟩
   | false=>exact .inr ⟨rfl,.inr (.inl rfl)⟩
 . rw [su]
   cases ch with
   | true=>exact .inl ⟨rfl,by omega⟩
   | false=>exact .inr ⟨rfl,.inr (.inr rfl)⟩
 . refine ⟨fun i=>if ch=true then i else if i=0 then 0 else if i=n-1 then 2 else 1,fun q hq hne=>?_⟩
   obtain ⟨a,b⟩:=q
   cases ch with
   | true=>
    have:=memC.mp hq
    show a<b
    omega
   | false=>
    have h3:=hc rfl
    have:=wK.mp hq
    show (if a=0 then 0 else if a=n-1 then 2 else 1)<(if b=0 then 0 else if b=n-1 then 2 else 1)
    rcases this with ⟨h1,h2,h3⟩ | ⟨h1,h2,h3⟩
    . rw [if_pos h1,if_neg (by omega),if_neg (by omega)]
      omega
    . rw [if_neg (by omega),if_neg (by omega),if_neg (by omega),if_pos h1]
      omega
 . have key:∀ c,c<n->(Lq ch n a c=true ↔ _):=fun c _=>su
   unfold jI
   cases ch with
   | true=>
    have E:∀ x y,Lq true n x y=decide (x<=y):=fun x y=>by unfold Lq; rw [if_pos rfl]
    simp only [E,decide_eq_true_iff]
    split
    . exact ⟨hb,by omega,by omega,fun c _ _ h=>h⟩
    . rw [if_pos (by omega)]
      exact ⟨ha,by omega,by omega,fun c _ h _=>h⟩
   | false=>
    have h3:=hc rfl
    have E:∀ x y,Lq false n x y=decide (x=y\/x=0\/y=n-1):=fun x y=>by unfold Lq; rw [if_neg (by decide)]
    simp only [E,decide_eq_true_iff]
    split
    . exact ⟨hb,by omega,by omega,fun c _ _ h=>h⟩
    . split
      . exact ⟨ha,by omega,by omega,fun c _ h _=>h⟩
      . exact ⟨by omega,by omega,by omega,fun c _ h g=>by omega⟩
 . unfold mI
   cases ch with
   | true=>
    have E:∀ x y,Lq true n x y=decide (x<=y):=fun x y=>by unfold Lq; rw [if_pos rfl]
    simp only [E,decide_eq_true_iff]
    split
    . exact ⟨ha,by omega,by omega,fun c _ h _=>h⟩
    . rw [if_pos (by omega)]
      exact ⟨hb,by omega,by omega,fun c _ _ h=>h⟩
   | false=>
    have h3:=hc rfl
    have E:∀ x y,Lq false n x y=decide (x=y\/x=0\/y=n-1):=fun x y=>by unfold Lq; rw [if_neg (by decide)]
    simp only [E,decide_eq_true_iff]
    split
    . exact ⟨ha,by omega,by omega,fun c _ h _=>h⟩
    . split
      . exact ⟨hb,by omega,by omega,fun c _ _ h=>h⟩
      . exact ⟨by omega,by omega,by omega,fun c _ h g=>by omega⟩
noncomputable def eV (xs:List Str) (i:Nat):Str:=(xs[i]?).getD ""
theorem u5 {xs:List Str} {i:Nat} (h:i<xs.length):xs[i]?=some (eV xs i):=by
 unfold eV
 rw [List.getElem?_eq_getElem h]
 rfl
noncomputable abbrev tell (xs:List Str) (qs:List (Nat×Nat)):List (Str×Str):=qs.map fun q=>(eV xs q.1,eV xs q.2)
theorem N6 {xs:List Str} {qs:List (Nat×Nat)} (ok:okN xs.length qs) (a b:Str):(a,b)∈tell xs qs ↔ ∃ i j:Nat,xs[i]?=some a/\xs[j]?=some b/\(i,j)∈qs:=by
 constructor
 . intro h
   obtain ⟨q,hq,e⟩:=List.mem_map.mp h
   cases e
   obtain ⟨w1,w2⟩:=ok q hq
   exact ⟨q.1,q.2,u5 w1,u5 w2,hq⟩
 . rintro ⟨i,j,h1,h2,h3⟩
   refine List.mem_map.mpr ⟨(i,j),h3,?_⟩
   show (eV xs i,eV xs j)=_
   unfold eV
   rw [h1,h2]
   rfl
theorem Pn {xs:List Str}:eqP (.lst (SS xs)) (.lst (SS xs))=yS (.bl true):=by
 have key:∀ l:List Str,pQ (bC 149) (SS l) (SS l)=some true:=by
  intro l
  induction l with
  | nil=>rfl
  | cons x l ih=>
   show (some (x==x)).bind (fun b=>(pQ (bC 149) (SS l) (SS l)).map fun c=>b&&c)=_
   rw [ih,beq_self_eq_true]
   rfl
 show ((if (SS xs).length=(SS xs).length then pQ (bC 149) (SS xs) (SS xs) else some false)).map _=_
 rw [if_pos rfl,key]
 rfl
theorem Pq {fa fb:EF} {ρ ρ1:Ev} {r:Lc×Ev} (h:fa ρ=some (.sh (.bl true),ρ1)) (h2:fb ρ1=some r):pO fa fb ρ=some r:=by
 unfold pO
 rw [h]
 exact h2
theorem Vw {ps:List PV} {a:Int} (h0:0<=a) (h1:a<=ps.length):jY ps none (some a)=ps.take a.toNat:=by
 have e:HT.sIx ps.length ps.length (some a)=a.toNat:=by
  show (if a<0 then _ else min a.toNat ps.length)=_
  rw [if_neg (by omega)]
  omega
 unfold jY
 rw [e]
 rfl
theorem Vx {ps:List PV} {a:Int} (h0:0<=a) (h1:a<=ps.length):jY ps (some a) none=ps.drop a.toNat:=by
 have e:HT.sIx ps.length 0 (some a)=a.toNat:=by
  show (if a<0 then _ else min a.toNat ps.length)=_
  rw [if_neg (by omega)]
  omega
 unfold jY
 rw [e]
 show (ps.drop a.toNat).take (ps.length-a.toNat)=_
 rw [List.take_of_length_le (by rw [List.length_drop]; omega)]
theorem N7 {b:Bool}:cC (.bl b)=some b:=rfl
theorem Pr {fa fb:EF} {ρ:Ev} {a b:Bool} (ha:fa ρ=some (.sh (.bl a),ρ)) (hb:fb ρ=some (.sh (.bl b),ρ)):FT fa fb ρ=some (.sh (.bl (a||b)),ρ):=by
 unfold FT
 rw [ha]
 cases a with
 | true=>rfl
 | false=>
  show fb ρ=_
  rw [hb]; rfl
theorem yQ {xs:List Str} {a:Str} {fa fb:EF} {ρ:Ev} {i:Nat} (hi:xs[i]?=some a) (h1:fa ρ=some (wS xs,ρ)) (h2:fb ρ=some (.sh (.int (i:Nat)),ρ)):bz fa fb ρ=some (.sh (.str a),ρ):=iM (l:=wS xs) (m:=.sh (.int (i:Nat))) h1 rfl h2 rfl (fun n h=>by cases h) (IW hi)
theorem Uw {a b:List PV} (h:a.length+b.length<=100000):cH (.lst a) (.lst b)=yO (a++b):=by
 show (if _<=_ then _ else none)=_
 rw [if_pos h]
theorem Rc {xs:List Str} {x:Str} (h:xs[xs.length-1]?=some x):pU (.lst (SS xs)) (.int (-1))=zT x:=by
 have hk:=tU h
 show (gj (SS xs) (-1)).map _=_
 unfold gj qG
 rw [if_neg (by omega),List.length_map,if_pos (by omega),Option.bind_some,show ((-1:Int)+(xs.length:Int)).toNat=xs.length-1 from by omega,List.getElem?_map,h]
 rfl
theorem vI {xs:List Str} {a:Str} {fa:EF} {ρ:Ev} (h:xs[xs.length-1]?=some a) (h1:fa ρ=some (wS xs,ρ)):bz fa (lJ (eC (.int 1))) ρ=some (.sh (.str a),ρ):=iM (l:=wS xs) (m:=.sh (.int (-1))) h1 rfl rfl rfl (fun n h=>by cases h) (Rc h)
theorem qy {xs:List Str} {a:Str} {fa:EF} {ρ:Ev} (h:xs[0]?=some a) (h1:fa ρ=some (wS xs,ρ)):bz fa (eC (.int 0)) ρ=some (.sh (.str a),ρ):=yQ (i:=0) h h1 rfl
noncomputable abbrev fj (c:Bool) (n:Nat):Bool:=c||decide (n<3)
theorem G5 {N:PV} {xs:List Str} {c:Bool} {vs:List (Option Lc)} {mu:Mu}:gP (tT (aa 1) cC) (tT (au uF (eB fB (aj (aa 0) ao)) (eC (.int 3))) aU) ⟨zS xs::yS (.bl c)::vs,mu⟩=some (fj c xs.length,⟨zS xs::yS (.bl c)::vs,mu⟩):=by
 have t2:tT (au uF (eB fB (aj (aa 0) ao)) (eC (.int 3))) aU ⟨zS xs::yS (.bl c)::vs,mu⟩=some (decide (xs.length<3),⟨zS xs::yS (.bl c)::vs,mu⟩):=by
  refine (bG (l:=.sh (.bl (decide (((SS xs).length:Int)<3)))) (aM rfl rfl rfl rfl rfl) rfl rfl).trans ?_
  rw [List.length_map]
  congr 2
  exact decide_eq_decide.mpr (by omega)
 exact qM (bG (l:=.sh (.bl c)) rfl rfl N7) t2
theorem z7 {ks:List PV} {te:EF} {vs:List (Option Lc)} {mu:Mu} {f:PV->Str×Str} (hl:ks.length<=8) (he:∀ k∈ks,te ⟨yS k::vs,mu⟩=some (.sh (.tup [.str (f k).1,.str (f k).2]),⟨yS k::vs,mu⟩)):fO (aF 0) cM te ks ⟨none::vs,mu⟩ []=some (PP (ks.map f),mu):=by
 have:=nY (b:=aF 0) (te:=te) (mu:=mu) (fun ρ=>∃ o,ρ=⟨o::vs,mu⟩) (fun ρ ⟨o,e⟩=>by rw [e]) (fun k=>.tup [.str (f k).1,.str (f k).2]) (xs:=ks) (ρ:=⟨none::vs,mu⟩) ⟨none,rfl⟩ (by omega) (by
  rintro x hx ρ ⟨o,rfl⟩
  exact ⟨⟨yS x::vs,mu⟩,rfl,_,_,he x hx,rfl,_,rfl⟩) (by
  rintro x hx ρ ρ1 ⟨o,rfl⟩ e
  cases e
  exact ⟨_,rfl⟩)
 rw [this]
 show _=some (List.map _ (List.map f ks),mu)
 rw [List.map_map]
 rfl
theorem N8 {xs:List Str} {c:Bool} {mu:Mu} (h1:0<xs.length) (h8:xs.length<=8):j7 [.lst (SS xs),.bl c] mu=some (.own (.lst (PP (tell xs (qL (fj c xs.length) xs.length)))),mu):=by
 let E:=fun o2=>(⟨[zS xs,yS (.bl c),o2],mu⟩:Ev)
 have t:gP (tT (aa 1) cC) (tT (au uF (eB fB (aj (aa 0) ao)) (eC (.int 3))) aU) (E none)=some (fj c xs.length,E none):=G5 (N:=.non)
 cases hc:fj c xs.length with
 | true=>
  rw [hc] at t
  have rg:vm (aj (eC (.int 1)) (aj (eB fB (aj (aa 0) ao)) ao)) (E none)=some (fW 1 (xs.length-1),E none):=by
   unfold vm
   rw [show aj (eC (.int 1)) (aj (eB fB (aj (aa 0) ao)) ao) (E none)=some ([.sh (.int 1),.sh (.int ((SS xs).length:Nat))],E none) from rfl,Option.bind_some]
   show (if -(2 ^ 62)<=(1:Int)/\(1:Int)<2 ^ 62/\-(2 ^ 62)<=(((SS xs).length:Nat):Int)/\(((SS xs).length:Nat):Int)<2 ^ 62 then some (fW 1 ((((SS xs).length:Nat):Int)-1).toNat,E none) else none)=_
   rw [List.length_map,if_pos ⟨by decide,by decide,by omega,by omega⟩,show (((xs.length:Nat):Int)-1).toNat=xs.length-1 from by omega]
  refine aX (ρ:=E none) (fP ((gf t).trans (cI (l:=.own (.lst (PP (tell xs (qL true xs.length))))) ((eX (ρ1:=E none) rg (z7 (f:=fun k=>match k with | .int i=>(eV xs (i-1).toNat,eV xs i.toNat) | _=>("", "")) (vs:=[zS xs]) (mu:=mu) (by rw [lU]; omega) fun k hk=>?_)).trans ?_))))
  . obtain ⟨i,hi,rfl⟩:=zm hk
    have e1:(1+(i:Int)-1)=((i:Nat):Int):=by omega
    have e2:(1+(i:Int))=((i+1:Nat):Int):=by omega
    have n1:=u5 (xs:=xs) (i:=i) (by omega)
    have n2:=u5 (xs:=xs) (i:=i+1) (by omega)
    refine (pY (ls:=[.sh (.str (eV xs i)),.sh (.str (eV xs (i+1)))]) (az (iM (l:=wS xs) (m:=.sh (.int (1+(i:Int)-1))) rfl rfl rfl rfl (fun n h=>by cases h) (by rw [e1]; exact IW n1)) (az (iM (l:=wS xs) (m:=.sh (.int (1+(i:Int)))) rfl rfl rfl rfl (fun n h=>by cases h) (by rw [e2]; exact IW n2)) rfl)) rfl rfl).trans ?_
    show some (Lc.sh (.tup [.str (eV xs i),.str (eV xs (i+1))]),_)=some (Lc.sh (.tup [.str (eV xs (1+(i:Int)-1).toNat),.str (eV xs (1+(i:Int)).toNat)]),_)
    rw [e1,e2,Int.toNat_natCast,Int.toNat_natCast]
    rfl
  . have e3:(fW 1 (xs.length-1)).map (fun k=>match k with | PV.int i=>(eV xs (i-1).toNat,eV xs i.toNat) | _=>("", ""))=tell xs (qL true xs.length):=by
     unfold qL qC fW tell
     rw [if_pos rfl,List.map_map,List.map_map]
     refine List.map_congr_left fun i _=>?_
     show (eV xs (1+(i:Int)-1).toNat,eV xs (1+(i:Int)).toNat)=(eV xs i,eV xs (i+1))
     rw [show (1+(i:Int)-1).toNat=i by omega,show (1+(i:Int)).toNat=i+1 by omega]
    rw [e3]
    rfl
 | false=>
  rw [hc] at t
  have h3:3<=xs.length:=by
   unfold fj at hc
   rw [Bool.or_eq_false_iff] at hc
   have:=of_decide_eq_false hc.2
   omega
  let am:=(List.range (xs.length-2)).map fun k=>eV xs (k+1)
  have ec:jY (SS xs) (some 1) (some (-1))=SS am:=by
   have z1:HT.sIx xs.length 0 (some 1)=1:=by
    show (if (1:Int)<0 then ((1:Int)+(xs.length:Int)).toNat else min (1:Int).toNat xs.length)=1
    rw [if_neg (by decide)]
    show min 1 xs.length=1
    omega
   have z2:HT.sIx xs.length xs.length (some (-1))=xs.length-1:=by
    show (if (-1:Int)<0 then ((-1:Int)+(xs.length:Int)).toNat else min (-1:Int).toNat xs.length)=_
    rw [if_pos (by decide)]
    omega
   unfold jY
   rw [List.length_map,z1,z2]
   refine List.ext_getElem? fun k=>?_
   by_cases hk:k<xs.length-2
   . rw [List.getElem?_take_of_lt (by omega),List.getElem?_drop,List.getElem?_map,show 1+k=k+1 by omega,u5 (by omega),List.getElem?_map,List.getElem?_map,List.getElem?_range hk]
     rfl
   . rw [List.getElem?_eq_none (by simp; omega),List.getElem?_eq_none (by simp [am]; omega)]
  have s2:aL 2 (gQ (aa 0) (cA (eC (.int 1))) (cA (lJ (eC (.int 1))))) (E none)=some (.nx (E (yO (SS am)))):=by
   refine aY (l:=.own (.lst (SS am))) (ρ1:=E none) ?_ rfl rfl
   rw [← ec]
   rfl
  obtain ⟨x0,_,h0⟩:=jU h1
  obtain ⟨xl,_,hl⟩:=jU (xs:=xs) (i:=xs.length-1) (by omega)
  have la:am.length<=8:=by simp only [am,List.length_map,List.length_range]; omega
  have k1:b7 (d7 (aa 2) bV) 1 [0] (aF 0) cM (jt (aj (bz (aa 1) (eC (.int 0))) (aj (aa 0) ao))) (E (yO (SS am)))=some (.own (.lst (PP ((SS am).map fun k=>match k with | .str m=>(x0,m) | _=>("", "")))),E (zS am)):=
   (eX (ρ1:=E (zS am)) (Dl (l:=wS am) rfl rfl) (z7 (vs:=[zS xs]) (mu:=mu) (f:=fun k=>match k with | .str m=>(x0,m) | _=>("", "")) (by rw [List.length_map]; exact la) fun k hk=>by
     obtain ⟨m,hm,rfl⟩:=List.mem_map.mp hk
     exact pY (ls:=[.sh (.str x0),.sh (.str m)]) (az (qy h0 rfl) (az rfl rfl)) rfl rfl)).trans rfl
  have k2:b7 (d7 (aa 2) bV) 1 [0] (aF 0) cM (jt (aj (aa 0) (aj (bz (aa 1) (lJ (eC (.int 1)))) ao))) (E (zS am))=some (.own (.lst (PP ((SS am).map fun k=>match k with | .str m=>(m,xl) | _=>("", "")))),E (zS am)):=
   (eX (ρ1:=E (zS am)) (Dl (l:=wS am) rfl rfl) (z7 (vs:=[zS xs]) (mu:=mu) (f:=fun k=>match k with | .str m=>(m,xl) | _=>("", "")) (by rw [List.length_map]; exact la) fun k hk=>by
     obtain ⟨m,hm,rfl⟩:=List.mem_map.mp hk
     exact pY (ls:=[.sh (.str m),.sh (.str xl)]) (az rfl (az (vI hl rfl) rfl)) rfl rfl)).trans rfl
  refine aX (ρ:=E (zS am)) (aD (ρ':=E none) ((cD t).trans rfl) (aD s2 (cI (l:=.own (.lst (PP (tell xs (qL false xs.length))))) (aM k1 rfl k2 rfl ?_))))
  refine (Uw (by simp only [List.length_map]; omega)).trans ?_
  congr 3
  show List.map _ (List.map _ (SS am))++List.map _ (List.map _ (SS am))=List.map _ (tell xs (qL false xs.length))
  unfold qL qF tell
  rw [if_neg (by decide),List.map_append,List.map_append]
  simp only [am,List.map_map]
  have z0:eV xs 0=x0:=by unfold eV; rw [h0]; rfl
  have zl:eV xs (xs.length-1)=xl:=by unfold eV; rw [hl]; rfl
  congr 1
  . refine List.map_congr_left fun k _=>?_
    show PV.tup [.str x0,.str (eV xs (k+1))]=PV.tup [.str (eV xs 0),.str (eV xs (k+1))]
    rw [z0]
  . refine List.map_congr_left fun k _=>?_
    show PV.tup [.str (eV xs (k+1)),.str xl]=PV.tup [.str (eV xs (k+1)),.str (eV xs (xs.length-1))]
    rw [zl]
theorem Ja {c:TF} {f g:EF} {ρ ρ1:Ev} (h:c ρ=some (true,ρ1)):xq c f g ρ=f ρ1:=by unfold xq; rw [h,Option.bind_some,if_pos rfl]
theorem Jb {c:TF} {f g:EF} {ρ ρ1:Ev} (h:c ρ=some (false,ρ1)):xq c f g ρ=g ρ1:=by unfold xq; rw [h,Option.bind_some,if_neg Bool.false_ne_true]
section
variable {xs ts:List Str} {ps:List (Str×Str)} {c:Bool} {a b:Str} {i j:Nat} {mu:Mu}
theorem u6 (nd:xs.Nodup) (h1:0<xs.length) (h8:xs.length<=8) (hi:xs[i]?=some a) (hj:xs[j]?=some b):dB [.lst (SS xs),.bl c,.str a,.str b] mu=some (.sh (.bl (Lq (fj c xs.length) xs.length i j)),mu):=by
 let E:Ev:=⟨[zS xs,yS (.bl c),zT a,zT b],mu⟩
 have t:gP (tT (aa 1) cC) (tT (au uF (eB fB (aj (aa 0) ao)) (eC (.int 3))) aU) E=some (fj c xs.length,E):=G5 (N:=.non)
 cases hc:fj c xs.length with
 | true=>
  rw [hc] at t
  refine aX (ρ:=E) (fP ((gf t).trans (cI (aM (Pj nd h8 (l:=wS xs) (m:=.sh (.str a)) hi rfl rfl rfl rfl) rfl (Pj nd h8 (l:=wS xs) (m:=.sh (.str b)) hj rfl rfl rfl rfl) rfl ?_))))
  show some (Lc.sh (.bl (decide (((i:Nat):Int)<=((j:Nat):Int)))))=_
  unfold Lq
  rw [if_pos rfl]
  congr 3
  exact decide_eq_decide.mpr (by omega)
 | false=>
  rw [hc] at t
  obtain ⟨x0,_,h0⟩:=jU h1
  obtain ⟨xl,_,hl⟩:=jU (xs:=xs) (i:=xs.length-1) (by omega)
  refine aX (ρ:=E) (aD (ρ':=E) ((cD t).trans rfl) (cI (l:=.sh (.bl (a==b||(a==x0||b==xl)))) (Pr (aM rfl rfl rfl rfl rfl) (Pr (aM rfl rfl (qy h0 rfl) rfl rfl) (aM rfl rfl (vI hl rfl) rfl rfl))))) |>.trans ?_
  congr 4
  rw [Bool.eq_iff_iff,Bool.or_eq_true,Bool.or_eq_true,beq_iff_eq,beq_iff_eq,beq_iff_eq,su]
  have k:∀ {u v:Str} {p q:Nat},xs[p]?=some u->xs[q]?=some v->(u=v ↔ p=q):=fun hp hq=>⟨fun e=>Ew nd hp (e▸hq),fun e=>by rw [e,hq] at hp; exact (Option.some.inj hp).symm⟩
  rw [k hi hj,k hi h0,k hj hl]
  exact ⟨fun h=>.inr ⟨rfl,h⟩,fun h=>by rcases h with ⟨z,_⟩ | ⟨_,h⟩; cases z; exact h⟩
noncomputable abbrev Aq (xs:List Str) (c:Bool) (w a b:Str) (mu:Mu):Ev:=⟨[zS xs,yS (.bl c),zT w,zT a,zT b],mu⟩
theorem Ux {xs:List Str} {c:Bool} {w a b k:Str} {mu:Mu}:tT (au eqP (aa 2) (eC (.str k))) aU (Aq xs c w a b mu)=some (w==k,Aq xs c w a b mu):=bG (l:=.sh (.bl (w==k))) (aM rfl rfl rfl rfl rfl) rfl rfl
theorem EY (nd:xs.Nodup) (h1:0<xs.length) (h8:xs.length<=8) (hi:xs[i]?=some a) (hj:xs[j]?=some b):cL [.lst (SS xs),.bl c,.str "under",.str a,.str b] mu=some (.sh (.bl (Lq (fj c xs.length) xs.length i j)),mu):=
 aX (ρ:=Aq xs c "under" a b mu) (fP ((gf (Ux (w := "under") (k := "under"))).trans (cI (aW (az rfl (az rfl (az rfl (az rfl rfl)))) rfl rfl rfl (u6 nd h1 h8 hi hj)))))
theorem Bg {w:Str} (hw:(w == "under")=false) (nd:xs.Nodup) (h1:0<xs.length) (h8:xs.length<=8) (hi:xs[i]?=some a) (hj:xs[j]?=some b):cL [.lst (SS xs),.bl c,.str w,.str a,.str b] mu=some (.sh (.str (eV xs (if (w == "join")=true then jI (fj c xs.length) xs.length i j else mI (fj c xs.length) xs.length i j))),mu):=by
 have t1:tT (au eqP (aa 2) (eC (.str "under"))) aU (Aq xs c w a b mu)=some (false,Aq xs c w a b mu):=Ux.trans (by rw [hw])
 have u1:tT (aH dB (aj (aa 0) (aj (aa 1) (aj (aa 3) (aj (aa 4) ao))))) cC (Aq xs c w a b mu)=some (Lq (fj c xs.length) xs.length i j,Aq xs c w a b mu):=bG (aW (az rfl (az rfl (az rfl (az rfl rfl)))) rfl rfl rfl (u6 nd h1 h8 hi hj)) rfl N7
 have u2:tT (aH dB (aj (aa 0) (aj (aa 1) (aj (aa 4) (aj (aa 3) ao))))) cC (Aq xs c w a b mu)=some (Lq (fj c xs.length) xs.length j i,Aq xs c w a b mu):=bG (aW (az rfl (az rfl (az rfl (az rfl rfl)))) rfl rfl rfl (u6 nd h1 h8 hj hi)) rfl N7
 have w1:=Ux (xs:=xs) (c:=c) (w:=w) (a:=a) (b:=b) (k := "join") (mu:=mu)
 obtain ⟨x0,_,h0⟩:=jU h1
 obtain ⟨xl,_,hl⟩:=jU (xs:=xs) (i:=xs.length-1) (by omega)
 have nx:∀ {k:Nat} {y:Str},xs[k]?=some y->eV xs k=y:=fun h=>by unfold eV; rw [h]; rfl
 unfold jI mI
 generalize (w == "join")=wj at w1 ⊢
 cases e1:Lq (fj c xs.length) xs.length i j with
 | true=>
  rw [e1] at u1
  refine aX (ρ:=Aq xs c w a b mu) (aD (ρ':=Aq xs c w a b mu) ((cD t1).trans rfl) (fP ((gf u1).trans (cI ?_))))
  cases wj with
  | true=>rw [Ja w1,if_pos rfl,if_pos rfl,nx hj]; rfl
  | false=>rw [Jb w1,if_neg (by decide),if_pos rfl,nx hi]; rfl
 | false=>
  rw [e1] at u1
  cases e2:Lq (fj c xs.length) xs.length j i with
  | true=>
   rw [e2] at u2
   refine aX (ρ:=Aq xs c w a b mu) (aD (ρ':=Aq xs c w a b mu) ((cD t1).trans rfl) (aD (ρ':=Aq xs c w a b mu) ((cD u1).trans rfl) (fP ((gf u2).trans (cI ?_)))))
   cases wj with
   | true=>rw [Ja w1,if_pos rfl,if_neg (by decide),if_pos rfl,nx hi]; rfl
   | false=>rw [Jb w1,if_neg (by decide),if_neg (by decide),if_pos rfl,nx hj]; rfl
  | false=>
   rw [e2] at u2
   refine aX (ρ:=Aq xs c w a b mu) (aD (ρ':=Aq xs c w a b mu) ((cD t1).trans rfl) (aD (ρ':=Aq xs c w a b mu) ((cD u1).trans rfl) (aD (ρ':=Aq xs c w a b mu) ((cD u2).trans rfl) (cI ?_))))
   cases wj with
   | true=>rw [Ja w1,if_pos rfl,if_neg (by decide),if_neg (by decide),nx hl]; exact vI hl rfl
   | false=>rw [Jb w1,if_neg (by decide),if_neg (by decide),if_neg (by decide),nx h0]; exact qy h0 rfl
end
noncomputable abbrev tV:PV:=.tup [.str "refused"]
structure nH (xs ts:List Str) (ps:List (Str×Str)) (c:Bool):Prop where
 S:j9 xs ts ps (qL (fj c xs.length) xs.length) (Lq (fj c xs.length) xs.length)
 L:Ey xs.length (qL (fj c xs.length) xs.length) (Lq (fj c xs.length) xs.length) (jI (fj c xs.length) xs.length) (mI (fj c xs.length) xs.length)
section
variable {xs ts:List Str} {ps:List (Str×Str)} {c:Bool} {a b:Str} {mu:Mu}
theorem K4 {k:Nat} {y:Str} (h:xs[k]?=some y):eV xs k=y:=by unfold eV; rw [h]; rfl
theorem nH.under (T:nH xs ts ps c) (ha:a∈xs) (hb:b∈xs):cL [.lst (SS xs),.bl c,.str "under",.str a,.str b] mu=some (.sh (.bl (U ps a b)),mu):=by
 obtain ⟨i,_,hi⟩:=gJ ha
 obtain ⟨j,_,hj⟩:=gJ hb
 rw [EY T.S.nd T.S.ne T.S.l8 hi hj,← T.S.ur hi hj]
 rfl
theorem nH.join (T:nH xs ts ps c) (ha:a∈xs) (hb:b∈xs):cL [.lst (SS xs),.bl c,.str "join",.str a,.str b] mu=some (.sh (.str (jn ps a b)),mu):=by
 obtain ⟨i,_,hi⟩:=gJ ha
 obtain ⟨j,_,hj⟩:=gJ hb
 rw [Bg (w := "join") (by decide +kernel) T.S.nd T.S.ne T.S.l8 hi hj,if_pos (by decide +kernel),K4 (T.S.jn T.L hi hj).2]
theorem nH.meet (T:nH xs ts ps c) (ha:a∈xs) (hb:b∈xs):cL [.lst (SS xs),.bl c,.str "meet",.str a,.str b] mu=some (.sh (.str (jn (iH ps) a b)),mu):=by
 obtain ⟨i,_,hi⟩:=gJ ha
 obtain ⟨j,_,hj⟩:=gJ hb
 rw [Bg (w := "meet") (by decide +kernel) T.S.nd T.S.ne T.S.l8 hi hj,if_neg (by decide +kernel),K4 (T.S.mt T.L hi hj).2]
noncomputable abbrev Dq (xs:List Str) (c:Bool) (w:Str) (l:List Str) (o4 o5:Option Lc) (mu:Mu):Ev:=⟨[zS xs,yS (.bl c),zT w,zS l,o4,o5],mu⟩
noncomputable abbrev K5:SF:=dq (tT (au kY (aa 4) (aa 0)) aU) (cj (jt (aj (eC (.str "refused")) ao))) bO
theorem Fb {w:Str} {l:List Str}:∀ (r:List Str) (o4:Option Lc),∃ o4',dG (aF 4) K5 (SS r) (Dq xs c w l o4 none mu)=if r.all (has xs)=true then some (.nx (Dq xs c w l o4' none mu)) else some (.rt (.sh tV) (Dq xs c w l o4' none mu))
 | [],o4=>⟨o4,rfl⟩
 | x::r,o4=>by
  have t:tT (au kY (aa 4) (aa 0)) aU (Dq xs c w l (zT x) none mu)=some (!has xs x,Dq xs c w l (zT x) none mu):=bG (aM rfl rfl rfl rfl rR) rfl rfl
  cases e:has xs x with
  | true=>
   rw [e] at t
   obtain ⟨o4',h⟩:=Fb (w:=w) (l:=l) r (zT x)
   refine ⟨o4',?_⟩
   rw [List.all_cons,e,Bool.true_and]
   exact gF (ρ1:=Dq xs c w l (zT x) none mu) rfl ((cD t).trans rfl) h
  | false=>
   rw [e] at t
   refine ⟨zT x,?_⟩
   rw [List.all_cons,e,Bool.false_and,if_neg (by decide)]
   show (K5 (Dq xs c w l (zT x) none mu)).bind _=_
   rw [show K5 (Dq xs c w l (zT x) none mu)=some (.rt (.sh tV) (Dq xs c w l (zT x) none mu)) from (gf t).trans rfl]
   rfl
noncomputable def lO (ps:List (Str×Str)) (x0 w:Str) (l:List Str):PV:=
 if (w == "joined")=true then .str (Et ps x0 l) else match l with
 | [a,b]=>if (w == "under")=true then .bl (U ps a b) else if (w == "join")=true then .str (jn ps a b) else .str (jn (iH ps) a b)
 | _=>.non
noncomputable def K6 (w:Str) (l:List Str):Prop:=w = "joined" \/ ((w = "under" \/ w = "join" \/ w = "meet")/\∃ a b,l=[a,b])
theorem Uy (T:nH xs ts ps c) {w x0:Str} {l:List Str} (h0:xs[0]?=some x0) (hw:K6 w l) (hl:l.length<=8):jy [.lst (SS xs),.bl c,.str w,.lst (SS l)] mu=some (.sh (if l.all (has xs)=true then lO ps x0 w l else tV),mu):=by
 obtain ⟨o4,e⟩:=Fb (xs:=xs) (c:=c) (mu:=mu) (w:=w) (l:=l) l none
 have s1:gw (d7 (aa 3) bV) (aF 4) K5 (Dq xs c w l none none mu)=dG (aF 4) K5 (SS l) (Dq xs c w l none none mu):=by
  rw [Gi (ρ1:=Dq xs c w l none none mu) (xs:=SS l) (fD (l:=wS l) rfl rfl rfl)]
 rw [e] at s1
 split at s1
 . rename_i hall
   rw [if_pos hall]
   have hin:∀ x∈l,x∈xs:=fun x hx=>bh.mp (List.all_eq_true.mp hall x hx)
   have tw:tT (au mL (aa 2) (eC (.str "joined"))) aU (Dq xs c w l o4 none mu)=some (!(w == "joined"),Dq xs c w l o4 none mu):=bG (l:=.sh (.bl (!(w == "joined")))) (aM rfl rfl rfl rfl rfl) rfl rfl
   rcases hw with rfl | ⟨hw,a,b,rfl⟩
   . have tw':tT (au mL (aa 2) (eC (.str "joined"))) aU (Dq xs c "joined" l o4 none mu)=some (false,Dq xs c "joined" l o4 none mu):=tw.trans (by rw [beq_self_eq_true]; rfl)
     have lp:∀ (r:List Str) (v:Str) (o4:Option Lc),(∀ x∈r,x∈xs)->v∈xs->∃ o4',dG (aF 4) (aL 5 (aH cL (aj (aa 0) (aj (aa 1) (aj (eC (.str "join")) (aj (aa 5) (aj (aa 4) ao))))))) (SS r) (Dq xs c "joined" l o4 (zT v) mu)=some (.nx (Dq xs c "joined" l o4' (zT (Et ps v r)) mu)):=by
      intro r
      induction r with
      | nil=>exact fun v o4 _ _=>⟨o4,rfl⟩
      | cons x r ih=>
       intro v o4 hr hv
       have hx:=hr x List.mem_cons_self
       obtain ⟨i,_,hi⟩:=gJ hv
       obtain ⟨j,_,hj⟩:=gJ hx
       obtain ⟨o4',e⟩:=ih (jn ps v x) (zT x) (fun y hy=>hr y (List.mem_cons_of_mem _ hy)) (List.mem_of_getElem? (T.S.jn T.L hi hj).2)
       exact ⟨o4',gF (ρ1:=Dq xs c "joined" l (zT x) (zT v) mu) (ρ2:=Dq xs c "joined" l (zT x) (zT (jn ps v x)) mu) rfl (aY (aW (az rfl (az rfl (az rfl (az rfl (az rfl rfl))))) rfl rfl rfl (T.join hv hx)) rfl rfl) e⟩
     obtain ⟨o4',e2⟩:=lp l x0 o4 hin (List.mem_of_getElem? h0)
     have ea:lO ps x0 "joined" l=.str (Et ps x0 l):=by unfold lO; rw [if_pos (by decide +kernel)]
     rw [ea]
     exact aX (ρ:=Dq xs c "joined" l o4' none mu) (aD s1 (aD (ρ':=Dq xs c "joined" l o4 none mu) ((cD tw').trans rfl) (aD (ρ':=Dq xs c "joined" l o4 (zT x0) mu) (aY (qy h0 rfl) rfl rfl) (aD (ik (ρ1:=Dq xs c "joined" l o4 (zT x0) mu) (fD (l:=wS l) rfl rfl rfl) e2) rfl))))
   . have ha:=hin a (by simp)
     have hb:=hin b (by simp)
     have nj:(w == "joined")=false:=by rcases hw with rfl | rfl | rfl<;>decide +kernel
     have tw':tT (au mL (aa 2) (eC (.str "joined"))) aU (Dq xs c w [a,b] o4 none mu)=some (true,Dq xs c w [a,b] o4 none mu):=tw.trans (by rw [nj]; rfl)
     have fin:∀ {r:PV},cL [.lst (SS xs),.bl c,.str w,.str a,.str b] mu=some (.sh r,mu)->jy [.lst (SS xs),.bl c,.str w,.lst (SS [a,b])] mu=some (.sh r,mu):=fun {r} h=>
      aX (ρ:=Dq xs c w [a,b] o4 none mu) (aD s1 (fP ((gf tw').trans (cI (aW (az rfl (az rfl (az rfl (az (yQ (xs:=[a,b]) (i:=0) rfl rfl rfl) (az (yQ (xs:=[a,b]) (i:=1) rfl rfl rfl) rfl))))) rfl rfl rfl h)))))
     unfold lO
     rw [nj,if_neg (by decide)]
     rcases hw with rfl | rfl | rfl
     . exact fin (T.under ha hb)
     . exact fin (T.join ha hb)
     . exact fin (T.meet ha hb)
 . rename_i hall
   rw [if_neg hall]
   exact aX (ρ:=Dq xs c w l o4 none mu) (fP s1)
end
theorem yR {o1:Option Lc} {mu:Mu}:jZ [] ["NoName"] (aa 0) ⟨[some (.sh (.exc "NoName")),o1],mu⟩=some (.sh (.bl false),⟨[some (.sh (.exc "NoName")),o1],mu⟩):=by
 show (if ("NoName" : Str)∈([]:List Str) then some (Lc.sh (.bl true),(⟨[some (.sh (.exc "NoName")),o1],mu⟩:Ev)) else if ("NoName" : Str)∈(["NoName"]:List Str) then some (Lc.sh (.bl false),(⟨[some (.sh (.exc "NoName")),o1],mu⟩:Ev)) else none)=_
 rw [if_neg (by simp),if_pos (List.mem_singleton.mpr rfl)]
theorem Pu {o1:Option Lc} {mu:Mu}:jZ ["NoName"] [] (aa 0) ⟨[some (.sh (.exc "NoName")),o1],mu⟩=some (.sh (.bl true),⟨[some (.sh (.exc "NoName")),o1],mu⟩):=by
 show (if ("NoName" : Str)∈(["NoName"]:List Str) then some (Lc.sh (.bl true),(⟨[some (.sh (.exc "NoName")),o1],mu⟩:Ev)) else if ("NoName" : Str)∈([]:List Str) then some (Lc.sh (.bl false),(⟨[some (.sh (.exc "NoName")),o1],mu⟩:Ev)) else none)=_
 rw [if_pos (List.mem_singleton.mpr rfl)]
theorem Oa {mu:Mu}:fK [.exc "NoName"] mu=some (.sh tV,mu):=by
 let E:=fun o1=>(⟨[some (.sh (.exc "NoName")),o1],mu⟩:Ev)
 let b4:PV:=.lst [.bl false,.bl false,.bl false,.bl false]
 have s1:aL 1 (iz (aj (jZ [] ["NoName"] (aa 0)) (aj (jZ [] ["NoName"] (aa 0)) (aj (jZ [] ["NoName"] (aa 0)) (aj (jZ [] ["NoName"] (aa 0)) ao))))) (E none)=some (.nx (E (some (.own b4)))):=aY (pX (ls:=[.sh (.bl false),.sh (.bl false),.sh (.bl false),.sh (.bl false)]) (az yR (az yR (az yR (az yR rfl)))) rfl rfl) rfl rfl
 have t:gP (tT (au iW (eC (.bl true)) (aa 1)) aU) (gP (tT (jZ [] ["NoName"] (aa 0)) cC) (gP (jO (tT (jZ ["NoName"] [] (aa 0)) cC)) (jO (tT (jZ ["NoName"] [] (aa 0)) cC)))) (E (some (.own b4)))=some (false,E (yS b4)):=
  qM (b:=false) (b2:=false) rfl (qM (b:=false) (b2:=false) (bG yR rfl rfl) (qM (b:=false) (b2:=false) (rN (b:=true) (bG Pu rfl rfl)) (rN (b:=true) (bG Pu rfl rfl))))
 exact aX (ρ:=E (yS b4)) (aD s1 (aD (ρ':=E (yS b4)) ((cD t).trans rfl) rfl))
section
variable {n:Nat} {xs ts:List Str} {ps:List (Str×Str)} {c:Bool} {mu:Mu}
noncomputable abbrev Qq (n:Nat) (w:Str) (l:List Str) (mu:Mu):Ev:=⟨[yS (.ptr n),zT w,zS l],mu⟩
theorem Uz {w k:Str} {l:List Str}:tT (au eqP (aa 1) (eC (.str k))) aU (Qq n w l mu)=some (w==k,Qq n w l mu):=bG (l:=.sh (.bl (w==k))) (aM rfl rfl rfl rfl rfl) rfl rfl
theorem BX {F:EX} {w:Str} {l:List Str} {b:Bool} {r:PV} {f:SX} (h:if b=true then F (Qq n w l mu)=some (.ok (.sh r,Qq n w l mu)) else F (Qq n w l mu)=some (.xc "NoName" (Qq n w l mu))) (hf:∀ y,xB F zx (Qq n w l mu)=some y->(∀ ρ,y≠.ok (.nx ρ))->f (Qq n w l mu)=some y):lN b r mu (jL 3 f [.ptr n,.str w,.lst (SS l)] mu):=by
 unfold lN
 split at h
 . rename_i e
   rw [if_pos e]
   exact zZ (ρ:=Qq n w l mu) (hf _ (vH h rfl) fun ρ z=>by cases z)
 . rename_i e
   rw [if_neg e]
   exact ⟨Qq n w l mu,rfl,rZ (hf _ (yP h) fun ρ z=>by cases z)⟩
theorem Ob {f g:SX} {ρ:Ev} {y:XR Fl} (h:f ρ=some y) (hn:∀ ρ,y≠.ok (.nx ρ)):gB f g ρ=some y:=by
 unfold gB
 rw [h,Option.bind_some]
 cases y with
 | xc C ρ=>rfl
 | ok fl=>
  cases fl with
  | nx ρ=>exact absurd rfl (hn ρ)
  | _=>rfl
theorem nH.has (T:nH xs ts ps c) (x:Str):Law.has ts x=Law.has xs x:=by
 rw [Bool.eq_iff_iff,bh,bh]
 exact T.S.tm x
theorem Rf (O:rY n mu ts ps) (T:nH xs ts ps c) {w x0:Str} {l:List Str} (h0:xs[0]?=some x0) (hw:K6 w l) (hs:∀ x∈l,bZ x=true):lN (l.all (Law.has xs)) (lO ps x0 w l) mu (jh [.ptr n,.str w,.lst (SS l)] mu):=by
 have fl:∀ {f g:SX} {k:Str},(w==k)=false->∀ {y},g (Qq n w l mu)=some y->gB (rO (tT (au eqP (aa 1) (eC (.str k))) aU) f (iR bO)) g (Qq n w l mu)=some y:=fun {f g k} e {y} h=>nG (ρ':=Qq n w l mu) ((Ph (Uz.trans (by rw [e]))).trans rfl) h
 have tr:∀ {f g:SX} {k:Str},(w==k)=true->∀ {y},f (Qq n w l mu)=some y->(∀ ρ,y≠.ok (.nx ρ))->gB (rO (tT (au eqP (aa 1) (eC (.str k))) aU) f (iR bO)) g (Qq n w l mu)=some y:=fun {f g k} e {y} h hn=>Ob ((Pg (Uz.trans (by rw [e]))).trans h) hn
 have hall:l.all (Law.has xs)=l.all (Law.has ts):=by congr 1; funext x; exact (T.has x).symm
 rcases hw with rfl | ⟨hw,a,b,rfl⟩
 . obtain ⟨lo,⟨h1,h2⟩,h3⟩:=N5 O hs
   have:=T.S.low T.L h1 h2
   rw [h0] at this
   cases this
   have ea:lO ps x0 "joined" l=.str (Et ps x0 l):=by unfold lO; rw [if_pos (by decide +kernel)]
   rw [ea,hall]
   refine BX (F:=b8 "Order" "joined" iu (aa 0) (aj (aa 2) ao)) (mx O rfl rfl (ls:=[wS l]) rfl rfl (by decide +kernel) h3) fun y h hn=>?_
   exact fl (by decide +kernel) (fl (by decide +kernel) (fl (by decide +kernel) h))
 . have ha:=hs a (by simp)
   have hb:=hs b (by simp)
   have e2:[a,b].all (Law.has ts)=(Law.has ts a&&Law.has ts b):=by simp
   have ag:∀ ρ:Ev,ρ=Qq n w [a,b] mu->aj (bz (aa 2) (eC (.int 0))) (aj (bz (aa 2) (eC (.int 1))) ao) ρ=some ([.sh (.str a),.sh (.str b)],ρ):=fun ρ e=>by
    subst e
    exact az (yQ (xs:=[a,b]) (i:=0) rfl rfl rfl) (az (yQ (xs:=[a,b]) (i:=1) rfl rfl rfl) rfl)
   have nj:(w == "joined")=false:=by rcases hw with rfl | rfl | rfl<;>decide +kernel
   unfold lO
   rw [nj,if_neg (by decide),hall,e2]
   dsimp only
   rcases hw with rfl | rfl | rfl
   . rw [if_pos (by decide +kernel)]
     exact BX (F:=b8 "Order" "under" jg (aa 0) (aj (bz (aa 2) (eC (.int 0))) (aj (bz (aa 2) (eC (.int 1))) ao))) (mx O rfl rfl (ag _ rfl) rfl (by decide +kernel) (under_x O ha hb)) fun y h hn=>tr (by decide +kernel) h hn
   . rw [if_neg (by decide +kernel),if_pos (by decide +kernel)]
     exact BX (F:=b8 "Order" "join" cZ (aa 0) (aj (bz (aa 2) (eC (.int 0))) (aj (bz (aa 2) (eC (.int 1))) ao))) (mx O rfl rfl (ag _ rfl) rfl (by decide +kernel) (K1 O ha hb)) fun y h hn=>fl (by decide +kernel) (tr (by decide +kernel) h hn)
   . rw [if_neg (by decide +kernel),if_neg (by decide +kernel)]
     exact BX (F:=b8 "Order" "meet" jB (aa 0) (aj (bz (aa 2) (eC (.int 0))) (aj (bz (aa 2) (eC (.int 1))) ao))) (mx O rfl rfl (ag _ rfl) rfl (by decide +kernel) (Uu O ha hb)) fun y h hn=>fl (by decide +kernel) (fl (by decide +kernel) (tr (by decide +kernel) h hn))
theorem Rh (O:rY n mu ts ps) (T:nH xs ts ps c) {w x0:Str} {l:List Str} (h0:xs[0]?=some x0) (hw:K6 w l) (hs:∀ x∈l,bZ x=true):jG [.ptr n,.str w,.lst (SS l)] mu=some (.sh (if l.all (Law.has xs)=true then lO ps x0 w l else tV),mu):=by
 have h:=Rf O T h0 hw hs
 let E:=fun o3 o4=>(⟨[yS (.ptr n),zT w,zS l,o3,o4],mu⟩:Ev)
 have ag:aj (aa 0) (aj (aa 1) (aj (aa 2) ao)) (E none none)=some ([.sh (.ptr n),.sh (.str w),wS l],E none none):=rfl
 unfold lN at h
 split at h
 . rename_i e
   rw [if_pos e]
   have s1:zA (xB (jA jh (aj (aa 0) (aj (aa 1) (aj (aa 2) ao)))) (nC 3)) (qi 4 ["NoName"] [] (aL 3 (aH fK (aj (aa 4) ao))) DK) (E none none)=some (.nx (E (yS (lO ps x0 w l)) none)):=by
    unfold zA
    rw [vH (fl:=.nx (E (yS (lO ps x0 w l)) none)) (NP ag rfl rfl rfl h) rfl]
    rfl
   exact aX (ρ:=E none none) (aD s1 rfl)
 . rename_i e
   rw [if_neg e]
   obtain ⟨ρ',hm,h2⟩:=h
   have s1:zA (xB (jA jh (aj (aa 0) (aj (aa 1) (aj (aa 2) ao)))) (nC 3)) (qi 4 ["NoName"] [] (aL 3 (aH fK (aj (aa 4) ao))) DK) (E none none)=some (.nx (E (yS tV) none)):=by
    unfold zA
    rw [yP (NQ ag rfl rfl rfl h2),hm]
    show qi 4 ["NoName"] [] (aL 3 (aH fK (aj (aa 4) ao))) DK "NoName" (E none none)=_
    unfold qi
    rw [if_pos (List.mem_singleton.mpr rfl),if_pos (by show 4<5; decide)]
    rw [show aL 3 (aH fK (aj (aa 4) ao)) ((E none none).set 4 (some (.sh (.exc "NoName"))))=some (.nx (E (yS tV) (some (.sh (.exc "NoName"))))) from aY (ρ1:=E none (some (.sh (.exc "NoName")))) (aW (az rfl rfl) rfl rfl rfl Oa) rfl rfl]
    rfl
   exact aX (ρ:=E none none) (aD s1 rfl)
end
theorem Jc {x:Str} (h1:x.length<=1000) (h2:∀ c∈x.cps.toList,c<16 ^ 8):bZ x=true:=by
 unfold bZ
 rw [Bool.and_eq_true]
 exact ⟨decide_eq_true h1,List.all_eq_true.mpr fun c hc=>decide_eq_true (h2 c hc)⟩
theorem G6 {c:Nat} (h:qt c=true):c∈("abcdefghijklmnopqrstuvwxyz" : Str).cps.toList:=by
 by_cases hc:c∈("abcdefghijklmnopqrstuvwxyz" : Str).cps.toList
 . exact hc
 . unfold qt at h
   rw [W.occ_nil_of_no _ _ 1 fun i hi=>?_] at h
   . cases h
   . cases e:Builtin.Str.subAt ("abcdefghijklmnopqrstuvwxyz" : Str) ⟨#[c]⟩ i with
     | false=>rfl
     | true=>
      have e2:("abcdefghijklmnopqrstuvwxyz" : Str).cps.extract i (i+1)=#[c]:=beq_iff_eq.mp e
      have m:c∈(("abcdefghijklmnopqrstuvwxyz" : Str).cps.extract i (i+1)).toList:=by rw [e2]; exact List.mem_singleton.mpr rfl
      rw [Array.toList_extract] at m
      have m':c∈(("abcdefghijklmnopqrstuvwxyz" : Str).cps.toList.drop i).take (i+1-i):=m
      exact absurd (List.mem_of_mem_drop (List.mem_of_mem_take m')) hc
theorem K7 {x:Str} (h:nameB x=true):x.length<=8:=by
 unfold nameB uU at h
 rw [Bool.and_eq_true,Bool.and_eq_true] at h
 have h2:=of_decide_eq_true h.1.2
 omega
theorem K8 {x:Str} (h:nameB x=true):∀ c∈x.cps.toList,qt c=true:=by
 unfold nameB at h
 rw [Bool.and_eq_true] at h
 exact List.all_eq_true.mp h.2
theorem K9 {x y:Str} (hx:x.length<=8) (hy:y.length<=8) (h1:∀ c∈x.cps.toList,c<16 ^ 8) (h2:∀ c∈y.cps.toList,c<16 ^ 8):bZ (x++y)=true:=by
 have e:(x++y).cps.toList=x.cps.toList++y.cps.toList:=by
  show (x.cps++y.cps).toList=_
  rw [Array.toList_append]
 refine Jc ?_ fun c hc=>?_
 . show (x++y).cps.size<=1000
   rw [← Array.length_toList,e,List.length_append,Array.length_toList,Array.length_toList]
   have hx':x.cps.size<=8:=hx
   have hy':y.cps.size<=8:=hy
   omega
 . rw [e] at hc
   rcases List.mem_append.mp hc with hc | hc
   . exact h1 c hc
   . exact h2 c hc
theorem La {x:Str} {lo hi:Option Int} (hx:x.length<=8) (h1:∀ c∈x.cps.toList,c<16 ^ 8):bZ (dM x lo hi)=true:=by
 refine Jc ?_ fun c hc=>?_
 . show ((((x.cps.toList.drop (HT.sIx x.length 0 lo)).take (HT.sIx x.length x.length hi-HT.sIx x.length 0 lo)).toArray).size)<=1000
   rw [List.size_toArray,List.length_take,List.length_drop,Array.length_toList]
   have hx':x.cps.size<=8:=hx
   omega
 . have hc':c∈((x.cps.toList.drop (HT.sIx x.length 0 lo)).take (HT.sIx x.length x.length hi-HT.sIx x.length 0 lo)).toArray.toList:=hc
   rw [List.toList_toArray] at hc'
   exact h1 c (List.mem_of_mem_drop (List.mem_of_mem_take hc'))
theorem Lb:∀ d∈("abcdefghijklmnopqrstuvwxyz" : Str).cps.toList,(Unicode.upperOf d).length<=1/\∀ e∈Unicode.upperOf d,e<16 ^ 8:=by decide +kernel
theorem Vy {x:Str} (hn:nameB x=true):(qO x).length<=1000/\bZ (qO x)=true:=by
 have hx:x.cps.size<=8:=K7 hn
 have hl:=K8 hn
 have sz:(qO x).cps.size<=1000:=by
  show ((x.cps.mapIdx fun _ c=>(Unicode.upperOf c).toArray).flatten).size<=1000
  rw [Array.size_flatten]
  have:∀ l:List Nat,(∀ c∈l,c<=1)->l.sum<=l.length:=by
   intro l
   induction l with
   | nil=>exact fun _=>Nat.le_refl _
   | cons a l ih=>
    intro h
    rw [List.sum_cons,List.length_cons]
    have:=h a List.mem_cons_self
    have:=ih fun c hc=>h c (List.mem_cons_of_mem _ hc)
    omega
  rw [← Array.sum_toList]
  refine Nat.le_trans (this _ fun c hc=>?_) ?_
  . rw [Array.toList_map,List.mem_map] at hc
    obtain ⟨u,hu,rfl⟩:=hc
    obtain ⟨i,hi,rfl⟩:=Array.mem_mapIdx.mp (Array.mem_toList_iff.mp hu)
    rw [List.size_toArray]
    exact (Lb _ (G6 (hl _ (Array.mem_toList_iff.mpr (Array.getElem_mem hi))))).1
  . rw [Array.length_toList,Array.size_map,Array.size_mapIdx]
    omega
 refine ⟨sz,Jc sz fun c hc=>?_⟩
 have hc':c∈(x.cps.mapIdx fun _ c=>(Unicode.upperOf c).toArray).flatten:=Array.mem_toList_iff.mp hc
 obtain ⟨u,hu,hcu⟩:=Array.mem_flatten.mp hc'
 obtain ⟨i,hi,rfl⟩:=Array.mem_mapIdx.mp hu
 exact (Lb _ (G6 (hl _ (Array.mem_toList_iff.mpr (Array.getElem_mem hi))))).2 c (by simpa using hcu)
theorem vJ {ss:List Str} {z:Int} (h0:0<=z) (h1:z<ss.length):∃ s∈ss,pU (.lst (SS ss)) (.int z)=zT s:=by
 obtain ⟨s,hs,e⟩:=jU (xs:=ss) (i:=z.toNat) (by omega)
 refine ⟨s,hs,?_⟩
 have:=IW e
 rwa [show ((z.toNat:Nat):Int)=z from by omega] at this
theorem Fq {xs:List Str} {z:Int} {mu:Mu} (hn:∀ x∈xs,nameB x=true) (h1:0<xs.length) (h8:xs.length<=8):∃ s,bU [.lst (SS xs),.int z] mu=some (.sh (.str s),mu)/\bZ s=true:=by
 obtain ⟨nm,hnm,e1⟩:=vJ (ss:=xs) (z:=z%(xs.length:Int)) (Int.emod_nonneg _ (by omega)) (Int.emod_lt_of_pos _ (by omega))
 have nn:=hn nm hnm
 have nl:=K7 nn
 have nc:∀ c∈nm.cps.toList,c<16 ^ 8:=fun c hc=>KZ (K8 nn c hc)
 obtain ⟨ul,us⟩:=Vy nn
 let E:=fun o2=>(⟨[zS xs,zI z,o2],mu⟩:Ev)
 have s1:aL 2 (bz (aa 0) (au bA (aa 1) (eB fB (aj (aa 0) ao)))) (E none)=some (.nx (E (zT nm))):=by
  refine aY (iM (l:=wS xs) (m:=.sh (.int (z%(xs.length:Int)))) (ρ2:=E none) rfl rfl ?_ rfl (fun n h=>by cases h) e1) rfl rfl
  refine aM (q:=.int ((SS xs).length:Nat)) rfl rfl rfl rfl ?_
  rw [List.length_map]
  exact du (by omega)
 let cs:List Str:=[nm ++ "a",dM nm (some 1) none, "a" ++ nm,dM nm none (some (-1)), "zz",qO nm, ""]
 have e7:iz (aj (au cH (aa 2) (eC (.str "a"))) (aj (gQ (aa 2) (cA (eC (.int 1))) fu) (aj (au cH (eC (.str "a")) (aa 2)) (aj (gQ (aa 2) fu (cA (lJ (eC (.int 1))))) (aj (eC (.str "zz")) (aj (yf (aa 2)) (aj (eC (.str "")) ao))))))) (E (zT nm))=some (.own (.lst (SS cs)),E (zT nm)):=by
  have a1:cH (.str nm) (.str "a")=zT (nm ++ "a"):=by
   show (if nm.length+("a" : Str).length<=100000 then some (Lc.sh (.str (nm ++ "a"))) else none)=_
   rw [if_pos (by have:("a" : Str).length=1:=rfl; omega)]
  have a2:cH (.str "a") (.str nm)=zT ("a" ++ nm):=by
   show (if ("a" : Str).length+nm.length<=100000 then some (Lc.sh (.str ("a" ++ nm))) else none)=_
   rw [if_pos (by have:("a" : Str).length=1:=rfl; omega)]
  have c1:gQ (aa 2) (cA (eC (.int 1))) fu (E (zT nm))=some (.sh (.str (dM nm (some 1) none)),E (zT nm)):=by
   show (if nm.length<=100000 then some (Lc.sh (.str (dM nm (some 1) none)),E (zT nm)) else none)=_
   rw [if_pos (by omega)]
  have c2:gQ (aa 2) fu (cA (lJ (eC (.int 1)))) (E (zT nm))=some (.sh (.str (dM nm none (some (-1)))),E (zT nm)):=by
   show (if nm.length<=100000 then some (Lc.sh (.str (dM nm none (some (-1)))),E (zT nm)) else none)=_
   rw [if_pos (by omega)]
  have u1:yf (aa 2) (E (zT nm))=some (.sh (.str (qO nm)),E (zT nm)):=by
   show (if (qO nm).length<=1000 then some (Lc.sh (.str (qO nm)),E (zT nm)) else none)=_
   rw [if_pos ul]
  exact pX (ls:=[.sh (.str (nm ++ "a")),.sh (.str (dM nm (some 1) none)),.sh (.str ("a" ++ nm)),.sh (.str (dM nm none (some (-1)))),.sh (.str "zz"),.sh (.str (qO nm)),.sh (.str "")]) (az (aM rfl rfl rfl rfl a1) (az c1 (az (aM rfl rfl rfl rfl a2) (az c2 (az rfl (az u1 (az rfl rfl))))))) rfl rfl
 obtain ⟨s,hs,e2⟩:=vJ (ss:=cs) (z:=z/8%7) (Int.emod_nonneg _ (by decide)) (by have:=Int.emod_lt_of_pos (z/8) (b:=7) (by decide); show z/8%7<7; exact this)
 refine ⟨s,aX (ρ:=E (zT nm)) (aD s1 (cI (iM (l:=.own (.lst (SS cs))) (m:=.sh (.int (z/8%7))) e7 rfl (aM (aM rfl rfl rfl rfl (fC (by decide) (by decide))) rfl rfl rfl (du (by decide))) rfl (fun n h=>by cases h) e2))),?_⟩
 have ac:∀ c∈("a" : Str).cps.toList,c<16 ^ 8:=by decide +kernel
 have al:("a" : Str).length<=8:=by decide +kernel
 simp only [cs,List.mem_cons,List.not_mem_nil,or_false] at hs
 rcases hs with rfl | rfl | rfl | rfl | rfl | rfl | rfl
 . exact K9 nl al nc ac
 . exact La nl nc
 . exact K9 al nl ac nc
 . exact La nl nc
 . decide +kernel
 . exact us
 . decide +kernel
noncomputable abbrev Sq (xs:List Str) (z:Int) (o2 o3 o4:Option Lc) (mu:Mu):Ev:=⟨[zS xs,zI z,o2,o3,o4],mu⟩
theorem UG {f g:EF} {ρ ρ1 ρ2:Ev} {qs:List PV} {k:Int} {y:Lc} (h1:f ρ=some (.own (.lst qs),ρ1)) (h2:g ρ1=some (y,ρ2)) (hy:y.pv=.int k) (hc:0<=k/\k<=100000/\qs.length*k.toNat<=100000):zr f g ρ=some (.own (.lst (List.replicate k.toNat qs).flatten),ρ2):=by
 unfold zr
 rw [h1,Option.bind_some,h2,Option.bind_some]
 dsimp only
 rw [hy]
 dsimp only
 rw [if_pos hc]
theorem pZ {p:PV}:∀ k:Nat,(List.replicate k [p]).flatten=List.replicate k p
 | 0=>rfl
 | k+1=>by rw [List.replicate_succ,List.flatten_cons,pZ k,List.replicate_succ]; rfl
theorem G7:∀ {rs:List PV} {P:Str->Prop},(∀ q∈rs,∃ s,q=.str s/\P s)->∃ l:List Str,rs=SS l/\∀ s∈l,P s
 | [],P,_=>⟨[],rfl,fun s h=>by cases h⟩
 | r::rs,P,h=>by
  obtain ⟨s,rfl,hs⟩:=h r List.mem_cons_self
  obtain ⟨l,rfl,hl⟩:=G7 (rs:=rs) (P:=P) fun q hq=>h q (List.mem_cons_of_mem _ hq)
  refine ⟨s::l,rfl,fun x hx=>?_⟩
  rcases List.mem_cons.mp hx with rfl | hx
  . exact hs
  . exact hl x hx
theorem Ri {xs:List Str} {z:Int} {mu:Mu} (hn:∀ x∈xs,nameB x=true) (h1:0<xs.length) (h8:xs.length<=8):∃ w l,jH [.lst (SS xs),.int z] mu=some (.sh (.tup [.str w,.lst (SS l)]),mu)/\K6 w l/\l.length<=8/\∀ x∈l,bZ x=true:=by
 obtain ⟨w,hw,ew⟩:=vJ (ss:=["under", "join", "meet", "joined"]) (z:=z%4) (Int.emod_nonneg _ (by decide)) (by have:=Int.emod_lt_of_pos z (b:=4) (by decide); show z%4<4; exact this)
 have s1:aL 2 (eC (.int 2)) (Sq xs z none none none mu)=some (.nx (Sq xs z (zI 2) none none mu)):=rfl
 have s2:aL 3 (bz (iz (aj (eC (.str "under")) (aj (eC (.str "join")) (aj (eC (.str "meet")) (aj (eC (.str "joined")) ao))))) (au bA (aa 1) (eC (.int 4)))) (Sq xs z (zI 2) none none mu)=some (.nx (Sq xs z (zI 2) (zT w) none mu)):=
  aY (iM (l:=.own (.lst (SS ["under", "join", "meet", "joined"]))) (m:=.sh (.int (z%4))) (ρ2:=Sq xs z (zI 2) none none mu) (pX (ls:=[.sh (.str "under"),.sh (.str "join"),.sh (.str "meet"),.sh (.str "joined")]) rfl rfl rfl) rfl (aM rfl rfl rfl rfl (du (by decide))) rfl (fun n h=>by cases h) ew) rfl rfl
 have tj:tT (au eqP (aa 3) (eC (.str "joined"))) aU (Sq xs z (zI 2) (zT w) none mu)=some (w == "joined",Sq xs z (zI 2) (zT w) none mu):=bG (l:=.sh (.bl (w == "joined"))) (aM rfl rfl rfl rfl rfl) rfl rfl
 obtain ⟨k,hk8,hkw,s3⟩:∃ k:Nat,k<=4/\(w = "joined" \/ k=2)/\dq (tT (au eqP (aa 3) (eC (.str "joined"))) aU) (aL 2 (au bA (au bc (aa 1) (eC (.int 4))) (eC (.int 5)))) bO (Sq xs z (zI 2) (zT w) none mu)=some (.nx (Sq xs z (zI (k:Nat)) (zT w) none mu)):=by
  cases e:(w == "joined") with
  | true=>
   have a1:=Int.emod_nonneg (z/4) (b:=5) (by decide)
   have a2:=Int.emod_lt_of_pos (z/4) (b:=5) (by decide)
   refine ⟨(z/4%5).toNat,by omega,.inl (eq_of_beq e),(gf (tj.trans (by rw [e]))).trans ?_⟩
   rw [show (((z/4%5).toNat:Nat):Int)=z/4%5 from by omega]
   exact aY (aM (aM rfl rfl rfl rfl (fC (by decide) (by decide))) rfl rfl rfl (du (by decide))) rfl rfl
  | false=>exact ⟨2,by decide,.inr rfl,(cD (ρ1:=Sq xs z (zI 2) (zT w) none mu) (tj.trans (by rw [e]))).trans rfl⟩
 obtain ⟨rs,ec,pr⟩:=Dk (b:=aF 0) (te:=bz (aa 1) (au bA (au bc (aa 2) (au cH (eC (.int 5)) (au jK (eC (.int 7)) (aa 0)))) (eB fB (aj (aa 1) ao)))) (mu:=mu) (fun ρ=>∃ o,ρ=⟨[o,zS xs,zI z],mu⟩) (fun ρ ⟨o,e⟩=>by rw [e]) (fun _ q=>∃ s,q=.str s/\s∈xs) (xs:=fW 0 k) (ρ:=⟨[none,zS xs,zI z],mu⟩) (acc:=[]) ⟨none,rfl⟩ (by rw [lU]; simp; omega) (by
  rintro x hx ρ ⟨o,rfl⟩
  obtain ⟨i,hi,rfl⟩:=zm hx
  obtain ⟨s,hs,e⟩:=vJ (ss:=xs) (z:=z/(5+7*(0+(i:Int)))%(xs.length:Int)) (Int.emod_nonneg _ (by omega)) (Int.emod_lt_of_pos _ (by omega))
  refine ⟨⟨[zI (0+(i:Int)),zS xs,zI z],mu⟩,rfl,.sh (.str s),_,iM (l:=wS xs) (m:=.sh (.int (z/(5+7*(0+(i:Int)))%(xs.length:Int)))) (ρ2:=⟨[zI (0+(i:Int)),zS xs,zI z],mu⟩) rfl rfl ?_ rfl (fun n h=>by cases h) e,⟨s,rfl,hs⟩,_,rfl⟩
  refine aM (q:=.int ((SS xs).length:Nat)) (aM rfl rfl (aM rfl rfl (aM rfl rfl rfl rfl (Dn rfl rfl (by decide) (by decide))) rfl rfl) rfl (fC (by omega) (by omega))) rfl rfl rfl ?_
  rw [List.length_map]
  exact du (by omega))
 obtain ⟨l0,hl0,hin⟩:=G7 (rs:=rs) (P:=fun s=>s∈xs) fun q hq=>Paired.right (Q:=fun q=>∃ s,q=.str s/\s∈xs) (fun _ _ h=>h) pr q hq
 have len0:l0.length=k:=by
  have:=pr.length
  rw [lU,hl0,List.length_map] at this
  omega
 rw [hl0] at ec
 have rg:fM (aj (aa 2) ao) (Sq xs z (zI (k:Nat)) (zT w) none mu)=some (fW 0 k,Sq xs z (zI (k:Nat)) (zT w) none mu):=oR (l:=.sh (.int (k:Nat))) rfl rfl (by omega) (by omega)
 have s4:aL 4 (b7 (fM (aj (aa 2) ao)) 1 [0,1] (aF 0) cM (bz (aa 1) (au bA (au bc (aa 2) (au cH (eC (.int 5)) (au jK (eC (.int 7)) (aa 0)))) (eB fB (aj (aa 1) ao))))) (Sq xs z (zI (k:Nat)) (zT w) none mu)=some (.nx (Sq xs z (zI (k:Nat)) (zT w) (yO (SS l0)) mu)):=aY (l:=.own (.lst (SS l0))) (ρ1:=Sq xs z (zI (k:Nat)) (zT w) none mu) ((eX rg ec).trans rfl) rfl rfl
 have sh0:∀ x∈l0,bZ x=true:=fun x hx=>Er (hn x (hin x hx))
 let E:=fun l:List Str=>Sq xs z (zI (k:Nat)) (zT w) (yO (SS l)) mu
 obtain ⟨st,est,hst⟩:=Fq (xs:=xs) (z:=z/24) (mu:=mu) hn h1 h8
 have es:∀ l,aH bU (aj (aa 0) (aj (au bc (aa 1) (eC (.int 24))) ao)) (E l)=some (.sh (.str st),E l):=fun l=>aW (ls:=[wS xs,.sh (.int (z/24))]) (az rfl (az (aM rfl rfl rfl rfl (fC (by decide) (by decide))) rfl)) rfl rfl rfl est
 obtain ⟨l,hll,hls,s5⟩:∃ l:List Str,l.length=k/\(∀ x∈l,bZ x=true)/\dq (iI (tT (au xO (au bA (au bc (aa 1) (eC (.int 4))) (eC (.int 3))) (eC (.int 0))) aU) (tT (au xO (aa 2) (eC (.int 0))) aU))
  (aK (nO 4 (au bA (au bc (aa 1) (eC (.int 12))) (aa 2)) (aH bU (aj (aa 0) (aj (au bc (aa 1) (eC (.int 24))) ao))))
  (dq (tT (au eqP (au bA (au bc (aa 1) (eC (.int 4))) (eC (.int 6))) (eC (.int 1))) aU)
  (aL 4 (zr (iz (aj (aH bU (aj (aa 0) (aj (au bc (aa 1) (eC (.int 24))) ao))) ao)) (aa 2)))
  bO))
  bO (E l0)=some (.nx (E l)):=by
  have t1:tT (au xO (au bA (au bc (aa 1) (eC (.int 4))) (eC (.int 3))) (eC (.int 0))) aU (E l0)=some (decide (z/4%3>0),E l0):=bG (l:=.sh (.bl (decide (z/4%3>0)))) (aM (aM (aM rfl rfl rfl rfl (fC (by decide) (by decide))) rfl rfl rfl (du (by decide))) rfl rfl rfl rfl) rfl rfl
  have t2:tT (au xO (aa 2) (eC (.int 0))) aU (E l0)=some (decide (((k:Nat):Int)>0),E l0):=bG (l:=.sh (.bl (decide (((k:Nat):Int)>0)))) (aM rfl rfl rfl rfl rfl) rfl rfl
  have t:=uI t1 t2
  cases ht:(decide (z/4%3>0)&&decide (((k:Nat):Int)>0)) with
  | false=>exact ⟨l0,len0,sh0,(cD (t.trans (by rw [ht]))).trans rfl⟩
  | true=>
   rw [Bool.and_eq_true] at ht
   have kp:=of_decide_eq_true ht.2
   have a1:=Int.emod_nonneg (z/12) (b:=(k:Int)) (by omega)
   have a2:=Int.emod_lt_of_pos (z/12) (b:=(k:Int)) (by omega)
   have g1:nO 4 (au bA (au bc (aa 1) (eC (.int 12))) (aa 2)) (aH bU (aj (aa 0) (aj (au bc (aa 1) (eC (.int 24))) ao))) (E l0)=some (.nx (E (l0.set (z/12%(k:Int)).toNat st))):=by
    refine Gk (x:=.sh (.str st)) (p:=.str st) (y:=.sh (.int (z/12%(k:Int)))) (ρ2:=E l0) (ws:=SS l0) (j:=(z/12%(k:Int)).toNat) (es l0) rfl rfl (aM (aM rfl rfl rfl rfl (fC (by decide) (by decide))) rfl rfl rfl (du (by omega))) rfl rfl ?_ ?_
    . unfold qG
      rw [List.length_map,len0,if_pos a1,if_pos a2]
    . rw [show (SS l0).set (z/12%(k:Int)).toNat (.str st)=SS (l0.set (z/12%(k:Int)).toNat st) from List.map_set.symm]
      rfl
   have sh1:∀ x∈l0.set (z/12%(k:Int)).toNat st,bZ x=true:=fun x hx=>by
    rcases List.mem_or_eq_of_mem_set hx with hx | rfl
    . exact sh0 x hx
    . exact hst
   have t6:tT (au eqP (au bA (au bc (aa 1) (eC (.int 4))) (eC (.int 6))) (eC (.int 1))) aU (E (l0.set (z/12%(k:Int)).toNat st))=some (z/4%6==1,E (l0.set (z/12%(k:Int)).toNat st)):=bG (l:=.sh (.bl (z/4%6==1))) (aM (aM (aM rfl rfl rfl rfl (fC (by decide) (by decide))) rfl rfl rfl (du (by decide))) rfl rfl rfl rfl) rfl rfl
   have tt:=gf (f:=aK (nO 4 (au bA (au bc (aa 1) (eC (.int 12))) (aa 2)) (aH bU (aj (aa 0) (aj (au bc (aa 1) (eC (.int 24))) ao)))) (dq (tT (au eqP (au bA (au bc (aa 1) (eC (.int 4))) (eC (.int 6))) (eC (.int 1))) aU) (aL 4 (zr (iz (aj (aH bU (aj (aa 0) (aj (au bc (aa 1) (eC (.int 24))) ao))) ao)) (aa 2))) bO)) (g:=bO) (t.trans (by rw [ht.1,ht.2]; rfl):_=some (true,E l0))
   cases e6:(z/4%6==1) with
   | false=>exact ⟨_,by rw [List.length_set]; exact len0,sh1,tt.trans (aD g1 ((cD (t6.trans (by rw [e6]))).trans rfl))⟩
   | true=>
    refine ⟨List.replicate k st,List.length_replicate,fun x hx=>by rw [(List.mem_replicate.mp hx).2]; exact hst,tt.trans (aD g1 ((gf (t6.trans (by rw [e6]))).trans (aY (l:=.own (.lst (SS (List.replicate k st)))) (ρ1:=E (l0.set (z/12%(k:Int)).toNat st)) ?_ rfl rfl)))⟩
    have:=UG (f:=iz (aj (aH bU (aj (aa 0) (aj (au bc (aa 1) (eC (.int 24))) ao))) ao)) (ρ:=E (l0.set (z/12%(k:Int)).toNat st)) (k:=(k:Nat)) (y:=.sh (.int (k:Nat))) (ρ2:=E (l0.set (z/12%(k:Int)).toNat st)) (g:=aa 2) (pX (ls:=[.sh (.str st)]) (ρ1:=E (l0.set (z/12%(k:Int)).toNat st)) (az (es _) rfl) rfl rfl) rfl rfl ⟨by omega,by omega,by show 1*((k:Nat):Int).toNat<=100000; rw [Int.toNat_natCast]; omega⟩
    rw [Int.toNat_natCast] at this
    refine this.trans ?_
    rw [show SS (List.replicate k st)=List.replicate k (.str st) from List.map_replicate,← pZ]
    rfl
 refine ⟨w,l,aX (ρ:=Sq xs z (zI (k:Nat)) (zT w) (zS l) mu) (aD s1 (aD s2 (aD s3 (aD s4 (aD s5 rfl))))),?_,by omega,hls⟩
 rcases hkw with rfl | rfl
 . exact .inl rfl
 . simp only [List.mem_cons,List.not_mem_nil,or_false] at hw
   obtain ⟨a,b,rfl⟩:=ln2 hll
   rcases hw with h | h | h | h
   . exact .inr ⟨.inl h,a,b,rfl⟩
   . exact .inr ⟨.inr (.inl h),a,b,rfl⟩
   . exact .inr ⟨.inr (.inr h),a,b,rfl⟩
   . exact .inl h
noncomputable abbrev VQ (S:PV) (n:Nat) (c:Bool) (l3 l4 l5 l6 l7 l8 l9 l10 l11 l12 l13:Option Lc) (mu:Mu):Ev:=⟨[yS S,zI (n:Nat),yS (.bl c),l3,l4,l5,l6,l7,l8,l9,l10,l11,l12,l13],mu⟩
noncomputable abbrev UJ:SF:=aK (CJ (aH jH (aj (aa 3) (aj (au bA (au jK (aa 8) (eC (.int 48271))) (eC (.int 1000000007))) ao))) (iZ 2 (bQ (aF 9) (bQ (aF 10) iV))))
 (aK (aL 11 (eB list1 (aj (aa 10) ao)))
 (aK (aL 12 (aH jG (aj (aa 7) (aj (aa 9) (aj (aa 11) ao)))))
 (aK (aL 13 (aH jy (aj (aa 3) (aj (aa 2) (aj (aa 9) (aj (aa 10) ao))))))
 (dq (gP (tT (au mL (rH "bool" (aa 12)) (rH "bool" (aa 13))) aU) (gP (tT (au mL (aa 12) (aa 13)) aU) (tT (au mL (aa 11) (aa 10)) aU)))
 (cj (eC (.bl false)))
 bO))))
theorem Vz {xs:List Str}:mL (.lst (SS xs)) (.lst (SS xs))=yS (.bl false):=by
 have h:=Pn (xs:=xs)
 unfold eqP at h
 unfold mL
 obtain ⟨b,e1,e2⟩:=Option.map_eq_some_iff.mp h
 rw [e1]
 cases b with
 | true=>rfl
 | false=>cases e2
theorem Ld {ps:List (Str×Str)} {x0 w:Str} {l:List Str} (hw:K6 w l):(∃ b,lO ps x0 w l=.bl b)\/∃ s,lO ps x0 w l=.str s:=by
 unfold lO
 rcases hw with rfl | ⟨hw,a,b,rfl⟩
 . rw [if_pos (by decide +kernel)]
   exact .inr ⟨_,rfl⟩
 . have nj:(w == "joined")=false:=by rcases hw with rfl | rfl | rfl<;>decide +kernel
   rw [nj,if_neg (by decide)]
   dsimp only
   split
   . exact .inl ⟨_,rfl⟩
   . split
     . exact .inr ⟨_,rfl⟩
     . exact .inr ⟨_,rfl⟩
theorem Rj {S:PV} {xs ts:List Str} {ps:List (Str×Str)} {c:Bool} {mu:Mu} {m:Nat} {z:Int} {l4 l5 l6 l9 l10 l11 l12 l13:Option Lc} (O:rY m mu ts ps) (T:nH xs ts ps c):∃ p9 p10 p11 p12 p13,UJ (VQ S xs.length c (zS xs) l4 l5 l6 (yS (.ptr m)) (zI z) l9 l10 l11 l12 l13 mu)=some (.nx (VQ S xs.length c (zS xs) l4 l5 l6 (yS (.ptr m)) (zI z) p9 p10 p11 p12 p13 mu)):=by
 obtain ⟨x0,_,h0⟩:=jU T.S.ne
 obtain ⟨w,l,e1,hw,hl,hs⟩:=Ri (xs:=xs) (z:=z*48271%1000000007) (mu:=mu) T.S.nm T.S.ne T.S.l8
 have e2:=Rh O T h0 hw hs
 have e3:=Uy (mu:=mu) T h0 hw hl
 obtain ⟨v,hv⟩:∃ v,v=(if l.all (Law.has xs)=true then lO ps x0 w l else tV):=⟨_,rfl⟩
 rw [← hv] at e2 e3
 let E:=fun p9 p10 p11 p12 p13=>VQ S xs.length c (zS xs) l4 l5 l6 (yS (.ptr m)) (zI z) p9 p10 p11 p12 p13 mu
 have s1:CJ (aH jH (aj (aa 3) (aj (au bA (au jK (aa 8) (eC (.int 48271))) (eC (.int 1000000007))) ao))) (iZ 2 (bQ (aF 9) (bQ (aF 10) iV))) (E l9 l10 l11 l12 l13)=some (.nx (E (zT w) (zS l) l11 l12 l13)):=by
  unfold CJ
  rw [aW (ls:=[wS xs,.sh (.int (z*48271%1000000007))]) (ρ1:=E l9 l10 l11 l12 l13) (az rfl (az (aM (aM rfl rfl rfl rfl (Do rfl rfl (by decide) (by decide))) rfl rfl rfl (du (by decide))) rfl)) rfl rfl rfl e1,Option.bind_some]
  rfl
 have s2:aL 11 (eB list1 (aj (aa 10) ao)) (E (zT w) (zS l) l11 l12 l13)=some (.nx (E (zT w) (zS l) (yO (SS l)) l12 l13)):=rfl
 have s3:aL 12 (aH jG (aj (aa 7) (aj (aa 9) (aj (aa 11) ao)))) (E (zT w) (zS l) (yO (SS l)) l12 l13)=some (.nx (E (zT w) (zS l) (zS l) (yS v) l13)):=aY (aW (ls:=[.sh (.ptr m),.sh (.str w),wS l]) (ρ1:=E (zT w) (zS l) (zS l) l12 l13) (az rfl (az rfl (az rfl rfl))) rfl rfl rfl e2) rfl rfl
 have s4:aL 13 (aH jy (aj (aa 3) (aj (aa 2) (aj (aa 9) (aj (aa 10) ao))))) (E (zT w) (zS l) (zS l) (yS v) l13)=some (.nx (E (zT w) (zS l) (zS l) (yS v) (yS v))):=aY (aW (az rfl (az rfl (az rfl (az rfl rfl)))) rfl rfl rfl e3) rfl rfl
 let F:=E (zT w) (zS l) (zS l) (yS v) (yS v)
 have t3:tT (au mL (aa 11) (aa 10)) aU F=some (false,F):=bG (aM rfl rfl rfl rfl Vz) rfl rfl
 have hk:(∃ b,v=.bl b)\/(∃ s,v=.str s)\/v=tV:=by
  rw [hv]
  split
  . rcases Ld (ps:=ps) (x0:=x0) hw with h | h
    . exact .inl h
    . exact .inr (.inl h)
  . exact .inr (.inr rfl)
 have t12:tT (au mL (rH "bool" (aa 12)) (rH "bool" (aa 13))) aU F=some (false,F)/\tT (au mL (aa 12) (aa 13)) aU F=some (false,F):=by
  rcases hk with ⟨b,rfl⟩ | ⟨s,rfl⟩ | rfl
  . have h:rH "bool" (aa 12) F=some (.sh (.bl true),F):=rfl
    have g:rH "bool" (aa 13) F=some (.sh (.bl true),F):=rfl
    refine ⟨bG (aM h rfl g rfl rfl) rfl rfl,bG (l:=.sh (.bl (!(b==b)))) (aM rfl rfl rfl rfl rfl) rfl ?_⟩
    rw [beq_self_eq_true]; rfl
  . have h:rH "bool" (aa 12) F=some (.sh (.bl false),F):=rfl
    have g:rH "bool" (aa 13) F=some (.sh (.bl false),F):=rfl
    refine ⟨bG (aM h rfl g rfl rfl) rfl rfl,bG (l:=.sh (.bl (!(s==s)))) (aM rfl rfl rfl rfl rfl) rfl ?_⟩
    rw [beq_self_eq_true]; rfl
  . have h:rH "bool" (aa 12) F=some (.sh (.bl false),F):=rfl
    have g:rH "bool" (aa 13) F=some (.sh (.bl false),F):=rfl
    exact ⟨bG (aM h rfl g rfl rfl) rfl rfl,bG (aM rfl rfl rfl rfl rfl) rfl rfl⟩
 exact ⟨_,_,_,_,_,aD s1 (aD s2 (aD s3 (aD s4 ((cD (qM (b:=false) (b2:=false) t12.1 (qM (b:=false) (b2:=false) t12.2 t3))).trans rfl))))⟩
theorem UL {n:Nat} {mu:Mu} {xs:List Str} {ps:List (Str×Str)} {m:Str} {g:GF} {fo:EF} {af:AF} {ρ:Ev} {r:Lc} {ls:List Lc} {us:List PV} (O:rY n mu xs ps) (hρ:ρ.mu=mu) (ho:fo ρ=some (.sh (.ptr n),ρ)) (ha:af ρ=some (ls,ρ)) (hl:ls.map Lc.pv=us) (hc:(["names", "above", "joins", "meets", "lowest", "highest"]:List Str).contains m=false) (hg:g (.ptr n::us) mu=some (r,mu)):lC "Order" m g fo af ρ=some (r,ρ):=by
 obtain ⟨ok,l,⟨lj,lm,lo,hi,rfl,_⟩,hm⟩:=O
 have:=Q5 (C := "Order") (m:=m) (g:=g) (fo:=fo) (a:=af) (l:=oF xs ps lj lm lo hi) (n:=n) (ps:=us) ho rfl (by rw [hρ]; exact hm) hc ha hl (by rw [hρ]; exact hg)
 rw [this,← hρ]
theorem Oc {n:Nat} {mu:Mu} {xs:List Str} {ps:List (Str×Str)} (O:rY n mu xs ps):jj [.ptr n] mu=some (.own (.lst (SS xs)),mu)/\∃ lo hi,(lo∈xs/\(cz ps lo).length=xs.length)/\(hi∈xs/\(cz ps hi).length=1)/\ji [.ptr n] mu=some (.sh (.str lo),mu)/\fZ [.ptr n] mu=some (.sh (.str hi),mu):=by
 obtain ⟨ok,l,⟨lj,lm,lo,hi,rfl,_,_,_,_,h1,h2,h3⟩,hm⟩:=O
 exact ⟨aX (ρ:=⟨[yS (.ptr n)],mu⟩) (cI (M9 (ls:=[wS xs]) (ps:=[.lst (SS xs)]) (az (mY (x:=.sh (.ptr n)) (ρ1:=⟨[yS (.ptr n)],mu⟩) rfl rfl hm Eo) rfl) rfl rfl)),lo,hi,h1,⟨h2,h3⟩,aX (ρ:=⟨[yS (.ptr n)],mu⟩) (cI (mY (x:=.sh (.ptr n)) (ρ1:=⟨[yS (.ptr n)],mu⟩) rfl rfl hm Bf)),aX (ρ:=⟨[yS (.ptr n)],mu⟩) (cI (mY (x:=.sh (.ptr n)) (ρ1:=⟨[yS (.ptr n)],mu⟩) rfl rfl hm IK))⟩
theorem VB {S:PV} {ns:List Int} {vs:List (Option Lc)} {mu:Mu} (hS:PV.lst (ns.map PV.int)=S):gQ (aa 0) fu (cA (eC (.int 60))) ⟨yS S::vs,mu⟩=some (.own (.lst (jY (ns.map PV.int) none (some 60))),⟨yS S::vs,mu⟩):=by subst hS; rfl
theorem natOf {a:Int} (h:0<=a):∃ u:Nat,a=(u:Int):=⟨a.toNat,by omega⟩
theorem UT {ch:Bool} {n:Nat} (h:n<=8):(qL ch n).length<=12:=by
 unfold qL qC qF
 split
 . simp; omega
 . simp; omega
theorem law_true (ns:List Int) (hn:ns.length<=63):∃ mu,Ig [.lst (ns.map PV.int)] []=some (.sh (.bl true),mu):=by
 obtain ⟨c0,hc0,e0⟩:=cell_eq (ns:=ns) (k:=0) (mu:=[]) (by decide)
 obtain ⟨c1,hc1,e1⟩:=cell_eq (ns:=ns) (k:=1) (mu:=[]) (by decide)
 obtain ⟨n,hn1⟩:=natOf (a:=1+c0%8) (by omega)
 have n1:1<=n:=by omega
 have n8:n<=8:=by omega
 obtain ⟨xs,en,lx,hd,hnm⟩:=Nv (c:=c0/16) (n:=(n:Nat)) (mu:=[]) (by omega) (by omega)
 rw [Int.toNat_natCast] at lx
 subst lx
 obtain ⟨c,hc⟩:∃ c:Bool,c=(c0/8%2==0):=⟨_,rfl⟩
 obtain ⟨ms,ecut⟩:∃ ms:List Int,jY (ns.map PV.int) none (some 60)=ms.map .int:=⟨(ns.drop (HT.sIx (ns.map PV.int).length 0 none)).take (HT.sIx (ns.map PV.int).length (ns.map PV.int).length (some 60)-HT.sIx (ns.map PV.int).length 0 none),by unfold jY; rw [List.map_take,List.map_drop]⟩
 generalize hS:PV.lst (ns.map PV.int)=S at e0 e1
 have s1:aL 1 (au cH (eC (.int 1)) (au bA (aH bK (aj (aa 0) (aj (eC (.int 0)) ao))) (eC (.int 8)))) (env0 14 [S] [])=some (.nx ⟨[yS S,zI (xs.length:Nat),none,none,none,none,none,none,none,none,none,none,none,none],[]⟩):=by
  refine aY (l:=.sh (.int (xs.length:Nat))) (ρ1:=env0 14 [S] []) (aM rfl rfl (aM (aW (az rfl (az rfl rfl)) rfl rfl rfl e0) rfl rfl rfl (du (by decide))) rfl ?_) rfl rfl
  rw [← hn1]
  rfl
 have s2:aL 2 (au eqP (au bA (au bc (aH bK (aj (aa 0) (aj (eC (.int 0)) ao))) (eC (.int 8))) (eC (.int 2))) (eC (.int 0))) ⟨[yS S,zI (xs.length:Nat),none,none,none,none,none,none,none,none,none,none,none,none],[]⟩=some (.nx (VQ S xs.length c none none none none none none none none none none none [])):=by
  rw [hc]
  exact aY (aM (aM (aM (aW (az rfl (az rfl rfl)) rfl rfl rfl e0) rfl rfl rfl (fC (by decide) (by decide))) rfl rfl rfl (du (by decide))) rfl rfl rfl rfl) rfl rfl
 have s3:aL 3 (aH j6 (aj (au bc (aH bK (aj (aa 0) (aj (eC (.int 0)) ao))) (eC (.int 16))) (aj (aa 1) ao))) (VQ S xs.length c none none none none none none none none none none none [])=some (.nx (VQ S xs.length c (yO (SS xs)) none none none none none none none none none none [])):=
  aY (aW (ls:=[.sh (.int (c0/16)),.sh (.int (xs.length:Nat))]) (az (aM (aW (az rfl (az rfl rfl)) rfl rfl rfl e0) rfl rfl rfl (fC (by decide) (by decide))) (az rfl rfl)) rfl rfl rfl en) rfl rfl
 have t0:=Int.emod_nonneg c1 (b:=(xs.length:Int)) (by omega)
 have t1:=Int.emod_lt_of_pos c1 (b:=(xs.length:Int)) (by omega)
 have s4:aL 4 (au bA (aH bK (aj (aa 0) (aj (eC (.int 1)) ao))) (aa 1)) (VQ S xs.length c (yO (SS xs)) none none none none none none none none none none [])=some (.nx (VQ S xs.length c (yO (SS xs)) (zI (c1%(xs.length:Int))) none none none none none none none none none [])):=
  aY (aM (aW (az rfl (az rfl rfl)) rfl rfl rfl e1) rfl rfl rfl (du (by omega))) rfl rfl
 generalize c1%(xs.length:Int)=t at t0 t1 s4
 have s5:aL 5 (au cH (gQ (aa 3) (cA (aa 4)) fu) (gQ (aa 3) fu (cA (aa 4)))) (VQ S xs.length c (yO (SS xs)) (zI t) none none none none none none none none none [])=some (.nx (VQ S xs.length c (zS xs) (zI t) (yO (SS (xs.drop t.toNat++xs.take t.toNat))) none none none none none none none none [])):=by
  have k1:jY (SS xs) none (some t)=SS (xs.take t.toNat):=by rw [Vw t0 (by rw [List.length_map]; omega)]; exact List.map_take.symm
  have k2:jY (SS xs) (some t) none=SS (xs.drop t.toNat):=by rw [Vx t0 (by rw [List.length_map]; omega)]; exact List.map_drop.symm
  have g1:gQ (aa 3) (cA (aa 4)) fu (VQ S xs.length c (yO (SS xs)) (zI t) none none none none none none none none none [])=some (.own (.lst (SS (xs.drop t.toNat))),VQ S xs.length c (zS xs) (zI t) none none none none none none none none none []):=by rw [← k2]; rfl
  have g2:gQ (aa 3) fu (cA (aa 4)) (VQ S xs.length c (zS xs) (zI t) none none none none none none none none none [])=some (.own (.lst (SS (xs.take t.toNat))),VQ S xs.length c (zS xs) (zI t) none none none none none none none none none []):=by rw [← k1]; rfl
  refine aY (l:=.own (.lst (SS (xs.drop t.toNat++xs.take t.toNat)))) (aM g1 rfl g2 rfl ?_) rfl rfl
  rw [show SS (xs.drop t.toNat++xs.take t.toNat)=SS (xs.drop t.toNat)++SS (xs.take t.toNat) from List.map_append]
  exact Uw (by rw [List.length_map,List.length_map,List.length_take,List.length_drop]; omega)
 have pm:(xs.drop t.toNat++xs.take t.toNat).Perm xs:=List.perm_append_comm.trans (by rw [List.take_append_drop])
 generalize xs.drop t.toNat++xs.take t.toNat=ts at s5 pm
 let V:=fun l5 l6 l7 l8 l9 l10 l11 l12 l13 mu=>VQ S xs.length c (zS xs) (zI t) l5 l6 l7 l8 l9 l10 l11 l12 l13 mu
 have s6:aL 6 (aH j7 (aj (aa 3) (aj (aa 2) ao))) (V (yO (SS ts)) none none none none none none none none [])=some (.nx (V (yO (SS ts)) (yO (PP (tell xs (qL (fj c xs.length) xs.length)))) none none none none none none none [])):=aY (aW (az rfl (az rfl rfl)) rfl rfl rfl (N8 (by omega) n8)) rfl rfl
 have ql:(qL (fj c xs.length) xs.length).length<=12:=UT n8
 obtain ⟨ps,hpl,hpm,s7⟩:∃ ps:List (Str×Str),ps.length<=12/\(∀ a b,(a,b)∈ps ↔ (a,b)∈tell xs (qL (fj c xs.length) xs.length))/\dq (tT (au eqP (au bA (au bc (aH bK (aj (aa 0) (aj (eC (.int 1)) ao))) (eC (.int 8))) (eC (.int 2))) (eC (.int 1))) aU)
  (aL 6 (Ni (aa 6) fu fu (cA (lJ (eC (.int 1))))))
  bO (V (yO (SS ts)) (yO (PP (tell xs (qL (fj c xs.length) xs.length)))) none none none none none none none [])=some (.nx (V (yO (SS ts)) (yO (PP ps)) none none none none none none none [])):=by
  have t8:tT (au eqP (au bA (au bc (aH bK (aj (aa 0) (aj (eC (.int 1)) ao))) (eC (.int 8))) (eC (.int 2))) (eC (.int 1))) aU (V (yO (SS ts)) (yO (PP (tell xs (qL (fj c xs.length) xs.length)))) none none none none none none none [])=some (c1/8%2==1,V (yO (SS ts)) (yO (PP (tell xs (qL (fj c xs.length) xs.length)))) none none none none none none none []):=
   bG (l:=.sh (.bl (c1/8%2==1))) (aM (aM (aM (aW (az rfl (az rfl rfl)) rfl rfl rfl e1) rfl rfl rfl (fC (by decide) (by decide))) rfl rfl rfl (du (by decide))) rfl rfl rfl rfl) rfl rfl
  cases hb:(c1/8%2==1) with
  | false=>exact ⟨tell xs (qL (fj c xs.length) xs.length),by rw [List.length_map]; exact ql,fun _ _=>Iff.rfl,(cD (t8.trans (by rw [hb]))).trans rfl⟩
  | true=>
   refine ⟨(tell xs (qL (fj c xs.length) xs.length)).reverse,by rw [List.length_reverse,List.length_map]; exact ql,fun _ _=>List.mem_reverse,(gf (t8.trans (by rw [hb]))).trans (aY (l:=.own (.lst (PP (tell xs (qL (fj c xs.length) xs.length)).reverse))) (ρ1:=V (yO (SS ts)) (yL (PP (tell xs (qL (fj c xs.length) xs.length)))) none none none none none none none []) ?_ rfl rfl)⟩
   rw [show PP (tell xs (qL (fj c xs.length) xs.length)).reverse=(PP (tell xs (qL (fj c xs.length) xs.length))).reverse from List.map_reverse,← T9 (PP (tell xs (qL (fj c xs.length) xs.length)))]
   rfl
 have h3:fj c xs.length=false->3<=xs.length:=fun h=>by
  unfold fj at h
  rw [Bool.or_eq_false_iff] at h
  have:=of_decide_eq_false h.2
  omega
 have T:nH xs ts ps c:=⟨⟨hd,by omega,n8,by omega,hnm,pm.nodup_iff.mpr hd,pm.length_eq,fun x=>pm.mem_iff,Pk,fun a b=>(hpm a b).trans (N6 Pk a b),Vv h3⟩,Uv (by omega) h3⟩
 have ok:=T.S.ord T.L
 obtain ⟨fl,hA,ei⟩:=Q7 (mu:=[]) ok
 have O:rY 0 [some (di "Order" fl)] ts ps:=⟨ok,fl,hA,rfl⟩
 have s8:aL 7 (vC "Order" fY (aj (eB list1 (aj (aa 5) ao)) (aj (aa 6) ao))) (V (yO (SS ts)) (yO (PP ps)) none none none none none none none [])=some (.nx (V (zS ts) (zP ps) (yS (.ptr 0)) none none none none none none [some (di "Order" fl)])):=
  aY (l:=.sh (.ptr 0)) (ρ1:=V (zS ts) (zP ps) none none none none none none none [some (di "Order" fl)]) (Q6 (ls:=[.own (.lst (SS ts)),.sh (.lst (PP ps))]) (ρ1:=V (zS ts) (zP ps) none none none none none none none []) rfl rfl ei) rfl rfl
 let W:=fun l8 l9 l10 l11 l12 l13=>V (zS ts) (zP ps) (yS (.ptr 0)) l8 l9 l10 l11 l12 l13 [some (di "Order" fl)]
 obtain ⟨ρ9,e9,q8,q9,q10,q11,q12,q13,rfl⟩:=zj (b:=aF 8) (body:=UJ) (xs:=ms.map .int) (ρ:=W none none none none none none) (fun _ ρ=>∃ q8 q9 q10 q11 q12 q13,ρ=W q8 q9 q10 q11 q12 q13) ⟨_,_,_,_,_,_,rfl⟩ (by
  rintro i x ρ hx ⟨q8,q9,q10,q11,q12,q13,rfl⟩
  obtain ⟨z,_,rfl⟩:=List.mem_map.mp (List.mem_of_getElem? hx)
  obtain ⟨p9,p10,p11,p12,p13,e⟩:=Rj (S:=S) (z:=z) (l4:=zI t) (l5:=zS ts) (l6:=zP ps) (l9:=q9) (l10:=q10) (l11:=q11) (l12:=q12) (l13:=q13) O T
  exact ⟨W (zI z) q9 q10 q11 q12 q13,rfl,_,.inl e,_,_,_,_,_,_,rfl⟩)
 have s9:gw (d7 (gQ (aa 0) fu (cA (eC (.int 60)))) bV) (aF 8) UJ (W none none none none none none)=some (.nx (W q8 q9 q10 q11 q12 q13)):=by
  refine ik (xs:=ms.map .int) (fD (l:=.own (.lst (ms.map .int))) ?_ rfl rfl) e9
  rw [← ecut]
  exact VB hS
 obtain ⟨er,lo,hi,⟨lo1,lo2⟩,⟨hi1,hi2⟩,el,eg⟩:=Oc O
 have f0:=T.S.low T.L lo1 lo2
 have fl':=T.S.high T.L hi1 hi2
 have s10:cj (pO (au eqP (lC "Order" "ranks" jj (aa 7) ao) (aa 5)) (pO (au eqP (lC "Order" "least" ji (aa 7) ao) (bz (aa 3) (eC (.int 0)))) (au eqP (lC "Order" "greatest" fZ (aa 7) ao) (bz (aa 3) (lJ (eC (.int 1))))))) (W q8 q9 q10 q11 q12 q13)=some (.rt (.sh (.bl true)) (W q8 q9 q10 q11 q12 q13)):=by
  have a1:eqP (.str lo) (.str lo)=yS (.bl true):=by show some (Lc.sh (.bl (lo==lo)))=_; rw [beq_self_eq_true]
  have a2:eqP (.str hi) (.str hi)=yS (.bl true):=by show some (Lc.sh (.bl (hi==hi)))=_; rw [beq_self_eq_true]
  exact cI (Pq (aM (UL O rfl rfl (ls:=[]) rfl rfl (by decide +kernel) er) rfl rfl rfl Pn) (Pq (aM (UL O rfl rfl (ls:=[]) rfl rfl (by decide +kernel) el) rfl (qy f0 rfl) rfl a1) (aM (UL O rfl rfl (ls:=[]) rfl rfl (by decide +kernel) eg) rfl (vI fl' rfl) rfl a2)))
 exact ⟨_,aX (ρ:=W q8 q9 q10 q11 q12 q13) (aD s1 (aD s2 (aD s3 (aD s4 (aD s5 (aD s6 (aD s7 (aD s8 (aD s9 s10)))))))))⟩
theorem jC {K:FG} {h:Heap} {mg:Str->Option Value} {x:Str} {st:Stmt} {ps:List Str} {f:Addr} {oc kV doc pm cdv ct:Value} {od an:Option Addr} {osl:Array (Option Value)} (X:K.In h) (G:h.Ns mainGlobals mg) (a:W.nsIn K mainGlobals x=some (some (.ref f))) (l:K.lookup f=some ⟨oc,od,.func (W.fnOf x x (aV st) (aN st) (aq st) .none kV doc pm an cdv ct),osl⟩) (c:W.codeIn K cdv x=true) (k:W.keepIn K (.ref f)=true)
 (hb:∀ (kV doc pm:Value) (an:Option Addr) (cdv ct:Value) (us:List Value),us.length=ps.length->bindArgs (W.fnOf x x (aV st) (aN st) (aq st) .none kV doc pm an cdv ct) ⟨us,[]⟩=pure (ps.zip us)):aZ K mg x st ps:=⟨_,_,dC l c k,W.mg_of X G a,(dC l c k).binds hb⟩
theorem all_mk {l:W.OpenLaw} {w:World} {K:FG} {h:Heap} {mg:Str->Option Value} {fa f1 f2 f3 f4 f5 f6 f7 f8 f9 f10 f11 f12 f13 f14 f15 f16 f17 f18 f19 f20 f21 f22 f23 f24 f25 f26 f27 f28 f29 f30 f31 f32 f33 f34:Addr} {tk_LETTERS:Tok} (X:K.In h) (G:h.Ns mainGlobals mg) (hfa:mg "law" = some (.ref fa))
 {od1 an1 od2 an2 od3 an3 od4 an4 od5 an5 od6 an6 od7 an7 od8 an8 od9 an9 od10 an10 od11 an11 od12 an12 od13 an13 od14 an14 od15 an15 od16 an16 od17 an17 od18 an18 od19 an19 od20 an20 od21 an21 od22 an22 od23 an23 od24 an24 od25 an25 od26 an26 od27 an27 od28 an28 od29 an29 od30 an30 od31 an31 od32 an32 od33 an33 od34 an34:Option Addr} {sl1 sl2 sl3 sl4 sl5 sl6 sl7 sl8 sl9 sl10 sl11 sl12 sl13 sl14 sl15 sl16 sl17 sl18 sl19 sl20 sl21 sl22 sl23 sl24 sl25 sl26 sl27 sl28 sl29 sl30 sl31 sl32 sl33 sl34:Array (Option Value)} {oc1 kV1 dc1 pm1 cd1 ct1 oc2 kV2 dc2 pm2 cd2 ct2 oc3 kV3 dc3 pm3 cd3 ct3 oc4 kV4 dc4 pm4 cd4 ct4 oc5 kV5 dc5 pm5 cd5 ct5 oc6 kV6 dc6 pm6 cd6 ct6 oc7 kV7 dc7 pm7 cd7 ct7 oc8 kV8 dc8 pm8 cd8 ct8 oc9 kV9 dc9 pm9 cd9 ct9 oc10 kV10 dc10 pm10 cd10 ct10 oc11 kV11 dc11 pm11 cd11 ct11 oc12 kV12 dc12 pm12 cd12 ct12 oc13 kV13 dc13 pm13 cd13 ct13 oc14 kV14 dc14 pm14 cd14 ct14 oc15 kV15 dc15 pm15 cd15 ct15 oc16 kV16 dc16 pm16 cd16 ct16 oc17 kV17 dc17 pm17 cd17 ct17 oc18 kV18 dc18 pm18 cd18 ct18 oc19 kV19 dc19 pm19 cd19 ct19 oc20 kV20 dc20 pm20 cd20 ct20 oc21 kV21 dc21 pm21 cd21 ct21 oc22 kV22 dc22 pm22 cd22 ct22 oc23 kV23 dc23 pm23 cd23 ct23 oc24 kV24 dc24 pm24 cd24 ct24 oc25 kV25 dc25 pm25 cd25 ct25 oc26 kV26 dc26 pm26 cd26 ct26 oc27 kV27 dc27 pm27 cd27 ct27 oc28 kV28 dc28 pm28 cd28 ct28 oc29 kV29 dc29 pm29 cd29 ct29 oc30 kV30 dc30 pm30 cd30 ct30 oc31 kV31 dc31 pm31 cd31 ct31 oc32 kV32 dc32 pm32 cd32 ct32 oc33 kV33 dc33 pm33 cd33 ct33 oc34 kV34 dc34 pm34 cd34 ct34:Value}
 {c_Order:Addr} (aC_Order:W.nsIn K mainGlobals "Order" = some (some (.ref c_Order))) (pg_Order:W.plainGet K c_Order Str.empty=true) (hd_Order:W.hasDictIn K c_Order=true) (po_Order:W.plainOver K c_Order=true) (sa_Order:W.findIn K (.ref c_Order) "__setattr__" = some (some (.builtin "object.__setattr__"))) (mk_Order:W.makesIn K c_Order=true) (kc_Order:W.keepIn K (.ref c_Order)=true)
 (n_Order_names:W.findIn K (.ref c_Order) "names" = some none)
 (n_Order_above:W.findIn K (.ref c_Order) "above" = some none)
 (n_Order_joins:W.findIn K (.ref c_Order) "joins" = some none)
 (n_Order_meets:W.findIn K (.ref c_Order) "meets" = some none)
 (n_Order_lowest:W.findIn K (.ref c_Order) "lowest" = some none)
 (n_Order_highest:W.findIn K (.ref c_Order) "highest" = some none)
 {c_HushError:Addr} (aC_HushError:W.nsIn K mainGlobals "HushError" = some (some (.ref c_HushError))) (ex_HushError:W.excIn K c_HushError mF mG=true)
 {c_NoName:Addr} (aC_NoName:W.nsIn K mainGlobals "NoName" = some (some (.ref c_NoName))) (ex_NoName:W.excIn K c_NoName mF mG=true)
 (mr_NoName_HushError:W.mroIn K c_NoName (.ref c_HushError)=some true)
 (xcg:W.specialIn K (.builtin "object.__class__") "__get__" = some (some (.builtin "getset_descriptor.__get__"))) (xtk:W.takesIn K (.builtin "object.__class__")=some true)
 (xga_NoName:W.findIn K (.ref c_NoName) "__getattribute__" = some (some (.builtin "BaseException.__getattribute__")))
 (xgt_NoName:W.findIn K (.ref c_NoName) "__getattr__" = some none)
 (xme_NoName:W.mroIn K c_NoName (.type "BaseException")=some true)
 (xmo_NoName:W.mroIn K c_NoName (.type "object")=some true)
 (xic_NoName:W.isClsIn K c_NoName=true)
 (xca_NoName:W.findIn K (.ref c_NoName) "__class__" = some (some (.builtin "object.__class__")))
 {v_NoFit:Addr} (aV_NoFit:W.nsIn K mainGlobals "NoFit" = some (some (.ref v_NoFit))) (ty_NoFit:W.typeIn K (.ref v_NoFit)=some (.type "type")) (cl_NoFit:W.isClsIn K v_NoFit=true)
 (mv_NoName_NoFit:W.mroIn K c_NoName (.ref v_NoFit)=some false)
 (nq_NoName_NoFit:(Value.ref c_NoName==Value.ref v_NoFit)=false)
 {v_NoInput:Addr} (aV_NoInput:W.nsIn K mainGlobals "NoInput" = some (some (.ref v_NoInput))) (ty_NoInput:W.typeIn K (.ref v_NoInput)=some (.type "type")) (cl_NoInput:W.isClsIn K v_NoInput=true)
 (mv_NoName_NoInput:W.mroIn K c_NoName (.ref v_NoInput)=some false)
 (nq_NoName_NoInput:(Value.ref c_NoName==Value.ref v_NoInput)=false)
 {v_NoName:Addr} (aV_NoName:W.nsIn K mainGlobals "NoName" = some (some (.ref v_NoName))) (ty_NoName:W.typeIn K (.ref v_NoName)=some (.type "type")) (cl_NoName:W.isClsIn K v_NoName=true)
 (mv_NoName_NoName:W.mroIn K c_NoName (.ref v_NoName)=some true)
 {v_NoOrder:Addr} (aV_NoOrder:W.nsIn K mainGlobals "NoOrder" = some (some (.ref v_NoOrder))) (ty_NoOrder:W.typeIn K (.ref v_NoOrder)=some (.type "type")) (cl_NoOrder:W.isClsIn K v_NoOrder=true)
 (mv_NoName_NoOrder:W.mroIn K c_NoName (.ref v_NoOrder)=some false)
 (nq_NoName_NoOrder:(Value.ref c_NoName==Value.ref v_NoOrder)=false)
 {v_NoRow:Addr} (aV_NoRow:W.nsIn K mainGlobals "NoRow" = some (some (.ref v_NoRow))) (ty_NoRow:W.typeIn K (.ref v_NoRow)=some (.type "type")) (cl_NoRow:W.isClsIn K v_NoRow=true)
 (mv_NoName_NoRow:W.mroIn K c_NoName (.ref v_NoRow)=some false)
 (nq_NoName_NoRow:(Value.ref c_NoName==Value.ref v_NoRow)=false)
 {v_NoText:Addr} (aV_NoText:W.nsIn K mainGlobals "NoText" = some (some (.ref v_NoText))) (ty_NoText:W.typeIn K (.ref v_NoText)=some (.type "type")) (cl_NoText:W.isClsIn K v_NoText=true)
 (mv_NoName_NoText:W.mroIn K c_NoName (.ref v_NoText)=some false)
 (nq_NoName_NoText:(Value.ref c_NoName==Value.ref v_NoText)=false)
 (mv_NoName_ValueError:W.mroIn K c_NoName (.type "ValueError")=some true)
 (a1:W.nsIn K mainGlobals "is_name" = some (some (.ref f1))) (l1:K.lookup f1=some ⟨oc1,od1,.func (W.fnOf "is_name" "is_name" (aV j4) (aN j4) (aq j4) .none kV1 dc1 pm1 an1 cd1 ct1),sl1⟩) (c1:W.codeIn K cd1 "is_name" = true) (k1:W.keepIn K (.ref f1)=true)
 (a2:W.nsIn K mainGlobals "straight_above" = some (some (.ref f2))) (l2:K.lookup f2=some ⟨oc2,od2,.func (W.fnOf "straight_above" "straight_above" (aV dH) (aN dH) (aq dH) .none kV2 dc2 pm2 an2 cd2 ct2),sl2⟩) (c2:W.codeIn K cd2 "straight_above" = true) (k2:W.keepIn K (.ref f2)=true)
 (a3:W.nsIn K mainGlobals "ring_of" = some (some (.ref f3))) (l3:K.lookup f3=some ⟨oc3,od3,.func (W.fnOf "ring_of" "ring_of" (aV jo) (aN jo) (aq jo) .none kV3 dc3 pm3 an3 cd3 ct3),sl3⟩) (c3:W.codeIn K cd3 "ring_of" = true) (k3:W.keepIn K (.ref f3)=true)
 (a4:W.nsIn K mainGlobals "ring_within" = some (some (.ref f4))) (l4:K.lookup f4=some ⟨oc4,od4,.func (W.fnOf "ring_within" "ring_within" (aV gZ) (aN gZ) (aq gZ) .none kV4 dc4 pm4 an4 cd4 ct4),sl4⟩) (c4:W.codeIn K cd4 "ring_within" = true) (k4:W.keepIn K (.ref f4)=true)
 (a5:W.nsIn K mainGlobals "climbed" = some (some (.ref f5))) (l5:K.lookup f5=some ⟨oc5,od5,.func (W.fnOf "climbed" "climbed" (aV lX) (aN lX) (aq lX) .none kV5 dc5 pm5 an5 cd5 ct5),sl5⟩) (c5:W.codeIn K cd5 "climbed" = true) (k5:W.keepIn K (.ref f5)=true)
 (a6:W.nsIn K mainGlobals "all_above" = some (some (.ref f6))) (l6:K.lookup f6=some ⟨oc6,od6,.func (W.fnOf "all_above" "all_above" (aV jE) (aN jE) (aq jE) .none kV6 dc6 pm6 an6 cd6 ct6),sl6⟩) (c6:W.codeIn K cd6 "all_above" = true) (k6:W.keepIn K (.ref f6)=true)
 (a7:W.nsIn K mainGlobals "all_beneath" = some (some (.ref f7))) (l7:K.lookup f7=some ⟨oc7,od7,.func (W.fnOf "all_beneath" "all_beneath" (aV fX) (aN fX) (aq fX) .none kV7 dc7 pm7 an7 cd7 ct7),sl7⟩) (c7:W.codeIn K cd7 "all_beneath" = true) (k7:W.keepIn K (.ref f7)=true)
 (a8:W.nsIn K mainGlobals "bound" = some (some (.ref f8))) (l8:K.lookup f8=some ⟨oc8,od8,.func (W.fnOf "bound" "bound" (aV lY) (aN lY) (aq lY) .none kV8 dc8 pm8 an8 cd8 ct8),sl8⟩) (c8:W.codeIn K cd8 "bound" = true) (k8:W.keepIn K (.ref f8)=true)
 (a9:W.nsIn K mainGlobals "bounds" = some (some (.ref f9))) (l9:K.lookup f9=some ⟨oc9,od9,.func (W.fnOf "bounds" "bounds" (aV nD) (aN nD) (aq nD) .none kV9 dc9 pm9 an9 cd9 ct9),sl9⟩) (c9:W.codeIn K cd9 "bounds" = true) (k9:W.keepIn K (.ref f9)=true)
 (a10:W.nsIn K mainGlobals "unbound" = some (some (.ref f10))) (l10:K.lookup f10=some ⟨oc10,od10,.func (W.fnOf "unbound" "unbound" (aV lZ) (aN lZ) (aq lZ) .none kV10 dc10 pm10 an10 cd10 ct10),sl10⟩) (c10:W.codeIn K cd10 "unbound" = true) (k10:W.keepIn K (.ref f10)=true)
 (a11:W.nsIn K mainGlobals "lack_of" = some (some (.ref f11))) (l11:K.lookup f11=some ⟨oc11,od11,.func (W.fnOf "lack_of" "lack_of" (aV mq) (aN mq) (aq mq) .none kV11 dc11 pm11 an11 cd11 ct11),sl11⟩) (c11:W.codeIn K cd11 "lack_of" = true) (k11:W.keepIn K (.ref f11)=true)
 (a12:W.nsIn K mainGlobals "refuse_names" = some (some (.ref f12))) (l12:K.lookup f12=some ⟨oc12,od12,.func (W.fnOf "refuse_names" "refuse_names" (aV gm) (aN gm) (aq gm) .none kV12 dc12 pm12 an12 cd12 ct12),sl12⟩) (c12:W.codeIn K cd12 "refuse_names" = true) (k12:W.keepIn K (.ref f12)=true)
 (a13:W.nsIn K mainGlobals "refuse_order" = some (some (.ref f13))) (l13:K.lookup f13=some ⟨oc13,od13,.func (W.fnOf "refuse_order" "refuse_order" (aV gn) (aN gn) (aq gn) .none kV13 dc13 pm13 an13 cd13 ct13),sl13⟩) (c13:W.codeIn K cd13 "refuse_order" = true) (k13:W.keepIn K (.ref f13)=true)
 (a14:W.nsIn K mainGlobals "_law_cell_at" = some (some (.ref f14))) (l14:K.lookup f14=some ⟨oc14,od14,.func (W.fnOf "_law_cell_at" "_law_cell_at" (aV gq) (aN gq) (aq gq) .none kV14 dc14 pm14 an14 cd14 ct14),sl14⟩) (c14:W.codeIn K cd14 "_law_cell_at" = true) (k14:W.keepIn K (.ref f14)=true)
 (a15:W.nsIn K mainGlobals "_law_names" = some (some (.ref f15))) (l15:K.lookup f15=some ⟨oc15,od15,.func (W.fnOf "_law_names" "_law_names" (aV fH) (aN fH) (aq fH) .none kV15 dc15 pm15 an15 cd15 ct15),sl15⟩) (c15:W.codeIn K cd15 "_law_names" = true) (k15:W.keepIn K (.ref f15)=true)
 (a16:W.nsIn K mainGlobals "_law_pairs" = some (some (.ref f16))) (l16:K.lookup f16=some ⟨oc16,od16,.func (W.fnOf "_law_pairs" "_law_pairs" (aV eE) (aN eE) (aq eE) .none kV16 dc16 pm16 an16 cd16 ct16),sl16⟩) (c16:W.codeIn K cd16 "_law_pairs" = true) (k16:W.keepIn K (.ref f16)=true)
 (a17:W.nsIn K mainGlobals "_law_stranger" = some (some (.ref f17))) (l17:K.lookup f17=some ⟨oc17,od17,.func (W.fnOf "_law_stranger" "_law_stranger" (aV fQ) (aN fQ) (aq fQ) .none kV17 dc17 pm17 an17 cd17 ct17),sl17⟩) (c17:W.codeIn K cd17 "_law_stranger" = true) (k17:W.keepIn K (.ref f17)=true)
 (a18:W.nsIn K mainGlobals "_law_is_under" = some (some (.ref f18))) (l18:K.lookup f18=some ⟨oc18,od18,.func (W.fnOf "_law_is_under" "_law_is_under" (aV fU) (aN fU) (aq fU) .none kV18 dc18 pm18 an18 cd18 ct18),sl18⟩) (c18:W.codeIn K cd18 "_law_is_under" = true) (k18:W.keepIn K (.ref f18)=true)
 (a19:W.nsIn K mainGlobals "_law_answer" = some (some (.ref f19))) (l19:K.lookup f19=some ⟨oc19,od19,.func (W.fnOf "_law_answer" "_law_answer" (aV g8) (aN g8) (aq g8) .none kV19 dc19 pm19 an19 cd19 ct19),sl19⟩) (c19:W.codeIn K cd19 "_law_answer" = true) (k19:W.keepIn K (.ref f19)=true)
 (a20:W.nsIn K mainGlobals "_law_due" = some (some (.ref f20))) (l20:K.lookup f20=some ⟨oc20,od20,.func (W.fnOf "_law_due" "_law_due" (aV km) (aN km) (aq km) .none kV20 dc20 pm20 an20 cd20 ct20),sl20⟩) (c20:W.codeIn K cd20 "_law_due" = true) (k20:W.keepIn K (.ref f20)=true)
 (a21:W.nsIn K mainGlobals "_law_asked" = some (some (.ref f21))) (l21:K.lookup f21=some ⟨oc21,od21,.func (W.fnOf "_law_asked" "_law_asked" (aV jd) (aN jd) (aq jd) .none kV21 dc21 pm21 an21 cd21 ct21),sl21⟩) (c21:W.codeIn K cd21 "_law_asked" = true) (k21:W.keepIn K (.ref f21)=true)
 (a22:W.nsIn K mainGlobals "_law_told" = some (some (.ref f22))) (l22:K.lookup f22=some ⟨oc22,od22,.func (W.fnOf "_law_told" "_law_told" (aV jF) (aN jF) (aq jF) .none kV22 dc22 pm22 an22 cd22 ct22),sl22⟩) (c22:W.codeIn K cd22 "_law_told" = true) (k22:W.keepIn K (.ref f22)=true)
 (a23:W.nsIn K mainGlobals "_law_class" = some (some (.ref f23))) (l23:K.lookup f23=some ⟨oc23,od23,.func (W.fnOf "_law_class" "_law_class" (aV je) (aN je) (aq je) .none kV23 dc23 pm23 an23 cd23 ct23),sl23⟩) (c23:W.codeIn K cd23 "_law_class" = true) (k23:W.keepIn K (.ref f23)=true)
 (a24:W.nsIn K mainGlobals "_law_some" = some (some (.ref f24))) (l24:K.lookup f24=some ⟨oc24,od24,.func (W.fnOf "_law_some" "_law_some" (aV iC) (aN iC) (aq iC) .none kV24 dc24 pm24 an24 cd24 ct24),sl24⟩) (c24:W.codeIn K cd24 "_law_some" = true) (k24:W.keepIn K (.ref f24)=true)
 (a25:W.nsIn K mainGlobals "law" = some (some (.ref f25))) (l25:K.lookup f25=some ⟨oc25,od25,.func (W.fnOf "law" "law" (aV nR) (aN nR) (aq nR) .none kV25 dc25 pm25 an25 cd25 ct25),sl25⟩) (c25:W.codeIn K cd25 "law" = true) (k25:W.keepIn K (.ref f25)=true)
 (a26:W.findIn K (.ref c_Order) "__init__" = some (some (.ref f26))) (i26:W.isFn K (.ref f26)=true) (l26:K.lookup f26=some ⟨oc26,od26,.func (W.fnOf "__init__" "Order.__init__" (aV bW) (aN bW) (aq bW) .none kV26 dc26 pm26 an26 cd26 ct26),sl26⟩) (c26:W.codeIn K cd26 "Order.__init__" = true) (k26:W.keepIn K (.ref f26)=true)
 (a27:W.findIn K (.ref c_Order) "refuse_stranger" = some (some (.ref f27))) (i27:W.isFn K (.ref f27)=true) (l27:K.lookup f27=some ⟨oc27,od27,.func (W.fnOf "refuse_stranger" "Order.refuse_stranger" (aV bI) (aN bI) (aq bI) .none kV27 dc27 pm27 an27 cd27 ct27),sl27⟩) (c27:W.codeIn K cd27 "Order.refuse_stranger" = true) (k27:W.keepIn K (.ref f27)=true)
 (a28:W.findIn K (.ref c_Order) "ranks" = some (some (.ref f28))) (i28:W.isFn K (.ref f28)=true) (l28:K.lookup f28=some ⟨oc28,od28,.func (W.fnOf "ranks" "Order.ranks" (aV dU) (aN dU) (aq dU) .none kV28 dc28 pm28 an28 cd28 ct28),sl28⟩) (c28:W.codeIn K cd28 "Order.ranks" = true) (k28:W.keepIn K (.ref f28)=true)
 (a29:W.findIn K (.ref c_Order) "under" = some (some (.ref f29))) (i29:W.isFn K (.ref f29)=true) (l29:K.lookup f29=some ⟨oc29,od29,.func (W.fnOf "under" "Order.under" (aV dW) (aN dW) (aq dW) .none kV29 dc29 pm29 an29 cd29 ct29),sl29⟩) (c29:W.codeIn K cd29 "Order.under" = true) (k29:W.keepIn K (.ref f29)=true)
 (a30:W.findIn K (.ref c_Order) "join" = some (some (.ref f30))) (i30:W.isFn K (.ref f30)=true) (l30:K.lookup f30=some ⟨oc30,od30,.func (W.fnOf "join" "Order.join" (aV eN) (aN eN) (aq eN) .none kV30 dc30 pm30 an30 cd30 ct30),sl30⟩) (c30:W.codeIn K cd30 "Order.join" = true) (k30:W.keepIn K (.ref f30)=true)
 (a31:W.findIn K (.ref c_Order) "meet" = some (some (.ref f31))) (i31:W.isFn K (.ref f31)=true) (l31:K.lookup f31=some ⟨oc31,od31,.func (W.fnOf "meet" "Order.meet" (aV eO) (aN eO) (aq eO) .none kV31 dc31 pm31 an31 cd31 ct31),sl31⟩) (c31:W.codeIn K cd31 "Order.meet" = true) (k31:W.keepIn K (.ref f31)=true)
 (a32:W.findIn K (.ref c_Order) "joined" = some (some (.ref f32))) (i32:W.isFn K (.ref f32)=true) (l32:K.lookup f32=some ⟨oc32,od32,.func (W.fnOf "joined" "Order.joined" (aV dz) (aN dz) (aq dz) .none kV32 dc32 pm32 an32 cd32 ct32),sl32⟩) (c32:W.codeIn K cd32 "Order.joined" = true) (k32:W.keepIn K (.ref f32)=true)
 (a33:W.findIn K (.ref c_Order) "least" = some (some (.ref f33))) (i33:W.isFn K (.ref f33)=true) (l33:K.lookup f33=some ⟨oc33,od33,.func (W.fnOf "least" "Order.least" (aV dX) (aN dX) (aq dX) .none kV33 dc33 pm33 an33 cd33 ct33),sl33⟩) (c33:W.codeIn K cd33 "Order.least" = true) (k33:W.keepIn K (.ref f33)=true)
 (a34:W.findIn K (.ref c_Order) "greatest" = some (some (.ref f34))) (i34:W.isFn K (.ref f34)=true) (l34:K.lookup f34=some ⟨oc34,od34,.func (W.fnOf "greatest" "Order.greatest" (aV cN) (aN cN) (aq cN) .none kV34 dc34 pm34 an34 cd34 ct34),sl34⟩) (c34:W.codeIn K cd34 "Order.greatest" = true) (k34:W.keepIn K (.ref f34)=true)
 (z0:W.nsIn K mainGlobals "ValueError" = some none)
 (z1:W.nsIn K mainGlobals "all" = some none)
 (z2:W.nsIn K mainGlobals "bool" = some none)
 (z3:W.nsIn K mainGlobals "isinstance" = some none)
 (z4:W.nsIn K mainGlobals "len" = some none)
 (z5:W.nsIn K mainGlobals "list" = some none)
 (z6:W.nsIn K mainGlobals "range" = some none)
 (y_LETTERS:W.nsIn K mainGlobals "LETTERS" = some (some (.str "abcdefghijklmnopqrstuvwxyz" tk_LETTERS)))
 (HL:∀ ns:List Int,ns.length<=63->∃ mu,Ig [.lst (ns.map PV.int)] []=some (.sh (.bl true),mu))
 : ∃ fd:FuncData,(∀ (s:Shared) (v:Value),BindsTo s fd ⟨[v],[]⟩ [("_law_script",v)])/\∀ base:Heap,K.In base->base.Ns mainGlobals mg->jr l.prog w K mg base mZ 8 fa fd ["_law_script"] (BR K):=by
 have T_Order:p8 K mg "Order" c_Order:=⟨aC_Order,⟨pg_Order,hd_Order,po_Order,sa_Order⟩,W.mg_of X G aC_Order⟩
 have N_Order:∀ f∈(["names", "above", "joins", "meets", "lowest", "highest"]:List Str),lg K c_Order f:=by
  intro x hx
  rcases List.mem_cons.mp hx with e | hx
  . rw [e]; exact n_Order_names
  rcases List.mem_cons.mp hx with e | hx
  . rw [e]; exact n_Order_above
  rcases List.mem_cons.mp hx with e | hx
  . rw [e]; exact n_Order_joins
  rcases List.mem_cons.mp hx with e | hx
  . rw [e]; exact n_Order_meets
  rcases List.mem_cons.mp hx with e | hx
  . rw [e]; exact n_Order_lowest
  rcases List.mem_cons.mp hx with e | hx
  . rw [e]; exact n_Order_highest
  cases hx
 have XT_HushError:zy K mg "HushError" c_HushError:=⟨aC_HushError,W.mg_of X G aC_HushError,ex_HushError⟩
 have XT_NoName:zy K mg "NoName" c_NoName:=⟨aC_NoName,W.mg_of X G aC_NoName,ex_NoName⟩
 have Y_HushError:∀ C∈(["NoName"]:List Str),∃ c,CN K C c/\W.excIn K c mF mG=true/\mroIn K c c_HushError=true:=by
  intro C hC
  rcases List.mem_cons.mp hC with e | hC
  . rw [e]; exact ⟨c_NoName,aC_NoName,ex_NoName,Oz mr_NoName_HushError⟩
  cases hC
 have Z_HushError:∀ C∈([]:List Str),∃ c,CN K C c/\W.excIn K c mF mG=true/\mroIn K c c_HushError=false:=by
  intro C hC
  cases hC
 have Q_NoName:pL K c_NoName:=⟨xga_NoName,xgt_NoName,xme_NoName,xmo_NoName,xic_NoName,xca_NoName,xcg,xtk⟩
 have V_NoFit:=W.mg_of X G aV_NoFit
 have I_NoFit:∀ C∈([]:List Str),gM K (.ref v_NoFit) true C:=by
  intro C hC
  cases hC
 have J_NoFit:∀ C∈(["NoName"]:List Str),gM K (.ref v_NoFit) false C:=by
  intro C hC
  rcases List.mem_cons.mp hC with e | hC
  . rw [e]; exact ⟨c_NoName,_,aC_NoName,rfl,Q_NoName,ye ty_NoFit cl_NoFit mv_NoName_NoFit nq_NoName_NoFit⟩
  cases hC
 have V_NoInput:=W.mg_of X G aV_NoInput
 have I_NoInput:∀ C∈([]:List Str),gM K (.ref v_NoInput) true C:=by
  intro C hC
  cases hC
 have J_NoInput:∀ C∈(["NoName"]:List Str),gM K (.ref v_NoInput) false C:=by
  intro C hC
  rcases List.mem_cons.mp hC with e | hC
  . rw [e]; exact ⟨c_NoName,_,aC_NoName,rfl,Q_NoName,ye ty_NoInput cl_NoInput mv_NoName_NoInput nq_NoName_NoInput⟩
  cases hC
 have V_NoName:=W.mg_of X G aV_NoName
 have I_NoName:∀ C∈(["NoName"]:List Str),gM K (.ref v_NoName) true C:=by
  intro C hC
  rcases List.mem_cons.mp hC with e | hC
  . rw [e]; exact ⟨c_NoName,_,aC_NoName,rfl,Q_NoName,Vq ty_NoName cl_NoName mv_NoName_NoName⟩
  cases hC
 have J_NoName:∀ C∈([]:List Str),gM K (.ref v_NoName) false C:=by
  intro C hC
  cases hC
 have V_NoOrder:=W.mg_of X G aV_NoOrder
 have I_NoOrder:∀ C∈([]:List Str),gM K (.ref v_NoOrder) true C:=by
  intro C hC
  cases hC
 have J_NoOrder:∀ C∈(["NoName"]:List Str),gM K (.ref v_NoOrder) false C:=by
  intro C hC
  rcases List.mem_cons.mp hC with e | hC
  . rw [e]; exact ⟨c_NoName,_,aC_NoName,rfl,Q_NoName,ye ty_NoOrder cl_NoOrder mv_NoName_NoOrder nq_NoName_NoOrder⟩
  cases hC
 have V_NoRow:=W.mg_of X G aV_NoRow
 have I_NoRow:∀ C∈([]:List Str),gM K (.ref v_NoRow) true C:=by
  intro C hC
  cases hC
 have J_NoRow:∀ C∈(["NoName"]:List Str),gM K (.ref v_NoRow) false C:=by
  intro C hC
  rcases List.mem_cons.mp hC with e | hC
  . rw [e]; exact ⟨c_NoName,_,aC_NoName,rfl,Q_NoName,ye ty_NoRow cl_NoRow mv_NoName_NoRow nq_NoName_NoRow⟩
  cases hC
 have V_NoText:=W.mg_of X G aV_NoText
 have I_NoText:∀ C∈([]:List Str),gM K (.ref v_NoText) true C:=by
  intro C hC
  cases hC
 have J_NoText:∀ C∈(["NoName"]:List Str),gM K (.ref v_NoText) false C:=by
  intro C hC
  rcases List.mem_cons.mp hC with e | hC
  . rw [e]; exact ⟨c_NoName,_,aC_NoName,rfl,Q_NoName,ye ty_NoText cl_NoText mv_NoName_NoText nq_NoName_NoText⟩
  cases hC
 have I_ValueError:∀ C∈(["NoName"]:List Str),gM K (.ty "ValueError") true C:=by
  intro C hC
  rcases List.mem_cons.mp hC with e | hC
  . rw [e]; exact ⟨c_NoName,_,aC_NoName,rfl,Q_NoName,Vr (by kernel_rfl) mv_NoName_ValueError⟩
  cases hC
 have J_ValueError:∀ C∈([]:List Str),gM K (.ty "ValueError") false C:=by
  intro C hC
  cases hC
 have F_is_name:aZ K mg "is_name" j4 ["text"]:=jC X G a1 l1 c1 k1 fun _ _ _ _ _ _ us hl=>by obtain ⟨_,rfl⟩:=rA hl; rfl
 have F_straight_above:aZ K mg "straight_above" dH ["some", "pairs", "name"]:=jC X G a2 l2 c2 k2 fun _ _ _ _ _ _ us hl=>by obtain ⟨_,_,_,rfl⟩:=xm hl; rfl
 have F_ring_of:aZ K mg "ring_of" jo ["names", "pairs"]:=jC X G a3 l3 c3 k3 fun _ _ _ _ _ _ us hl=>by obtain ⟨_,_,rfl⟩:=ln2 hl; rfl
 have F_ring_within:aZ K mg "ring_within" gZ ["some", "pairs"]:=jC X G a4 l4 c4 k4 fun _ _ _ _ _ _ us hl=>by obtain ⟨_,_,rfl⟩:=ln2 hl; rfl
 have F_climbed:aZ K mg "climbed" lX ["name", "pairs"]:=jC X G a5 l5 c5 k5 fun _ _ _ _ _ _ us hl=>by obtain ⟨_,_,rfl⟩:=ln2 hl; rfl
 have F_all_above:aZ K mg "all_above" jE ["names", "pairs"]:=jC X G a6 l6 c6 k6 fun _ _ _ _ _ _ us hl=>by obtain ⟨_,_,rfl⟩:=ln2 hl; rfl
 have F_all_beneath:aZ K mg "all_beneath" fX ["names", "pairs"]:=jC X G a7 l7 c7 k7 fun _ _ _ _ _ _ us hl=>by obtain ⟨_,_,rfl⟩:=ln2 hl; rfl
 have F_bound:aZ K mg "bound" lY ["reach", "one", "other"]:=jC X G a8 l8 c8 k8 fun _ _ _ _ _ _ us hl=>by obtain ⟨_,_,_,rfl⟩:=xm hl; rfl
 have F_bounds:aZ K mg "bounds" nD ["reach"]:=jC X G a9 l9 c9 k9 fun _ _ _ _ _ _ us hl=>by obtain ⟨_,rfl⟩:=rA hl; rfl
 have F_unbound:aZ K mg "unbound" lZ ["reach"]:=jC X G a10 l10 c10 k10 fun _ _ _ _ _ _ us hl=>by obtain ⟨_,rfl⟩:=rA hl; rfl
 have F_lack_of:aZ K mg "lack_of" mq ["names", "pairs"]:=jC X G a11 l11 c11 k11 fun _ _ _ _ _ _ us hl=>by obtain ⟨_,_,rfl⟩:=ln2 hl; rfl
 have F_refuse_names:aZ K mg "refuse_names" gm ["names", "pairs"]:=jC X G a12 l12 c12 k12 fun _ _ _ _ _ _ us hl=>by obtain ⟨_,_,rfl⟩:=ln2 hl; rfl
 have F_refuse_order:aZ K mg "refuse_order" gn ["names", "pairs"]:=jC X G a13 l13 c13 k13 fun _ _ _ _ _ _ us hl=>by obtain ⟨_,_,rfl⟩:=ln2 hl; rfl
 have F__law_cell_at:aZ K mg "_law_cell_at" gq ["_law_script", "_law_k"]:=jC X G a14 l14 c14 k14 fun _ _ _ _ _ _ us hl=>by obtain ⟨_,_,rfl⟩:=ln2 hl; rfl
 have F__law_names:aZ K mg "_law_names" fH ["_law_cell", "_law_count"]:=jC X G a15 l15 c15 k15 fun _ _ _ _ _ _ us hl=>by obtain ⟨_,_,rfl⟩:=ln2 hl; rfl
 have F__law_pairs:aZ K mg "_law_pairs" eE ["_law_names_here", "_law_chain"]:=jC X G a16 l16 c16 k16 fun _ _ _ _ _ _ us hl=>by obtain ⟨_,_,rfl⟩:=ln2 hl; rfl
 have F__law_stranger:aZ K mg "_law_stranger" fQ ["_law_names_here", "_law_cell"]:=jC X G a17 l17 c17 k17 fun _ _ _ _ _ _ us hl=>by obtain ⟨_,_,rfl⟩:=ln2 hl; rfl
 have F__law_is_under:aZ K mg "_law_is_under" fU ["_law_names_here", "_law_chain", "_law_one", "_law_other"]:=jC X G a18 l18 c18 k18 fun _ _ _ _ _ _ us hl=>by obtain ⟨_,_,_,_,rfl⟩:=Td hl; rfl
 have F__law_answer:aZ K mg "_law_answer" g8 ["_law_names_here", "_law_chain", "_law_word", "_law_one", "_law_other"]:=jC X G a19 l19 c19 k19 fun _ _ _ _ _ _ us hl=>by obtain ⟨_,_,_,_,_,rfl⟩:=WL hl; rfl
 have F__law_due:aZ K mg "_law_due" km ["_law_names_here", "_law_chain", "_law_word", "_law_some_here"]:=jC X G a20 l20 c20 k20 fun _ _ _ _ _ _ us hl=>by obtain ⟨_,_,_,_,rfl⟩:=Td hl; rfl
 have F__law_asked:aZ K mg "_law_asked" jd ["_law_order", "_law_word", "_law_some_here"]:=jC X G a21 l21 c21 k21 fun _ _ _ _ _ _ us hl=>by obtain ⟨_,_,_,rfl⟩:=xm hl; rfl
 have F__law_told:aZ K mg "_law_told" jF ["_law_order", "_law_word", "_law_some_here"]:=jC X G a22 l22 c22 k22 fun _ _ _ _ _ _ us hl=>by obtain ⟨_,_,_,rfl⟩:=xm hl; rfl
 have F__law_class:aZ K mg "_law_class" je ["_law_e"]:=jC X G a23 l23 c23 k23 fun _ _ _ _ _ _ us hl=>by obtain ⟨_,rfl⟩:=rA hl; rfl
 have F__law_some:aZ K mg "_law_some" iC ["_law_names_here", "_law_cell"]:=jC X G a24 l24 c24 k24 fun _ _ _ _ _ _ us hl=>by obtain ⟨_,_,rfl⟩:=ln2 hl; rfl
 have F_law:aZ K mg "law" nR ["_law_script"]:=jC X G a25 l25 c25 k25 fun _ _ _ _ _ _ us hl=>by obtain ⟨_,rfl⟩:=rA hl; rfl
 have F_Order____init__:kO K c_Order "__init__" "Order.__init__" bW ["self", "names", "pairs"]:=⟨_,_,dC (st:=bW) l26 c26 k26,a26,i26,(dC (st:=bW) l26 c26 k26).binds (ps:=["self", "names", "pairs"]) fun _ _ _ _ _ _ us hl=>by obtain ⟨_,_,_,rfl⟩:=xm hl; rfl⟩
 have F_Order__refuse_stranger:kO K c_Order "refuse_stranger" "Order.refuse_stranger" bI ["self", "rank"]:=⟨_,_,dC (st:=bI) l27 c27 k27,a27,i27,(dC (st:=bI) l27 c27 k27).binds (ps:=["self", "rank"]) fun _ _ _ _ _ _ us hl=>by obtain ⟨_,_,rfl⟩:=ln2 hl; rfl⟩
 have F_Order__ranks:kO K c_Order "ranks" "Order.ranks" dU ["self"]:=⟨_,_,dC (st:=dU) l28 c28 k28,a28,i28,(dC (st:=dU) l28 c28 k28).binds (ps:=["self"]) fun _ _ _ _ _ _ us hl=>by obtain ⟨_,rfl⟩:=rA hl; rfl⟩
 have F_Order__under:kO K c_Order "under" "Order.under" dW ["self", "one", "other"]:=⟨_,_,dC (st:=dW) l29 c29 k29,a29,i29,(dC (st:=dW) l29 c29 k29).binds (ps:=["self", "one", "other"]) fun _ _ _ _ _ _ us hl=>by obtain ⟨_,_,_,rfl⟩:=xm hl; rfl⟩
 have F_Order__join:kO K c_Order "join" "Order.join" eN ["self", "one", "other"]:=⟨_,_,dC (st:=eN) l30 c30 k30,a30,i30,(dC (st:=eN) l30 c30 k30).binds (ps:=["self", "one", "other"]) fun _ _ _ _ _ _ us hl=>by obtain ⟨_,_,_,rfl⟩:=xm hl; rfl⟩
 have F_Order__meet:kO K c_Order "meet" "Order.meet" eO ["self", "one", "other"]:=⟨_,_,dC (st:=eO) l31 c31 k31,a31,i31,(dC (st:=eO) l31 c31 k31).binds (ps:=["self", "one", "other"]) fun _ _ _ _ _ _ us hl=>by obtain ⟨_,_,_,rfl⟩:=xm hl; rfl⟩
 have F_Order__joined:kO K c_Order "joined" "Order.joined" dz ["self", "some"]:=⟨_,_,dC (st:=dz) l32 c32 k32,a32,i32,(dC (st:=dz) l32 c32 k32).binds (ps:=["self", "some"]) fun _ _ _ _ _ _ us hl=>by obtain ⟨_,_,rfl⟩:=ln2 hl; rfl⟩
 have F_Order__least:kO K c_Order "least" "Order.least" dX ["self"]:=⟨_,_,dC (st:=dX) l33 c33 k33,a33,i33,(dC (st:=dX) l33 c33 k33).binds (ps:=["self"]) fun _ _ _ _ _ _ us hl=>by obtain ⟨_,rfl⟩:=rA hl; rfl⟩
 have F_Order__greatest:kO K c_Order "greatest" "Order.greatest" cN ["self"]:=⟨_,_,dC (st:=cN) l34 c34 k34,a34,i34,(dC (st:=cN) l34 c34 k34).binds (ps:=["self"]) fun _ _ _ _ _ _ us hl=>by obtain ⟨_,rfl⟩:=rA hl; rfl⟩
 have B:Tv mg BL:=by
  intro x hx
  rcases List.mem_cons.mp hx with e | hx
  . rw [e]; exact W.mg_none_of X G z0
  rcases List.mem_cons.mp hx with e | hx
  . rw [e]; exact W.mg_none_of X G z1
  rcases List.mem_cons.mp hx with e | hx
  . rw [e]; exact W.mg_none_of X G z2
  rcases List.mem_cons.mp hx with e | hx
  . rw [e]; exact W.mg_none_of X G z3
  rcases List.mem_cons.mp hx with e | hx
  . rw [e]; exact W.mg_none_of X G z4
  rcases List.mem_cons.mp hx with e | hx
  . rw [e]; exact W.mg_none_of X G z5
  rcases List.mem_cons.mp hx with e | hx
  . rw [e]; exact W.mg_none_of X G z6
  cases hx
 have C_LETTERS:∃ t,mg "LETTERS" = some (.str "abcdefghijklmnopqrstuvwxyz" t):=⟨_,W.mg_of X G y_LETTERS⟩
 have e:=hfa.symm.trans (W.mg_of X G a25)
 cases e
 refine ⟨W.fnOf "law" "law" (aV nR) (aN nR) (aq nR) .none kV25 dc25 pm25 an25 cd25 ct25,fun s v=>.of_eq rfl,fun base _ _=>?_⟩
 have D_is_name:=Im (P:=l.prog) (w:=w) (base:=base) B C_LETTERS T_Order N_Order XT_HushError XT_NoName Y_HushError Z_HushError V_NoFit I_NoFit J_NoFit V_NoInput I_NoInput J_NoInput V_NoName I_NoName J_NoName V_NoOrder I_NoOrder J_NoOrder V_NoRow I_NoRow J_NoRow V_NoText I_NoText J_NoText I_ValueError J_ValueError F_is_name
 have D_straight_above:=vL (P:=l.prog) (w:=w) (base:=base) B C_LETTERS T_Order N_Order XT_HushError XT_NoName Y_HushError Z_HushError V_NoFit I_NoFit J_NoFit V_NoInput I_NoInput J_NoInput V_NoName I_NoName J_NoName V_NoOrder I_NoOrder J_NoOrder V_NoRow I_NoRow J_NoRow V_NoText I_NoText J_NoText I_ValueError J_ValueError F_straight_above
 have D_ring_within:=zK (P:=l.prog) (w:=w) (base:=base) B C_LETTERS T_Order N_Order XT_HushError XT_NoName Y_HushError Z_HushError V_NoFit I_NoFit J_NoFit V_NoInput I_NoInput J_NoInput V_NoName I_NoName J_NoName V_NoOrder I_NoOrder J_NoOrder V_NoRow I_NoRow J_NoRow V_NoText I_NoText J_NoText I_ValueError J_ValueError F_ring_within D_straight_above
 have D_ring_of:=Io (P:=l.prog) (w:=w) (base:=base) B C_LETTERS T_Order N_Order XT_HushError XT_NoName Y_HushError Z_HushError V_NoFit I_NoFit J_NoFit V_NoInput I_NoInput J_NoInput V_NoName I_NoName J_NoName V_NoOrder I_NoOrder J_NoOrder V_NoRow I_NoRow J_NoRow V_NoText I_NoText J_NoText I_ValueError J_ValueError F_ring_of D_ring_within D_straight_above
 have D_climbed:=Ip (P:=l.prog) (w:=w) (base:=base) B C_LETTERS T_Order N_Order XT_HushError XT_NoName Y_HushError Z_HushError V_NoFit I_NoFit J_NoFit V_NoInput I_NoInput J_NoInput V_NoName I_NoName J_NoName V_NoOrder I_NoOrder J_NoOrder V_NoRow I_NoRow J_NoRow V_NoText I_NoText J_NoText I_ValueError J_ValueError F_climbed
 have D_all_above:=DR (P:=l.prog) (w:=w) (base:=base) B C_LETTERS T_Order N_Order XT_HushError XT_NoName Y_HushError Z_HushError V_NoFit I_NoFit J_NoFit V_NoInput I_NoInput J_NoInput V_NoName I_NoName J_NoName V_NoOrder I_NoOrder J_NoOrder V_NoRow I_NoRow J_NoRow V_NoText I_NoText J_NoText I_ValueError J_ValueError F_all_above D_climbed
 have D_all_beneath:=zL (P:=l.prog) (w:=w) (base:=base) B C_LETTERS T_Order N_Order XT_HushError XT_NoName Y_HushError Z_HushError V_NoFit I_NoFit J_NoFit V_NoInput I_NoInput J_NoInput V_NoName I_NoName J_NoName V_NoOrder I_NoOrder J_NoOrder V_NoRow I_NoRow J_NoRow V_NoText I_NoText J_NoText I_ValueError J_ValueError F_all_beneath D_all_above
 have D_bound:=Np (P:=l.prog) (w:=w) (base:=base) B C_LETTERS T_Order N_Order XT_HushError XT_NoName Y_HushError Z_HushError V_NoFit I_NoFit J_NoFit V_NoInput I_NoInput J_NoInput V_NoName I_NoName J_NoName V_NoOrder I_NoOrder J_NoOrder V_NoRow I_NoRow J_NoRow V_NoText I_NoText J_NoText I_ValueError J_ValueError F_bound
 have D_bounds:=Ky (P:=l.prog) (w:=w) (base:=base) B C_LETTERS T_Order N_Order XT_HushError XT_NoName Y_HushError Z_HushError V_NoFit I_NoFit J_NoFit V_NoInput I_NoInput J_NoInput V_NoName I_NoName J_NoName V_NoOrder I_NoOrder J_NoOrder V_NoRow I_NoRow J_NoRow V_NoText I_NoText J_NoText I_ValueError J_ValueError F_bounds D_bound
 have D_unbound:=Ir (P:=l.prog) (w:=w) (base:=base) B C_LETTERS T_Order N_Order XT_HushError XT_NoName Y_HushError Z_HushError V_NoFit I_NoFit J_NoFit V_NoInput I_NoInput J_NoInput V_NoName I_NoName J_NoName V_NoOrder I_NoOrder J_NoOrder V_NoRow I_NoRow J_NoRow V_NoText I_NoText J_NoText I_ValueError J_ValueError F_unbound D_bounds
 have D_lack_of:=Iu (P:=l.prog) (w:=w) (base:=base) B C_LETTERS T_Order N_Order XT_HushError XT_NoName Y_HushError Z_HushError V_NoFit I_NoFit J_NoFit V_NoInput I_NoInput J_NoInput V_NoName I_NoName J_NoName V_NoOrder I_NoOrder J_NoOrder V_NoRow I_NoRow J_NoRow V_NoText I_NoText J_NoText I_ValueError J_ValueError F_lack_of D_all_above D_all_beneath D_unbound
 have D_refuse_names:=yu (P:=l.prog) (w:=w) (base:=base) B C_LETTERS T_Order N_Order XT_HushError XT_NoName Y_HushError Z_HushError V_NoFit I_NoFit J_NoFit V_NoInput I_NoInput J_NoInput V_NoName I_NoName J_NoName V_NoOrder I_NoOrder J_NoOrder V_NoRow I_NoRow J_NoRow V_NoText I_NoText J_NoText I_ValueError J_ValueError F_refuse_names D_is_name
 have D_refuse_order:=yw (P:=l.prog) (w:=w) (base:=base) B C_LETTERS T_Order N_Order XT_HushError XT_NoName Y_HushError Z_HushError V_NoFit I_NoFit J_NoFit V_NoInput I_NoInput J_NoInput V_NoName I_NoName J_NoName V_NoOrder I_NoOrder J_NoOrder V_NoRow I_NoRow J_NoRow V_NoText I_NoText J_NoText I_ValueError J_ValueError F_refuse_order D_lack_of D_ring_of
 have D__law_cell_at:=yx (P:=l.prog) (w:=w) (base:=base) B C_LETTERS T_Order N_Order XT_HushError XT_NoName Y_HushError Z_HushError V_NoFit I_NoFit J_NoFit V_NoInput I_NoInput J_NoInput V_NoName I_NoName J_NoName V_NoOrder I_NoOrder J_NoOrder V_NoRow I_NoRow J_NoRow V_NoText I_NoText J_NoText I_ValueError J_ValueError F__law_cell_at
 have D__law_names:=Bp (P:=l.prog) (w:=w) (base:=base) B C_LETTERS T_Order N_Order XT_HushError XT_NoName Y_HushError Z_HushError V_NoFit I_NoFit J_NoFit V_NoInput I_NoInput J_NoInput V_NoName I_NoName J_NoName V_NoOrder I_NoOrder J_NoOrder V_NoRow I_NoRow J_NoRow V_NoText I_NoText J_NoText I_ValueError J_ValueError F__law_names
 have D__law_pairs:=Bq (P:=l.prog) (w:=w) (base:=base) B C_LETTERS T_Order N_Order XT_HushError XT_NoName Y_HushError Z_HushError V_NoFit I_NoFit J_NoFit V_NoInput I_NoInput J_NoInput V_NoName I_NoName J_NoName V_NoOrder I_NoOrder J_NoOrder V_NoRow I_NoRow J_NoRow V_NoText I_NoText J_NoText I_ValueError J_ValueError F__law_pairs
 have D__law_stranger:=wH (P:=l.prog) (w:=w) (base:=base) B C_LETTERS T_Order N_Order XT_HushError XT_NoName Y_HushError Z_HushError V_NoFit I_NoFit J_NoFit V_NoInput I_NoInput J_NoInput V_NoName I_NoName J_NoName V_NoOrder I_NoOrder J_NoOrder V_NoRow I_NoRow J_NoRow V_NoText I_NoText J_NoText I_ValueError J_ValueError F__law_stranger
 have D__law_is_under:=wI (P:=l.prog) (w:=w) (base:=base) B C_LETTERS T_Order N_Order XT_HushError XT_NoName Y_HushError Z_HushError V_NoFit I_NoFit J_NoFit V_NoInput I_NoInput J_NoInput V_NoName I_NoName J_NoName V_NoOrder I_NoOrder J_NoOrder V_NoRow I_NoRow J_NoRow V_NoText I_NoText J_NoText I_ValueError J_ValueError F__law_is_under
 have D__law_answer:=zM (P:=l.prog) (w:=w) (base:=base) B C_LETTERS T_Order N_Order XT_HushError XT_NoName Y_HushError Z_HushError V_NoFit I_NoFit J_NoFit V_NoInput I_NoInput J_NoInput V_NoName I_NoName J_NoName V_NoOrder I_NoOrder J_NoOrder V_NoRow I_NoRow J_NoRow V_NoText I_NoText J_NoText I_ValueError J_ValueError F__law_answer D__law_is_under
 have D__law_due:=Fp (P:=l.prog) (w:=w) (base:=base) B C_LETTERS T_Order N_Order XT_HushError XT_NoName Y_HushError Z_HushError V_NoFit I_NoFit J_NoFit V_NoInput I_NoInput J_NoInput V_NoName I_NoName J_NoName V_NoOrder I_NoOrder J_NoOrder V_NoRow I_NoRow J_NoRow V_NoText I_NoText J_NoText I_ValueError J_ValueError F__law_due D__law_answer
 have D_Order__refuse_stranger:=oW (P:=l.prog) (w:=w) (base:=base) B C_LETTERS T_Order N_Order XT_HushError XT_NoName Y_HushError Z_HushError V_NoFit I_NoFit J_NoFit V_NoInput I_NoInput J_NoInput V_NoName I_NoName J_NoName V_NoOrder I_NoOrder J_NoOrder V_NoRow I_NoRow J_NoRow V_NoText I_NoText J_NoText I_ValueError J_ValueError F_Order__refuse_stranger
 have D_Order__join:=zN (P:=l.prog) (w:=w) (base:=base) B C_LETTERS T_Order N_Order XT_HushError XT_NoName Y_HushError Z_HushError V_NoFit I_NoFit J_NoFit V_NoInput I_NoInput J_NoInput V_NoName I_NoName J_NoName V_NoOrder I_NoOrder J_NoOrder V_NoRow I_NoRow J_NoRow V_NoText I_NoText J_NoText I_ValueError J_ValueError F_Order__join D_Order__refuse_stranger
 have D_Order__joined:=wJ (P:=l.prog) (w:=w) (base:=base) B C_LETTERS T_Order N_Order XT_HushError XT_NoName Y_HushError Z_HushError V_NoFit I_NoFit J_NoFit V_NoInput I_NoInput J_NoInput V_NoName I_NoName J_NoName V_NoOrder I_NoOrder J_NoOrder V_NoRow I_NoRow J_NoRow V_NoText I_NoText J_NoText I_ValueError J_ValueError F_Order__joined D_Order__join
 have D_Order__meet:=zO (P:=l.prog) (w:=w) (base:=base) B C_LETTERS T_Order N_Order XT_HushError XT_NoName Y_HushError Z_HushError V_NoFit I_NoFit J_NoFit V_NoInput I_NoInput J_NoInput V_NoName I_NoName J_NoName V_NoOrder I_NoOrder J_NoOrder V_NoRow I_NoRow J_NoRow V_NoText I_NoText J_NoText I_ValueError J_ValueError F_Order__meet D_Order__refuse_stranger
 have D_Order__under:=yz (P:=l.prog) (w:=w) (base:=base) B C_LETTERS T_Order N_Order XT_HushError XT_NoName Y_HushError Z_HushError V_NoFit I_NoFit J_NoFit V_NoInput I_NoInput J_NoInput V_NoName I_NoName J_NoName V_NoOrder I_NoOrder J_NoOrder V_NoRow I_NoRow J_NoRow V_NoText I_NoText J_NoText I_ValueError J_ValueError F_Order__under D_Order__refuse_stranger
 have D__law_asked:=Br (P:=l.prog) (w:=w) (base:=base) B C_LETTERS T_Order N_Order XT_HushError XT_NoName Y_HushError Z_HushError V_NoFit I_NoFit J_NoFit V_NoInput I_NoInput J_NoInput V_NoName I_NoName J_NoName V_NoOrder I_NoOrder J_NoOrder V_NoRow I_NoRow J_NoRow V_NoText I_NoText J_NoText I_ValueError J_ValueError F__law_asked D_Order__join D_Order__joined D_Order__meet D_Order__under
 have D__law_class:=Bs (P:=l.prog) (w:=w) (base:=base) B C_LETTERS T_Order N_Order XT_HushError XT_NoName Y_HushError Z_HushError V_NoFit I_NoFit J_NoFit V_NoInput I_NoInput J_NoInput V_NoName I_NoName J_NoName V_NoOrder I_NoOrder J_NoOrder V_NoRow I_NoRow J_NoRow V_NoText I_NoText J_NoText I_ValueError J_ValueError F__law_class
 have D__law_told:=DW (P:=l.prog) (w:=w) (base:=base) B C_LETTERS T_Order N_Order XT_HushError XT_NoName Y_HushError Z_HushError V_NoFit I_NoFit J_NoFit V_NoInput I_NoInput J_NoInput V_NoName I_NoName J_NoName V_NoOrder I_NoOrder J_NoOrder V_NoRow I_NoRow J_NoRow V_NoText I_NoText J_NoText I_ValueError J_ValueError F__law_told D__law_asked D__law_class
 have D__law_some:=DX (P:=l.prog) (w:=w) (base:=base) B C_LETTERS T_Order N_Order XT_HushError XT_NoName Y_HushError Z_HushError V_NoFit I_NoFit J_NoFit V_NoInput I_NoInput J_NoInput V_NoName I_NoName J_NoName V_NoOrder I_NoOrder J_NoOrder V_NoRow I_NoRow J_NoRow V_NoText I_NoText J_NoText I_ValueError J_ValueError F__law_some D__law_stranger
 have D_Order____init__:=Vo (uR (P:=l.prog) (w:=w) (base:=base) B C_LETTERS T_Order N_Order XT_HushError XT_NoName Y_HushError Z_HushError V_NoFit I_NoFit J_NoFit V_NoInput I_NoInput J_NoInput V_NoName I_NoName J_NoName V_NoOrder I_NoOrder J_NoOrder V_NoRow I_NoRow J_NoRow V_NoText I_NoText J_NoText I_ValueError J_ValueError F_Order____init__ D_all_above D_all_beneath D_bounds D_refuse_names D_refuse_order) mk_Order kc_Order
 have D_Order__greatest:=uT (P:=l.prog) (w:=w) (base:=base) B C_LETTERS T_Order N_Order XT_HushError XT_NoName Y_HushError Z_HushError V_NoFit I_NoFit J_NoFit V_NoInput I_NoInput J_NoInput V_NoName I_NoName J_NoName V_NoOrder I_NoOrder J_NoOrder V_NoRow I_NoRow J_NoRow V_NoText I_NoText J_NoText I_ValueError J_ValueError F_Order__greatest
 have D_Order__least:=yC (P:=l.prog) (w:=w) (base:=base) B C_LETTERS T_Order N_Order XT_HushError XT_NoName Y_HushError Z_HushError V_NoFit I_NoFit J_NoFit V_NoInput I_NoInput J_NoInput V_NoName I_NoName J_NoName V_NoOrder I_NoOrder J_NoOrder V_NoRow I_NoRow J_NoRow V_NoText I_NoText J_NoText I_ValueError J_ValueError F_Order__least
 have D_Order__ranks:=yD (P:=l.prog) (w:=w) (base:=base) B C_LETTERS T_Order N_Order XT_HushError XT_NoName Y_HushError Z_HushError V_NoFit I_NoFit J_NoFit V_NoInput I_NoInput J_NoInput V_NoName I_NoName J_NoName V_NoOrder I_NoOrder J_NoOrder V_NoRow I_NoRow J_NoRow V_NoText I_NoText J_NoText I_ValueError J_ValueError F_Order__ranks
 exact Tz (Uo (P:=l.prog) (w:=w) (base:=base) B C_LETTERS T_Order N_Order XT_HushError XT_NoName Y_HushError Z_HushError V_NoFit I_NoFit J_NoFit V_NoInput I_NoInput J_NoInput V_NoName I_NoName J_NoName V_NoOrder I_NoOrder J_NoOrder V_NoRow I_NoRow J_NoRow V_NoText I_NoText J_NoText I_ValueError J_ValueError (dC (st:=nR) l25 c25 k25) D_Order____init__ D_Order__greatest D_Order__least D_Order__ranks D__law_cell_at D__law_due D__law_names D__law_pairs D__law_some D__law_told) HL
theorem walk {l:W.OpenLaw} {q:Program} {loose:List Str} {XP:(Str->Option Value)->Heap->Prop} {YP:World->Heap->Prop} {d:DefRec} {K:Params->FG} (hn:l.most=some 63) (hdf:d.params.defaults=[])
 (hY:∀ (w:World) (h:Heap),YP w h->(K w.params).In h)
 (F:∀ (w:World) (mg:Str->Option Value) (fa:Addr) (h:Heap),(K w.params).In h->h.Ns mainGlobals mg->mg d.name=some (.ref fa)->
   ∃ fd:FuncData,(∀ (s:Shared) (u:Value),BindsTo s fd ⟨[u],[]⟩ [("_law_script",u)])/\∀ base:Heap,(K w.params).In base->base.Ns mainGlobals mg->jr l.prog w (K w.params) mg base mZ 8 fa fd ["_law_script"] (BR (K w.params))):
 W.WalkO q loose XP YP l.row.toRowW d [] (fun f vs=>PySem.call f vs):=
 L2.walk_of (n:=63) (k:=8) (x := "_law_script") (CX:=fun _=>mZ) (sp:=fun w=>BR (K w.params)) hn (by decide) hdf ⟨fun _=>rfl,by decide,by decide,rfl⟩ hY F (fun _ _ a ns hl _ hS=>⟨a,ns,rfl,hS,hl,fun _=>rfl⟩) fun _ _ _ _ _ z=>z
end Law
namespace PySem.W.Fast
def tw5507607118772364545:=0
def tw17286233673202159327:=0
def tw2561137929618461082:=0
def tw4897447091963088071:=0
def tw13069906719210132730:=0
def tw15697968786662844323:=0
def tw5415484608689107148:=0
def tw3485164310077529917:=0
def tw5572106083246342575:=0
def tw7119998267811245266:=0
def tw1333062671868888792:=0
def tw10831105437294389306:=0
def tw14618354899658080879:=0
def tw1036727708233213602:=0
def tw14970825664723208715:=0
def tw11876032262706783615:=0
def tw3112773916144748118:=0
def tw8154507888386127028:=0
def tw12892707896642611723:=0
def tw12425265276327123873:=0
end PySem.W.Fast
open PySem PySem.W PyProof.Rows
set_option maxRecDepth 100000 in
set_option maxHeartbeats 0 in
theorem PySem.Challenge.cw_hushwise_k08_strangers_holds : PySem.Challenge.rw_hushwise_k08_strangers.Holds := by
 w_on; o_law; k_head; (case hw=>w_witness2)
 k_fill
 refine Law.walk (l:=PySem.Challenge.rw_hushwise_k08_strangers) rfl rfl (fun w h Y=>W.kIn_of Y) ?F
 case F=>
  intro w mg fa h KX G hmg
  refine' Law.all_mk KX G hmg ?aC_Order ?pg_Order ?hd_Order ?po_Order ?sa_Order ?mk_Order ?kc_Order ?n_Order_names ?n_Order_above ?n_Order_joins ?n_Order_meets ?n_Order_lowest ?n_Order_highest ?aC_HushError ?ex_HushError ?aC_NoName ?ex_NoName ?mr_NoName_HushError ?xcg ?xtk ?xga_NoName ?xgt_NoName ?xme_NoName ?xmo_NoName ?xic_NoName ?xca_NoName ?aV_NoFit ?ty_NoFit ?cl_NoFit ?mv_NoName_NoFit ?nq_NoName_NoFit ?aV_NoInput ?ty_NoInput ?cl_NoInput ?mv_NoName_NoInput ?nq_NoName_NoInput ?aV_NoName ?ty_NoName ?cl_NoName ?mv_NoName_NoName ?aV_NoOrder ?ty_NoOrder ?cl_NoOrder ?mv_NoName_NoOrder ?nq_NoName_NoOrder ?aV_NoRow ?ty_NoRow ?cl_NoRow ?mv_NoName_NoRow ?nq_NoName_NoRow ?aV_NoText ?ty_NoText ?cl_NoText ?mv_NoName_NoText ?nq_NoName_NoText ?mv_NoName_ValueError ?a1 ?l1 ?c1 ?k1 ?a2 ?l2 ?c2 ?k2 ?a3 ?l3 ?c3 ?k3 ?a4 ?l4 ?c4 ?k4 ?a5 ?l5 ?c5 ?k5 ?a6 ?l6 ?c6 ?k6 ?a7 ?l7 ?c7 ?k7 ?a8 ?l8 ?c8 ?k8 ?a9 ?l9 ?c9 ?k9 ?a10 ?l10 ?c10 ?k10 ?a11 ?l11 ?c11 ?k11 ?a12 ?l12 ?c12 ?k12 ?a13 ?l13 ?c13 ?k13 ?a14 ?l14 ?c14 ?k14 ?a15 ?l15 ?c15 ?k15 ?a16 ?l16 ?c16 ?k16 ?a17 ?l17 ?c17 ?k17 ?a18 ?l18 ?c18 ?k18 ?a19 ?l19 ?c19 ?k19 ?a20 ?l20 ?c20 ?k20 ?a21 ?l21 ?c21 ?k21 ?a22 ?l22 ?c22 ?k22 ?a23 ?l23 ?c23 ?k23 ?a24 ?l24 ?c24 ?k24 ?a25 ?l25 ?c25 ?k25 ?a26 ?i26 ?l26 ?c26 ?k26 ?a27 ?i27 ?l27 ?c27 ?k27 ?a28 ?i28 ?l28 ?c28 ?k28 ?a29 ?i29 ?l29 ?c29 ?k29 ?a30 ?i30 ?l30 ?c30 ?k30 ?a31 ?i31 ?l31 ?c31 ?k31 ?a32 ?i32 ?l32 ?c32 ?k32 ?a33 ?i33 ?l33 ?c33 ?k33 ?a34 ?i34 ?l34 ?c34 ?k34 ?z0 ?z1 ?z2 ?z3 ?z4 ?z5 ?z6 ?y_LETTERS Law.law_true
  case aC_Order=>k_is
  case pg_Order=>k_is
  case hd_Order=>k_is
  case po_Order=>k_is
  case sa_Order=>k_is
  case mk_Order=>k_is
  case kc_Order=>k_is
  case n_Order_names=>k_is
  case n_Order_above=>k_is
  case n_Order_joins=>k_is
  case n_Order_meets=>k_is
  case n_Order_lowest=>k_is
  case n_Order_highest=>k_is
  case aC_HushError=>k_is
  (case ex_HushError=>k_exc)
  case aC_NoName=>k_is
  (case ex_NoName=>k_exc)
  case mr_NoName_HushError=>k_is
  case xcg=>k_is
  case xtk=>k_is
  case xga_NoName=>k_is
  case xgt_NoName=>k_is
  case xme_NoName=>k_is
  case xmo_NoName=>k_is
  case xic_NoName=>k_is
  case xca_NoName=>k_is
  case aV_NoFit=>k_is
  case ty_NoFit=>k_is
  case cl_NoFit=>k_is
  case mv_NoName_NoFit=>k_is
  (case nq_NoName_NoFit=>exact rfl)
  case aV_NoInput=>k_is
  case ty_NoInput=>k_is
  case cl_NoInput=>k_is
  case mv_NoName_NoInput=>k_is
  (case nq_NoName_NoInput=>exact rfl)
  case aV_NoName=>k_is
  case ty_NoName=>k_is
  case cl_NoName=>k_is
  case mv_NoName_NoName=>k_is
  case aV_NoOrder=>k_is
  case ty_NoOrder=>k_is
  case cl_NoOrder=>k_is
  case mv_NoName_NoOrder=>k_is
  (case nq_NoName_NoOrder=>exact rfl)
  case aV_NoRow=>k_is
  case ty_NoRow=>k_is
  case cl_NoRow=>k_is
  case mv_NoName_NoRow=>k_is
  (case nq_NoName_NoRow=>exact rfl)
  case aV_NoText=>k_is
  case ty_NoText=>k_is
  case cl_NoText=>k_is
  case mv_NoName_NoText=>k_is
  (case nq_NoName_NoText=>exact rfl)
  case mv_NoName_ValueError=>k_is
  case a1=>k_is
  case l1=>k_is
  case c1=>k_is
  case k1=>k_is
  case a2=>k_is
  case l2=>k_is
  case c2=>k_is
  case k2=>k_is
  case a3=>k_is
  case l3=>k_is
  case c3=>k_is
  case k3=>k_is
  case a4=>k_is
  case l4=>k_is
  case c4=>k_is
  case k4=>k_is
  case a5=>k_is
  case l5=>k_is
  case c5=>k_is
  case k5=>k_is
  case a6=>k_is
  case l6=>k_is
  case c6=>k_is
  case k6=>k_is
  case a7=>k_is
  case l7=>k_is
  case c7=>k_is
  case k7=>k_is
  case a8=>k_is
  case l8=>k_is
  case c8=>k_is
  case k8=>k_is
  case a9=>k_is
  case l9=>k_is
  case c9=>k_is
  case k9=>k_is
  case a10=>k_is
  case l10=>k_is
  case c10=>k_is
  case k10=>k_is
  case a11=>k_is
  case l11=>k_is
  case c11=>k_is
  case k11=>k_is
  case a12=>k_is
  case l12=>k_is
  case c12=>k_is
  case k12=>k_is
  case a13=>k_is
  case l13=>k_is
  case c13=>k_is
  case k13=>k_is
  case a14=>k_is
  case l14=>k_is
  case c14=>k_is
  case k14=>k_is
  case a15=>k_is
  case l15=>k_is
  case c15=>k_is
  case k15=>k_is
  case a16=>k_is
  case l16=>k_is
  case c16=>k_is
  case k16=>k_is
  case a17=>k_is
  case l17=>k_is
  case c17=>k_is
  case k17=>k_is
  case a18=>k_is
  case l18=>k_is
  case c18=>k_is
  case k18=>k_is
  case a19=>k_is
  case l19=>k_is
  case c19=>k_is
  case k19=>k_is
  case a20=>k_is
  case l20=>k_is
  case c20=>k_is
  case k20=>k_is
  case a21=>k_is
  case l21=>k_is
  case c21=>k_is
  case k21=>k_is
  case a22=>k_is
  case l22=>k_is
  case c22=>k_is
  case k22=>k_is
  case a23=>k_is
  case l23=>k_is
  case c23=>k_is
  case k23=>k_is
  case a24=>k_is
  case l24=>k_is
  case c24=>k_is
  case k24=>k_is
  case a25=>k_is
  case l25=>k_is
  case c25=>k_is
  case k25=>k_is
  case a26=>k_is
  case i26=>k_is
  case l26=>k_is
  case c26=>k_is
  case k26=>k_is
  case a27=>k_is
  case i27=>k_is
  case l27=>k_is
  case c27=>k_is
  case k27=>k_is
  case a28=>k_is
  case i28=>k_is
  case l28=>k_is
  case c28=>k_is
  case k28=>k_is
  case a29=>k_is
  case i29=>k_is
  case l29=>k_is
  case c29=>k_is
  case k29=>k_is
  case a30=>k_is
  case i30=>k_is
  case l30=>k_is
  case c30=>k_is
  case k30=>k_is
  case a31=>k_is
  case i31=>k_is
  case l31=>k_is
  case c31=>k_is
  case k31=>k_is
  case a32=>k_is
  case i32=>k_is
  case l32=>k_is
  case c32=>k_is
  case k32=>k_is
  case a33=>k_is
  case i33=>k_is
  case l33=>k_is
  case c33=>k_is
  case k33=>k_is
  case a34=>k_is
  case i34=>k_is
  case l34=>k_is
  case c34=>k_is
  case k34=>k_is
  case z0=>k_is
  case z1=>k_is
  case z2=>k_is
  case z3=>k_is
  case z4=>k_is
  case z5=>k_is
  case z6=>k_is
  case y_LETTERS=>k_is
