import PyProof.Rows.All
import Wide.All
import OpenK.AllK
import Wide.FinOn
import Lean
import PyProof.EqAt
import PyProof.EqKinds
import PyProof.TupleCall
import PyProof.NeKinds
import PyProof.StrBlockI
import PyProof.WalksEnum
import PyProof.EnumMake
import PyProof.ZipIter
import PyProof.Rows.SortStr
import PyProof.Rows.SetFrom
import PyProof.CollectWalk
import PyProof.SetRoads
import PyProof.DictWalks
import PyProof.SumWalk
import PyProof.Rows.SumGenD
import PyProof.DictItems
import KE.KEqDict
import PyProof.AutoSeq1
import PySem.Challenge.RW_hushwise_k04_one_under_another
set_option Elab.async false
set_option linter.all false
set_option bootstrap.genMatcherCode false
set_option genSizeOf false
set_option compiler.extract_closed false
set_option maxRecDepth 100000
set_option maxHeartbeats 8000000
noncomputable abbrev FG:=PySem.W.Frag
namespace L2
open PySem PySem.Spec PyProof.Rows
variable {pins:List (Addr × Obj)} {E:Value->Shared->Prop} {s:Shared} {A:Around} {w:World} {P:Program}
noncomputable abbrev Key:=Sum Int Str
noncomputable def keyIs:Key->Value->Bool
  | .inl k,v=>Value.isInt k v
  | .inr x,v=>Value.isStrOf x v
noncomputable def keyH (w:World):Key->Int
  | .inl k=>hashInt k
  | .inr x=>hashStr w x
theorem keyIs_shape:∀ {k:Key} {v:Value},keyIs k v=true->(∃ i t,k=Sum.inl i/\v=Value.int i t)\/(∃ x t,k=Sum.inr x/\v=Value.str x t)
  | .inl i,v,h=>by
    obtain ⟨t,e⟩:=Value.isInt_shape (k:=i) (v:=v) h
    exact .inl ⟨i,t,rfl,e⟩
  | .inr x,v,h=>by
    obtain ⟨t,e⟩:=Value.isStrOf_shape (x:=x) (v:=v) h
    exact .inr ⟨x,t,rfl,e⟩
theorem keyIs_int (i:Int) (t:Tok):keyIs (.inl i) (.int i t)=true:=by simp [keyIs,Value.isInt]
theorem keyIs_str (x:Str) (t:Tok):keyIs (.inr x) (.str x t)=true:=by simp [keyIs,Value.isStrOf]
theorem key_ll (a b:Int):decide ((Sum.inl a:Key)=Sum.inl b)=(a == b):=by
  by_cases e:a=b
  · subst e; simp
  · have h:¬ (Sum.inl a:Key)=Sum.inl b:=fun q=>e (Sum.inl.inj q)
    rw [decide_eq_false h]
    exact (beq_eq_false_iff_ne.mpr e).symm
theorem key_rr (a b:Str):decide ((Sum.inr a:Key)=Sum.inr b)=decide (a=b):=by
  by_cases e:a=b
  · subst e; simp
  · have h:¬ (Sum.inr a:Key)=Sum.inr b:=fun q=>e (Sum.inr.inj q)
    rw [decide_eq_false h,decide_eq_false e]
theorem key_lr (a:Int) (b:Str):decide ((Sum.inl a:Key)=Sum.inr b)=false:=decide_eq_false (fun q=>nomatch q)
theorem key_rl (a:Str) (b:Int):decide ((Sum.inr a:Key)=Sum.inl b)=false:=decide_eq_false (fun q=>nomatch q)
noncomputable def mixKind (prog:Program) (w:World):PySem.KeyKind prog w Key where
  is:=keyIs
  hash:=keyH w
  inj:=fun v a b ha hb=>by
    rcases keyIs_shape ha with ⟨i,t,rfl,rfl⟩ | ⟨x,t,rfl,rfl⟩
    · rcases keyIs_shape hb with ⟨j,u,rfl,e⟩ | ⟨y,u,rfl,e⟩
      · injection e with e1 _; rw [e1]
      · exact nomatch e
    · rcases keyIs_shape hb with ⟨j,u,rfl,e⟩ | ⟨y,u,rfl,e⟩
      · exact nomatch e
      · injection e with e1 _; rw [e1]
  byValue:=fun k v h=>by
    rcases keyIs_shape h with ⟨i,t,rfl,rfl⟩ | ⟨x,t,rfl,rfl⟩ <;> rfl
  pyHash:=fun hv h=>by
    rcases keyIs_shape hv with ⟨i,t,rfl,rfl⟩ | ⟨x,t,rfl,rfl⟩
    · exact wpAny_pyHash_int h
    · exact wpAny_pyHash_str h
  eqBool:=fun hu hv h=>by
    rcases keyIs_shape hu with ⟨i,t,rfl,rfl⟩ | ⟨x,t,rfl,rfl⟩
    · rcases keyIs_shape hv with ⟨j,u,rfl,rfl⟩ | ⟨y,u,rfl,rfl⟩
      · rw [key_ll] at h; exact wpAny_eqBool_int h
      · rw [key_lr] at h; exact SeqAt.EqAt.int_str i t y u _ _ _ _ h
    · rcases keyIs_shape hv with ⟨j,u,rfl,rfl⟩ | ⟨y,u,rfl,rfl⟩
      · rw [key_rl] at h; exact SeqAt.EqAt.str_int x t j u _ _ _ _ h
      · rw [key_rr] at h; exact wpAny_eqBool_str h
  «strs»:=fun k x t v h=>by
    rcases keyIs_shape h with ⟨i,u,rfl,e⟩ | ⟨y,u,rfl,e⟩
    · exact nomatch e
    · injection e with e1 _
      subst e1
      cases v <;> rfl
theorem mixKind_int (prog:Program) (w:World) (i:Int) (t:Tok):(mixKind prog w).is (.inl i) (.int i t)=true:=keyIs_int i t
theorem mixKind_str (prog:Program) (w:World) (x:Str) (t:Tok):(mixKind prog w).is (.inr x) (.str x t)=true:=keyIs_str x t
inductive V where
  | non | bl (b:Bool) | int (i:Int) | str (x:Str) | byt (b:Array UInt8) | flt (b:UInt64) | ref (a:Addr) | ty (n:String)
  deriving DecidableEq
noncomputable def RelV:V->Value->Prop
  | .non,u=>u=Value.none
  | .bl b,u=>u=Value.bool b
  | .int i,u=>∃ t,u=Value.int i t
  | .str x,u=>∃ t,u=Value.str x t
  | .byt b,u=>∃ t,u=Value.bytes b t
  | .flt b,u=>∃ t,u=Value.float b t
  | .ref a,u=>u=Value.ref a
  | .ty n,u=>u=Value.type n
noncomputable abbrev Vals:List V->List Value->Prop:=Paired RelV
theorem Vals.length {xs:List V} {us:List Value} (r:Vals xs us):xs.length=us.length:=Paired.length r
theorem Vals.get:∀ {xs:List V} {us:List Value} {i:Nat} {x:V},Vals xs us->xs[i]?=some x->∃ u,us[i]?=some u/\RelV x u
  | _,_,_,_,.nil,e=>by simp at e
  | _,_,0,_,.cons r _,e=>by simp at e; subst e; exact ⟨_,rfl,r⟩
  | _,_,i + 1,x,.cons _ t,e=>by
    obtain ⟨u,h1,h2⟩:=Vals.get (i:=i) (x:=x) t (by simpa using e)
    exact ⟨u,by simpa using h1,h2⟩
theorem Vals.set {x:V} {u:Value} (r:RelV x u):∀ {xs:List V} {us:List Value} (i:Nat),Vals xs us->Vals (xs.set i x) (us.set i u)
  | _,_,_,.nil=>.nil
  | _,_,0,.cons _ t=>.cons r t
  | _,_,i + 1,.cons q t=>.cons q (Vals.set r i t)
theorem Vals.append:∀ {xs ys:List V} {us ws:List Value},Vals xs us->Vals ys ws->Vals (xs++ys) (us++ws)
  | _,_,_,_,.nil,s=>s
  | _,_,_,_,.cons r t,s=>.cons r (Vals.append t s)
theorem Vals.take:∀ {xs:List V} {us:List Value} (n:Nat),Vals xs us->Vals (xs.take n) (us.take n)
  | _,_,0,_=>.nil
  | _,_,_ + 1,.nil=>.nil
  | _,_,n + 1,.cons r t=>.cons r (Vals.take n t)
theorem Vals.drop:∀ {xs:List V} {us:List Value} (n:Nat),Vals xs us->Vals (xs.drop n) (us.drop n)
  | _,_,0,r=>r
  | _,_,_ + 1,.nil=>.nil
  | _,_,n + 1,.cons _ t=>Vals.drop n t
noncomputable def RelO:Option V->Option Value->Prop
  | some v,some u=>RelV v u
  | none,none=>True
  | _,_=>False
noncomputable def KV {κ:Type}:List (κ × V)->List (κ × Value)->Prop:=Paired fun (p:κ × V) (q:κ × Value)=>p.1=q.1/\RelV p.2 q.2
noncomputable def kV:Key->V
  | .inl i=>.int i
  | .inr x=>.str x
inductive HO where
  
  | lst (xs:List V)
  
  | tup (xs:List V)
  
  | dK (kvs:List (Key × V)) | dT (kvs:List (List Key × V))
  
  | set (S:Int->Bool) (n:Nat)
  
  | ins (C dx:Addr) (fs:List (Str × V))
  
  | own (x:Addr)
  
  | xd (fs:List (Str × V))
  
  | met (f x:Addr)
  
  | rng (lo hi:Int)
  
  | frz (o:Obj) (u:HO)
  
  | tbl (ps:Array Value)
  
  | ext (φ:Heap->Prop)
noncomputable abbrev Hp:=Addr->Option HO
noncomputable def upd (H:Hp) (a:Addr) (o:HO):Hp:=fun b=>if b=a then some o else H b
theorem upd_same {H:Hp} {a:Addr} {o:HO}:upd H a o a=some o:=by unfold upd; rw [if_pos rfl]
theorem upd_ne {H:Hp} {a b:Addr} {o:HO} (h:b ≠ a):upd H a o b=H b:=by unfold upd; rw [if_neg h]
theorem ne_of {H:Hp} {a b:Addr} {o u:HO} (h:H a=some o) (h':H b=some u) (d:o ≠ u):a ≠ b:=by
  intro e; subst e; rw [h] at h'; exact d (Option.some.inj h')
theorem ne_of_none {H:Hp} {a b:Addr} {o:HO} (h:H a=some o) (h':H b=none):a ≠ b:=by
  intro e; subst e; rw [h] at h'; cases h'
section
variable (P:Program) (w:World)
noncomputable def ObjOk (H:Hp) (h:Heap) (a:Addr):HO->Prop
  | .lst xs=>xs.length<=sizeLine/\∃ (its:List Value) (n:Nat),Vals xs its/\h.get? a=some { cls:=.type "list",data:=.seq its.toArray n }
  | .tup xs=>xs.length<=sizeLine/\∃ its:List Value,Vals xs its/\IsTup h a its.toArray
  | .dK kvs=>kvs.length<=sizeLine/\(a == sysModules)=false/\∃ vs,KV kvs vs/\h.DictOf (mixKind P w) a vs
  | .dT kvs=>kvs.length<=sizeLine/\(a == sysModules)=false/\∃ xs:List (List Key × Addr × Value),
      Paired (fun (p:List Key × V) (q:List Key × Addr × Value)=>p.1=q.1/\H q.2.1=some (.tup (p.1.map kV))/\RelV p.2 q.2.2) kvs xs/\
      ∃ o es ep,h.get? a=some o/\o.ExactDict/\o.data=.dict es ep/\es.toList=xs.map (entryOfKey (tupleKind (mixKind P w)))/\(xs.map (·.1)).Nodup
  | .set S n=>h.SetOf (intKind P w) a S n
  | .ins C dx fs=>H dx=some (.own a)/\fs.length<=1000/\dx ≠ a/\h.get? a=some (PySem.W.instObj C dx)/\
      ∃ mA,h.Ns1 dx mA/\(∀ f,RelO (fs.lookup f) (mA f))/\PySem.Within mA (fs.map (·.1))
  | .own _=>∃ o,h.get? a=some o
  | .xd fs=>∃ mA,h.Ns1 a mA/\∀ f,RelO (fs.lookup f) (mA f)
  | .rng lo hi=>∃ t u v,h.get? a=some { cls:=.type "range",data:=.fields #[.int lo t,.int hi u,.int 1 v] }
  | .frz o u=>h.get? a=some o/\ObjOk H h a u
  | .tbl ps=>h.get? a=some { cls:=.none,data:=.fields ps }
  | .met f x=>h.get? a=some (PySem.W.methodObj (.ref f) (.ref x))
  | .ext φ=>φ h/\(∃ o,h.get? a=some o)/\∀ h1 h2:Heap,φ h1->(∀ o,h1.get? a=some o->h2.get? a=some o)->φ h2
noncomputable def HOk (H:Hp) (h:Heap):Prop:=∀ a o,H a=some o->ObjOk P w H h a o
end
section
variable {P:Program} {w:World} {H H':Hp} {h h':Heap} {a:Addr} {o:HO}
theorem ObjOk.lt (x:ObjOk P w H h a o):a < h.objs.size:=by
  cases o with
  | lst xs=>obtain ⟨_,_,_,_,e⟩:=x; exact Heap.lt_size e
  | tup xs=>obtain ⟨_,_,_,p⟩:=x; exact p.lt
  | dK kvs=>obtain ⟨_,_,_,_,o,_,_,e,_⟩:=x; exact Heap.lt_size e
  | dT kvs=>obtain ⟨_,_,_,_,o,_,_,e,_⟩:=x; exact Heap.lt_size e
  | set S n=>obtain ⟨o,_,_,_,e,_⟩:=x; exact Heap.lt_size e
  | ins C dx fs=>obtain ⟨_,_,_,e,_⟩:=x; exact Heap.lt_size e
  | own y=>obtain ⟨_,e⟩:=x; exact Heap.lt_size e
  | xd fs=>obtain ⟨_,⟨_,_,_,e,_⟩,_⟩:=x; exact Heap.lt_size e
  | rng lo hi=>obtain ⟨_,_,_,e⟩:=x; exact Heap.lt_size e
  | frz ob u=>obtain ⟨e,_⟩:=x; exact Heap.lt_size e
  | tbl ps=>exact Heap.lt_size (show h.get? a=some _ from x)
  | met f y=>exact Heap.lt_size (show h.get? a=some _ from x)
  | ext φ=>obtain ⟨_,⟨_,e⟩,_⟩:=x; exact Heap.lt_size e
theorem Paired.mapP {α β:Type} {F G:α->β->Prop}:∀ {l₁:List α} {l₂:List β},Paired F l₁ l₂->(∀ a b,F a b->G a b)->Paired G l₁ l₂
  | _,_,.nil,_=>.nil
  | _,_,.cons r t,f=>.cons (f _ _ r) (Paired.mapP t f)
theorem ObjOk.stay (x:ObjOk P w H h a o) (k:∀ b u,(b=a\/H b=some (.own a))->h.get? b=some u->h'.get? b=some u)
    (ho:∀ b,H b=some (.own a)->H' b=some (.own a)) (ht:∀ b xs,H b=some (.tup xs)->H' b=some (.tup xs)):ObjOk P w H' h' a o:=by
  induction o with
  | lst xs=>obtain ⟨z,its,n,r,e⟩:=x; exact ⟨z,its,n,r,k _ _ (.inl rfl) e⟩
  | tup xs=>obtain ⟨z,its,r,ob,e,c⟩:=x; exact ⟨z,its,r,ob,k _ _ (.inl rfl) e,c⟩
  | dK kvs=>obtain ⟨z,y,vs,r,ob,es,ep,e,c⟩:=x; exact ⟨z,y,vs,r,ob,es,ep,k _ _ (.inl rfl) e,c⟩
  | dT kvs=>
    obtain ⟨z,y,xs,r,ob,es,ep,e,c⟩:=x
    exact ⟨z,y,xs,Paired.mapP r fun p q z=>⟨z.1,ht _ _ z.2.1,z.2.2⟩,ob,es,ep,k _ _ (.inl rfl) e,c⟩
  | set S n=>obtain ⟨ob,es,ep,t,e,c⟩:=x; exact ⟨ob,es,ep,t,k _ _ (.inl rfl) e,c⟩
  | ins C dx fs=>
    obtain ⟨d,z,ne,e,mA,⟨od,es,ep,e2,c⟩,r⟩:=x
    exact ⟨ho _ d,z,ne,k _ _ (.inl rfl) e,mA,⟨od,es,ep,k _ _ (.inr d) e2,c⟩,r⟩
  | own y=>obtain ⟨ob,e⟩:=x; exact ⟨ob,k _ _ (.inl rfl) e⟩
  | xd fs=>obtain ⟨mA,⟨od,es,ep,e,c⟩,r⟩:=x; exact ⟨mA,⟨od,es,ep,k _ _ (.inl rfl) e,c⟩,r⟩
  | rng lo hi=>obtain ⟨t,u,v,e⟩:=x; exact ⟨t,u,v,k _ _ (.inl rfl) e⟩
  | frz ob u ih=>obtain ⟨e,q⟩:=x; exact ⟨k _ _ (.inl rfl) e,ih q⟩
  | tbl ps=>
    have e:h.get? a=some { cls:=.none,data:=.fields ps }:=x
    show h'.get? a=some { cls:=.none,data:=.fields ps }
    exact k a _ (.inl rfl) e
  | met f y=>
    have e:h.get? a=some (PySem.W.methodObj (.ref f) (.ref y)):=x
    show h'.get? a=some (PySem.W.methodObj (.ref f) (.ref y))
    exact k a _ (.inl rfl) e
  | ext φ=>obtain ⟨p,⟨o,e⟩,st⟩:=x; exact ⟨st _ _ p fun o q=>k _ _ (.inl rfl) q,⟨o,k _ _ (.inl rfl) e⟩,st⟩
theorem HOk.lt (x:HOk P w H h) (e:H a=some o):a < h.objs.size:=(x a o e).lt
theorem HOk.fresh (x:HOk P w H h) (e:h.objs.size<=a):H a=none:=by
  cases q:H a with
  | none=>rfl
  | some u=>exact absurd (Nat.lt_of_lt_of_le (x.lt q) e) (Nat.lt_irrefl _)
theorem HOk.kept (x:HOk P w H h) (k:∀ b u,h.get? b=some u->h'.get? b=some u):HOk P w H h':=fun a o e=>
  (x a o e).stay (fun b u _ q=>k b u q) (fun _ q=>q) fun _ _ q=>q
theorem HOk.laid (x:HOk P w H h) (k:∀ b u,h.get? b=some u->h'.get? b=some u) (hp:h.objs.size<=a) (new:ObjOk P w (upd H a o) h' a o):HOk P w (upd H a o) h':=fun b u e=>by
  have hn:=x.fresh hp
  by_cases hb:b=a
  · subst hb; rw [upd_same] at e; cases e; exact new
  · rw [upd_ne hb] at e
    exact (x b u e).stay (fun c v _ q=>k c v q) (fun c q=>by rw [upd_ne (ne_of_none q hn)]; exact q) fun c xs q=>by rw [upd_ne (ne_of_none q hn)]; exact q
end
noncomputable def Rd (H:Hp) (a:Addr) (u:HO):Prop:=H a=some u\/∃ o,H a=some (.frz o u)
theorem Rd.ok {H:Hp} {h:Heap} {a:Addr} {u:HO} (r:Rd H a u) (x:HOk P w H h):ObjOk P w H h a u:=by
  rcases r with r | ⟨o,r⟩
  · exact x a u r
  · obtain ⟨_,q⟩:=x a _ r
    exact q
noncomputable def Mut:Option HO->Prop
  | some (.lst _)=>True
  | some (.dK _)=>True
  | some (.dT _)=>True
  | some (.set _ _)=>True
  | some (.ins _ _ _)=>True
  | some (.ext _)=>True
  | _=>False
section
variable {P:Program} {w:World} {H:Hp} {h h':Heap} {x e:Addr} {o':HO}
theorem HOk.write (ok:HOk P w H h) (mu:Mut (H x)) (he:e=x\/H e=some (.own x)) (k:∀ b u,b ≠ e->h.get? b=some u->h'.get? b=some u) (heo:∃ u,h'.get? e=some u)
    (new:ObjOk P w (upd H x o') h' x o'):HOk P w (upd H x o') h':=fun b u q=>by
  have nown:∀ c y,H c=some (.own y)->c ≠ x:=fun c y r z=>by subst z; rw [r] at mu; exact mu
  have ntup:∀ c xs,H c=some (.tup xs)->c ≠ x:=fun c xs r z=>by subst z; rw [r] at mu; exact mu
  by_cases hb:b=x
  · subst hb; rw [upd_same] at q; cases q; exact new
  · rw [upd_ne hb] at q
    by_cases hbe:b=e
    · have q':H b=some (.own x):=by
        rcases he with z | z
        · exact absurd (hbe.trans z) hb
        · rw [hbe]; exact z
      rw [q] at q'; cases q'
      obtain ⟨v,hv⟩:=heo
      exact ⟨v,by rw [hbe]; exact hv⟩
    · refine (ok b u q).stay (fun c v hc r=>k c v ?_ r) (fun c r=>by rw [upd_ne (nown c b r)]; exact r) fun c xs r=>by rw [upd_ne (ntup c xs r)]; exact r
      rcases hc with rfl | hc
      · exact hbe
      · rintro rfl
        rcases he with z | z
        · exact nown c b hc z
        · rw [hc] at z; cases z; exact hb rfl
end
structure Un (fs ex:List Addr) (H H':Hp) (h h':Heap):Prop where
  keep:∀ b o,h.get? b=some o->H b=none->b ∉ fs->b ∉ ex->h'.get? b=some o
  slot:∀ b o,h.get? b=some o->H b=none->b ∈ fs->b ∉ ex->∃ sl,h'.get? b=some { o with slots:=sl }
  free:∀ b o,h.get? b=some o->H b=none->b ∉ ex->H' b=none
  there:∀ b o,h.get? b=some o->b ∉ ex->∃ o',h'.get? b=some o'
  tups:∀ b xs,H b=some (.tup xs)->H' b=some (.tup xs)
  frzs:∀ b o u,H b=some (.frz o u)->H' b=some (.frz o u)
  tbls:∀ b ps,H b=some (.tbl ps)->∃ more,H' b=some (.tbl (ps++more))
section
variable {fs fs' ex ex':List Addr} {H H1 H2:Hp} {h h1 h2 h':Heap} {a x e:Addr} {o:HO}
theorem Un.any (u:Un fs ex H H1 h h1) {b:Addr} {ob:Obj} (q:h.get? b=some ob) (n:H b=none) (hx:b ∉ ex):∃ sl,h1.get? b=some { ob with slots:=sl }:=by
  by_cases hb:b ∈ fs
  · exact u.slot b ob q n hb hx
  · exact ⟨ob.slots,u.keep b ob q n hb hx⟩
theorem Un.kept (k:∀ b u,h.get? b=some u->h'.get? b=some u):Un fs ex H H h h':=
  ⟨fun b ob q _ _ _=>k b ob q,fun b ob q _ _ _=>⟨ob.slots,k b ob q⟩,fun _ _ _ n _=>n,fun b ob q _=>⟨ob,k b ob q⟩,fun _ _ q=>q,fun _ _ _ q=>q,fun _ ps q=>⟨#[],by rw [q]; simp⟩⟩
theorem Un.refl:Un fs ex H H h h:=Un.kept fun _ _ q=>q
theorem Un.laid (k:∀ b u,h.get? b=some u->h'.get? b=some u) (hp:h.objs.size<=a) (hn:H a=none):Un fs ex H (upd H a o) h h' where
  keep:=fun b u q _ _ _=>k b u q
  slot:=fun b u q _ _ _=>⟨u.slots,k b u q⟩
  free:=fun b u q n _=>by rw [upd_ne (Nat.ne_of_lt (Nat.lt_of_lt_of_le (Heap.lt_size q) hp))]; exact n
  there:=fun b u q _=>⟨u,k b u q⟩
  tups:=fun b xs q=>by rw [upd_ne (ne_of_none q hn)]; exact q
  frzs:=fun b u xs q=>by rw [upd_ne (ne_of_none q hn)]; exact q
  tbls:=fun b ps q=>⟨#[],by rw [upd_ne (ne_of_none q hn),q]; simp⟩
theorem Un.write (mu:Mut (H x)) (he:e=x\/H e=some (.own x)) (k:∀ b u,b ≠ e->h.get? b=some u->h'.get? b=some u) (heo:∃ u,h'.get? e=some u):Un fs ex H (upd H x o) h h':=by
  have hx:∀ b,H b=none->b ≠ x:=fun b n z=>by subst z; rw [n] at mu; exact mu
  have hb:∀ b,H b=none->b ≠ e:=fun b n z=>by
    subst z
    rcases he with r | r
    · exact hx b n r
    · rw [n] at r; cases r
  have hm:∀ b u,H b=some u->¬ Mut (some u)->b ≠ x:=fun b u q nm z=>by subst z; rw [q] at mu; exact nm mu
  refine ⟨fun b u q n _ _=>k b u (hb b n) q,fun b u q n _ _=>⟨u.slots,k b u (hb b n) q⟩,fun b u q n _=>by rw [upd_ne (hx b n)]; exact n,fun b u q _=>?_,
    fun b xs q=>by rw [upd_ne (hm b _ q fun z=>z)]; exact q,fun b u xs q=>by rw [upd_ne (hm b _ q fun z=>z)]; exact q,fun b ps q=>⟨#[],by rw [upd_ne (hm b _ q fun z=>z),q]; simp⟩⟩
  by_cases hbe:b=e
  · subst hbe; exact heo
  · exact ⟨u,k b u hbe q⟩
end
noncomputable def trk (h:Heap) (H:Hp):List Addr:=(List.range h.objs.size).filter fun a=>(H a).isSome
noncomputable def hidT (h:Heap) (H:Hp):Heap:=PySem.W.hideAll h (trk h H)
theorem hidT_size (h:Heap) (H:Hp):(hidT h H).objs.size=h.objs.size:=PySem.W.hideAll_size _ _
theorem hidT_get {h:Heap} {H:Hp} {b:Addr} {o:Obj} (e:h.get? b=some o) (n:H b=none):(hidT h H).get? b=some o:=
  PySem.W.hideAll_get _ e fun hm=>by
    have q:(H b).isSome=true:=(List.mem_filter.mp hm).2
    rw [n] at q; simp at q
theorem of_hidT {h:Heap} {H:Hp} {b:Addr} {o:Obj} (e:(hidT h H).get? b=some o):h.get? b=some o/\H b=none:=by
  have e':h.get? b=some o:=PySem.W.of_hideAll (trk h H) e
  refine ⟨e',?_⟩
  cases q:H b with
  | none=>rfl
  | some x=>
    have hm:b ∈ trk h H:=List.mem_filter.mpr ⟨List.mem_range.mpr (Heap.lt_size e'),by simp [q]⟩
    have z:(hidT h H).get? b=none:=PySem.W.hideAll_none (trk h H) hm
    rw [z] at e; cases e
noncomputable def allNews (g h:Heap) (L:Addr):List (Addr × Obj):=(List.range h.objs.size).filterMap fun a=>if a=L\/(g.get? a).isSome=true then none else (h.get? a).map fun o=>(a,o)
noncomputable def rest (g h:Heap) (L d:Addr):List (Addr × Obj):=(allNews g h L).filter fun p=>decide (p.1 ≠ d)
structure Mod (K:FG) (mg:Str->Option Value) (base:Heap):Prop where
  kin:K.In base
  glob:base.Ns mainGlobals mg
  blt:∃ mb,base.Ns builtinsNs mb/\∀ x:Str,x ≠ "__name__" -> mb x=bootBuiltins x
  nolimit:base.NoLimit
structure Cx where
  prog:Program
  w:World
  K:FG
  mg:Str->Option Value
  base:Heap
  A:Around
  N:List Str
  s₀:Shared
  H0:Hp
  env:Env
  outer:List Env
  stack:List Env
  ex:List Addr
  fn:Str->Bool
  calm:Bool
  pn:List (Addr × Obj)
  xe:Value->Shared->Prop
noncomputable def frs (l:List Env):List Addr:=l.filterMap (·.frame)
noncomputable abbrev Cx.fs (X:Cx):List Addr:=frs X.outer
noncomputable def Vis (sc:Scope) (x:Str):Prop:=sc.names.lookup x=some .local\/sc.names.lookup x=some .cell\/sc.names.lookup x=some .free
noncomputable def Loc (sc:Scope) (x:Str):Prop:=sc.names.lookup x=some .local\/sc.names.lookup x=some .cell
noncomputable def Look (env:Env) (h:Heap) (m:Str->Option Value) (x:Str) (u:Value):Prop:=
  (env.kindOf x=some .local/\m x=some u)\/((env.kindOf x=some .cell\/env.kindOf x=some .free)/\∃ c,env.cells.lookup x=some c/\h.IsCell c (some u))
structure Cx.Ok (X:Cx):Prop where
  mod:Mod X.K X.mg X.base
  kind:X.env.scope.kind=.function
  glob:X.env.globals=mainGlobals
  blt:X.env.builtins=builtinsNs
  above:X.s₀.heap.objs.size<=X.env.locals
  inj:∀ x y c,X.env.cells.lookup x=some c->X.env.cells.lookup y=some c->x=y
  has:∀ x,(X.env.kindOf x=some .cell\/X.env.kindOf x=some .free)->∃ c,X.env.cells.lookup x=some c
  cab:∀ x c,X.fn x=true->X.env.cells.lookup x=some c->X.s₀.heap.objs.size<=c
  hd:X.calm=true->X.A.handled=none
  frames:X.A.frames=some X.stack
  stk:X.stack=X.outer\/(X.stack=X.env::X.outer/\X.env.frame=some X.env.locals)
  exf:∀ b ∈ X.ex,b ≠ X.env.locals/\∀ x c,X.env.cells.lookup x=some c->c ≠ b
  bs:∀ b o,X.base.get? b=some o->X.s₀.heap.get? b=some o/\X.H0 b=none
  bsz:X.base.objs.size<=X.s₀.heap.objs.size
  noex:∀ b o,X.base.get? b=some o->b ∉ X.ex
  exfs:∀ b ∈ X.ex,b ∉ X.fs
  funs:X.s₀.heap.FunFrames X.base X.outer
  frf:∀ b ∈ X.fs,X.H0 b=none
structure Inv (X:Cx) (pins:List (Addr × Obj)) (σ:List (Option V)) (H:Hp) (s:Shared):Prop where
  ok:X.Ok
  os:s.os=X.s₀.os
  bare:AllBare s.gens
  base:Un X.fs X.ex X.H0 H X.s₀.heap s.heap
  loc:∃ m,s.heap.Ns X.env.locals m/\∀ (i:Nat) (x:Str) (v:V),X.N[i]?=some x->σ[i]?=some (some v)->Vis X.env.scope x->∃ u,RelV v u/\Look X.env s.heap m x u
  cell:∀ x c,X.env.cells.lookup x=some c->∃ v,s.heap.IsCell c v
  free:H X.env.locals=none
  freeC:∀ x c,X.env.cells.lookup x=some c->H c=none
  pin:∀ p ∈ X.pn++pins,s.heap.get? p.1=some p.2/\H p.1=none/\p.1 ≠ X.env.locals/\p.1 ∉ X.fs/\∀ v,p.2.data ≠ .cell v
  hok:HOk X.prog X.w H s.heap
  len:σ.length=X.N.length
section
variable {X:Cx} {pins:List (Addr × Obj)} {σ:List (Option V)} {H H':Hp} {s:Shared} {h':Heap}
theorem Cx.Ok.nofr (ok:X.Ok) {b:Addr} {o:Obj} (e:X.base.get? b=some o):b ∉ X.fs:=fun hb=>by
  have:=(ok.funs.mem hb).1
  rw [e] at this; cases this
theorem Inv.bs (I:Inv X pins σ H s):∀ b o,X.base.get? b=some o->s.heap.get? b=some o/\H b=none:=fun b o e=>
  ⟨I.base.keep b o (I.ok.bs b o e).1 (I.ok.bs b o e).2 (I.ok.nofr e) (I.ok.noex b o e),I.base.free b o (I.ok.bs b o e).1 (I.ok.bs b o e).2 (I.ok.noex b o e)⟩
theorem Inv.bk (I:Inv X pins σ H s):∀ b o,X.base.get? b=some o->s.heap.get? b=some o:=fun b o e=>(I.bs b o e).1
theorem Inv.mod (I:Inv X pins σ H s):Mod X.K X.mg X.base:=I.ok.mod
theorem Inv.kIn (I:Inv X pins σ H s):X.K.In s.heap:=I.ok.mod.kin.keeps I.bk
theorem Inv.lt (I:Inv X pins σ H s):X.env.locals < s.heap.objs.size:=let ⟨_,hn,_⟩:=I.loc; hn.lt
theorem Inv.sz (I:Inv X pins σ H s):X.s₀.heap.objs.size<=s.heap.objs.size:=Nat.le_trans I.ok.above (Nat.le_of_lt I.lt)
theorem Inv.nofs (I:Inv X pins σ H s) {a:Addr} (h:s.heap.objs.size<=a):a ∉ X.fs:=fun hb=>by
  obtain ⟨_,o,ho,_⟩:=I.ok.funs.mem hb
  exact absurd (Nat.lt_of_lt_of_le (Heap.lt_size ho) (Nat.le_trans I.sz h)) (Nat.lt_irrefl _)
theorem Inv.cne (I:Inv X pins σ H s):∀ x c,X.env.cells.lookup x=some c->c ≠ X.env.locals:=fun x c e z=>by
  obtain ⟨v,o,ho,hd⟩:=I.cell x c e
  obtain ⟨m,⟨o',es,ep,ho',hd',_⟩,_⟩:=I.loc
  rw [z,ho'] at ho; cases ho; rw [hd'] at hd; cases hd
theorem Inv.funs (I:Inv X pins σ H s):s.heap.FunFrames X.base X.outer:=by
  have all:∀ (l:List Env),(∀ b ∈ frs l,b ∈ X.fs)->X.s₀.heap.FunFrames X.base l->s.heap.FunFrames X.base l:=by
    intro l
    induction l with
    | nil=>intro _ _; trivial
    | cons env r ih=>
      intro hs hl
      obtain ⟨hk,⟨L,o,hf,hn,ho,hd⟩,hr⟩:=hl
      have hL:L ∈ X.fs:=hs L (by unfold frs; rw [List.filterMap_cons,hf]; exact List.mem_cons_self)
      obtain ⟨sl,e⟩:=I.base.slot L o ho (I.ok.frf L hL) hL fun z=>I.ok.exfs L z hL
      exact ⟨hk,⟨L,_,hf,hn,e,hd⟩,ih (fun b hb=>hs b (by unfold frs; rw [List.filterMap_cons,hf]; exact List.mem_cons_of_mem _ hb)) hr⟩
  exact all X.outer (fun _ hb=>hb) I.ok.funs
theorem Inv.stack (I:Inv X pins σ H s):s.heap.FunFrames X.base X.stack:=by
  rcases I.ok.stk with e | ⟨e,hf⟩
  · rw [e]; exact I.funs
  · rw [e]
    obtain ⟨m,hn,_⟩:=I.loc
    refine .cons (by rw [I.ok.kind]; decide) hf hn ?_ I.funs
    exact Heap.get?_none_of_le (Nat.le_trans I.ok.bsz I.ok.above)
theorem Inv.stkSub (I:Inv X pins σ H s):∀ b ∈ frs X.stack,b ∈ X.env.locals::X.fs:=fun b hb=>by
  rcases I.ok.stk with e | ⟨e,hf⟩
  · rw [e] at hb; exact List.mem_cons_of_mem _ hb
  · rw [e] at hb
    unfold frs at hb
    rw [List.filterMap_cons,hf] at hb
    exact hb
theorem Inv.stkFree (I:Inv X pins σ H s):∀ b ∈ frs X.stack,H b=none:=fun b hb=>by
  rcases List.mem_cons.mp (I.stkSub b hb) with e | hb
  · rw [e]; exact I.free
  · obtain ⟨_,o,ho,_⟩:=I.ok.funs.mem hb
    exact I.base.free b o ho (I.ok.frf b hb) fun z=>I.ok.exfs b z hb
theorem Inv.step {g':Array GenState} {t':Nat} {d':Drawn} {ch:List Addr} (I:Inv X pins σ H s)
    (hch:∀ b ∈ ch,(b ∈ X.ex\/X.s₀.heap.objs.size<=b)/\b ≠ X.env.locals/\(∀ x c,X.env.cells.lookup x=some c->c ≠ b)/\∀ p ∈ X.pn++pins,p.1 ≠ b)
    (keep:∀ b o,b ≠ X.env.locals->b ∉ X.fs->b ∉ ch->s.heap.get? b=some o->H b=none->h'.get? b=some o)
    (slot:∀ b o,b ≠ X.env.locals->b ∈ X.fs->b ∉ ch->s.heap.get? b=some o->H b=none->∃ sl,h'.get? b=some { o with slots:=sl }) (free:∀ b o,b ∉ ch->s.heap.get? b=some o->H b=none->H' b=none)
    (there:∀ b o,b ∉ ch->s.heap.get? b=some o->∃ o',h'.get? b=some o')
    (tups:∀ b xs,H b=some (.tup xs)->H' b=some (.tup xs)) (frzs:∀ b o u,H b=some (.frz o u)->H' b=some (.frz o u)) (tbls:∀ b ps,H b=some (.tbl ps)->∃ more,H' b=some (.tbl (ps++more)))
    (ns:∀ m,s.heap.Ns X.env.locals m->h'.Ns X.env.locals m) (hok:HOk X.prog X.w H' h') (hg:AllBare g'):
    Inv X pins σ H' { s with heap:=h',gens:=g',drawn:=d',toks:=t' }:=by
  have neL:∀ b o,X.s₀.heap.get? b=some o->b ≠ X.env.locals:=fun b o e=>Nat.ne_of_lt (Nat.lt_of_lt_of_le (Heap.lt_size e) I.ok.above)
  have neC:∀ b o,X.s₀.heap.get? b=some o->b ∉ X.ex->b ∉ ch:=fun b o e hx hb=>by
    rcases (hch b hb).1 with z | z
    · exact hx z
    · exact absurd (Nat.lt_of_lt_of_le (Heap.lt_size e) z) (Nat.lt_irrefl _)
  have cellK:∀ x c,X.env.cells.lookup x=some c->∀ v,s.heap.IsCell c v->h'.IsCell c v:=fun x c e v ⟨o,ho,hd⟩=>by
    have nch:c ∉ ch:=fun z=>(hch c z).2.2.1 x c e rfl
    by_cases hc:c ∈ X.fs
    · obtain ⟨sl,q⟩:=slot c o (I.cne x c e) hc nch ho (I.freeC x c e)
      exact ⟨_,q,hd⟩
    · exact ⟨o,keep c o (I.cne x c e) hc nch ho (I.freeC x c e),hd⟩
  refine ⟨I.ok,I.os,hg,⟨fun b o e n hb hx=>?_,fun b o e n hb hx=>?_,fun b o e n hx=>?_,fun b o e hx=>?_,fun b xs e=>tups b xs (I.base.tups b xs e),fun b o xs e=>frzs b o xs (I.base.frzs b o xs e),fun b ps e=>?_⟩,?_,fun x c e=>?_,?_,fun x c e=>?_,fun p hp=>?_,hok,I.len⟩
  · exact keep b o (neL b o e) hb (neC b o e hx) (I.base.keep b o e n hb hx) (I.base.free b o e n hx)
  · obtain ⟨sl,e1⟩:=I.base.slot b o e n hb hx
    obtain ⟨sl',e2⟩:=slot b _ (neL b o e) hb (neC b o e hx) e1 (I.base.free b o e n hx)
    exact ⟨sl',e2⟩
  · obtain ⟨o',e1⟩:=I.base.there b o e hx
    exact free b o' (neC b o e hx) e1 (I.base.free b o e n hx)
  · obtain ⟨o',e1⟩:=I.base.there b o e hx
    exact there b o' (neC b o e hx) e1
  · obtain ⟨m1,e1⟩:=I.base.tbls b ps e
    obtain ⟨m2,e2⟩:=tbls b _ e1
    exact ⟨m1++m2,by rw [e2,Array.append_assoc]⟩
  · obtain ⟨m,hn,hl⟩:=I.loc
    refine ⟨m,ns m hn,fun i x v e1 e2 e3=>?_⟩
    obtain ⟨u,r,l⟩:=hl i x v e1 e2 e3
    refine ⟨u,r,?_⟩
    rcases l with l | ⟨k,c,e,z⟩
    · exact .inl l
    · exact .inr ⟨k,c,e,cellK x c e _ z⟩
  · obtain ⟨v,z⟩:=I.cell x c e
    exact ⟨v,cellK x c e v z⟩
  · obtain ⟨m,⟨o,_,_,ho,_⟩,_⟩:=I.loc
    exact free _ o (fun z=>(hch _ z).2.1 rfl) ho I.free
  · obtain ⟨v,o,ho,hd⟩:=I.cell x c e
    exact free c o (fun z=>(hch c z).2.2.1 x c e rfl) ho (I.freeC x c e)
  · obtain ⟨e,n,ne,nf,d⟩:=I.pin p hp
    have nch:p.1 ∉ ch:=fun z=>(hch p.1 z).2.2.2 p hp rfl
    exact ⟨keep p.1 p.2 ne nf nch e n,free p.1 p.2 nch e n,ne,nf,d⟩
theorem Inv.un {t':Nat} (I:Inv X pins σ H s) (u:Un X.fs [] H H' s.heap h') (hok:HOk X.prog X.w H' h'):Inv X pins σ H' { s with heap:=h',toks:=t' }:=by
  obtain ⟨m,⟨o,es,ep,ho,r⟩,_⟩:=id I.loc
  obtain ⟨sl,hL⟩:=u.any ho I.free (by simp)
  exact I.step (g':=s.gens) (d':=s.drawn) (ch:=[]) (fun _ z=>nomatch z) (fun b o _ hb _ e n=>u.keep b o e n hb (by simp)) (fun b o _ hb _ e n=>u.slot b o e n hb (by simp)) (fun b o _ e n=>u.free b o e n (by simp)) (fun b o _ e=>u.there b o e (by simp)) u.tups u.frzs u.tbls (fun m' hm=>by
    obtain ⟨o',es',ep',ho',r'⟩:=hm
    rw [ho] at ho'; cases ho'
    exact ⟨_,es',ep',hL,r'⟩) hok I.bare
theorem Inv.call {g':Array GenState} {t':Nat} {d':Drawn} {ch:List Addr} (I:Inv X pins σ H s) (u:Un (frs X.stack) ch H H' s.heap h') (hok:HOk X.prog X.w H' h') (hg:AllBare g')
    (hch:∀ b ∈ ch,(b ∈ X.ex\/X.s₀.heap.objs.size<=b)/\b ≠ X.env.locals/\(∀ x c,X.env.cells.lookup x=some c->c ≠ b)/\∀ p ∈ X.pn++pins,p.1 ≠ b):
    Inv X pins σ H' { s with heap:=h',gens:=g',drawn:=d',toks:=t' }:=by
  obtain ⟨m,⟨o,es,ep,ho,r⟩,_⟩:=id I.loc
  obtain ⟨sl,hL⟩:=u.any ho I.free fun z=>(hch _ z).2.1 rfl
  exact I.step (ch:=ch) hch (fun b o hL hb hc e n=>u.keep b o e n (fun z=>(List.mem_cons.mp (I.stkSub b z)).elim hL hb) hc) (fun b o _ _ hc e n=>u.any e n hc) (fun b o hc e n=>u.free b o e n hc) (fun b o hc e=>u.there b o e hc) u.tups u.frzs u.tbls (fun m' hm=>by
    obtain ⟨o',es',ep',ho',r'⟩:=hm
    rw [ho] at ho'; cases ho'
    exact ⟨_,es',ep',hL,r'⟩) hok hg
theorem Inv.turned {t':Nat} {it:Addr} (I:Inv X pins σ H s) (k:∀ b o,b ≠ it->s.heap.get? b=some o->h'.get? b=some o) (hn:H it=none) (hL:it ≠ X.env.locals)
    (h1:it ∈ X.ex\/X.s₀.heap.objs.size<=it) (h2:∀ x c,X.env.cells.lookup x=some c->c ≠ it) (h3:∀ p ∈ X.pn++pins,p.1 ≠ it):Inv X pins σ H { s with heap:=h',toks:=t' }:=by
  have nit:∀ b u,H b=some u->b ≠ it:=fun b u e z=>by rw [z,hn] at e; cases e
  refine I.step (g':=s.gens) (d':=s.drawn) (ch:=[it]) (fun b hb=>?_) (fun b o _ _ hc e _=>k b o (fun z=>hc (by simp [z])) e) (fun b o _ _ hc e _=>⟨o.slots,k b o (fun z=>hc (by simp [z])) e⟩) (fun _ _ _ _ n=>n)
    (fun b o hc e=>⟨o,k b o (fun z=>hc (by simp [z])) e⟩) (fun _ _ e=>e) (fun _ _ _ e=>e) (fun b ps e=>⟨#[],by rw [e]; simp⟩) (fun m hm=>?_) (fun b u e=>?_) I.bare
  · have e:b=it:=by simpa using hb
    subst e
    exact ⟨h1,hL,h2,h3⟩
  · obtain ⟨o,es,ep,ho,r⟩:=hm
    exact ⟨o,es,ep,k _ o (Ne.symm hL) ho,r⟩
  · refine (I.hok b u e).stay (fun c v hc q=>k c v ?_ q) (fun _ q=>q) fun _ _ q=>q
    rcases hc with z | z
    · rw [z]; exact nit b u e
    · exact nit c _ z
theorem Inv.tok (I:Inv X pins σ H s) (t:Nat):Inv X pins σ H { s with toks:=t }:=I.un (h':=s.heap) (t':=t) Un.refl I.hok
theorem Inv.kept {t':Nat} (I:Inv X pins σ H s) (k:∀ b u,s.heap.get? b=some u->h'.get? b=some u):Inv X pins σ H { s with heap:=h',toks:=t' }:=I.un (Un.kept k) (I.hok.kept k)
theorem Inv.laid {a:Addr} {o:HO} {t':Nat} (I:Inv X pins σ H s) (k:∀ b u,s.heap.get? b=some u->h'.get? b=some u) (hp:s.heap.objs.size<=a) (new:ObjOk X.prog X.w (upd H a o) h' a o):
    Inv X pins σ (upd H a o) { s with heap:=h',toks:=t' }:=I.un (Un.laid k hp (I.hok.fresh hp)) (I.hok.laid k hp new)
theorem Inv.write {x e:Addr} {o:HO} {t':Nat} (I:Inv X pins σ H s) (mu:Mut (H x)) (he:e=x\/H e=some (.own x)) (k:∀ b u,b ≠ e->s.heap.get? b=some u->h'.get? b=some u) (heo:∃ u,h'.get? e=some u)
    (new:ObjOk X.prog X.w (upd H x o) h' x o):Inv X pins σ (upd H x o) { s with heap:=h',toks:=t' }:=I.un (Un.write mu he k heo) (I.hok.write mu he k heo new)
theorem Inv.pins_of {pins':List (Addr × Obj)} (I:Inv X pins σ H s) (h:∀ p ∈ pins',s.heap.get? p.1=some p.2/\H p.1=none/\p.1 ≠ X.env.locals/\p.1 ∉ X.fs/\∀ v,p.2.data ≠ .cell v):Inv X pins' σ H s:=
  ⟨I.ok,I.os,I.bare,I.base,I.loc,I.cell,I.free,I.freeC,fun p hp=>(List.mem_append.mp hp).elim (fun z=>I.pin p (List.mem_append_left _ z)) (h p),I.hok,I.len⟩
theorem nodup_ix {N:List Str} (hN:N.Nodup) {i j:Nat} {x:Str} (a:N[i]?=some x) (b:N[j]?=some x):i=j:=by
  obtain ⟨h1,e1⟩:=List.getElem?_eq_some_iff.mp a
  obtain ⟨h2,e2⟩:=List.getElem?_eq_some_iff.mp b
  exact (List.getElem_inj hN).mp (e1.trans e2.symm)
theorem store_ok2 {M:Model} {i:Nat} {x:Str} {v:V} {u:Value} {Q:Unit->Shared->Prop} (I:Inv X pins σ H s) (hN:X.N.Nodup) (hi:X.N[i]?=some x) (hx:Loc X.env.scope x) (r:RelV v u)
    (h:∀ s',Inv X pins (σ.set i (some v)) H s'->(∃ a,Heap.SameBut a s.heap s'.heap/\(a=X.env.locals\/X.env.cells.lookup x=some a))->Q () s') (hf:X.fn x=true\/X.env.scope.names.lookup x=some .local:=by first | exact .inl rfl | exact .inr rfl | assumption):wpAny M A (storeName X.env x u) Q E s:=by
  obtain ⟨m,hn,hl⟩:=id I.loc
  have hcls:(X.env.scope.kind == .class || (X.env.scope.kind == .module && X.env.locals != X.env.globals))=false:=by rw [I.ok.kind]; rfl
  have hiσ:i < σ.length:=by rw [I.len]; exact (List.getElem?_eq_some_iff.mp hi).1
  have cne:=I.cne
  have tracked:∀ {a:Addr} {h':Heap},(∃ o,s.heap.get? a=some o/\H a=none)->Heap.SameBut a s.heap h'->HOk X.prog X.w H h':=fun {a h'} ha hs b ob e=>by
    obtain ⟨_,_,hfree⟩:=ha
    refine (I.hok b ob e).stay (fun c w' hc q=>(hs.2 c ?_).trans q) (fun _ q=>q) fun _ _ q=>q
    rintro rfl
    rcases hc with rfl | hc
    · rw [hfree] at e; cases e
    · rw [hfree] at hc; cases hc
  rcases hx with hk | hk
  · refine wpAny_storeName_local hk hn (fun h' hn' hs=>?_) hcls
    obtain ⟨oL,_,_,hoL,_⟩:=id hn
    refine h _ ⟨I.ok,I.os,I.bare,⟨fun b o e n hb hx=>?_,fun b o e n hb hx=>?_,I.base.free,fun b o e hx=>?_,I.base.tups,I.base.frzs,I.base.tbls⟩,⟨_,hn',fun j y v' e1 e2 e3=>?_⟩,fun y c e=>?_,I.free,I.freeC,fun p hp=>?_,tracked ⟨oL,hoL,I.free⟩ hs,by simpa using I.len⟩ ⟨_,hs,.inl rfl⟩
    · exact (hs.2 b (Nat.ne_of_lt (Nat.lt_of_lt_of_le (Heap.lt_size e) I.ok.above))).trans (I.base.keep b o e n hb hx)
    · obtain ⟨sl,e1⟩:=I.base.slot b o e n hb hx
      exact ⟨sl,(hs.2 b (Nat.ne_of_lt (Nat.lt_of_lt_of_le (Heap.lt_size e) I.ok.above))).trans e1⟩
    · obtain ⟨o',e1⟩:=I.base.there b o e hx
      exact ⟨o',(hs.2 b (Nat.ne_of_lt (Nat.lt_of_lt_of_le (Heap.lt_size e) I.ok.above))).trans e1⟩
    · by_cases hj:j=i
      · subst hj
        rw [hi] at e1; cases e1
        rw [List.getElem?_set_self hiσ] at e2
        cases e2
        exact ⟨u,r,.inl ⟨hk,by simp⟩⟩
      · rw [List.getElem?_set_ne (Ne.symm hj)] at e2
        obtain ⟨u',r',q⟩:=hl j y v' e1 e2 e3
        refine ⟨u',r',?_⟩
        rcases q with ⟨k,e⟩ | ⟨k,c,e,z⟩
        · refine .inl ⟨k,?_⟩
          have:y ≠ x:=fun e=>hj (nodup_ix hN e1 (e ▸ hi))
          simp [this,e]
        · exact .inr ⟨k,c,e,z.sameBut hs (cne y c e)⟩
    · obtain ⟨w',z⟩:=I.cell y c e
      exact ⟨w',z.sameBut hs (cne y c e)⟩
    · obtain ⟨e,n,ne,nf,d⟩:=I.pin p hp
      exact ⟨(hs.2 p.1 ne).trans e,n,ne,nf,d⟩
  · have hfn:X.fn x=true:=by
      rcases hf with z | z
      · exact z
      · rw [z] at hk; cases hk
    obtain ⟨c,hc⟩:=I.ok.has x (.inl hk)
    obtain ⟨w',z⟩:=I.cell x c hc
    refine wpAny_storeName_cell I.ok.kind hk hc z (fun h' hc' hs=>?_)
    obtain ⟨oc,hoc,hocd⟩:=id z
    refine h { s with heap:=h' } ⟨I.ok,I.os,I.bare,⟨fun b o e n hb hx=>?_,fun b o e n hb hx=>?_,I.base.free,fun b o e hx=>?_,I.base.tups,I.base.frzs,I.base.tbls⟩,⟨m,hn.sameBut hs (Ne.symm (cne x c hc)),fun j y v' e1 e2 e3=>?_⟩,fun y c' e=>?_,I.free,I.freeC,fun p hp=>?_,tracked ⟨oc,hoc,I.freeC x c hc⟩ hs,by simpa using I.len⟩ ⟨c,hs,.inr hc⟩
    · exact (hs.2 b (Nat.ne_of_lt (Nat.lt_of_lt_of_le (Heap.lt_size e) (I.ok.cab x c hfn hc)))).trans (I.base.keep b o e n hb hx)
    · obtain ⟨sl,e1⟩:=I.base.slot b o e n hb hx
      exact ⟨sl,(hs.2 b (Nat.ne_of_lt (Nat.lt_of_lt_of_le (Heap.lt_size e) (I.ok.cab x c hfn hc)))).trans e1⟩
    · obtain ⟨o',e1⟩:=I.base.there b o e hx
      exact ⟨o',(hs.2 b (Nat.ne_of_lt (Nat.lt_of_lt_of_le (Heap.lt_size e) (I.ok.cab x c hfn hc)))).trans e1⟩
    · by_cases hj:j=i
      · subst hj
        rw [hi] at e1; cases e1
        rw [List.getElem?_set_self hiσ] at e2
        cases e2
        exact ⟨u,r,.inr ⟨.inl hk,c,hc,hc'⟩⟩
      · rw [List.getElem?_set_ne (Ne.symm hj)] at e2
        obtain ⟨u',r',q⟩:=hl j y v' e1 e2 e3
        refine ⟨u',r',?_⟩
        rcases q with q | ⟨k,c',e,z'⟩
        · exact .inl q
        · refine .inr ⟨k,c',e,z'.sameBut hs ?_⟩
          rintro rfl
          exact hj (nodup_ix hN e1 (I.ok.inj _ _ _ e hc ▸ hi))
    · by_cases hcc:c'=c
      · subst hcc; exact ⟨_,hc'⟩
      · obtain ⟨w2,z2⟩:=I.cell y c' e
        exact ⟨w2,z2.sameBut hs hcc⟩
    · obtain ⟨e,n,ne,nf,d⟩:=I.pin p hp
      refine ⟨(hs.2 p.1 ?_).trans e,n,ne,nf,d⟩
      intro q
      rw [q,hoc] at e
      have q':oc=p.2:=Option.some.inj e
      exact d w' (by rw [← q']; exact hocd)
theorem store_ok {M:Model} {i:Nat} {x:Str} {v:V} {u:Value} {Q:Unit->Shared->Prop} (I:Inv X pins σ H s) (hN:X.N.Nodup) (hi:X.N[i]?=some x) (hx:Loc X.env.scope x) (r:RelV v u)
    (h:∀ s',Inv X pins (σ.set i (some v)) H s'->Q () s') (hf:X.fn x=true\/X.env.scope.names.lookup x=some .local:=by first | exact .inl rfl | exact .inr rfl | assumption):wpAny M A (storeName X.env x u) Q E s:=
  store_ok2 I hN hi hx r (fun s' I' _=>h s' I') hf
theorem Inv.call' {s':Shared} {ch:List Addr} (I:Inv X pins σ H s) (ho:s'.os=s.os) (u:Un (frs X.stack) ch H H' s.heap s'.heap) (hok:HOk X.prog X.w H' s'.heap) (hg:AllBare s'.gens)
    (hch:∀ b ∈ ch,(b ∈ X.ex\/X.s₀.heap.objs.size<=b)/\b ≠ X.env.locals/\(∀ x c,X.env.cells.lookup x=some c->c ≠ b)/\∀ p ∈ X.pn++pins,p.1 ≠ b):Inv X pins σ H' s':=by
  obtain ⟨h',g',d',t',o'⟩:=s'
  have e:o'=s.os:=ho
  subst e
  exact I.call (g':=g') (t':=t') (d':=d') u hok hg hch
end
noncomputable abbrev XK:=Value->Option Addr->Hp->Prop
noncomputable abbrev St:=List (Option V)
noncomputable abbrev VK:=V->Hp->Prop
noncomputable abbrev TE:=St->Hp->VK->Prop
noncomputable abbrev TT:=St->Hp->(Bool->Hp->Prop)->Prop
noncomputable abbrev TA:=St->Hp->(List V->Hp->Prop)->Prop
structure Ends where
  nx:St->Hp->Prop
  rt:VK
  bk:St->Hp->Prop:=fun _ _=>False
  ct:St->Hp->Prop:=fun _ _=>False
noncomputable abbrev TS:=Ends->St->Hp->Prop
noncomputable def EP (X:Cx) (pins:List (Addr × Obj)) (σ:St) (Q:VK) (u:Value) (s':Shared):Prop:=∃ v H',Inv X pins σ H' s'/\RelV v u/\Q v H'
noncomputable def TP (X:Cx) (pins:List (Addr × Obj)) (σ:St) (Q:Bool->Hp->Prop) (b:Bool) (s':Shared):Prop:=∃ H',Inv X pins σ H' s'/\Q b H'
noncomputable def AP (X:Cx) (pins:List (Addr × Obj)) (σ:St) (Q:List V->Hp->Prop) (us:List Value) (s':Shared):Prop:=∃ vs H',Inv X pins σ H' s'/\Vals vs us/\Q vs H'
noncomputable def SP (X:Cx) (pins:List (Addr × Obj)) (D:Ends) (f:Flow) (s':Shared):Prop:=
  match f with
  | .next=>∃ σ' H',Inv X pins σ' H' s'/\D.nx σ' H'
  | .brk=>∃ σ' H',Inv X pins σ' H' s'/\D.bk σ' H'
  | .cont=>∃ σ' H',Inv X pins σ' H' s'/\D.ct σ' H'
  | .ret u=>∃ v σ' H',Inv X pins σ' H' s'/\RelV v u/\D.rt v H'
noncomputable def PE (X:Cx) (e:Expr) (t:TE):Prop:=
  ∀ (pins:List (Addr × Obj)) (s:Shared) (σ:St) (H:Hp) (Q:VK),Inv X pins σ H s->t σ H Q->wpAny (model X.prog X.w) X.A (eval e X.env) (EP X pins σ Q) X.xe s
noncomputable def PT (X:Cx) (e:Expr) (t:TT):Prop:=
  ∀ (pins:List (Addr × Obj)) (s:Shared) (σ:St) (H:Hp) (Q:Bool->Hp->Prop),Inv X pins σ H s->t σ H Q->wpAny (model X.prog X.w) X.A (isTrue e X.env (eval e X.env)) (TP X pins σ Q) X.xe s
noncomputable def PW (X:Cx) (e:Expr) (t:TT):Prop:=
  ∀ (whole:Sem Value) (pins:List (Addr × Obj)) (s:Shared) (σ:St) (H:Hp) (Q:Bool->Hp->Prop),Inv X pins σ H s->t σ H Q->wpAny (model X.prog X.w) X.A (isTrue e X.env whole) (TP X pins σ Q) X.xe s
theorem PW.pt {X:Cx} {e:Expr} {t:TT} (h:PW X e t):PT X e t:=h _
noncomputable def PA (X:Cx) (es:List Expr) (t:TA):Prop:=
  ∀ (pos:Pos) (pins:List (Addr × Obj)) (s:Shared) (σ:St) (H:Hp) (Q:List V->Hp->Prop),Inv X pins σ H s->t σ H Q->wpAny (model X.prog X.w) X.A (spliced (backTo pos (starEach es X.env))) (AP X pins σ Q) X.xe s
noncomputable def PS (X:Cx) (st:Stmt) (t:TS):Prop:=
  ∀ (pins:List (Addr × Obj)) (s:Shared) (σ:St) (H:Hp) (D:Ends),Inv X pins σ H s->t D σ H->wpAny (model X.prog X.w) X.A (exec st X.env) (SP X pins D) X.xe s
noncomputable def PSs (X:Cx) (st:List Stmt) (t:TS):Prop:=
  ∀ (pins:List (Addr × Obj)) (s:Shared) (σ:St) (H:Hp) (D:Ends),Inv X pins σ H s->t D σ H->wpAny (model X.prog X.w) X.A (execs st X.env) (SP X pins D) X.xe s
theorem thn {α:Type} {t:Sem α} {Q Q':α->Shared->Prop} {M:Model} (h:wpAny M A t Q E s) (hQ:∀ a s,Q a s->Q' a s):wpAny M A t Q' E s:=wpAny_mono h hQ fun _ _ x=>x
section
variable {X:Cx}
theorem bin {a b:Expr} {ta tb:TE} (ha:PE X a ta) (hb:PE X b tb) {σ:St} {H:Hp} {R:V->V->Hp->Prop} (I:Inv X pins σ H s) (h:ta σ H fun x H1=>tb σ H1 fun y H2=>R x y H2)
    {α:Type} {Q:α->Shared->Prop} {f:Value->Value->Sem α}
    (hf:∀ v u s2 x y H2,Inv X pins σ H2 s2->RelV x v->RelV y u->R x y H2->wpAny (model X.prog X.w) X.A (f v u) Q X.xe s2):
    wpAny (model X.prog X.w) X.A (eval a X.env) (fun v s₁=>wpAny (model X.prog X.w) X.A (eval b X.env) (fun u s₂=>wpAny (model X.prog X.w) X.A (f v u) Q X.xe s₂) X.xe s₁) X.xe s:=by
  refine thn (ha pins s σ H _ I h) fun v s1 ⟨x,H1,I1,r1,q1⟩=>?_
  refine thn (hb pins s1 σ H1 _ I1 q1) fun u s2 ⟨y,H2,I2,r2,q2⟩=>?_
  exact hf v u s2 x y H2 I2 r1 r2 q2
noncomputable def tVar (i:Nat):TE:=fun σ H Q=>∃ v,σ[i]?=some (some v)/\Q v H
noncomputable def tC (v:V):TE:=fun _ H Q=>Q v H
theorem pe_var {i:Nat} {x:Str} {pos:Pos} (hN:X.N[i]?=some x) (hv:Vis X.env.scope x) (hd:(x == ("__debug__" : Str))=false:=by decide) (hcd:(x == ("__classdict__" : Str))=false:=by decide):PE X (.Name x pos) (tVar i):=by
  intro pins s σ H Q I h
  obtain ⟨v,e,h⟩:=h
  obtain ⟨m,hn,hl⟩:=I.loc
  obtain ⟨u,r,l⟩:=hl i x v hN e hv
  have fin:EP X pins σ Q u s:=⟨v,H,I,r,h⟩
  rcases l with ⟨hk,hm⟩ | ⟨hk,c,hc,hcell⟩
  · exact wpAny_Name (wpAny_loadName_local I.ok.kind hk hn hm fin) hd
  · rcases hk with hk | hk
    · exact wpAny_Name (wpAny_loadName_cell I.ok.kind hk hc hcell fin) hd
    · exact wpAny_Name (wpAny_loadName_free I.ok.kind hk hc hcell fin hcd) hd
theorem pe_int {i j pos}:PE X (.Constant (.int i) j pos) (tC (.int i)):=fun _ _ _ H _ I h=>wpAny_Constant_int ⟨.int i,H,I.tok _,⟨_,rfl⟩,h⟩
theorem pe_bl {b j pos}:PE X (.Constant (.bool b) j pos) (tC (.bl b)):=fun _ _ _ H _ I h=>Constant_bool ⟨.bl b,H,I,rfl,h⟩
theorem pe_non {j pos}:PE X (.Constant .none j pos) (tC .non):=fun _ _ _ H _ I h=>Constant_none ⟨.non,H,I,rfl,h⟩
theorem pe_str {x j pos}:PE X (.Constant (.str x) j pos) (tC (.str x)):=fun _ _ _ H _ I h=>Calls.Constant_str ⟨.str x,H,I.tok _,⟨_,rfl⟩,h⟩
noncomputable def Gl (X:Cx) (x:Str):Prop:=X.env.kindOf x=some .globalImplicit
theorem ld_glob {σ:St} {H:Hp} {x:Str} {u:Value} {pos:Pos} {Q:Value->Shared->Prop} (I:Inv X pins σ H s) (hg:Gl X x) (hm:X.mg x=some u) (h:Q u s)
    (hd:(x == ("__debug__" : Str))=false:=by decide):wpAny (model X.prog X.w) X.A (eval (.Name x pos) X.env) Q E s:=
  Calls.Name_function_global I.ok.kind hg (Calls.loadGlobal_global (by rw [I.ok.glob]; exact I.mod.glob.keeps I.bk) hm h) hd
theorem ld_blt {σ:St} {H:Hp} {x:Str} {u:Value} {pos:Pos} {Q:Value->Shared->Prop} (I:Inv X pins σ H s) (hg:Gl X x) (hm:X.mg x=none) (hv:bootBuiltins x=some u) (h:Q u s)
    (hn:x ≠ "__name__" := by decide) (hd:(x == ("__debug__" : Str))=false:=by decide):wpAny (model X.prog X.w) X.A (eval (.Name x pos) X.env) Q E s:=by
  obtain ⟨mb,h1,h2⟩:=I.mod.blt
  exact Calls.Name_function_global I.ok.kind hg (Calls.loadGlobal_builtin (by rw [I.ok.glob]; exact I.mod.glob.keeps I.bk) hm (by rw [I.ok.blt]; exact h1.keeps I.bk) ((h2 x hn).trans hv) h) hd
theorem pe_glob {x:Str} {v:V} {u:Value} {pos:Pos} (hg:Gl X x) (hm:X.mg x=some u) (r:RelV v u) (hd:(x == ("__debug__" : Str))=false:=by decide):PE X (.Name x pos) (tC v):=
  fun _ _ _ H _ I h=>ld_glob I hg hm ⟨v,H,I,r,h⟩ hd
theorem pe_bltn {x:Str} {v:V} {u:Value} {pos:Pos} (hg:Gl X x) (hm:X.mg x=none) (hv:bootBuiltins x=some u) (r:RelV v u) (hn:x ≠ "__name__" := by decide) (hd:(x == ("__debug__" : Str))=false:=by decide):PE X (.Name x pos) (tC v):=
  fun _ _ _ H _ I h=>ld_blt I hg hm hv ⟨v,H,I,r,h⟩ hn hd
variable {a b:Expr} {ta tb:TE} {pos:Pos}
variable {tA tB':TT} {rest:List Expr}
noncomputable def tAnd (t u:TT):TT:=fun σ H Q=>t σ H fun c H1=>if c=true then u σ H1 Q else Q false H1
noncomputable def tOr (t u:TT):TT:=fun σ H Q=>t σ H fun c H1=>if c=true then Q true H1 else u σ H1 Q
noncomputable def tNot (t:TT):TT:=fun σ H Q=>t σ H fun c H1=>Q (!c) H1
theorem pw_and1 (ha:PT X a tA):PW X (.BoolOp .And [a] pos) tA:=by
  intro wh pins s σ H Q I h
  refine isTrue_and (thn (ha pins s σ H Q I h) fun c s1 e=>?_)
  cases c with
  | true=>exact isTrue_and_nil e
  | false=>exact e
theorem pw_or1 (ha:PT X a tA):PW X (.BoolOp .Or [a] pos) tA:=by
  intro wh pins s σ H Q I h
  refine isTrue_or (thn (ha pins s σ H Q I h) fun c s1 e=>?_)
  cases c with
  | false=>exact isTrue_or_nil e
  | true=>exact e
theorem pw_and (ha:PT X a tA) (hb:PW X (.BoolOp .And (b::rest) pos) tB'):PW X (.BoolOp .And (a::b::rest) pos) (tAnd tA tB'):=by
  intro wh pins s σ H Q I h
  refine isTrue_and (thn (ha pins s σ H _ I h) fun c s1 ⟨H1,I1,q1⟩=>?_)
  cases c with
  | true=>exact hb wh pins s1 σ H1 Q I1 q1
  | false=>exact ⟨H1,I1,q1⟩
theorem pw_or (ha:PT X a tA) (hb:PW X (.BoolOp .Or (b::rest) pos) tB'):PW X (.BoolOp .Or (a::b::rest) pos) (tOr tA tB'):=by
  intro wh pins s σ H Q I h
  refine isTrue_or (thn (ha pins s σ H _ I h) fun c s1 ⟨H1,I1,q1⟩=>?_)
  cases c with
  | true=>exact ⟨H1,I1,q1⟩
  | false=>exact hb wh pins s1 σ H1 Q I1 q1
theorem pt_not (ha:PT X a tA):PT X (.UnaryOp .Not a pos) (tNot tA):=by
  intro pins s σ H Q I h
  exact isTrue_not (ha pins s σ H (fun c H1=>Q (!c) H1) I h)
noncomputable def tAndV (ta tb:TE):TE:=fun σ H Q=>ta σ H fun x H1=>∃ c,x=.bl c/\if c=true then tb σ H1 Q else Q (.bl false) H1
theorem pe_one {op} {t:TE} (h:PE X a t):PE X (.BoolOp op [a] pos) t:=fun pins s σ H Q I hw=>BoolOp_one (h pins s σ H Q I hw)
theorem pe_and (ha:PE X a ta) (hb:PE X (.BoolOp .And (b::rest) pos) tb):PE X (.BoolOp .And (a::b::rest) pos) (tAndV ta tb):=by
  intro pins s σ H Q I h
  refine BoolOp_and (thn (ha pins s σ H _ I h) fun v s1 ⟨x,H1,I1,r1,q1⟩=>?_)
  obtain ⟨c,rfl,q1⟩:=q1
  cases r1
  refine wpAny_truthy_bool ?_
  cases c with
  | true=>exact hb pins s1 σ H1 Q I1 q1
  | false=>exact ⟨.bl false,H1,I1,rfl,q1⟩
end
noncomputable def SqL (K:FG) (H:Hp) (a:Addr) (xs:List V):Prop:=
  Rd H a (.lst xs)\/
    ∃ (o:Obj) (its:Array Value) (n:Nat),K.lookup a=some o/\o.cls=.type "list" /\ o.dict=none/\o.data=.seq its n/\its.size<=sizeLine/\Vals xs its.toList
noncomputable def SqT (K:FG) (H:Hp) (a:Addr) (xs:List V):Prop:=
  Rd H a (.tup xs)\/
    ∃ (o:Obj) (its:Array Value) (n:Nat),K.lookup a=some o/\o.cls=.type "tuple" /\ o.data=.seq its n/\its.size<=sizeLine/\Vals xs its.toList
noncomputable def absV:Value->Option V
  | .none=>some .non
  | .bool b=>some (.bl b)
  | .int i _=>some (.int i)
  | .str x _=>some (.str x)
  | .bytes b _=>some (.byt b)
  | .float b _=>some (.flt b)
  | .ref a=>some (.ref a)
  | .type n=>some (.ty n)
  | _=>none
theorem RelV.abs {x:V} {u:Value} (r:RelV x u):absV u=some x:=by
  cases x with
  | non=>cases r; rfl
  | bl _=>cases r; rfl
  | int _=>obtain ⟨t,rfl⟩:=r; rfl
  | str _=>obtain ⟨t,rfl⟩:=r; rfl
  | byt _=>obtain ⟨t,rfl⟩:=r; rfl
  | flt _=>obtain ⟨t,rfl⟩:=r; rfl
  | ref _=>cases r; rfl
  | ty _=>cases r; rfl
theorem RelV.inj {x y:V} {u:Value} (r:RelV x u) (q:RelV y u):x=y:=Option.some.inj (r.abs.symm.trans q.abs)
theorem Vals.inj:∀ {xs ys:List V} {us:List Value},Vals xs us->Vals ys us->xs=ys
  | _,_,_,.nil,.nil=>rfl
  | _,_,_,.cons r t,.cons r' t'=>by rw [r.inj r',Vals.inj t t']
section
variable {X:Cx} {pins:List (Addr × Obj)} {σ:St} {H:Hp} {s:Shared} {a:Addr} {xs ys:List V}
theorem SqL.of {K:FG} (h:H a=some (.lst xs)):SqL K H a xs:=.inl (.inl h)
theorem SqT.of {K:FG} (h:H a=some (.tup xs)):SqT K H a xs:=.inl (.inl h)
theorem Inv.list (I:Inv X pins σ H s) (h:SqL X.K H a xs):∃ its:List Value,Vals xs its/\PlainL s.heap a its.toArray/\xs.length<=sizeLine:=by
  rcases h with h | ⟨o,its,n,hk,hc,hd,hs,hz,r⟩
  · obtain ⟨z,its,n,r,e⟩:=h.ok I.hok
    exact ⟨its,r,⟨_,n,e,rfl,rfl,rfl⟩,z⟩
  · refine ⟨its.toList,r,⟨o,n,I.kIn a o hk,hc,hd,by simpa using hs⟩,?_⟩
    have e:=r.length
    simp only [Array.length_toList] at e
    omega
theorem Inv.tuple (I:Inv X pins σ H s) (h:SqT X.K H a xs):∃ its:List Value,Vals xs its/\IsTup s.heap a its.toArray/\xs.length<=sizeLine:=by
  rcases h with h | ⟨o,its,n,hk,hc,hs,hz,r⟩
  · obtain ⟨z,its,r,p⟩:=h.ok I.hok
    exact ⟨its,r,p,z⟩
  · refine ⟨its.toList,r,⟨o,I.kIn a o hk,hc,n,by simpa using hs⟩,?_⟩
    have e:=r.length
    simp only [Array.length_toList] at e
    omega
theorem Inv.list_inj (I:Inv X pins σ H s) (h:SqL X.K H a xs) (h':SqL X.K H a ys):xs=ys:=by
  obtain ⟨its,r,⟨o,n,e,_,_,d⟩,_⟩:=I.list h
  obtain ⟨its',r',⟨o',n',e',_,_,d'⟩,_⟩:=I.list h'
  rw [e] at e'; cases e'
  rw [d] at d'
  injection d' with d1 _
  have:its=its':=by simpa using congrArg Array.toList d1
  subst this
  exact r.inj r'
theorem Inv.tuple_inj (I:Inv X pins σ H s) (h:SqT X.K H a xs) (h':SqT X.K H a ys):xs=ys:=by
  obtain ⟨its,r,⟨o,e,_,n,d⟩,_⟩:=I.tuple h
  obtain ⟨its',r',⟨o',e',_,n',d'⟩,_⟩:=I.tuple h'
  rw [e] at e'; cases e'
  rw [d] at d'
  injection d' with d1 _
  have:its=its':=by simpa using congrArg Array.toList d1
  subst this
  exact r.inj r'
end
noncomputable abbrev Cx.wish (X:Cx) (E:Value->Shared->Prop):Cx:={ X with xe:=E }
noncomputable abbrev Cx.nox (X:Cx):Cx:=X.wish fun _ _=>False
theorem Cx.Ok.wish {X:Cx} (ok:X.Ok) (E:Value->Shared->Prop):(X.wish E).Ok:=
  ⟨ok.mod,ok.kind,ok.glob,ok.blt,ok.above,ok.inj,ok.has,ok.cab,ok.hd,ok.frames,ok.stk,ok.exf,ok.bs,ok.bsz,ok.noex,ok.exfs,ok.funs,ok.frf⟩
theorem Cx.Ok.unwish {X:Cx} (ok:(X.wish E).Ok):X.Ok:=
  ⟨ok.mod,ok.kind,ok.glob,ok.blt,ok.above,ok.inj,ok.has,ok.cab,ok.hd,ok.frames,ok.stk,ok.exf,ok.bs,ok.bsz,ok.noex,ok.exfs,ok.funs,ok.frf⟩
section
variable {X:Cx} {pins:List (Addr × Obj)} {σ:St} {H:Hp} {s:Shared} {E:Value->Shared->Prop}
theorem Inv.wish (I:Inv X pins σ H s) (E:Value->Shared->Prop):Inv (X.wish E) pins σ H s:=⟨I.ok.wish E,I.os,I.bare,I.base,I.loc,I.cell,I.free,I.freeC,I.pin,I.hok,I.len⟩
theorem Inv.unwish (I:Inv (X.wish E) pins σ H s):Inv X pins σ H s:=⟨I.ok.unwish,I.os,I.bare,I.base,I.loc,I.cell,I.free,I.freeC,I.pin,I.hok,I.len⟩
theorem SP.unwish {D:Ends} {f:Flow} {s':Shared} (h:SP (X.wish E) pins D f s'):SP X pins D f s':=by
  cases f with
  | next=>obtain ⟨σ',H',I,q⟩:=h; exact ⟨σ',H',I.unwish,q⟩
  | brk=>obtain ⟨σ',H',I,q⟩:=h; exact ⟨σ',H',I.unwish,q⟩
  | cont=>obtain ⟨σ',H',I,q⟩:=h; exact ⟨σ',H',I.unwish,q⟩
  | ret u=>obtain ⟨v,σ',H',I,r,q⟩:=h; exact ⟨v,σ',H',I.unwish,r,q⟩
theorem PSs.nox {st:List Stmt} {t:TS} (h:PSs X.nox st t):PSs X st t:=fun pins s σ H D I hw=>
  wpAny_mono (h pins s σ H D (I.wish _) hw) (fun _ _ q=>q.unwish) fun _ _ z=>False.elim z
end
section
variable {X:Cx} {st:Stmt} {rest:List Stmt} {t u:TS} {e:Expr} {te:TE} {pos:Pos}
noncomputable def tNext:TS:=fun D σ H=>D.nx σ H
noncomputable def tSeq (t u:TS):TS:=fun D σ H=>t { D with nx:=u D } σ H
theorem pss_nil:PSs X [] tNext:=fun _ _ σ H _ I h=>wpAny_execs_nil ⟨σ,H,I,h⟩
theorem pss_cons (h1:PS X st t) (h2:PSs X rest u):PSs X (st::rest) (tSeq t u):=by
  intro pins s σ H D I h
  refine wpAny_execs_cons (thn (h1 pins s σ H { D with nx:=u D } I h) fun f s1 q=>?_)
  cases f with
  | next=>
    obtain ⟨σ',H',I',q⟩:=q
    exact h2 pins s1 σ' H' D I' q
  | ret v=>exact q
  | brk=>exact q
  | cont=>exact q
theorem pss_one (h1:PS X st t):PSs X [st] t:=by
  intro pins s σ H D I h
  refine wpAny_execs_cons (thn (h1 pins s σ H D I h) fun f s1 q=>?_)
  cases f with
  | next=>exact wpAny_execs_nil q
  | ret v=>exact q
  | brk=>exact q
  | cont=>exact q
theorem Inv.quiet {σ:St} {H:Hp} (I:Inv X pins σ H s):interactive X.env=false:=by simp [interactive,I.ok.kind]
noncomputable def tDrop (te:TE):TS:=fun D σ H=>te σ H fun _ H1=>D.nx σ H1
theorem ps_expr (he:PE X e te) (hs:swapsWith e none pos.line X.env=pure false:=by rfl):PS X (.Expr e pos) (tDrop te):=by
  intro pins s σ H D I h
  exact wpAny_Expr_any (thn (he pins s σ H _ I h) fun v s1 ⟨x,H1,I1,r1,q1⟩=>⟨σ,H1,I1,q1⟩) I.quiet hs
noncomputable def tRet (te:TE):TS:=fun D σ H=>te σ H D.rt
theorem ps_ret (he:PE X e te):PS X (.Return (some e) pos) (tRet te):=by
  intro pins s σ H D I h
  exact wpAny_Return_some (thn (he pins s σ H _ I h) fun v s1 ⟨x,H1,I1,r1,q1⟩=>⟨x,σ,H1,I1,r1,q1⟩)
noncomputable def tIfS (c:TT) (t u:TS):TS:=fun D σ H=>c σ H fun b H1=>if b=true then t D σ H1 else u D σ H1
theorem ps_if {c:Expr} {a b:List Stmt} {tc:TT} (hc:PT X c tc) (ha:PSs X a t) (hb:PSs X b u):PS X (.If c a b pos) (tIfS tc t u):=by
  intro pins s σ H D I h
  refine wpAny_If (thn (hc pins s σ H _ I h) fun d s1 ⟨H1,I1,q1⟩=>?_)
  cases d with
  | true=>exact ha pins s1 σ H1 D I1 q1
  | false=>exact hb pins s1 σ H1 D I1 q1
end
noncomputable abbrev TG:=V->St->Hp->(St->Hp->Prop)->Prop
noncomputable abbrev TGs:=List V->St->Hp->(St->Hp->Prop)->Prop
noncomputable def PG (X:Cx) (target:Expr) (t:TG):Prop:=
  ∀ (pins:List (Addr × Obj)) (s:Shared) (σ:St) (H:Hp) (v:V) (u:Value) (Q:St->Hp->Prop),Inv X pins σ H s->RelV v u->t v σ H Q->
    wpAny (model X.prog X.w) X.A (assign target X.env u) (fun _ s'=>∃ σ' H',Inv X pins σ' H' s'/\Q σ' H') X.xe s
noncomputable def PGs (X:Cx) (ts:List Expr) (t:TGs):Prop:=
  ∀ (pins:List (Addr × Obj)) (s:Shared) (σ:St) (H:Hp) (vs:List V) (us:List Value) (Q:St->Hp->Prop),Inv X pins σ H s->Vals vs us->t vs σ H Q->
    wpAny (model X.prog X.w) X.A (assignInOrder ((assignEach ts X.env).map (·.2)) us) (fun _ s'=>∃ σ' H',Inv X pins σ' H' s'/\Q σ' H') X.xe s
noncomputable abbrev TSet:=V->V->V->Hp->(Hp->Prop)->Prop
noncomputable def PSet (X:Cx) (t:TSet):Prop:=
  ∀ (pins:List (Addr × Obj)) (s:Shared) (σ:St) (H:Hp) (o i v:V) (ov iv u:Value) (Q:Hp->Prop),Inv X pins σ H s->RelV o ov->RelV i iv->RelV v u->t o i v H Q->
    wpAny (model X.prog X.w) X.A (setItem ov iv u) (fun _ s'=>∃ H',Inv X pins σ H' s'/\Q H') X.xe s
section
variable {X:Cx} {pos:Pos}
noncomputable def gName (i:Nat):TG:=fun v σ H Q=>Q (σ.set i (some v)) H
theorem pg_name {i:Nat} {x:Str} (hN:X.N.Nodup) (hi:X.N[i]?=some x) (hx:Loc X.env.scope x) (hf:X.fn x=true\/X.env.scope.names.lookup x=some .local:=by first | exact .inl rfl | exact .inr rfl | assumption):PG X (.Name x pos) (gName i):=by
  intro pins s σ H v u Q I r h
  exact wpAny_assign_Name (store_ok I hN hi hx r (fun s' I'=>⟨_,H,I',h⟩) hf)
noncomputable def gNil:TGs:=fun vs σ H Q=>vs=[]/\Q σ H
noncomputable def gCons (t:TG) (u:TGs):TGs:=fun vs σ H Q=>∃ v r,vs=v::r/\t v σ H fun σ' H'=>u r σ' H' Q
theorem pgs_nil:PGs X [] gNil:=by
  intro pins s σ H vs us Q I r h
  obtain ⟨e,h⟩:=h
  subst e
  cases r
  exact assignInOrder_nil ⟨σ,H,I,h⟩
theorem pgs_cons {e:Expr} {es:List Expr} {t:TG} {u:TGs} (h1:PG X e t) (h2:PGs X es u)
    (hs:(assignEach (e::es) X.env).map (·.2)=assign e X.env::(assignEach es X.env).map (·.2):=by rfl):PGs X (e::es) (gCons t u):=by
  intro pins s σ H vs us Q I r h
  obtain ⟨v,vr,e1,h⟩:=h
  subst e1
  cases r with
  | cons r rr=>
    rw [hs]
    refine assignInOrder_cons (thn (h1 pins s σ H _ _ _ I r h) fun _ s1 ⟨σ1,H1,I1,q1⟩=>?_)
    exact h2 pins s1 σ1 H1 _ _ Q I1 rr q1
noncomputable def gTup (K:FG) (n:Nat) (t:TGs):TG:=fun v σ H Q=>∃ a xs,v=.ref a/\SqT K H a xs/\xs.length=n/\t xs σ H Q
theorem pg_tup {es:List Expr} {k:Nat} {t:TGs} {n:Nat} (hc:X.calm=true) (h:PGs X es t)
    (hn:(assignEach es X.env).length=n:=by rfl) (hst:(assignEach es X.env).findIdx? (·.1)=none:=by rfl):PG X (.Tuple es k pos) (gTup X.K n t):=by
  intro pins s σ H v u Q I r hw
  obtain ⟨a,xs,e1,hq,hl,hw⟩:=hw
  subst e1
  cases r
  obtain ⟨its,rv,ht,hz⟩:=I.tuple hq
  refine assign_Tuple_tuple (I.ok.hd hc) ht (by simp [hn,← hl,rv.length]) hst fun h' hx=>?_
  have I1:Inv X pins σ H { s with heap:=h' }:=I.kept (t':=s.toks) fun b o e=>hx b o (Nat.ne_of_lt (Heap.lt_size e)) e
  exact h pins _ σ H xs _ Q I1 (by simpa using rv) hw
noncomputable def gSub (to ti:TE) (t:TSet):TG:=fun v σ H Q=>to σ H fun o H1=>ti σ H1 fun i H2=>t o i v H2 fun H3=>Q σ H3
theorem pg_sub {o i:Expr} {to ti:TE} {t:TSet} (ho:PE X o to) (hi:PE X i ti) (hs:PSet X t)
    (ha:∀ v,assign (.Subscript o i pos) X.env v=(do
      let ov ← holding [v] (eval o X.env)
      let iv ← holding [v,ov] (eval i X.env)
      standAt pos
      holding [v,ov,iv] (setItem ov iv v)
      release [v,ov,iv] []):=by intro _; rfl):PG X (.Subscript o i pos) (gSub to ti t):=by
  intro pins s σ H v u Q I r h
  rw [ha]
  refine wpAny_bind (wpAny_holding (thn (ho pins s σ H _ I h) fun ov s1 ⟨x,H1,I1,r1,q1⟩=>?_))
  refine wpAny_bind (wpAny_holding (thn (hi pins s1 σ H1 _ I1 q1) fun iv s2 ⟨y,H2,I2,r2,q2⟩=>?_))
  refine wpAny_bind (wpAny_standAt (wpAny_bind (wpAny_holding (thn (hs pins s2 σ H2 x y v ov iv u _ I2 r1 r2 r q2) fun _ s3 ⟨H3,I3,q3⟩=>?_))))
  exact wpAny_release ⟨σ,H3,I3,q3⟩
noncomputable def tAsg (te:TE) (g:TG):TS:=fun D σ H=>te σ H fun x H1=>g x σ H1 D.nx
theorem ps_asg {tg e:Expr} {te:TE} {g:TG} (he:PE X e te) (hg:PG X tg g) (hs:swapsWithSole [tg] e pos.line X.env=pure false:=by rfl) (hw:swappedStores [tg] e X.env=pure none:=by rfl)
    (h1:(assignEach [tg] X.env).map (·.2)=[assign tg X.env]:=by rfl):PS X (.Assign [tg] e pos) (tAsg te g):=by
  intro pins s σ H D I h
  refine wpAny_Assign_stores (thn (he pins s σ H _ I h) fun v s1 ⟨x,H1,I1,r1,q1⟩=>?_) hs hw
  rw [h1]
  exact thn (hg pins s1 σ H1 x v _ I1 r1 q1) fun _ s2 q=>q
theorem ps_set {i:Nat} {x:Str} {e:Expr} {te:TE} {pos':Pos} (hN:X.N.Nodup) (hi:X.N[i]?=some x) (hx:Loc X.env.scope x) (he:PE X e te) (hs:swapsWith e (some (.Name x pos')) pos.line X.env=pure false:=by rfl) (hf:X.fn x=true\/X.env.scope.names.lookup x=some .local:=by first | exact .inl rfl | exact .inr rfl | assumption):
    PS X (.Assign [.Name x pos'] e pos) (tAsg te (gName i)):=by
  intro pins s σ H D I h
  refine wpAny_Assign_Name (thn (he pins s σ H _ I h) fun v s1 ⟨y,H1,I1,r1,q1⟩=>?_) hs
  exact store_ok I1 hN hi hx r1 (fun s2 I2=>⟨_,H1,I2,q1⟩) hf
end
section
variable {X:Cx} {pos:Pos}
noncomputable def tWhile (c:TT) (tb:TS):TS:=fun D σ H=>∃ W:Nat->St->Hp->Prop,(∃ m,W m σ H)/\∀ m σ H,W m σ H->
  c σ H fun b H1=>if b=true then ∃ N:St->Hp->Prop,(∀ σ' H',N σ' H'->∃ m',m' < m/\W m' σ' H')/\tb { D with nx:=N,ct:=N,bk:=D.nx } σ H1 else D.nx σ H1
theorem ps_while {c:Expr} {body:List Stmt} {tc:TT} {tb:TS} (hp:PassesOwn (model X.prog X.w) X.A X.env X.xe) (hc:PT X c tc) (hb:PSs X body tb):PS X (.While c body [] pos) (tWhile tc tb):=by
  intro pins s σ H D I h
  obtain ⟨W,⟨m0,w0⟩,turn⟩:=h
  refine wpAny_While (codeAny_whileLoop (fun n s'=>∃ σ' H',Inv X pins σ' H' s'/\W n σ' H') ?_ m0 ⟨σ,H,I,w0⟩)
  rintro n s1 ⟨σ1,H1,I1,w1⟩
  refine wpAny_passesOwn hp (thn (hc pins s1 σ1 H1 _ I1 (turn n σ1 H1 w1)) fun b s2 ⟨H2,I2,q2⟩=>?_)
  cases b with
  | true=>
    obtain ⟨N,hN,q2⟩:=q2
    rw [if_pos rfl]
    refine wpAny_passesOwn hp (thn (hb pins s2 σ1 H2 _ I2 q2) fun f s3 q3=>?_)
    cases f with
    | next=>
      obtain ⟨σ3,H3,I3,n3⟩:=q3
      obtain ⟨m',hm,w3⟩:=hN σ3 H3 n3
      exact ⟨m',hm,σ3,H3,I3,w3⟩
    | cont=>
      obtain ⟨σ3,H3,I3,n3⟩:=q3
      obtain ⟨m',hm,w3⟩:=hN σ3 H3 n3
      exact ⟨m',hm,σ3,H3,I3,w3⟩
    | brk=>exact q3
    | ret v=>exact q3
  | false=>
    rw [if_neg Bool.false_ne_true]
    exact wpAny_execs_nil ⟨σ1,H2,I2,q2⟩
end
structure It where
  go:Nat->Hp->Prop
  yld:Nat->Hp->V->Hp->Prop
  stop:Nat->Hp->Prop
noncomputable def FpOk (X:Cx) (pins:List (Addr × Obj)) (H:Hp) (b:Addr):Prop:=
  H b=none/\b ≠ X.env.locals/\b ∉ X.fs/\(b ∈ X.ex\/X.s₀.heap.objs.size<=b)/\(∀ x c,X.env.cells.lookup x=some c->c ≠ b)/\∀ p ∈ X.pn++pins,p.1 ≠ b
theorem Inv.fpOk {X:Cx} {σ:St} {H H':Hp} {b:Addr} (I:Inv X pins σ H s) (hb:s.heap.objs.size<=b) (hn:H' b=none):FpOk X pins H' b:=by
  refine ⟨hn,Nat.ne_of_gt (Nat.lt_of_lt_of_le I.lt hb),I.nofs hb,.inr (Nat.le_trans I.sz hb),fun x c e z=>?_,fun p hp z=>?_⟩
  · obtain ⟨v,q⟩:=I.cell x c e
    exact absurd (Nat.lt_of_lt_of_le q.lt (by rw [z]; exact hb)) (Nat.lt_irrefl _)
  · exact absurd (Nat.lt_of_lt_of_le (Heap.lt_size (I.pin p hp).1) (by rw [z]; exact hb)) (Nat.lt_irrefl _)
structure Turn (P:Program) (w:World) (K:FG) (tg:Expr) (J:It) (fp:List Addr) (it:Addr) (tn:Nat->Heap->Prop):Prop where
  mem:it ∈ fp
  obj:∀ i h,tn i h->∀ b ∈ fp,∃ o,h.get? b=some o/\∀ v,o.data ≠ .cell v
  keep:∀ i h h',tn i h->(∀ b ∈ fp,∀ o,h.get? b=some o->h'.get? b=some o)->tn i h'
  item:∀ (X:Cx),X.prog=P->X.w=w->X.K=K->X.calm=true->∀ (i:Nat) (pins:List (Addr × Obj)) (s:Shared) (σ:St) (H:Hp) (E:Value->Shared->Prop),Inv X pins σ H s->(∀ b ∈ fp,FpOk X pins H b)->tn i s.heap->J.go i H->
    wpAny (model P w) X.A (pyNext (.ref it)) (fun r s1=>∃ u,r=some u/\
      wpAny (model P w) X.A (letOwnedTupleGo tg (.ref it) u) (fun _ s2=>∃ x H',Inv X pins σ H' s2/\RelV x u/\J.yld i H x H'/\tn (i + 1) s2.heap/\∀ b ∈ fp,H' b=none) E s1) E s
  done:∀ (X:Cx),X.prog=P->X.w=w->X.K=K->X.calm=true->∀ (i:Nat) (pins:List (Addr × Obj)) (s:Shared) (σ:St) (H:Hp) (E:Value->Shared->Prop),Inv X pins σ H s->(∀ b ∈ fp,FpOk X pins H b)->tn i s.heap->J.stop i H->
    wpAny (model P w) X.A (pyNext (.ref it)) (fun r s1=>r=none/\Inv X pins σ H s1) E s
  self:∀ (A:Around) (i:Nat) (s:Shared) (Q:Value->Shared->Prop) (E:Value->Shared->Prop),tn i s.heap->Q (.ref it) s->wpAny (model P w) A (pyIter (.ref it)) Q E s
noncomputable abbrev TI:=St->Hp->(It->Hp->Prop)->Prop
noncomputable def PIE (X:Cx) (pins:List (Addr × Obj)) (σ:St) (tg:Expr) (R:It->Hp->Prop) (itv:Value) (s2:Shared):Prop:=
  ∃ (it:Addr) (fp:List Addr) (tn:Nat->Heap->Prop) (J:It) (H':Hp),itv=.ref it/\Inv X pins σ H' s2/\Turn X.prog X.w X.K tg J fp it tn/\tn 0 s2.heap/\(∀ b ∈ fp,FpOk X pins H' b)/\R J H'
noncomputable def PI (X:Cx) (tg iter:Expr) (wi:TI):Prop:=
  ∀ (pins:List (Addr × Obj)) (s:Shared) (σ:St) (H:Hp) (R:It->Hp->Prop),Inv X pins σ H s->wi σ H R->
    wpAny (model X.prog X.w) X.A (eval iter X.env) (fun v s1=>wpAny (model X.prog X.w) X.A (pyIter v) (PIE X pins σ tg R) X.xe s1) X.xe s
theorem go_of {M:Model} {tg:Expr} {it:Addr} {u:Value} {o:Obj} {n:String} {vs:Array Value} {Q:Unit->Shared->Prop} (ho:s.heap.get? it=some o) (hc:o.cls=.type n) (hd:o.data=.fields vs)
    (hn:["enumerate", "zip", "dict_itemiterator", "dict_reverseitemiterator", "odict_iterator", "itertools.zip_longest", "itertools.pairwise"].contains n=false) (hQ:Q () s):wpAny M A (letOwnedTupleGo tg (.ref it) u) Q E s:=by
  unfold letOwnedTupleGo
  cases tg <;> first
    | exact wpAny_pure hQ
    | (cases u <;> first
        | exact wpAny_pure hQ
        | (refine wpAny_bind (wpAny_load ho ?_)
           rw [hc,hd]
           show wpAny M A (if (["enumerate", "zip", "dict_itemiterator", "dict_reverseitemiterator", "odict_iterator", "itertools.zip_longest", "itertools.pairwise"].contains n && vs[0]? == some (rawInt _))=true then _ else _) Q E s
           rw [if_neg (by intro h; rw [hn,Bool.false_and] at h; cases h)]
           exact wpAny_pure hQ))
noncomputable def Itl (K:FG) (a:Addr):It:=
  ⟨fun i H=>∃ xs x,SqL K H a xs/\xs[i]?=some x,fun i H x H'=>H'=H/\∀ xs,SqL K H a xs->xs[i]?=some x,fun i H=>∃ xs,SqL K H a xs/\xs.length<=i⟩
noncomputable def Itt (K:FG) (a:Addr):It:=
  ⟨fun i H=>∃ xs x,SqT K H a xs/\xs[i]?=some x,fun i H x H'=>H'=H/\∀ xs,SqT K H a xs->xs[i]?=some x,fun i H=>∃ xs,SqT K H a xs/\xs.length<=i⟩
noncomputable def Itr (lo:Int) (n:Nat):It:=⟨fun i _=>i < n,fun i H x H'=>H'=H/\x=.int (lo + i),fun i _=>n<=i⟩
theorem turn_list {K:FG} {tg:Expr} (a it:Addr):Turn P w K tg (Itl K a) [it] it (fun i h=>h.IsListIter it a i) where
  mem:=by simp
  obj:=fun i h st b hb=>by
    have e:b=it:=by simpa using hb
    subst e
    obtain ⟨o,e,c,d⟩:=st
    exact ⟨o,e,fun v z=>by rw [d] at z; cases z⟩
  keep:=fun i h h' st k=>st.at fun o e=>k it (by simp) o e
  item:=by
    intro X hP hw hK hc i pins s σ H E I hf st hg
    subst hP hw hK
    obtain ⟨xs,x,hq,hx⟩:=hg
    obtain ⟨its,rv,p,hz⟩:=I.list hq
    obtain ⟨u,hu,ru⟩:=rv.get hx
    obtain ⟨f0,f1,f2,f3,f4,f5⟩:=hf it (by simp)
    refine wpAny_pyNext_list_item st p.isList (x:=u) (by simpa using hu) fun h' st' sb=>?_
    have I1:Inv X pins σ H { s with heap:=h' }:=I.turned (t':=s.toks) (fun b o hb e=>(sb.2 b hb).trans e) f0 f1 f3 f4 f5
    obtain ⟨o,e,c,d⟩:=id st'
    exact ⟨u,rfl,go_of (s:={ s with heap:=h' }) e c d (by decide) ⟨x,H,I1,ru,⟨rfl,fun ys hy=>by rw [I.list_inj hy hq]; exact hx⟩,st',fun b hb=>(hf b hb).1⟩⟩
  done:=by
    intro X hP hw hK hc i pins s σ H E I hf st hg
    subst hP hw hK
    obtain ⟨xs,hq,hx⟩:=hg
    obtain ⟨its,rv,p,hz⟩:=I.list hq
    obtain ⟨f0,f1,f2,f3,f4,f5⟩:=hf it (by simp)
    have hl:=rv.length
    exact wpAny_pyNext_list_end (I.ok.hd hc) st p.isList (by simp; omega) fun h' eb=>⟨rfl,I.turned (t':=s.toks) (fun b o hb e=>eb b o hb e) f0 f1 f3 f4 f5⟩
  self:=fun _ _ _ _ _ st h=>wpAny_pyIter_listiter st h
theorem turn_tuple {K:FG} {tg:Expr} (a it:Addr):Turn P w K tg (Itt K a) [it] it (fun i h=>h.IsTupleIter it a i) where
  mem:=by simp
  obj:=fun i h st b hb=>by
    have e:b=it:=by simpa using hb
    subst e
    obtain ⟨o,e,c,d⟩:=st
    exact ⟨o,e,fun v z=>by rw [d] at z; cases z⟩
  keep:=fun i h h' st k=>st.at fun o e=>k it (by simp) o e
  item:=by
    intro X hP hw hK hc i pins s σ H E I hf st hg
    subst hP hw hK
    obtain ⟨xs,x,hq,hx⟩:=hg
    obtain ⟨its,rv,p,hz⟩:=I.tuple hq
    obtain ⟨u,hu,ru⟩:=rv.get hx
    obtain ⟨f0,f1,f2,f3,f4,f5⟩:=hf it (by simp)
    refine wpAny_pyNext_tuple_item st (show s.heap.IsTuple a its.toArray from p) (x:=u) (by simpa using hu) fun h' st' sb=>?_
    have I1:Inv X pins σ H { s with heap:=h' }:=I.turned (t':=s.toks) (fun b o hb e=>(sb.2 b hb).trans e) f0 f1 f3 f4 f5
    obtain ⟨o,e,c,d⟩:=id st'
    exact ⟨u,rfl,go_of (s:={ s with heap:=h' }) e c d (by decide) ⟨x,H,I1,ru,⟨rfl,fun ys hy=>by rw [I.tuple_inj hy hq]; exact hx⟩,st',fun b hb=>(hf b hb).1⟩⟩
  done:=by
    intro X hP hw hK hc i pins s σ H E I hf st hg
    subst hP hw hK
    obtain ⟨xs,hq,hx⟩:=hg
    obtain ⟨its,rv,p,hz⟩:=I.tuple hq
    obtain ⟨f0,f1,f2,f3,f4,f5⟩:=hf it (by simp)
    have hl:=rv.length
    exact wpAny_pyNext_tuple_end (I.ok.hd hc) st (show s.heap.IsTuple a its.toArray from p) (by simp; omega) fun h' eb=>⟨rfl,I.turned (t':=s.toks) (fun b o hb e=>eb b o hb e) f0 f1 f3 f4 f5⟩
  self:=fun _ _ _ _ _ st h=>wpAny_pyIter_tupleiter st h
theorem turn_range {K:FG} {tg:Expr} (it:Addr) (lo:Int) (n:Nat):Turn P w K tg (Itr lo n) [it] it (fun i h=>IsRangeIter h it (lo + (i:Nat) * 1) ((n:Int) - (i:Nat)) 1) where
  mem:=by simp
  obj:=fun i h st b hb=>by
    have e:b=it:=by simpa using hb
    subst e
    exact ⟨_,st,fun v z=>by
      have z':Data.fields _=Data.cell v:=z
      cases z'⟩
  keep:=fun i h h' st k=>k it (by simp) _ st
  item:=by
    intro X hP hw hK hc i pins s σ H E I hf st hg
    subst hP hw hK
    obtain ⟨f0,f1,f2,f3,f4,f5⟩:=hf it (by simp)
    have W:=Walks.range (prog:=X.prog) (w:=X.w) (I.ok.hd hc) it lo 1 n
    refine W.item i s _ _ hg st fun v h' tk hv st' kk=>?_
    obtain ⟨t,rfl⟩:=hv
    have I1:Inv X pins σ H { s with heap:=h',toks:=tk }:=I.turned (fun b o hb e=>kk b o (by simpa using hb) e) f0 f1 f3 f4 f5
    refine ⟨_,rfl,go_of (s:={ s with heap:=h',toks:=tk }) (n := "range_iterator") st' rfl rfl (by decide) ⟨.int (lo + i),H,I1,⟨t,?_⟩,⟨rfl,rfl⟩,st',fun b hb=>(hf b hb).1⟩⟩
    rw [Int.mul_one]
  done:=by
    intro X hP hw hK hc i pins s σ H E I hf st hg
    subst hP hw hK
    obtain ⟨f0,f1,f2,f3,f4,f5⟩:=hf it (by simp)
    exact wpAny_pyNext_range_end (I.ok.hd hc) st (by have:n<=i:=hg; omega) fun h' eb=>⟨rfl,I.turned (t':=s.toks) (fun b o hb e=>eb b o hb e) f0 f1 f3 f4 f5⟩
  self:=fun _ _ _ _ _ st h=>wpAny_pyIter_rangeiter st h
section
variable {X:Cx} {tg:Expr}
noncomputable def iList (K:FG) (tl:TE):TI:=fun σ H R=>tl σ H fun x H1=>∃ a,x=.ref a/\(∃ xs,SqL K H1 a xs)/\R (Itl K a) H1
theorem pi_list {l:Expr} {tl:TE} (hl:PE X l tl):PI X tg l (iList X.K tl):=by
  intro pins s σ H R I h
  refine thn (hl pins s σ H _ I h) fun v s1 ⟨x,H1,I1,r1,q1⟩=>?_
  obtain ⟨a,e,⟨xs,hq⟩,q⟩:=q1
  subst e
  cases r1
  obtain ⟨its,rv,p,hz⟩:=I1.list hq
  refine wpAny_pyIter_list p.isList ?_
  refine ⟨s1.heap.objs.size,[s1.heap.objs.size],_,_,H1,rfl,I1.kept (t':=s1.toks) fun b o e=>Heap.get?_push_of_some _ e,turn_list a _,⟨_,Heap.get?_push_size _ rfl,rfl,rfl⟩,fun b hb=>?_,q⟩
  have e:b=s1.heap.objs.size:=by simpa using hb
  subst e
  exact I1.fpOk (Nat.le_refl _) (I1.hok.fresh (Nat.le_refl _))
theorem range_it {σ:St} {H:Hp} {R:It->Hp->Prop} {lo hi:Int} {t u v:Tok} {tk:Nat} (I:Inv X pins σ H s) (h1:-(2 ^ 62)<=lo) (h2:lo < 2 ^ 62) (h3:-(2 ^ 62)<=hi) (h4:hi < 2 ^ 62)
    (q:R (Itr lo (hi - lo).toNat) H):wpAny (model X.prog X.w) X.A (pyIter (.ref s.heap.objs.size)) (PIE X pins σ tg R) E { s with heap:=s.heap.push { cls:=.type "range",data:=.fields #[.int lo t,.int hi u,.int 1 v] },toks:=tk }:=by
  refine wpAny_pyIter_range (IsRange.new ..) (small_one h1 h2 h3 h4) ?_
  have I1:Inv X pins σ H { s with heap:=s.heap.push { cls:=.type "range",data:=.fields #[.int lo t,.int hi u,.int 1 v] },toks:=tk }:=I.kept fun b o e=>Heap.get?_push_of_some _ e
  refine ⟨(s.heap.push { cls:=.type "range",data:=.fields #[.int lo t,.int hi u,.int 1 v] }).objs.size,[(s.heap.push { cls:=.type "range",data:=.fields #[.int lo t,.int hi u,.int 1 v] }).objs.size],_,_,H,rfl,
    I1.kept (t':=tk) fun b o e=>Heap.get?_push_of_some _ e,turn_range _ lo (hi - lo).toNat,?_,fun b hb=>?_,q⟩
  · have e1:lo + ((0:Nat):Int) * 1=lo:=by simp
    have e2:(((hi - lo).toNat:Nat):Int) - ((0:Nat):Int)=Builtin.Range.rangeSize lo hi 1:=by rw [rangeSize_one]; split <;> omega
    show IsRangeIter _ _ (lo + ((0:Nat):Int) * 1) ((((hi - lo).toNat:Nat):Int) - ((0:Nat):Int)) 1
    rw [e1,e2]
    exact Heap.get?_push_size _ rfl
  · have e:b=(s.heap.push { cls:=.type "range",data:=.fields #[.int lo t,.int hi u,.int 1 v] }).objs.size:=by simpa using hb
    subst e
    exact I1.fpOk (Nat.le_refl _) (I1.hok.fresh (Nat.le_refl _))
noncomputable def iRng1 (ta:TA):TI:=fun σ H R=>ta σ H fun vs H1=>∃ j:Int,vs=[.int j]/\-(2 ^ 62)<=j/\j < 2 ^ 62/\R (Itr 0 j.toNat) H1
theorem pi_range1 {a:Expr} {ta:TA} {p pos:Pos} (hg:Gl X "range") (hm:X.mg "range" = none) (ha:PA X [a] ta) (hs:starEach [a] X.env=[(false,eval a X.env)]:=by rfl):PI X tg (.Call (.Name "range" p) [a] [] pos) (iRng1 ta):=by
  intro pins s σ H R I h
  refine Call_ (ld_blt I hg hm boot_range (PyProof.Rows.callWith_type1 (thn (ha pos pins s σ H _ I h) fun us s1 ⟨vs,H1,I1,r1,q1⟩=>?_) hs rfl))
  obtain ⟨j,e,q1,q2,q⟩:=q1
  subst e
  cases r1 with
  | cons r rr=>
    cases rr
    obtain ⟨t,rfl⟩:=r
    exact call_range_1 (range_it I1 (by omega) (by omega) q1 q2 (by simpa using q))
noncomputable def tFor (wi:TI) (g:TG) (tb:TS):TS:=fun D σ H=>wi σ H fun J H1=>∃ W:Nat->Nat->St->Hp->Prop,(∃ m,W 0 m σ H1)/\∀ i m σ H,W i m σ H->
  (J.stop i H/\D.nx σ H)\/(J.go i H/\∃ N:St->Hp->Prop,(∀ σ' H',N σ' H'->∃ m',m' < m/\W (i + 1) m' σ' H')/\∀ x H',J.yld i H x H'->g x σ H' fun σ2 H2=>tb { D with nx:=N,ct:=N,bk:=D.nx } σ2 H2)
noncomputable def pinsAt (fp:List Addr) (h:Heap):List (Addr × Obj):=fp.filterMap fun b=>(h.get? b).map fun o=>(b,o)
theorem mem_pinsAt {fp:List Addr} {h:Heap} {b:Addr} {o:Obj} (hb:b ∈ fp) (e:h.get? b=some o):(b,o) ∈ pinsAt fp h:=List.mem_filterMap.mpr ⟨b,hb,by rw [e]; rfl⟩
theorem of_pinsAt {fp:List Addr} {h:Heap} {p:Addr × Obj} (hp:p ∈ pinsAt fp h):p.1 ∈ fp/\h.get? p.1=some p.2:=by
  obtain ⟨b,hb,e⟩:=List.mem_filterMap.mp hp
  cases q:h.get? b with
  | none=>rw [q] at e; cases e
  | some o=>
    rw [q] at e
    have e':(b,o)=p:=Option.some.inj e
    subst e'
    exact ⟨hb,q⟩
theorem Inv.pinned {σ:St} {H:Hp} {fp:List Addr} (I:Inv X pins σ H s) (hf:∀ b ∈ fp,FpOk X pins H b) (ho:∀ b ∈ fp,∃ o,s.heap.get? b=some o/\∀ v,o.data ≠ .cell v):Inv X (pins++pinsAt fp s.heap) σ H s:=
  I.pins_of fun p hp=>(List.mem_append.mp hp).elim (fun z=>I.pin p (List.mem_append_right _ z)) fun z=>by
    obtain ⟨hb,e⟩:=of_pinsAt z
    obtain ⟨f0,f1,f2,_⟩:=hf p.1 hb
    obtain ⟨o,e',d⟩:=ho p.1 hb
    rw [e] at e'; cases e'
    exact ⟨e,f0,f1,f2,d⟩
theorem Inv.unpinned {pins pl:List (Addr × Obj)} {σ:St} {H:Hp} (I:Inv X (pins++pl) σ H s):Inv X pins σ H s:=I.pins_of fun p hp=>I.pin p (List.mem_append_right _ (List.mem_append_left _ hp))
theorem ps_for {iter:Expr} {body:List Stmt} {wi:TI} {g:TG} {tb:TS} {pos:Pos} (hp:PassesOwn (model X.prog X.w) X.A X.env X.xe) (hc:X.calm=true) (hi:PI X tg iter wi) (hg:PG X tg g) (hb:PSs X body tb)
    (hs:∀ x,foldedSetIterable iter X.env x=pure x:=by intro _; rfl):PS X (.For tg iter body [] pos) (tFor wi g tb):=by
  intro pins s σ H D I h
  refine wpAny_For (thn (hi pins s σ H _ I h) fun v s1 h1=>thn h1 fun itv s2 h2=>?_) hs
  obtain ⟨it,fp,tn,J,H2,e,I2,T,st2,f2,W,⟨m0,w0⟩,turn⟩:=h2
  subst e
  have stat:∀ {H':Hp},(∀ b ∈ fp,H' b=none)->∀ b ∈ fp,FpOk X pins H' b:=fun hn b hb=>⟨hn b hb,(f2 b hb).2⟩
  refine codeAny_forLoop_any (fun n s'=>∃ i σ' H',Inv X pins σ' H' s'/\tn i s'.heap/\(∀ b ∈ fp,H' b=none)/\W i n σ' H') ?_ m0 ⟨0,σ,H2,I2,st2,fun b hb=>(f2 b hb).1,w0⟩
  rintro n s3 ⟨i,σ3,H3,I3,st3,fr3,w3⟩
  rcases turn i n σ3 H3 w3 with ⟨stop,qn⟩ | ⟨go,N,hN,step⟩
  · refine wpAny_passesOwn hp (thn (T.done X rfl rfl rfl hc i pins s3 σ3 H3 X.xe I3 (stat fr3) st3 stop) fun r s4 ⟨hr,I4⟩=>?_)
    subst hr
    exact wpAny_execs_nil ⟨σ3,H3,I4,qn⟩
  · refine wpAny_passesOwn hp (thn (T.item X rfl rfl rfl hc i pins s3 σ3 H3 X.xe I3 (stat fr3) st3 go) fun r s4 ⟨u,hr,h4⟩=>?_)
    subst hr
    refine wpAny_passesOwn hp (thn h4 fun _ s5 ⟨x,H5,I5,r5,y5,st5,fr5⟩=>?_)
    have I5':=I5.pinned (stat fr5) (T.obj _ _ st5)
    refine wpAny_passesOwn hp (thn (hg _ s5 σ3 H5 x u _ I5' r5 (step x H5 y5)) fun _ s6 ⟨σ6,H6,I6,q6⟩=>?_)
    refine wpAny_passesOwn hp (thn (hb _ s6 σ6 H6 _ I6 q6) fun f s7 q7=>?_)
    have again:∀ {σ7:St} {H7:Hp},Inv X (pins++pinsAt fp s5.heap) σ7 H7 s7->N σ7 H7->∃ m,m < n/\∃ i σ' H',Inv X pins σ' H' s7/\tn i s7.heap/\(∀ b ∈ fp,H' b=none)/\W i m σ' H':=fun {σ7 H7} I7 n7=>by
      obtain ⟨m',hm,w7⟩:=hN σ7 H7 n7
      refine ⟨m',hm,i + 1,σ7,H7,I7.unpinned,T.keep _ _ _ st5 fun b hb o e=>(I7.pin (b,o) (List.mem_append_right _ (List.mem_append_right _ (mem_pinsAt hb e)))).1,fun b hb=>?_,w7⟩
      obtain ⟨o,e,d⟩:=T.obj _ _ st5 b hb
      exact (I7.pin (b,o) (List.mem_append_right _ (List.mem_append_right _ (mem_pinsAt hb e)))).2.1
    cases f with
    | next=>obtain ⟨σ7,H7,I7,n7⟩:=q7; exact again I7 n7
    | cont=>obtain ⟨σ7,H7,I7,n7⟩:=q7; exact again I7 n7
    | brk=>obtain ⟨σ7,H7,I7,q7⟩:=q7; exact ⟨σ7,H7,I7.unpinned,q7⟩
    | ret v=>obtain ⟨x7,σ7,H7,I7,r7,q7⟩:=q7; exact ⟨x7,σ7,H7,I7.unpinned,r7,q7⟩
end
noncomputable abbrev R2:=V->V->Hp->VK->Prop
noncomputable def OpR (X:Cx) (f:Value->Value->Sem Value) (r:R2):Prop:=
  ∀ (pins:List (Addr × Obj)) (s:Shared) (σ:St) (H:Hp) (x y:V) (v u:Value) (Q:VK),Inv X pins σ H s->RelV x v->RelV y u->r x y H Q->
    wpAny (model X.prog X.w) X.A (f v u) (EP X pins σ Q) X.xe s
noncomputable def UnR (X:Cx) (f:Value->Sem Value) (r:V->Hp->VK->Prop):Prop:=
  ∀ (pins:List (Addr × Obj)) (s:Shared) (σ:St) (H:Hp) (x:V) (v:Value) (Q:VK),Inv X pins σ H s->RelV x v->r x H Q->
    wpAny (model X.prog X.w) X.A (f v) (EP X pins σ Q) X.xe s
noncomputable def CallR (X:Cx) (f:Value) (r:List V->Hp->VK->Prop):Prop:=
  ∀ (pins:List (Addr × Obj)) (s:Shared) (σ:St) (H:Hp) (xs:List V) (us:List Value) (Q:VK),Inv X pins σ H s->Vals xs us->r xs H Q->
    wpAny (model X.prog X.w) X.A (call f us) (EP X pins σ Q) X.xe s
noncomputable def TruR (X:Cx) (r:V->Hp->(Bool->Hp->Prop)->Prop):Prop:=
  ∀ (pins:List (Addr × Obj)) (s:Shared) (σ:St) (H:Hp) (x:V) (v:Value) (Q:Bool->Hp->Prop),Inv X pins σ H s->RelV x v->r x H Q->
    wpAny (model X.prog X.w) X.A (truthy v) (TP X pins σ Q) X.xe s
noncomputable def tOp (r:R2) (ta tb:TE):TE:=fun σ H Q=>ta σ H fun x H1=>tb σ H1 fun y H2=>r x y H2 Q
noncomputable def tUn (r:V->Hp->VK->Prop) (ta:TE):TE:=fun σ H Q=>ta σ H fun x H1=>r x H1 Q
noncomputable def rI (C:Int->Int->Prop) (g:Int->Int->V):R2:=fun x y H Q=>∃ i j,x=.int i/\y=.int j/\C i j/\Q (g i j) H
noncomputable def rI0 (g:Int->Int->V):R2:=fun x y H Q=>∃ i j,x=.int i/\y=.int j/\Q (g i j) H
noncomputable def rU (g:Int->V):V->Hp->VK->Prop:=fun x H Q=>∃ i,x=.int i/\Q (g i) H
section
variable {X:Cx} {a b c:Expr} {ta tb tc:TE} {pos:Pos}
theorem binT (ha:PE X a ta) (hb:PE X b tb) {σ:St} {H:Hp} {R:V->V->Hp->Prop} (I:Inv X pins σ H s)
    (h:ta σ H fun x H1=>tb σ H1 fun y H2=>R x y H2) {Q:Value->Shared->Prop} {f:Value->Value->Sem Value}
    (hf:∀ v u s2 x y H2,Inv X pins σ H2 s2->RelV x v->RelV y u->R x y H2->wpAny (model X.prog X.w) X.A (f v u) Q X.xe s2):
    wpAny (model X.prog X.w) X.A (eval a X.env) (fun v s₁=>wpAny (model X.prog X.w) X.A (eval b X.env) (fun u s₂=>wpAny (model X.prog X.w) X.A (f v u) Q X.xe s₂) X.xe s₁) X.xe s:=by
  refine thn (ha pins s σ H _ I h) fun v s1 ⟨x,H1,I1,r1,q1⟩=>?_
  refine thn (hb pins s1 σ H1 _ I1 q1) fun u s2 ⟨y,H2,I2,r2,q2⟩=>?_
  exact hf v u s2 x y H2 I2 r1 r2 q2
theorem pe_op {op:Operator} {r:R2} (ho:OpR X (binaryOp op) r) (ha:PE X a ta) (hb:PE X b tb):PE X (.BinOp a op b pos) (tOp r ta tb):=by
  intro pins s σ H Q I h
  exact wpAny_BinOp (binT ha hb I h fun v u s2 x y H2 I2 rx ry q=>ho pins s2 σ H2 x y v u Q I2 rx ry q)
theorem pe_un {op:UnaryOp} {r:V->Hp->VK->Prop} (ho:UnR X (unaryOp op) r) (ha:PE X a ta):PE X (.UnaryOp op a pos) (tUn r ta):=by
  intro pins s σ H Q I h
  exact UnaryOp_ (thn (ha pins s σ H _ I h) fun v s1 ⟨x,H1,I1,r1,q1⟩=>ho pins s1 σ H1 x v Q I1 r1 q1)
theorem opI {f:Value->Value->Sem Value} {C:Int->Int->Prop} {g:Int->Int->Int}
    (rule:∀ (i j:Int) (t u:Tok) (s:Shared) (Q:Value->Shared->Prop) (E:Value->Shared->Prop),C i j->Q (.int (g i j) s.toks) { s with toks:=s.toks + 1 }->wpAny (model X.prog X.w) X.A (f (.int i t) (.int j u)) Q E s):
    OpR X f (rI C fun i j=>.int (g i j)):=by
  intro pins s σ H x y v u Q I rx ry h
  obtain ⟨i,j,rfl,rfl,hc,q⟩:=h
  obtain ⟨t,rfl⟩:=rx
  obtain ⟨t',rfl⟩:=ry
  exact rule i j t t' s _ _ hc ⟨.int (g i j),H,I.tok _,⟨_,rfl⟩,q⟩
theorem opI0 {f:Value->Value->Sem Value} {g:Int->Int->Int}
    (rule:∀ (i j:Int) (t u:Tok) (s:Shared) (Q:Value->Shared->Prop) (E:Value->Shared->Prop),Q (.int (g i j) s.toks) { s with toks:=s.toks + 1 }->wpAny (model X.prog X.w) X.A (f (.int i t) (.int j u)) Q E s):
    OpR X f (rI0 fun i j=>.int (g i j)):=by
  intro pins s σ H x y v u Q I rx ry h
  obtain ⟨i,j,rfl,rfl,q⟩:=h
  obtain ⟨t,rfl⟩:=rx
  obtain ⟨t',rfl⟩:=ry
  exact rule i j t t' s _ _ ⟨.int (g i j),H,I.tok _,⟨_,rfl⟩,q⟩
theorem opB0 {f:Value->Value->Sem Value} {g:Int->Int->Bool}
    (rule:∀ (i j:Int) (t u:Tok) (s:Shared) (Q:Value->Shared->Prop) (E:Value->Shared->Prop),Q (.bool (g i j)) s->wpAny (model X.prog X.w) X.A (f (.int i t) (.int j u)) Q E s):
    OpR X f (rI0 fun i j=>.bl (g i j)):=by
  intro pins s σ H x y v u Q I rx ry h
  obtain ⟨i,j,rfl,rfl,q⟩:=h
  obtain ⟨t,rfl⟩:=rx
  obtain ⟨t',rfl⟩:=ry
  exact rule i j t t' s _ _ ⟨.bl (g i j),H,I,rfl,q⟩
noncomputable def CDiv (i j:Int):Prop:=0 < j/\j < 1073741824
noncomputable def CMul (i j:Int):Prop:=(-(2 ^ 64) < i/\i < 2 ^ 64)\/(-(2 ^ 64) < j/\j < 2 ^ 64)
theorem CMul.ok {i j:Int} (h:CMul i j):IntMulOk i j:=by
  rcases h with ⟨h1,h2⟩ | ⟨h1,h2⟩
  · exact .of_left (intBits_le_64 h1 h2)
  · exact .of_right (intBits_le_64 h1 h2)
theorem op_add:OpR X (binaryOp .Add) (rI0 fun i j=>.int (i + j)):=opI0 fun _ _ _ _ _ _ _ q=>add_int q
theorem op_mul:OpR X (binaryOp .Mult) (rI CMul fun i j=>.int (i * j)):=opI fun _ _ _ _ _ _ _ hc q=>mul_int q hc.ok
theorem op_fdiv:OpR X (binaryOp .FloorDiv) (rI CDiv fun i j=>.int (i / j)):=opI fun i j _ _ _ _ _ hc q=>by
  have h1:(0:Int) < j:=hc.1
  have h2:j < 1073741824:=hc.2
  exact floordiv_int (by omega) (by rw [Int.fdiv_eq_ediv_of_nonneg i (by omega)]; exact q) (.inl (PyProof.noPylong_small (by omega)))
theorem op_mod:OpR X (binaryOp .Mod) (rI (fun _ j=>0 < j) fun i j=>.int (i % j)):=opI fun i j _ _ _ _ _ hc q=>by
  have h1:(0:Int) < j:=hc
  exact mod_int' (by omega) (by rw [Int.fmod_eq_emod_of_nonneg i (by omega)]; exact q)
theorem op_and:OpR X (binaryOp .BitAnd) (rI0 fun i j=>.int (Builtin.bitAnd i j)):=opI0 fun _ _ _ _ _ _ _ q=>and_int q
theorem unI {f:Value->Sem Value} {g:Int->Int}
    (rule:∀ (i:Int) (t:Tok) (s:Shared) (Q:Value->Shared->Prop) (E:Value->Shared->Prop),Q (.int (g i) s.toks) { s with toks:=s.toks + 1 }->wpAny (model X.prog X.w) X.A (f (.int i t)) Q E s):
    UnR X f (rU fun i=>.int (g i)):=by
  intro pins s σ H x v Q I rx h
  obtain ⟨i,rfl,q⟩:=h
  obtain ⟨t,rfl⟩:=rx
  exact rule i t s _ _ ⟨.int (g i),H,I.tok _,⟨_,rfl⟩,q⟩
theorem un_neg:UnR X (unaryOp .USub) (rU fun i=>.int (-i)):=unI fun _ _ _ _ _ q=>neg_int q
end
noncomputable def scal:V->V->Bool
  | .non,.non=>true | .non,.int _=>true | .int _,.non=>true | .non,.bl _=>true | .bl _,.non=>true | .non,.str _=>true | .str _,.non=>true
  | .int _,.int _=>true | .bl _,.bl _=>true | .str _,.str _=>true | .byt _,.byt _=>true
  | .int _,.str _=>true | .str _,.int _=>true | .bl _,.str _=>true | .str _,.bl _=>true
  | _,_=>false
section
variable {X:Cx} {a b c:Expr} {ta tb tc:TE} {pos:Pos}
theorem fin_bl {σ:St} {H:Hp} {Q:VK} {k k':Bool} (I:Inv X pins σ H s) (q:Q (.bl k) H) (e:k=k'):EP X pins σ Q (.bool k') s:=by
  subst e
  exact ⟨.bl k,H,I,rfl,q⟩
theorem op_lt:OpR X (compareOp .Lt) (rI0 fun i j=>.bl (decide (i < j))):=opB0 fun _ _ _ _ _ _ _ q=>lt_int q
theorem op_le:OpR X (compareOp .LtE) (rI0 fun i j=>.bl (decide (i<=j))):=opB0 fun _ _ _ _ _ _ _ q=>le_int q
theorem op_gt:OpR X (compareOp .Gt) (rI0 fun i j=>.bl (decide (j < i))):=opB0 fun _ _ _ _ _ _ _ q=>gt_int q
theorem op_in_str:OpR X (compareOp .In) (fun x y H Q=>∃ i j,x=.str i/\y=.str j/\Q (.bl (!(Builtin.Str.occurrences j i 0 j.length 1).isEmpty)) H):=by
  intro pins s σ H x y v u Q I rx ry h
  obtain ⟨i,j,rfl,rfl,q⟩:=h
  obtain ⟨t,rfl⟩:=rx
  obtain ⟨t',rfl⟩:=ry
  exact in_str (fin_bl I q rfl)
theorem op_isN:OpR X (compareOp .Is) (fun x y H Q=>y=.non/\Q (.bl (decide (x=.non))) H):=by
  intro pins s σ H x y v u Q I rx ry h
  obtain ⟨rfl,q⟩:=h
  cases ry
  refine is_none_gen (fin_bl I q ?_)
  cases x <;> first
    | (cases rx; rfl)
    | (obtain ⟨t,rfl⟩:=rx; rfl)
theorem op_notN:OpR X (compareOp .IsNot) (fun x y H Q=>y=.non/\Q (.bl (!decide (x=.non))) H):=by
  intro pins s σ H x y v u Q I rx ry h
  obtain ⟨rfl,q⟩:=h
  cases ry
  refine isnot_none_gen (fin_bl I q ?_)
  cases x <;> first
    | (cases rx; rfl)
    | (obtain ⟨t,rfl⟩:=rx; rfl)
theorem op_notin_str:OpR X (compareOp .NotIn) (fun x y H Q=>∃ i j,x=.str i/\y=.str j/\Q (.bl (!(!(Builtin.Str.occurrences j i 0 j.length 1).isEmpty))) H):=by
  intro pins s σ H x y v u Q I rx ry h
  obtain ⟨i,j,rfl,rfl,q⟩:=h
  obtain ⟨t,rfl⟩:=rx
  obtain ⟨t',rfl⟩:=ry
  exact notIn_str (fin_bl I q rfl)
theorem OpR.or {f:Value->Value->Sem Value} {r r':R2} (h:OpR X f r) (h':OpR X f r'):OpR X f (fun x y H Q=>r x y H Q\/r' x y H Q):=by
  intro pins s σ H x y v u Q I rx ry q
  rcases q with q | q
  · exact h pins s σ H x y v u Q I rx ry q
  · exact h' pins s σ H x y v u Q I rx ry q
theorem nomark (b:Expr) {op:CmpOp} (h:op ≠ .In:=by decide) (h2:op ≠ .NotIn:=by decide):behindInMarks op b=false:=by
  have e1:(op == CmpOp.In)=false:=by cases op <;> first | rfl | exact absurd rfl h
  have e2:(op == CmpOp.NotIn)=false:=by cases op <;> first | rfl | exact absurd rfl h2
  cases b <;> simp [behindInMarks,e1,e2]
theorem pe_cmpR {op:CmpOp} {r:R2} (ho:OpR X (compareOp op) r) (ha:PE X a ta) (hb:PE X b tb) (hm:behindInMarks op b=false):PE X (.Compare a [op] [b] pos) (tOp r ta tb):=by
  intro pins s σ H Q I h
  exact wpAny_Compare1 (binT ha hb I h fun v u s2 x y H2 I2 rx ry q=>ho pins s2 σ H2 x y v u Q I2 rx ry q) hm
noncomputable def tTest (t:TE):TT:=fun σ H Q=>t σ H fun x H'=>∃ k,x=.bl k/\Q k H'
theorem pt_cmpR {op:CmpOp} {r:R2} (ho:OpR X (compareOp op) r) (ha:PE X a ta) (hb:PE X b tb) (hm:behindInMarks op b=false):PT X (.Compare a [op] [b] pos) (tTest (tOp r ta tb)):=by
  intro pins s σ H Q I h
  refine wpAny_isTrue_Compare1 (thn (ha pins s σ H _ I h) fun v s1 ⟨x,H1,I1,r1,q1⟩=>thn (hb pins s1 σ H1 _ I1 q1) fun u s2 ⟨y,H2,I2,r2,q2⟩=>
    thn (ho pins s2 σ H2 x y v u _ I2 r1 r2 q2) fun c s3 ⟨z,H3,I3,r3,k,e,q3⟩=>?_) hm
  subst e
  cases r3
  exact wpAny_truthy_bool ⟨H3,I3,q3⟩
noncomputable def tChain (r r':R2) (ta tb tc:TE):TE:=fun σ H Q=>ta σ H fun x H1=>tb σ H1 fun y H2=>r x y H2 fun z H3=>∃ k,z=.bl k/\
  (if k=true then tc σ H3 fun w' H4=>r' y w' H4 Q else Q (.bl false) H3)
theorem pe_chain {op op':CmpOp} {r r':R2} (ho:OpR X (compareOp op) r) (ho':OpR X (compareOp op') r') (ha:PE X a ta) (hb:PE X b tb) (hc:PE X c tc)
    (hm:lastMarks [op,op'] [b,c]=false:=by with_unfolding_all rfl):PE X (.Compare a [op,op'] [b,c] pos) (tChain r r' ta tb tc):=by
  intro pins s σ H Q I h
  refine Compare_chain (thn (ha pins s σ H _ I h) fun v s1 ⟨x,H1,I1,r1,q1⟩=>chain_link (thn (hb pins s1 σ H1 _ I1 q1) fun u s2 ⟨y,H2,I2,r2,q2⟩=>
    thn (ho pins s2 σ H2 x y v u _ I2 r1 r2 q2) fun d s3 ⟨z,H3,I3,r3,k,e,q3⟩=>?_)) hm
  subst e
  cases r3
  refine wpAny_truthy_bool ?_
  cases k with
  | false=>exact ite_ff ⟨.bl false,H3,I3,rfl,q3⟩
  | true=>exact ite_tt (chain_last (thn (hc pins s3 σ H3 _ I3 q3) fun w' s4 ⟨z',H4,I4,r4,q4⟩=>ho' pins s4 σ H4 y z' u w' Q I4 r2 r4 q4))
noncomputable def TruV (K:FG) (x:V) (H:Hp) (k:Bool):Prop:=
  match x with
  | .non=>k=false
  | .bl b=>k=b
  | .int i=>k=(i != 0)
  | .str y=>y.length<=sizeLine/\k=((y.length:Int) != 0)
  | .byt y=>y.size<=sizeLine/\k=((y.size:Int) != 0)
  | .ref p=>(∃ xs,SqL K H p xs/\k=!xs.isEmpty)\/(∃ xs,SqT K H p xs/\k=!xs.isEmpty)\/∃ kvs,H p=some (.dK kvs)/\k=!kvs.isEmpty
  | _=>False
theorem isEmpty_kv {κ:Type} {kvs:List (κ × V)} {vs:List (κ × Value)} (r:KV kvs vs):(!vs.isEmpty)=!kvs.isEmpty:=by
  cases r <;> rfl
theorem isEmpty_of {xs:List V} {its:List Value} (r:Vals xs its):(!its.toArray.isEmpty)=!xs.isEmpty:=by
  cases r <;> simp
theorem line63:(sizeLine:Nat) < 2 ^ 63:=by rw [sizeLine_eq]; decide
theorem tru_ok:TruR X (fun x H Q=>∃ k,TruV X.K x H k/\Q k H):=by
  intro pins s σ H x v Q I rx h
  obtain ⟨k,e,q⟩:=h
  have hl:=line63
  have hs:sizeLine=16777216:=sizeLine_eq
  cases x with
  | non=>
    cases rx
    have e':k=false:=e
    subst e'
    exact truthy_none ⟨H,I,q⟩
  | bl b=>
    cases rx
    have e':k=b:=e
    subst e'
    exact wpAny_truthy_bool ⟨H,I,q⟩
  | int i=>
    obtain ⟨t,rfl⟩:=rx
    have e':k=(i != 0):=e
    subst e'
    exact PySem.P.truthy_int ⟨H,I,q⟩
  | str y=>
    obtain ⟨t,rfl⟩:=rx
    obtain ⟨hy,e'⟩:y.length<=sizeLine/\k=((y.length:Int) != 0):=e
    subst e'
    exact PySem.P.truthy_str (by omega) ⟨H,I.tok _,q⟩
  | byt y=>
    obtain ⟨t,rfl⟩:=rx
    obtain ⟨hy,e'⟩:y.size<=sizeLine/\k=((y.size:Int) != 0):=e
    subst e'
    exact PySem.W.truthy_bytes (by omega) ⟨H,I.tok _,q⟩
  | ref p=>
    cases rx
    have e':(∃ xs,SqL X.K H p xs/\k=!xs.isEmpty)\/(∃ xs,SqT X.K H p xs/\k=!xs.isEmpty)\/∃ kvs,H p=some (.dK kvs)/\k=!kvs.isEmpty:=e
    rcases e' with ⟨xs,hx,e'⟩ | ⟨xs,hx,e'⟩ | ⟨kvs,hx,e'⟩
    · subst e'
      obtain ⟨its,r,pl,hz⟩:=I.list hx
      have hlen:=r.length
      exact wpAny_truthy_list pl.isList (by simp only [List.size_toArray]; omega) ⟨H,I.tok _,by rw [isEmpty_of r]; exact q⟩
    · subst e'
      obtain ⟨its,r,pl,hz⟩:=I.tuple hx
      have hlen:=r.length
      exact truthy_tuple pl (by simp only [List.size_toArray]; omega) ⟨H,I.tok _,by rw [isEmpty_of r]; exact q⟩
    · subst e'
      obtain ⟨hz,hS,vs,r,m⟩:kvs.length<=sizeLine/\(p == sysModules)=false/\∃ vs,KV kvs vs/\s.heap.DictOf (mixKind X.prog X.w) p vs:=I.hok p _ hx
      have hlen:kvs.length=vs.length:=Paired.length r
      exact wpAny_truthy_dict hS m (by omega) ⟨H,I.tok _,by rw [isEmpty_kv r]; exact q⟩
  | _=>exact (show False from e).elim
theorem pt_truth (ha:PE X a ta) (he:∀ whole,isTrue a X.env whole=(do let v ← whole; standAt a.pos; holding [v] (truthy v))):
    PT X a (fun σ H Q=>ta σ H fun x H'=>∃ k,TruV X.K x H' k/\Q k H'):=by
  intro pins s σ H Q I h
  exact isTrue_plain (thn (ha pins s σ H _ I h) fun v s1 ⟨x,H1,I1,r1,q1⟩=>tru_ok pins s1 σ H1 x v Q I1 r1 q1) (he _)
theorem op_add_str:OpR X (binaryOp .Add) (fun x y H Q=>∃ i j,x=.str i/\y=.str j/\i.length + j.length<=sizeLine/\Q (.str (i++j)) H):=by
  intro pins s σ H x y v u Q I rx ry h
  obtain ⟨i,j,rfl,rfl,hz,q⟩:=h
  obtain ⟨t,rfl⟩:=rx
  obtain ⟨t',rfl⟩:=ry
  exact add_str (fun t' tk=>⟨.str (i++j),H,I.tok _,⟨_,rfl⟩,q⟩) hz
theorem vals1 {x:V} {us:List Value} (r:Vals [x] us):∃ u,us=[u]/\RelV x u:=by
  cases r with
  | cons r1 r2=>cases r2; exact ⟨_,rfl,r1⟩
theorem vals2 {x y:V} {us:List Value} (r:Vals [x,y] us):∃ u w',us=[u,w']/\RelV x u/\RelV y w':=by
  cases r with
  | cons r1 r2=>
    cases r2 with
    | cons r3 r4=>cases r4; exact ⟨_,_,rfl,r1,r3⟩
noncomputable def LenV (K:FG) (x:V) (H:Hp) (n:Nat):Prop:=
  match x with
  | .str y=>y.length<=sizeLine/\n=y.length
  | .byt y=>y.size<=sizeLine/\n=y.size
  | .ref p=>(∃ xs,SqL K H p xs/\n=xs.length)\/∃ xs,SqT K H p xs/\n=xs.length
  | _=>False
theorem call_len:CallR X (.builtin "len") (fun xs H Q=>∃ x n,xs=[x]/\LenV X.K x H n/\Q (.int n) H):=by
  intro pins s σ H xs us Q I r h
  obtain ⟨x,n,rfl,e,q⟩:=h
  obtain ⟨u,rfl,rx⟩:=vals1 r
  have hl:=line63
  have hs:sizeLine=16777216:=sizeLine_eq
  cases x with
  | str y=>
    obtain ⟨t,rfl⟩:=rx
    obtain ⟨hy,e'⟩:y.length<=sizeLine/\n=y.length:=e
    subst e'
    exact len_str (by omega) ⟨.int _,H,I.tok _,⟨_,rfl⟩,q⟩
  | byt y=>
    obtain ⟨t,rfl⟩:=rx
    obtain ⟨hy,e'⟩:y.size<=sizeLine/\n=y.size:=e
    subst e'
    exact PySem.W.len_bytes (by omega) ⟨.int _,H,I.tok _,⟨_,rfl⟩,q⟩
  | ref p=>
    cases rx
    have e':(∃ xs,SqL X.K H p xs/\n=xs.length)\/∃ xs,SqT X.K H p xs/\n=xs.length:=e
    rcases e' with ⟨xs,hx,e'⟩ | ⟨xs,hx,e'⟩
    · subst e'
      obtain ⟨its,r',pl,hz⟩:=I.list hx
      have hlen:=r'.length
      exact Calls.call_len_list pl.isList (by simp only [List.size_toArray]; omega) ⟨.int xs.length,H,I.tok _,⟨_,by simp only [List.size_toArray]; rw [hlen]⟩,q⟩
    · subst e'
      obtain ⟨its,r',pl,hz⟩:=I.tuple hx
      have hlen:=r'.length
      exact len_tuple pl (by simp only [List.size_toArray]; omega) ⟨.int xs.length,H,I.tok _,⟨_,by simp only [List.size_toArray]; rw [hlen]⟩,q⟩
  | _=>exact (show False from e).elim
end
structure ObjM (h:Heap) (x dx C:Addr) (mA:Str->Option Value):Prop where
  obj:h.get? x=some (PySem.W.instObj C dx)
  ns:h.Ns1 dx mA
  ne:dx ≠ x
theorem lookIn_ns {h:Heap} {dx:Addr} {mA:Str->Option Value} (n:h.Ns1 dx mA):∃ od,h.get? dx=some od/\∀ name,PySem.W.lookIn name od=some (mA name):=by
  obtain ⟨o,es,ep,ho,hd,hk,_,hm⟩:=n
  refine ⟨o,ho,fun name=>?_⟩
  have e:=hm name
  unfold nsFind findBy at e
  rw [← Array.find?_toList] at e
  unfold PySem.W.lookIn
  rw [hd]
  dsimp only
  split
  · rename_i y q
    rw [q] at e
    exact congrArg some e
  · rename_i q
    rw [q] at e
    have a:es.toList.any (·.refKey)=false:=by
      rw [List.any_eq_false]
      intro y hy
      obtain ⟨z,t,hkey⟩:=hk y (Array.mem_toList_iff.mp hy)
      simp [DictEntry.refKey,hkey]
    have a':¬ es.toList.any (·.refKey)=true:=by rw [a]; exact Bool.false_ne_true
    rw [if_neg a']
    exact congrArg some e
theorem ObjM.look {h:Heap} {x dx C:Addr} {mA:Str->Option Value} (I:ObjM h x dx C mA):∃ od,PySem.W.InstAt h x (PySem.W.instObj C dx) C (some od)/\∀ name,PySem.W.lookIn name od=some (mA name):=
  let ⟨od,ho,hl⟩:=lookIn_ns I.ns
  ⟨od,⟨I.obj,rfl,rfl,ho⟩,hl⟩
section
variable {prog:Program} {w:World} {A:Around} {E:Value->Shared->Prop} {s:Shared} {K:FG} {x dx C f:Addr} {mA:Str->Option Value} {name:Str} {v:Value}
theorem get_map {expr:Bool} {Q:Value->Shared->Prop} (X:K.In s.heap) (I:ObjM s.heap x dx C mA) (hg:PySem.W.plainGet K C name=true) (hh:PySem.W.hasDictIn K C=true)
    (ha:PySem.W.findIn K (.ref C) name=some none) (hv:mA name=some v) (hv':PySem.W.handedIn v=true) (h:Q v { s with toks:=s.toks + 1 }):
    wpAny (model prog w) A (getAttr (.ref x) name expr) Q E s:=by
  obtain ⟨od,J,hl⟩:=I.look
  exact PySem.W.get_value X J (PySem.W.plainGet_of hg).1 (PySem.W.findObj_own hh ha rfl (by rw [hl,hv])) hv' h
theorem get_meth {pl:Sem Bool} {Q:Value × List Value->Shared->Prop} (X:K.In s.heap) (I:ObjM s.heap x dx C mA) (hg:PySem.W.plainGet K C name=true)
    (hf:PySem.W.findIn K (.ref C) name=some (some (.ref f))) (ht:PySem.W.isFn K (.ref f)=true) (hv:mA name=none) (h:Q (.ref f,[.ref x]) s):
    wpAny (model prog w) A (getMethod (.ref x) name pl) Q E s:=by
  obtain ⟨od,J,hl⟩:=I.look
  exact PySem.W.method_fn X J (PySem.W.plainGet_of hg).1 (PySem.W.plainGet_of hg).2 hf (beq_iff_eq.mp ht) (by show (PySem.W.lookIn name od).map (·.isSome)=some false; rw [hl,hv]; rfl) h
theorem set_map {ns:List Str} {Q:Unit->Shared->Prop} (X:K.In s.heap) (I:ObjM s.heap x dx C mA)
    (hs:PySem.W.findIn K (.ref C) "__setattr__" = some (some (.builtin "object.__setattr__"))) (hp:PySem.W.plainOver K C=true) (ht:PySem.W.takerIn K C name=some none) (hh:PySem.W.hasDictIn K C=true)
    (hw:PySem.Within mA ns) (hsz:ns.length<=sizeLine)
    (h:∀ h',ObjM h' x dx C (fun y=>if y=name then some v else mA y)->Heap.SameBut dx s.heap h'->Q () { s with heap:=h',toks:=s.toks + 2 }):
    wpAny (model prog w) A (setAttr (.ref x) name v) Q E s:=by
  obtain ⟨od,J,hl⟩:=I.look
  refine PySem.W.set_plain X J hs (PySem.W.osa_open (s:={ s with toks:=s.toks + 1 }) (r:=none) X J hp ht fun b=>?_)
  obtain ⟨cd,hc,hd'⟩:=PySem.W.any_some hh
  have hx:s.heap.get? x=some ⟨.ref C,some dx,.plain,#[]⟩:=I.obj
  refine wpAny_bind (wpAny_pure (wpAny_bind (wpAny_bind (wpAny_loadPart hx (wpAny_bind (PySem.W.Looks.here (s:={ s with toks:=s.toks + 1 }) (PySem.W.looks_clsIn X hc) ?_))))))
  rw [hd']
  refine wpAny_pure (a:=some dx) (wpAny_bind (wpAny_pure (wpAny_bind ?_)))
  refine wpAny_nsSet1 (s:={ s with toks:=s.toks + 1 }) I.ns fun h' hn2 hs2=>?_
  obtain ⟨oD,esD,epD,hoD,hdD,hcD⟩:=hn2.count (PySem.Within.cons name v hw)
  refine wpAny_bind (wpAny_lookBehind hoD (by rw [hdD]; exact pastItsLine_dict (Nat.le_trans hcD (by rw [List.length_cons]; omega))) ?_)
  exact wpAny_pure (h _ ⟨(hs2.2 _ (Ne.symm I.ne)).trans I.obj,hn2,I.ne⟩ hs2)
theorem make_map {R:Result->Shared->Prop} {vs:List Value} {kw:List (Str × Value)} (X:K.In s.heap) (hm:PySem.W.makesIn K C=true)
    (hi:PySem.W.findIn K (.ref C) "__init__" = some (some (.ref f))) (hf:PySem.W.typeIn K (.ref f)=some (.type "function"))
    (h:codeAny (model prog w) (A.under (.builtin "type.__call__" ⟨.ref C::vs,kw⟩)) (.call (.ref f) ⟨.ref (s.heap.objs.size + 1)::vs,kw⟩) (PySem.W.InitBack (s.heap.objs.size + 1) R)
      { s with heap:=(s.heap.push PySem.W.emptyDict).push (PySem.W.instObj C s.heap.objs.size) }):
    codeAny (model prog w) A (.call (.ref C) ⟨vs,kw⟩) R s:=by
  obtain ⟨hh,g,d,t,os⟩:=s
  exact PySem.W.make_core (PySem.W.makes_of X hm) (PySem.W.looks_findIn X hi) (fun self=>PySem.W.bind_fn X self hf) (.inl rfl) h
end
noncomputable def putF (f:Str) (v:V):List (Str × V)->List (Str × V)
  | []=>[(f,v)]
  | (g,x)::r=>if g=f then (g,v)::r else (g,x)::putF f v r
theorem lookup_putF (f g:Str) (v:V):∀ fs:List (Str × V),(putF f v fs).lookup g=if g=f then some v else fs.lookup g
  | []=>by
    show List.lookup g [(f,v)]=_
    by_cases h:g=f
    · have hb:(g == f)=true:=beq_iff_eq.mpr h
      simp only [List.lookup,hb,if_pos h]
    · have hb:(g == f)=false:=beq_eq_false_iff_ne.mpr h
      simp only [List.lookup,hb,if_neg h]
  | (k,x)::r=>by
    have ih:=lookup_putF f g v r
    rw [show putF f v ((k,x)::r)=(if k=f then (k,v)::r else (k,x)::putF f v r) from rfl]
    by_cases hk:k=f
    · rw [if_pos hk]
      by_cases h:g=k
      · have hb:(g == k)=true:=beq_iff_eq.mpr h
        simp only [List.lookup,hb,if_pos (h.trans hk)]
      · have hb:(g == k)=false:=beq_eq_false_iff_ne.mpr h
        simp only [List.lookup,hb,if_neg (fun e:g=f=>h (e.trans hk.symm))]
    · rw [if_neg hk]
      by_cases h:g=k
      · have hb:(g == k)=true:=beq_iff_eq.mpr h
        simp only [List.lookup,hb,if_neg (fun e:g=f=>hk (h.symm.trans e))]
      · have hb:(g == k)=false:=beq_eq_false_iff_ne.mpr h
        simp only [List.lookup,hb]
        exact ih
theorem keys_putF (f:Str) (v:V):∀ fs:List (Str × V),f ∈ (putF f v fs).map (·.1)/\∀ g,g ∈ fs.map (·.1)->g ∈ (putF f v fs).map (·.1)
  | []=>⟨by simp [putF],fun g h=>by simp at h⟩
  | (k,x)::r=>by
    obtain ⟨i1,i2⟩:=keys_putF f v r
    rw [show putF f v ((k,x)::r)=(if k=f then (k,v)::r else (k,x)::putF f v r) from rfl]
    by_cases hk:k=f
    · rw [if_pos hk]
      subst hk
      exact ⟨by simp,fun g h=>by simpa using h⟩
    · rw [if_neg hk]
      refine ⟨?_,fun g h=>?_⟩
      · rw [List.map_cons]
        exact List.mem_cons_of_mem _ i1
      · rw [List.map_cons] at h ⊢
        rcases List.mem_cons.mp h with e | e
        · exact List.mem_cons.mpr (.inl e)
        · exact List.mem_cons_of_mem _ (i2 g e)
theorem length_putF (f:Str) (v:V):∀ fs:List (Str × V),(putF f v fs).length<=fs.length + 1
  | []=>by simp [putF]
  | (k,x)::r=>by
    have ih:=length_putF f v r
    rw [show putF f v ((k,x)::r)=(if k=f then (k,v)::r else (k,x)::putF f v r) from rfl]
    by_cases hk:k=f
    · rw [if_pos hk,List.length_cons,List.length_cons]; omega
    · rw [if_neg hk,List.length_cons,List.length_cons]; omega
theorem RelO.some_of {v:V} {o:Option Value} (r:RelO (some v) o):∃ u,o=some u/\RelV v u:=by
  cases o with
  | none=>exact (show False from r).elim
  | some u=>exact ⟨u,rfl,r⟩
theorem RelO.none_of {o:Option Value} (r:RelO none o):o=none:=by
  cases o with
  | none=>rfl
  | some u=>exact (show False from r).elim
theorem handed_of {v:V} {u:Value} (r:RelV v u):PySem.W.handedIn u=true:=by
  cases v with
  | non=>cases (show u=Value.none from r); rfl
  | bl b=>cases (show u=Value.bool b from r); rfl
  | int i=>obtain ⟨t,e⟩:=(show ∃ t,u=Value.int i t from r); cases e; rfl
  | str x=>obtain ⟨t,e⟩:=(show ∃ t,u=Value.str x t from r); cases e; rfl
  | byt b=>obtain ⟨t,e⟩:=(show ∃ t,u=Value.bytes b t from r); cases e; rfl
  | flt b=>obtain ⟨t,e⟩:=(show ∃ t,u=Value.float b t from r); cases e; rfl
  | ref a=>cases (show u=Value.ref a from r); rfl
  | ty n=>cases (show u=Value.type n from r); rfl
section
variable {P:Program} {w:World} {H H':Hp} {h h':Heap} {a C dx:Addr} {fs fs':List (Str × V)}
theorem ins_get (hok:HOk P w H h) (e:H a=some (.ins C dx fs)):∃ mA,ObjM h a dx C mA/\(∀ f,RelO (fs.lookup f) (mA f))/\PySem.Within mA (fs.map (·.1))/\fs.length<=1000/\H dx=some (.own a):=by
  obtain ⟨d,z,ne,ob,mA,n,r,q⟩:=(show ObjOk P w H h a (.ins C dx fs) from hok a _ e)
  exact ⟨mA,⟨ob,n,ne⟩,r,q,z,d⟩
end
structure Cls (K:FG) (C:Addr):Prop where
  pg:PySem.W.plainGet K C Str.empty=true
  hd:PySem.W.hasDictIn K C=true
  po:PySem.W.plainOver K C=true
  sa:PySem.W.findIn K (.ref C) "__setattr__" = some (some (.builtin "object.__setattr__"))
theorem Cls.get {K:FG} {C:Addr} (c:Cls K C) (f:Str):PySem.W.plainGet K C f=true:=c.pg
noncomputable def NoAttr (K:FG) (C:Addr) (f:Str):Prop:=PySem.W.findIn K (.ref C) f=some none
theorem NoAttr.taker {K:FG} {C:Addr} {f:Str} (n:NoAttr K C f):PySem.W.takerIn K C f=some none:=by
  unfold PySem.W.takerIn
  rw [show PySem.W.findIn K (.ref C) f=some none from n]
  rfl
structure Meth (K:FG) (C:Addr) (m:Str) (f:Addr):Prop where
  at_:PySem.W.findIn K (.ref C) m=some (some (.ref f))
  fn:PySem.W.isFn K (.ref f)=true
  kp:PySem.W.keepIn K (.ref f)=true
section
variable {X:Cx} {pins:List (Addr × Obj)} {σ:St} {H:Hp} {s:Shared} {a C dx:Addr} {fs:List (Str × V)} {f:Str} {v:V} {A:Around} {E:Value->Shared->Prop}
theorem getattr_ok {b:Bool} {Q:Value->Shared->Prop} (I:Inv X pins σ H s) (e:H a=some (.ins C dx fs)) (c:Cls X.K C) (n:NoAttr X.K C f) (l:fs.lookup f=some v)
    (h:∀ u s',Inv X pins σ H s'->RelV v u->Q u s'):wpAny (model X.prog X.w) A (getAttr (.ref a) f b) Q E s:=by
  obtain ⟨mA,O,r,_,_,_⟩:=ins_get I.hok e
  obtain ⟨u,hu,ru⟩:=RelO.some_of (v:=v) (o:=mA f) (by rw [← l]; exact r f)
  exact get_map I.kIn O (c.get f) c.hd n hu (handed_of ru) (h u _ (I.tok _) ru)
theorem getmeth_ok {m:Str} {g:Addr} {pl:Sem Bool} {Q:Value × List Value->Shared->Prop} (I:Inv X pins σ H s) (e:H a=some (.ins C dx fs)) (c:Cls X.K C) (k:Meth X.K C m g) (l:fs.lookup m=none)
    (h:Q (.ref g,[.ref a]) s):wpAny (model X.prog X.w) A (getMethod (.ref a) m pl) Q E s:=by
  obtain ⟨mA,O,r,_,_,_⟩:=ins_get I.hok e
  have hn:mA m=none:=RelO.none_of (by rw [← l]; exact r m)
  exact get_meth I.kIn O (c.get m) k.at_ k.fn hn h
theorem setattr_ok {y:V} {u:Value} {Q:Unit->Shared->Prop} (I:Inv X pins σ H s) (e:H a=some (.ins C dx fs)) (c:Cls X.K C) (n:NoAttr X.K C f) (hl:fs.length < 1000) (ry:RelV y u)
    (h:∀ s',Inv X pins σ (upd H a (.ins C dx (putF f y fs))) s'->Q () s'):wpAny (model X.prog X.w) A (setAttr (.ref a) f u) Q E s:=by
  obtain ⟨mA,O,r,wi,_,ho⟩:=ins_get I.hok e
  have hz:(fs.map (·.1)).length<=sizeLine:=by rw [List.length_map,sizeLine_eq]; omega
  refine set_map I.kIn O c.sa c.po n.taker c.hd wi hz fun h' O' sb=>h _ ?_
  have hd:∃ o,h'.get? dx=some o:=let ⟨o,_,_,e',_⟩:=O'.ns; ⟨o,e'⟩
  refine I.write (x:=a) (e:=dx) (by rw [e]; exact True.intro) (.inr ho) (fun b q hb z=>(sb.2 b hb).trans z) hd ?_
  refine ⟨by rw [upd_ne O.ne]; exact ho,?_,O.ne,O'.obj,_,O'.ns,fun g=>?_,fun g hg=>?_⟩
  · have:=length_putF f y fs; omega
  · show RelO ((putF f y fs).lookup g) (if g=f then some u else mA g)
    rw [lookup_putF]
    by_cases q:g=f
    · rw [if_pos q,if_pos q]; exact ry
    · rw [if_neg q,if_neg q]; exact r g
  · by_cases q:g=f
    · rw [q]; exact (keys_putF f y fs).1
    · refine (keys_putF f y fs).2 g (wi g fun z=>hg ?_)
      show (if g=f then some u else mA g)=none
      rw [if_neg q]; exact z
theorem Inv.made (I:Inv X pins σ H s):Inv X pins σ (upd (upd H s.heap.objs.size (.own (s.heap.objs.size + 1))) (s.heap.objs.size + 1) (.ins C s.heap.objs.size []))
    { s with heap:=(s.heap.push PySem.W.emptyDict).push (PySem.W.instObj C s.heap.objs.size) }:=by
  have e1:(s.heap.push PySem.W.emptyDict).get? s.heap.objs.size=some PySem.W.emptyDict:=Heap.get?_push_size s.heap rfl
  have e2:((s.heap.push PySem.W.emptyDict).push (PySem.W.instObj C s.heap.objs.size)).get? (s.heap.objs.size + 1)=some (PySem.W.instObj C s.heap.objs.size):=by
    have:=Heap.get?_push_size (s.heap.push PySem.W.emptyDict) (o:=PySem.W.instObj C s.heap.objs.size) rfl
    rwa [Heap.size_push] at this
  have e3:(s.heap.push PySem.W.emptyDict).Ns s.heap.objs.size (fun _=>none):=⟨PySem.W.emptyDict,#[],_,e1,rfl,(fun e he=>absurd he (by simp)),fun _=>rfl⟩
  have I1:=I.laid (a:=s.heap.objs.size) (o:=.own (s.heap.objs.size + 1)) (h':=s.heap.push PySem.W.emptyDict) (t':=s.toks) (fun b u q=>Heap.get?_push_of_some _ q) (Nat.le_refl _) ⟨_,e1⟩
  refine I1.laid (a:=s.heap.objs.size + 1) (o:=.ins C s.heap.objs.size []) (t':=s.toks) (fun b u q=>Heap.get?_push_of_some _ q) (Nat.le_of_eq (Heap.size_push _ _)) ?_
  have ne:s.heap.objs.size ≠ s.heap.objs.size + 1:=Nat.ne_of_lt (Nat.lt_succ_self _)
  refine ⟨by rw [upd_ne ne,upd_same],Nat.zero_le _,ne,e2,fun _=>none,(Heap.Ns1.of_empty e3).at fun o q=>Heap.get?_push_of_some _ q,fun _=>True.intro,fun y hy=>absurd rfl hy⟩
theorem attr_of {prog:Program} {env:Env} {e:Expr} {f:Str} {pos:Pos} {Q:Value->Shared->Prop} (hb:attributeBase e f env (eval e env)=eval e env)
    (h:wpAny (model prog w) A (eval e env) (fun o s₁=>wpAny (model prog w) A (getAttr o f true) Q E s₁) E s):wpAny (model prog w) A (eval (.Attribute e f pos) env) Q E s:=
  Attribute_any_ h (by rw [arm_eval_Attribute,hb])
end
noncomputable def tFld (K:FG) (ta:TE) (f:Str):TE:=fun σ H Q=>ta σ H fun x H1=>∃ a C dx fs v,x=.ref a/\H1 a=some (.ins C dx fs)/\Cls K C/\NoAttr K C f/\fs.lookup f=some v/\Q v H1
noncomputable def sFld (K:FG) (ta tv:TE) (f:Str):TS:=fun D σ H=>tv σ H fun y H1=>ta σ H1 fun x H2=>∃ a C dx fs,x=.ref a/\H2 a=some (.ins C dx fs)/\Cls K C/\NoAttr K C f/\fs.length < 1000/\
  D.nx σ (upd H2 a (.ins C dx (putF f y fs)))
section
variable {X:Cx} {o e value:Expr} {f:Str} {pos pos' tpos:Pos} {ta tv:TE}
theorem pe_fld (he:PE X e ta) (hb:attributeBase e f X.env (eval e X.env)=eval e X.env):PE X (.Attribute e f pos) (tFld X.K ta f):=by
  intro pins s σ H Q I h
  refine attr_of hb (thn (he pins s σ H _ I h) fun u s1 ⟨x,H1,I1,rx,a,C,dx,fs,v,ex,ea,c,n,l,q⟩=>?_)
  subst ex
  obtain rfl:u=Value.ref a:=rx
  exact getattr_ok I1 ea c n l fun u' s2 I2 ru=>⟨v,H1,I2,ru,q⟩
theorem ps_fld (ha:PE X o ta) (hv:PE X value tv) (hs:swapsWith value (some (.Attribute o f pos')) pos.line X.env=pure false):PS X (.Assign [.Attribute o f pos'] value pos) (sFld X.K ta tv f):=by
  intro pins s σ H D I h
  refine plainObj_wpAny_Assign_Attribute (thn (hv pins s σ H _ I h) fun u s1 ⟨y,H1,I1,ry,q⟩=>thn (ha pins s1 σ H1 _ I1 q) fun ov s2 ⟨x,H2,I2,rx,a,C,dx,fs,ex,ea,c,n,l,q2⟩=>?_) hs
  subst ex
  obtain rfl:ov=Value.ref a:=rx
  exact setattr_ok I2 ea c n l ry fun s3 I3=>⟨σ,_,I3,q2⟩
noncomputable def rAdd:V->V->Hp->VK->Prop:=fun x y H Q=>∃ i j,x=.int i/\y=.int j/\Q (.int (i + j)) H
theorem methcall_of {pl:Sem Bool} {m:Str} {apos:Pos} {args:List Expr} {σ:St} {H:Hp} {Q:Value->Shared->Prop} {te:TE} (he:PE X e te) (I:Inv X pins σ H s)
    (h:te σ H fun x H1=>∃ a C dx fs g,x=.ref a/\H1 a=some (.ins C dx fs)/\Cls X.K C/\Meth X.K C m g/\fs.lookup m=none/\
      ∀ s1,Inv X pins σ H1 s1->wpAny (model X.prog X.w) X.A (callWith pos (.ref g) [.ref a] (backTo pos (starEach args X.env)) (backToKw pos (keywordEach [] X.env))) Q X.xe s1)
    (ht:eval (.Call (.Attribute e m apos) args [] pos) X.env=(do
      let ov ← eval e X.env
      standAt apos.atName
      let (f,first) ← holding [ov] (getMethod ov m pl)
      callWith pos f first (backTo pos (starEach args X.env)) (backToKw pos (keywordEach [] X.env)))):
    wpAny (model X.prog X.w) X.A (eval (.Call (.Attribute e m apos) args [] pos) X.env) Q X.xe s:=by
  refine PySem.W.methodCall_KW (pl:=pl) (thn (he pins s σ H _ I h) fun u s1 ⟨x,H1,I1,rx,a,C,dx,fs,g,ex,ea,c,k,l,q⟩=>?_) ht
  subst ex
  obtain rfl:u=Value.ref a:=rx
  exact getmeth_ok I1 ea c k l (q s1 I1)
end
section
variable {X:Cx} {pins:List (Addr × Obj)} {σ:St} {H:Hp} {s:Shared} {A:Around} {E:Value->Shared->Prop} {Q:Value->Shared->Prop} {c:Value} {b:Bool}
end
structure Room (k:Nat) (A:Around):Prop where
  hd:A.handled=none
  dp:A.depth + 3 * k + 5 < recursionLimit
  un:A.units + 16 * k + 200 < cLine
theorem Room.mono {j k:Nat} (r:Room k A) (h:j<=k):Room j A:=⟨r.hd,by have:=r.dp; omega,by have:=r.un; omega⟩
theorem Room.deeper {k:Nat} (r:Room (k + 1) A) (env:Env):Room k (A.deeper env):=
  ⟨r.hd,by have:=r.dp; show A.depth + 1 + 3 * k + 5 < _; omega,by have:=r.un; show A.units + 3 + 16 * k + 200 < _; omega⟩
theorem make_depth {C:Addr} {us:List Value} {kw:List (Str × Value)}:(A.under (.builtin "type.__call__" ⟨.ref C::us,kw⟩)).depth=A.depth + 1:=by
  first | rfl | simp [Around.under,Code.weight,Code.isCreation,Code.isGuard,Code.isCaller,Code.frames,Code.isFrame,guardIds]
theorem make_units {C:Addr} {us:List Value} {kw:List (Str × Value)}:(A.under (.builtin "type.__call__" ⟨.ref C::us,kw⟩)).units=A.units + 1:=by
  first | rfl | simp [Around.under,Code.cUnits,Code.frames,Code.isFrame]
theorem Room.make {k:Nat} (r:Room (k + 1) A) (C:Addr) (us:List Value) (kw:List (Str × Value)):Room k (A.under (.builtin "type.__call__" ⟨.ref C::us,kw⟩)):=
  ⟨r.hd,by have:=r.dp; rw [make_depth]; omega,by have:=r.un; rw [make_units]; omega⟩
theorem Room.depth {k:Nat} (r:Room k A):A.depth < recursionLimit:=by have:=r.dp; omega
theorem Room.units {k:Nat} (r:Room k A):A.units + 64 < cLine:=by have:=r.un; omega
noncomputable def tNil:TA:=fun _ H Q=>Q [] H
noncomputable def tCons (ta:TE) (tr:TA):TA:=fun σ H Q=>ta σ H fun x H1=>tr σ H1 fun xs H2=>Q (x::xs) H2
section
variable {X:Cx} {e:Expr} {es:List Expr} {te:TE} {t:TA} {pos:Pos}
theorem pa_nil:PA X [] tNil:=fun _ _ _ _ H Q I h=>Calls.spliced_nil ⟨[],H,I,.nil,h⟩
theorem pa_cons (ha:PE X e te) (hr:PA X es t) (hs:starEach (e::es) X.env=(false,eval e X.env)::starEach es X.env:=by rfl):PA X (e::es) (tCons te t):=by
  intro pos pins s σ H Q I h
  rw [hs]
  show wpAny _ _ (spliced ((false,eval e X.env)::backTo pos (starEach es X.env))) _ _ s
  refine Calls.spliced_cons (thn (ha pins s σ H _ I h) fun u s1 ⟨x,H1,I1,r1,q1⟩=>?_)
  exact thn (hr pos pins s1 σ H1 _ I1 q1) fun us s2 ⟨xs,H2,I2,r2,q2⟩=>⟨x::xs,H2,I2,.cons r1 r2,q2⟩
noncomputable def tTup (t:TA):TE:=fun σ H Q=>t σ H fun xs H1=>xs.length<=sizeLine/\∀ p,H1 p=none->Q (.ref p) (upd H1 p (.tup xs))
noncomputable def tLst (t:TA):TE:=fun σ H Q=>t σ H fun xs H1=>xs.length<=sizeLine/\∀ p,H1 p=none->Q (.ref p) (upd H1 p (.lst xs))
theorem pe_tup {x1} (h:PA X es t):PE X (.Tuple es x1 pos) (tTup t):=by
  intro pins s σ H Q I hq
  refine wpAny_Tuple_spliced (thn (h pos pins s σ H _ I hq) fun us s1 ⟨xs,H1,I1,r,z,q⟩=>⟨by rw [← r.length]; exact z,?_⟩)
  have hf:H1 s1.heap.objs.size=none:=I1.hok.fresh (Nat.le_refl _)
  refine ⟨.ref s1.heap.objs.size,upd H1 s1.heap.objs.size (.tup xs),I1.laid (t':=s1.toks) (fun b u e=>Heap.get?_push_of_some _ e) (Nat.le_refl _) ?_,rfl,q _ hf⟩
  exact ⟨z,us,r,⟨_,Heap.get?_push_size _ rfl,rfl,_,rfl⟩⟩
theorem pe_lst (h:PA X es t):PE X (.List es pos) (tLst t):=by
  intro pins s σ H Q I hq
  refine wpAny_List_spliced (thn (h pos pins s σ H _ I hq) fun us s1 ⟨xs,H1,I1,r,z,q⟩=>⟨by rw [← r.length]; exact z,?_⟩)
  have hf:H1 s1.heap.objs.size=none:=I1.hok.fresh (Nat.le_refl _)
  refine ⟨.ref s1.heap.objs.size,upd H1 s1.heap.objs.size (.lst xs),I1.laid (t':=s1.toks) (fun b u e=>Heap.get?_push_of_some _ e) (Nat.le_refl _) ?_,rfl,q _ hf⟩
  exact ⟨z,us,0,r,Heap.get?_push_size _ rfl⟩
end
noncomputable abbrev Sp:=List V->Hp->VK->XK->Prop
noncomputable abbrev CXT:=List Env->Hp->Shared->XK->Value->Shared->Prop
structure Env0 (P:Program) (w:World) (K:FG) (mg:Str->Option Value) (base:Heap) (A:Around) (outer:List Env) (s:Shared) (H:Hp):Prop where
  frames:A.frames=some outer
  mod:Mod K mg base
  bs:∀ b o,base.get? b=some o->s.heap.get? b=some o/\H b=none
  bsz:base.objs.size<=s.heap.objs.size
  funs:s.heap.FunFrames base outer
  frf:∀ b ∈ frs outer,H b=none
  hok:HOk P w H s.heap
  bare:AllBare s.gens
noncomputable def CE (outer:List Env) (P:Program) (w:World) (H:Hp) (s:Shared) (Q:VK) (u:Value) (s':Shared):Prop:=
  ∃ v H',s'.os=s.os/\AllBare s'.gens/\Un (frs outer) [] H H' s.heap s'.heap/\HOk P w H' s'.heap/\RelV v u/\Q v H'
noncomputable def CR (CX:CXT) (outer:List Env) (P:Program) (w:World) (H:Hp) (s:Shared) (Q:VK) (E:XK) (r:Result) (s':Shared):Prop:=
  match r with
  | .ok (.ret u)=>CE outer P w H s Q u s'
  | .ok _=>False
  | .error e=>CX outer H s E e s'
structure FnOk (P:Program) (w:World) (K:FG) (mg:Str->Option Value) (base:Heap) (CX:CXT) (k:Nat) (f:Addr) (fd:FuncData) (ps:List Str) (sp:Sp):Prop where
  len:∀ vs H Q E,sp vs H Q E->vs.length=ps.length
  run:∀ (A:Around) (outer:List Env) (s:Shared) (H:Hp) (args:Args) (us:List Value) (vs:List V) (Q:VK) (E:XK),Room k A->Env0 P w K mg base A outer s H->BindsTo s fd args (ps.zip us)->Vals vs us->sp vs H Q E->
    codeAny (model P w) A (.call (.ref f) args) (CR CX outer P w H s Q E) s
theorem FnOk.imp {K:FG} {mg:Str->Option Value} {base:Heap} {CX:CXT} {k:Nat} {f:Addr} {fd:FuncData} {ps:List Str} {sp sp':Sp} (F:FnOk P w K mg base CX k f fd ps sp)
    (h:∀ vs H Q E,sp' vs H Q E->sp vs H Q E):FnOk P w K mg base CX k f fd ps sp':=
  ⟨fun vs H Q E q=>F.len vs H Q E (h _ _ _ _ q),fun A outer s H args us vs Q E hr he hb hv hs=>F.run A outer s H args us vs Q E hr he hb hv (h _ _ _ _ hs)⟩
theorem Env0.make {K:FG} {mg:Str->Option Value} {base:Heap} {outer:List Env} {H:Hp} (e:Env0 P w K mg base A outer s H) (C:Addr) (us:List Value) (kw:List (Str × Value)):
    Env0 P w K mg base (A.under (.builtin "type.__call__" ⟨.ref C::us,kw⟩)) outer s H:=⟨by first | exact e.frames | (simpa [Around.under,Code.envs,Code.isFrame,pushEnvs] using e.frames),e.mod,e.bs,e.bsz,e.funs,e.frf,e.hok,e.bare⟩
section
variable {X:Cx} {pins:List (Addr × Obj)} {σ:St} {H:Hp} {s s':Shared}
theorem Inv.env0 (I:Inv X pins σ H s):Env0 X.prog X.w X.K X.mg X.base X.A X.stack s H:=
  ⟨I.ok.frames,I.ok.mod,I.bs,Nat.le_trans I.ok.bsz I.sz,I.stack,I.stkFree,I.hok,I.bare⟩
theorem Inv.after {Q:VK} {u:Value} (I:Inv X pins σ H s) (h:CE X.stack X.prog X.w H s Q u s'):EP X pins σ Q u s':=by
  obtain ⟨v,H',os,bare,un,hok,r,q⟩:=h
  obtain ⟨hh,g,d,t,os'⟩:=s'
  obtain rfl:os'=s.os:=os
  exact ⟨v,H',I.call (h':=hh) (g':=g) (d':=d) (t':=t) (ch:=[]) un hok bare (fun b z=>absurd z (by simp)),r,q⟩
end
noncomputable def tCall (sp:Sp) (dvs:List V) (E:XK) (t:TA):TE:=fun σ H Q=>t σ H fun vs H1=>sp (vs++dvs) H1 Q E
noncomputable def tMeth (C:Addr) (m:Str) (sp:Sp) (dvs:List V) (E:XK) (ta:TE) (t:TA):TE:=fun σ H Q=>ta σ H fun x H1=>∃ a dx fs,x=.ref a/\H1 a=some (.ins C dx fs)/\fs.lookup m=none/\
  t σ H1 fun vs H2=>sp (x::(vs++dvs)) H2 Q E
noncomputable def tMake (C:Addr) (sp:Sp) (dvs:List V) (E:XK) (t:TA):TE:=fun σ H Q=>t σ H fun vs H1=>∀ x dx,H1 x=none->H1 dx=none->dx ≠ x->
  sp (.ref x::(vs++dvs)) (upd (upd H1 dx (.own x)) x (.ins C dx [])) (fun v H2=>v=.non/\Q (.ref x) H2) E
noncomputable def Binds (K:FG) (fd:FuncData) (ps:List Str) (ds:List Value):Prop:=
  ∀ (s:Shared) (us:List Value),K.In s.heap->(us++ds).length=ps.length->BindsTo s fd ⟨us,[]⟩ (ps.zip (us++ds))
theorem Binds.all {K:FG} {fd:FuncData} {ps:List Str} (h:∀ us:List Value,us.length=ps.length->bindArgs fd ⟨us,[]⟩=pure (ps.zip us)):Binds K fd ps []:=fun s us _ hl=>by
  rw [List.append_nil] at hl ⊢
  exact .of_eq (h us hl)
noncomputable def Passes (CX:CXT) (X:Cx) (E:XK):Prop:=∀ (pins:List (Addr × Obj)) (σ:St) (H:Hp) (s:Shared) (e:Value) (s':Shared),Inv X pins σ H s->CX X.stack H s E e s'->X.xe e s'
section
variable {X:Cx} {CX:CXT} {k:Nat} {f C:Addr} {fd:FuncData} {ps:List Str} {sp:Sp} {dvs:List V} {ds:List Value} {E:XK} {x m:Str} {p pos apos:Pos} {e o:Expr} {es:List Expr} {ta:TE} {t:TA}
theorem run_fn {σ:St} {H:Hp} {Q:VK} {us:List Value} {vs:List V} (F:FnOk X.prog X.w X.K X.mg X.base CX k f fd ps sp) (hr:Room k X.A) (hb:Binds X.K fd ps ds) (hd:Vals dvs ds) (hx:Passes CX X E)
    (I:Inv X pins σ H s) (r:Vals vs us) (h:sp (vs++dvs) H Q E):wpAny (model X.prog X.w) X.A (call (.ref f) us) (EP X pins σ Q) X.xe s:=by
  have r2:Vals (vs++dvs) (us++ds):=r.append hd
  have hl:(us++ds).length=ps.length:=by rw [← r2.length]; exact F.len _ _ _ _ h
  refine wpAny_call (codeAny_mono (F.run X.A X.stack s H ⟨us,[]⟩ (us++ds) (vs++dvs) Q E hr I.env0 (hb s us I.kIn hl) r2 h) fun r s' hq=>?_)
  cases r with
  | error e=>exact hx pins σ H s e s' I hq
  | ok fl=>
    cases fl with
    | ret u=>exact I.after hq
    | next=>exact False.elim hq
    | brk=>exact False.elim hq
    | cont=>exact False.elim hq
theorem pe_call (F:FnOk X.prog X.w X.K X.mg X.base CX k f fd ps sp) (hr:Room k X.A) (hg:Gl X x) (hm:X.mg x=some (.ref f)) (hk:PySem.W.keepIn X.K (.ref f)=true) (hb:Binds X.K fd ps ds) (hd:Vals dvs ds) (hx:Passes CX X E)
    (ha:PA X (e::es) t) (hdb:(x == ("__debug__" : Str))=false:=by decide) (he:starEach (e::es) X.env=(false,eval e X.env)::starEach es X.env:=by rfl) (hpl:(backTo pos (starEach es X.env)).any (·.1)=false:=by rfl):
    PE X (.Call (.Name x p) (e::es) [] pos) (tCall sp dvs E t):=by
  intro pins s σ H Q I h
  refine wpAny_Call_Name_kw (ld_glob I hg hm ?_ hdb)
  refine PySem.W.callWith_K (h₀:=X.base) I.ok.mod.kin hk (thn (ha pos pins s σ H _ I h) fun us s1 ⟨vs,H1,I1,r,q⟩=>⟨I1.kIn,?_⟩) he hpl
  exact run_fn F hr hb hd hx I1 r q
theorem pe_meth {pl:Sem Bool} (he:PE X o ta) (c:Cls X.K C) (hm:Meth X.K C m f) (F:FnOk X.prog X.w X.K X.mg X.base CX k f fd ps sp) (hr:Room k X.A) (hb:Binds X.K fd ps ds) (hd:Vals dvs ds) (hx:Passes CX X E) (ha:PA X (e::es) t)
    (hst:starEach (e::es) X.env=(false,eval e X.env)::starEach es X.env:=by rfl) (hpl:(backTo pos (starEach es X.env)).any (·.1)=false:=by rfl)
    (ht:eval (.Call (.Attribute o m apos) (e::es) [] pos) X.env=(do
      let ov ← eval o X.env
      standAt apos.atName
      let (f,first) ← holding [ov] (getMethod ov m pl)
      callWith pos f first (backTo pos (starEach (e::es) X.env)) (backToKw pos (keywordEach [] X.env))):=by rfl):
    PE X (.Call (.Attribute o m apos) (e::es) [] pos) (tMeth C m sp dvs E ta t):=by
  intro pins s σ H Q I h
  refine PySem.W.methodCall_KW (pl:=pl) (thn (he pins s σ H _ I h) fun u s1 ⟨x,H1,I1,rx,a,dx,fs,ex,ea,l,q⟩=>?_) ht
  subst ex
  obtain rfl:u=Value.ref a:=rx
  refine getmeth_ok I1 ea c hm l ?_
  refine PySem.W.callWith_K (first:=[.ref a]) (h₀:=X.base) I.ok.mod.kin hm.kp (thn (ha pos pins s1 σ H1 _ I1 q) fun us s2 ⟨vs,H2,I2,r,q2⟩=>⟨I2.kIn,?_⟩) hst hpl
  exact run_fn (us:=.ref a::us) (vs:=.ref a::vs) F hr hb hd hx I2 (.cons rfl r) q2
theorem pe_meth0 {pl:Sem Bool} (he:PE X o ta) (c:Cls X.K C) (hm:Meth X.K C m f) (F:FnOk X.prog X.w X.K X.mg X.base CX k f fd ps sp) (hr:Room k X.A) (hb:Binds X.K fd ps ds) (hd:Vals dvs ds) (hx:Passes CX X E)
    (ht:eval (.Call (.Attribute o m apos) [] [] pos) X.env=(do
      let ov ← eval o X.env
      standAt apos.atName
      let (f,first) ← holding [ov] (getMethod ov m pl)
      callWith pos f first (backTo pos (starEach [] X.env)) (backToKw pos (keywordEach [] X.env))):=by rfl):
    PE X (.Call (.Attribute o m apos) [] [] pos) (tMeth C m sp dvs E ta tNil):=by
  intro pins s σ H Q I h
  refine PySem.W.methodCall_KW (pl:=pl) (thn (he pins s σ H _ I h) fun u s1 ⟨x,H1,I1,rx,a,dx,fs,ex,ea,l,q⟩=>?_) ht
  subst ex
  obtain rfl:u=Value.ref a:=rx
  refine getmeth_ok I1 ea c hm l ?_
  exact PySem.W.callWith_K0 (first:=[.ref a]) I1.kIn hm.kp (run_fn (us:=[.ref a]) (vs:=[.ref a]) F hr hb hd hx I1 (.cons rfl .nil) q)
structure Mk (K:FG) (C f:Addr):Prop where
  makes:PySem.W.makesIn K C=true
  init:PySem.W.findIn K (.ref C) "__init__" = some (some (.ref f))
  fn:PySem.W.isFn K (.ref f)=true
  kp:PySem.W.keepIn K (.ref C)=true
theorem run_make {σ:St} {H:Hp} {Q:VK} {us:List Value} {vs:List V} (M:Mk X.K C f) (F:FnOk X.prog X.w X.K X.mg X.base CX k f fd ps sp) (hr:Room (k + 1) X.A) (hb:Binds X.K fd ps ds) (hd:Vals dvs ds)
    (hx:Passes CX X E) (I:Inv X pins σ H s) (r:Vals vs us)
    (h:∀ x dx,H x=none->H dx=none->dx ≠ x->sp (.ref x::(vs++dvs)) (upd (upd H dx (.own x)) x (.ins C dx [])) (fun v H2=>v=.non/\Q (.ref x) H2) E):
    wpAny (model X.prog X.w) X.A (call (.ref C) us) (EP X pins σ Q) X.xe s:=by
  have hq:=h (s.heap.objs.size + 1) s.heap.objs.size (I.hok.fresh (Nat.le_succ _)) (I.hok.fresh (Nat.le_refl _)) (Nat.ne_of_lt (Nat.lt_succ_self _))
  have I2:=Inv.made (C:=C) I
  have r2:Vals (V.ref (s.heap.objs.size + 1)::(vs++dvs)) (Value.ref (s.heap.objs.size + 1)::(us++ds)):=.cons rfl (r.append hd)
  have hl:(Value.ref (s.heap.objs.size + 1)::us++ds).length=ps.length:=by
    have e:=r2.length
    rw [F.len _ _ _ _ hq] at e
    exact e.symm
  refine wpAny_call (make_map (f:=f) I.kIn M.makes M.init (beq_iff_eq.mp M.fn) (codeAny_mono (F.run _ X.stack _ _ ⟨Value.ref (s.heap.objs.size + 1)::us,[]⟩ (Value.ref (s.heap.objs.size + 1)::(us++ds)) _ _ E (hr.make C us [])
    (I2.env0.make C us []) (hb _ (Value.ref (s.heap.objs.size + 1)::us) I2.kIn hl) r2 hq) fun r s' hq'=>?_))
  cases r with
  | error e=>exact hx pins σ _ _ e s' I2 hq'
  | ok fl=>
    cases fl with
    | ret u=>
      obtain ⟨v,H',I3,rv,ev,q3⟩:=I2.after hq'
      subst ev
      exact ⟨rv,⟨V.ref (s.heap.objs.size + 1),H',I3,rfl,q3⟩⟩
    | next=>exact False.elim hq'
    | brk=>exact False.elim hq'
    | cont=>exact False.elim hq'
theorem pe_make (M:Mk X.K C f) (F:FnOk X.prog X.w X.K X.mg X.base CX k f fd ps sp) (hr:Room (k + 1) X.A) (hg:Gl X x) (hm:X.mg x=some (.ref C)) (hb:Binds X.K fd ps ds) (hd:Vals dvs ds) (hx:Passes CX X E)
    (ha:PA X (e::es) t) (hdb:(x == ("__debug__" : Str))=false:=by decide) (he:starEach (e::es) X.env=(false,eval e X.env)::starEach es X.env:=by rfl) (hpl:(backTo pos (starEach es X.env)).any (·.1)=false:=by rfl):
    PE X (.Call (.Name x p) (e::es) [] pos) (tMake C sp dvs E t):=by
  intro pins s σ H Q I h
  refine wpAny_Call_Name_kw (ld_glob I hg hm ?_ hdb)
  refine PySem.W.callWith_K (h₀:=X.base) I.ok.mod.kin M.kp (thn (ha pos pins s σ H _ I h) fun us s1 ⟨vs,H1,I1,r,q⟩=>⟨I1.kIn,?_⟩) he hpl
  exact run_make M F hr hb hd hx I1 r q
end
section
variable {X:Cx} {CX:CXT} {k:Nat} {f C:Addr} {fd:FuncData} {ps ks:List Str} {sp:Sp} {E:XK} {x m:Str} {p pos apos kpos:Pos} {e o:Expr} {es:List Expr} {kws:List Keyword} {te ta:TE} {t tk:TA} {nm:Option Str}
variable {g:List Value->List Value->List Value} {gV:List V->List V->List V}
end
structure FnScope (N P:List Str) (sc:Scope):Prop where
  kind:sc.kind=.function
  co:sc.isCoroutine=false
  gen:sc.isGenerator=false
  nd:N.Nodup
  pre:N.take P.length=P
  par:∀ x ∈ P,sc.names.lookup x=some .local\/sc.names.lookup x=some .cell
  nofree:∀ y ∈ sc.names,y.2 ≠ .free
theorem bindL_out {kindOf:Str->Option NameKind} {x:Str}:∀ {binds:List (Str × Value)} {m:Str->Option Value},(∀ v,(x,v) ∉ binds)->bindL kindOf binds m x=m x
  | [],_,_=>rfl
  | (n,v)::r,m,h=>by
    unfold bindL
    rw [bindL_out fun w hw=>h w (List.mem_cons_of_mem _ hw)]
    split
    · have:x ≠ n:=by rintro rfl; exact h v List.mem_cons_self
      simp [this]
    · rfl
theorem bindC_out {kindOf:Str->Option NameKind} {x:Str}:∀ {binds:List (Str × Value)} {m:Str->Option Value},(∀ v,(x,v) ∉ binds)->bindC kindOf binds m x=m x
  | [],_,_=>rfl
  | (n,v)::r,m,h=>by
    unfold bindC
    rw [bindC_out fun w hw=>h w (List.mem_cons_of_mem _ hw)]
    split
    · rfl
    · have:x ≠ n:=by rintro rfl; exact h v List.mem_cons_self
      simp [this]
theorem bindL_get {kindOf:Str->Option NameKind} {x:Str} {v:Value}:∀ {P:List Str} {vs:List Value} {i:Nat} {m:Str->Option Value},P.Nodup->P[i]?=some x->vs[i]?=some v->kindOf x=some .local->
    bindL kindOf (P.zip vs) m x=some v
  | [],_,_,_,_,h,_,_=>by simp at h
  | _::_,[],_,_,_,_,h,_=>by simp at h
  | p::P,w::vs,0,m,nd,h1,h2,hk=>by
    simp at h1 h2; subst h1; subst h2
    show bindL kindOf ((p,w)::P.zip vs) m p=_
    unfold bindL
    rw [bindL_out fun v hv=>(List.nodup_cons.mp nd).1 (List.of_mem_zip hv).1,if_pos hk]
    simp
  | p::P,w::vs,i + 1,m,nd,h1,h2,hk=>by
    show bindL kindOf ((p,w)::P.zip vs) m x=_
    unfold bindL
    exact bindL_get (i:=i) (List.nodup_cons.mp nd).2 (by simpa using h1) (by simpa using h2) hk
theorem bindC_get {kindOf:Str->Option NameKind} {x:Str} {v:Value}:∀ {P:List Str} {vs:List Value} {i:Nat} {m:Str->Option Value},P.Nodup->P[i]?=some x->vs[i]?=some v->kindOf x ≠ some .local->
    bindC kindOf (P.zip vs) m x=some v
  | [],_,_,_,_,h,_,_=>by simp at h
  | _::_,[],_,_,_,_,h,_=>by simp at h
  | p::P,w::vs,0,m,nd,h1,h2,hk=>by
    simp at h1 h2; subst h1; subst h2
    show bindC kindOf ((p,w)::P.zip vs) m p=_
    unfold bindC
    rw [bindC_out fun v hv=>(List.nodup_cons.mp nd).1 (List.of_mem_zip hv).1,if_neg hk]
    simp
  | p::P,w::vs,i + 1,m,nd,h1,h2,hk=>by
    show bindC kindOf ((p,w)::P.zip vs) m x=_
    unfold bindC
    exact bindC_get (i:=i) (List.nodup_cons.mp nd).2 (by simpa using h1) (by simpa using h2) hk
noncomputable def start (N:List Str) (vs:List V):St:=vs.map some++List.replicate (N.length - vs.length) none
noncomputable def cxOf (CX:CXT) (P:Program) (w:World) (K:FG) (mg:Str->Option Value) (base:Heap) (N:List Str) (qual:Str) (scope:Scope) (f:Addr) (cd:Value) (A:Around) (outer:List Env) (s:Shared) (H:Hp) (E:XK):Cx where
  prog:=P
  w:=w
  K:=K
  mg:=mg
  base:=base
  A:=A.deeper (envOfC qual scope s.heap.objs.size f cd)
  N:=N
  s₀:=s
  H0:=H
  env:=envOfC qual scope s.heap.objs.size f cd
  outer:=outer
  stack:=envOfC qual scope s.heap.objs.size f cd::outer
  ex:=[]
  calm:=true
  fn:=fun _=>true
  pn:=[]
  xe:=fun e s'=>wpAny (model P w) (A.deeper (envOfC qual scope s.heap.objs.size f cd)) (leaving (envOfC qual scope s.heap.objs.size f cd) e) (fun _ s''=>CX outer H s E e s'') (fun e' s''=>CX outer H s E e' s'') s'
theorem cell_has {sc:Scope} {n:Nat} {x:Str} (h:sc.names.lookup x=some .cell):∃ c,(cellsFrom n sc.names []).lookup x=some c:=by
  have q:=PySem.W.cellsFrom_some sc.names n [] (.inl h)
  exact Option.isSome_iff_exists.mp q
theorem inv_start {CX:CXT} {K:FG} {mg:Str->Option Value} {base:Heap} {N ps:List Str} {qual:Str} {scope:Scope} {f:Addr} {cd:Value} {outer:List Env} {s s1:Shared} {H:Hp} {E:XK} {us:List Value} {vs:List V}
    (S:FnScope N ps scope) (hd:A.handled=none) (e0:Env0 P w K mg base A outer s H) (hl:vs.length=ps.length) (r:Vals vs us)
    (x:InCallC s s.heap.objs.size (bindL (envOfC qual scope s.heap.objs.size f cd).kindOf (ps.zip us) fun _=>none) (cellsFrom (s.heap.objs.size + 1) scope.names []) (bindC (envOfC qual scope s.heap.objs.size f cd).kindOf (ps.zip us) fun _=>none) s1):
    Inv (cxOf CX P w K mg base N qual scope f cd A outer s H E) [] (start N vs) H s1:=by
  have hpl:ps.length<=N.length:=by have:=congrArg List.length S.pre; rw [List.length_take] at this; omega
  obtain ⟨h1,tk,rfl,hk⟩:=x.done
  have noA:∀ b:Addr,b ∉ (cxOf CX P w K mg base N qual scope f cd A outer s H E).ex:=fun b z=>absurd (show b ∈ ([]:List Addr) from z) (by simp)
  refine ⟨⟨e0.mod,S.kind,rfl,rfl,Nat.le_refl _,fun y z c h1 h2=>?_,fun y hy=>?_,fun y c _ h=>?_,fun _=>hd,Around.frames_deeper e0.frames,.inr ⟨rfl,rfl⟩,fun b z=>absurd z (noA b),e0.bs,e0.bsz,fun b _ _=>noA b,fun b z=>absurd z (noA b),e0.funs,e0.frf⟩,
    rfl,e0.bare,Un.kept hk,⟨_,x.toInCall.ns,fun i y v h1 h2 h3=>?_⟩,fun y c h=>⟨_,x.cell y c h⟩,e0.hok.fresh (Nat.le_refl _),fun y c h=>?_,fun p hp=>absurd (show p ∈ ([]:List (Addr × Obj)) from hp) (by simp),e0.hok.kept hk,?_⟩
  · exact name_of_addr x.apart (PySem.mem_of_lookup h1) (PySem.mem_of_lookup h2)
  · have hy:scope.names.lookup y=some .cell\/scope.names.lookup y=some .free:=hy
    rcases hy with hy | hy
    · exact cell_has hy
    · exact absurd rfl (S.nofree _ (PySem.mem_of_lookup hy))
  · exact Nat.le_of_lt (x.above y c (PySem.mem_of_lookup h))
  · have hi:i < vs.length:=by
      unfold start at h2
      by_cases hi:i < vs.length
      · exact hi
      · rw [List.getElem?_append_right (by simpa using hi)] at h2
        rw [List.getElem?_replicate] at h2
        split at h2 <;> cases h2
    have ha:vs[i]?=some v:=by
      unfold start at h2
      rw [List.getElem?_append_left (by simpa using hi),List.getElem?_map] at h2
      cases e:vs[i]? with
      | none=>rw [e] at h2; cases h2
      | some a=>rw [e] at h2; cases h2; rfl
    obtain ⟨u,hu,rv⟩:=r.get ha
    have hp:ps[i]?=some y:=by
      rw [← S.pre,List.getElem?_take_of_lt (by omega)]; exact h1
    have ndP:ps.Nodup:=by rw [← S.pre]; exact S.nd.sublist (List.take_sublist _ _)
    refine ⟨u,rv,?_⟩
    rcases S.par y (List.mem_of_getElem? hp) with k | k
    · exact .inl ⟨k,bindL_get ndP hp hu k⟩
    · obtain ⟨c,e⟩:=cell_has (n:=s.heap.objs.size + 1) k
      refine .inr ⟨.inl k,c,e,?_⟩
      have q:=x.cell y c e
      rw [bindC_get ndP hp hu (by show scope.names.lookup y ≠ _; rw [k]; decide)] at q
      exact q
  · exact e0.hok.fresh (Nat.le_of_lt (x.above y c (PySem.mem_of_lookup h)))
  · unfold start
    show _=N.length
    rw [List.length_append,List.length_map,List.length_replicate]
    omega
theorem fn_of {CX:CXT} {K:FG} {mg:Str->Option Value} {base:Heap} {k:Nat} {f:Addr} {name qual:Str} {params:Arguments} {body:List Stmt} {scope:Scope} {dV kV doc pm cdv ct oc:Value} {an od:Option Addr}
    {osl:Array (Option Value)} {N ps:List Str} {sp:Sp} (lk:K.lookup f=some ⟨oc,od,.func (PySem.W.fnOf name qual params body scope dV kV doc pm an cdv ct),osl⟩) (hcd:PySem.W.codeIn K cdv qual=true) (S:FnScope N ps scope)
    (len:∀ vs H Q E,sp vs H Q E->vs.length=ps.length)
    (hbody:∀ (A:Around) (outer:List Env) (s:Shared) (H:Hp) (vs:List V) (Q:VK) (E:XK),Room k (A.deeper (envOfC qual scope s.heap.objs.size f cdv))->sp vs H Q E->
      ∃ t,PSs (cxOf CX P w K mg base N qual scope f cdv A outer s H E) body t/\t { nx:=fun _ H'=>Q .non H',rt:=Q } (start N vs) H):
    FnOk P w K mg base CX (k + 1) f (PySem.W.fnOf name qual params body scope dV kV doc pm an cdv ct) ps sp:=by
  refine ⟨len,fun A outer s H args us vs Q E hr e0 hb r hsp=>?_⟩
  have hl:=len _ _ _ _ hsp
  have KX:K.In s.heap:=e0.mod.kin.keeps fun b o e=>(e0.bs b o e).1
  have lim:s.heap.NoLimit:=e0.mod.nolimit.keeps fun b o e=>(e0.bs b o e).1
  have hkind:∀ y ∈ ps.zip us,scope.names.lookup y.1=some .local\/(scope.names.lookup y.1=some .cell/\((cellsFrom (s.heap.objs.size + 1) scope.names []).lookup y.1).isSome=true):=fun ⟨n,v⟩ hy=>by
    rcases S.par n (List.of_mem_zip hy).1 with q | q
    · exact .inl q
    · exact .inr ⟨q,PySem.W.cellsFrom_some _ _ _ (.inl q)⟩
  refine codeAny_call_function hr.depth (KX _ _ lk) rfl S.co S.gen rfl (PySem.W.codeRec_of KX hcd) (hb _ _ _ _ ?_)
  refine wpAny_newFunctionEnv_cells S.kind hkind fun env he s1 x=>?_
  subst he
  refine ⟨lim.keeps x.toInCall.keep,codeAny_func ?_⟩
  obtain ⟨t,ht,hq⟩:=hbody A outer s H vs Q E (hr.deeper _) hsp
  have I:Inv (cxOf CX P w K mg base N qual scope f cdv A outer s H E) [] (start N vs) H s1:=inv_start S hr.hd e0 hl r x
  refine wpAny_mono (ht [] s1 (start N vs) H _ I hq) (fun fl s' hs=>?_) fun e s' hs=>hs
  have fin:∀ {σ':St} {H':Hp} {v:V} {u:Value},Inv (cxOf CX P w K mg base N qual scope f cdv A outer s H E) [] σ' H' s'->RelV v u->Q v H'->CE outer P w H s Q u s':=
    fun {σ' H' v u} J rv q=>⟨v,H',J.os,J.bare,J.base,J.hok,rv,q⟩
  cases fl with
  | ret u=>
    obtain ⟨v,σ',H',J,rv,q⟩:=hs
    exact fin J rv q
  | next=>
    obtain ⟨σ',H',J,q⟩:=hs
    exact fin (v:=V.non) (u:=Value.none) J rfl q
  | brk=>
    obtain ⟨_,_,_,q⟩:=hs
    exact False.elim q
  | cont=>
    obtain ⟨_,_,_,q⟩:=hs
    exact False.elim q
section
variable {X:Cx} {x:Str} {p pos:Pos} {e:Expr} {es:List Expr} {t:TA} {id T:String} {r:List V->Hp->VK->Prop}
noncomputable def tCB (r:List V->Hp->VK->Prop) (t:TA):TE:=fun σ H Q=>t σ H fun vs H1=>r vs H1 Q
theorem pe_callB (hc:CallR X (.builtin id) r) (hg:Gl X x) (hm:X.mg x=none) (hv:bootBuiltins x=some (.builtin id)) (ha:PA X (e::es) t) (hn:x ≠ "__name__" := by decide) (hdb:(x == ("__debug__" : Str))=false:=by decide)
    (he:starEach (e::es) X.env=(false,eval e X.env)::starEach es X.env:=by rfl) (hpl:(backTo pos (starEach es X.env)).any (·.1)=false:=by rfl):PE X (.Call (.Name x p) (e::es) [] pos) (tCB r t):=by
  intro pins s σ H Q I h
  refine wpAny_Call_Name_kw (ld_blt I hg hm hv ?_ hn hdb)
  exact PyProof.Rows.callWith_builtin1 (thn (ha pos pins s σ H _ I h) fun us s1 ⟨vs,H1,I1,r1,q1⟩=>hc pins s1 σ H1 vs us Q I1 r1 q1) he hpl
theorem pe_callTy (hc:CallR X (.type T) r) (hg:Gl X x) (hm:X.mg x=none) (hv:bootBuiltins x=some (.type T)) (ha:PA X (e::es) t) (hn:x ≠ "__name__" := by decide) (hdb:(x == ("__debug__" : Str))=false:=by decide)
    (he:starEach (e::es) X.env=(false,eval e X.env)::starEach es X.env:=by rfl) (hpl:(backTo pos (starEach es X.env)).any (·.1)=false:=by rfl):PE X (.Call (.Name x p) (e::es) [] pos) (tCB r t):=by
  intro pins s σ H Q I h
  refine wpAny_Call_Name_kw (ld_blt I hg hm hv ?_ hn hdb)
  exact PyProof.Rows.callWith_type1 (thn (ha pos pins s σ H _ I h) fun us s1 ⟨vs,H1,I1,r1,q1⟩=>hc pins s1 σ H1 vs us Q I1 r1 q1) he hpl
end
end L2
namespace HT
open PySem PyProof.Rows
section
open PySem.SeqAt
open PySem.AutoSeq1 (wpAny_loadPart')
open PySem.MeetsSeq PySem.MeetsSeq2 PySem.MeetsSeq3
end
section
variable {prog:Program} {w:World} {A:Around} {E:Value->Shared->Prop} {s:Shared}
theorem cat_tup {t b:Addr} {vs ws:List Value} {Q:Value->Shared->Prop} (ht:IsTup s.heap t vs.toArray) (hb:IsTup s.heap b ws.toArray) (hv:vs ≠ [])
    (h1:ws=[]->Q (.ref t) s) (h2:ws ≠ []->Q (.ref s.heap.objs.size) { s with heap:=s.heap.push { cls:=.type "tuple",data:=.seq (vs++ws).toArray } })
    (hsz:vs.length + ws.length<=sizeLine):wpAny (model prog w) A (binaryOp .Add (.ref t) (.ref b)) Q E s:=by
  obtain ⟨⟨cls,dd,data,sl⟩,ho,hc,n,hd⟩:=id ht
  obtain ⟨⟨cls2,dd2,data2,sl2⟩,ho2,hc2,n2,hd2⟩:=id hb
  simp only at hc hd hc2 hd2
  subst hc hd hc2 hd2
  have e:vs.toArray++ws.toArray=(vs++ws).toArray:=by simp
  by_cases hw:ws=[]
  · exact concat_meets ⟨_,ho,rfl⟩ ⟨_,ho2,rfl⟩ noFill_tuple_add seq_tuple_add PySem.F.slot_tuple_add PySem.F.entry_tuple_add (PySem.F.args_tuple_add_2 _ _)
      (tuple_addW1 t b vs.toArray ws.toArray n n2 dd dd2 sl sl2 (by simpa using hv) (by simp [hw])) ⟨ho,ho2,h1 hw⟩
  · refine concat_meets ⟨_,ho,rfl⟩ ⟨_,ho2,rfl⟩ noFill_tuple_add seq_tuple_add PySem.F.slot_tuple_add PySem.F.entry_tuple_add (PySem.F.args_tuple_add_2 _ _)
      (tuple_addW2 t b vs.toArray ws.toArray n n2 dd dd2 sl sl2 (by simpa using hv) (by simpa using hw) (by rw [List.size_toArray,List.size_toArray]; exact hsz)) ⟨ho,ho2,?_⟩
    rw [e]
    exact h2 hw
noncomputable def sIx (n d:Nat):Option Int->Nat
  | none=>d
  | some v=>if v < 0 then (v + (n:Int)).toNat else min v.toNat n
theorem sIx_none (n d:Nat):sIx n d none=d:=rfl
theorem sIx_nat (n d k:Nat):sIx n d (some (k:Int))=min k n:=by
  show (if (k:Int) < 0 then ((k:Int) + (n:Int)).toNat else min (k:Int).toNat n)=min k n
  rw [if_neg (by omega),Int.toNat_natCast]
theorem sIx_le (n d:Nat) (hd:d<=n) (o:Option Int):sIx n d o<=n:=by
  cases o with
  | none=>exact hd
  | some v=>
    show (if v < 0 then (v + (n:Int)).toNat else min v.toNat n)<=n
    by_cases hv:v < 0
    · rw [if_pos hv]; omega
    · rw [if_neg hv]; exact Nat.min_le_right _ _
end
end HT
namespace L2
open PySem PySem.Spec PyProof.Rows
variable {pins:List (Addr × Obj)} {E:Value->Shared->Prop} {s:Shared} {A:Around} {w:World} {P:Program}
noncomputable abbrev TO:=St->Hp->(Option Int->Hp->Prop)->Prop
noncomputable def PO (X:Cx) (e:Option Expr) (t:TO):Prop:=
  ∀ (pins:List (Addr × Obj)) (s:Shared) (σ:St) (H:Hp) (Q:Option Int->Hp->Prop),Inv X pins σ H s->t σ H Q->
    wpAny (model X.prog X.w) X.A (evalPart e X.env) (fun u s'=>∃ o H',Inv X pins σ H' s'/\IsPart u o/\Q o H') X.xe s
noncomputable def tNoPart:TO:=fun _ H Q=>Q none H
noncomputable def tPart (t:TE):TO:=fun σ H Q=>t σ H fun x H1=>∃ i,x=.int i/\Q (some i) H1
section
variable {X:Cx} {e:Expr} {te:TE} {lo hi:Option Expr} {tl th:TO} {pos p2:Pos}
theorem po_none:PO X none tNoPart:=by
  intro pins s σ H Q I h
  rw [evalPart_none]
  exact wpAny_pure ⟨none,H,I,.none,h⟩
theorem po_some (h:PE X e te):PO X (some e) (tPart te):=by
  intro pins s σ H Q I hw
  rw [evalPart_some]
  refine thn (h pins s σ H _ I hw) fun u s1 ⟨x,H1,I1,r1,q1⟩=>?_
  obtain ⟨i,rfl,q⟩:=q1
  obtain ⟨t,rfl⟩:=r1
  exact ⟨some i,H1,I1,.int i t,q⟩
noncomputable def SlR (X:Cx) (r:V->Option Int->Option Int->Hp->VK->Prop):Prop:=
  ∀ (pins:List (Addr × Obj)) (s:Shared) (σ:St) (H:Hp) (x:V) (v vl vu:Value) (lo hi:Option Int) (sl:Addr) (Q:VK),Inv X pins σ H s->RelV x v->s.heap.IsSliceOf sl vl vu .none->IsPart vl lo->IsPart vu hi->r x lo hi H Q->
    ∃ T id,typeLookup (.type T) "__getitem__" = pure (some (.builtin id))/\s.TypeIs v T/\wpAny (model X.prog X.w) X.A (getItem v (.ref sl)) (EP X pins σ Q) X.xe s
theorem SlR.or {r r':V->Option Int->Option Int->Hp->VK->Prop} (h:SlR X r) (h':SlR X r'):SlR X (fun x lo hi H Q=>r x lo hi H Q\/r' x lo hi H Q):=by
  intro pins s σ H x v vl vu lo hi sl Q I rx hs pl pu q
  rcases q with q | q
  · exact h pins s σ H x v vl vu lo hi sl Q I rx hs pl pu q
  · exact h' pins s σ H x v vl vu lo hi sl Q I rx hs pl pu q
noncomputable def tSl (r:V->Option Int->Option Int->Hp->VK->Prop) (te:TE) (tl th:TO):TE:=fun σ H Q=>te σ H fun x H1=>tl σ H1 fun l H2=>th σ H2 fun u H3=>r x l u H3 Q
theorem pe_slice {r:V->Option Int->Option Int->Hp->VK->Prop} (hr:SlR X r) (he:PE X e te) (hl:PO X lo tl) (hu:PO X hi th):PE X (.Subscript e (.Slice lo hi none p2) pos) (tSl r te tl th):=by
  intro pins s σ H Q I h
  refine Subscript_ (thn (he pins s σ H _ I h) fun v s1 ⟨x,H1,I1,r1,q1⟩=>?_)
  refine wpAny_Slice (thn (hl pins s1 σ H1 _ I1 q1) fun vl s2 ⟨l,H2,I2,pl,q2⟩=>thn (hu pins s2 σ H2 _ I2 q2) fun vu s3 ⟨u,H3,I3,pu,q3⟩=>?_)
  rw [evalPart_none]
  refine wpAny_pure ?_
  have I4:Inv X pins σ H3 { s3 with heap:=s3.heap.push { cls:=.type "slice",data:=.fields #[vl,vu,.none] } }:=I3.kept (t':=s3.toks) fun b ob q=>Heap.get?_push_of_some _ q
  obtain ⟨T,id,hT,ht,hg⟩:=hr pins { s3 with heap:=s3.heap.push { cls:=.type "slice",data:=.fields #[vl,vu,.none] } } σ H3 x v vl vu l u s3.heap.objs.size Q I4 r1 (Heap.IsSliceOf.new ..) pl pu q3
  show wpAny (model X.prog X.w) X.A (subscriptTail e (.Slice lo hi none p2) v (.ref s3.heap.objs.size)) (EP X pins σ Q) X.xe { s3 with heap:=s3.heap.push { cls:=.type "slice",data:=.fields #[vl,vu,.none] } }
  exact tail_any (ops:=[.ref s3.heap.objs.size,v]) ht hT hg (by with_unfolding_all rfl)
noncomputable def cutV (xs:List V) (lo hi:Option Int):List V:=(xs.drop (HT.sIx xs.length 0 lo)).take (HT.sIx xs.length xs.length hi - HT.sIx xs.length 0 lo)
theorem cutV_length (xs:List V) (lo hi:Option Int):(cutV xs lo hi).length<=xs.length:=by
  unfold cutV
  rw [List.length_take,List.length_drop]
  omega
noncomputable def rCatT (K:FG):R2:=fun x y H Q=>∃ a b xs ys,x=.ref a/\y=.ref b/\SqT K H a xs/\SqT K H b ys/\xs ≠ []/\xs.length + ys.length<=sizeLine/\
  (ys=[]->Q (.ref a) H)/\(ys ≠ []->∀ p,H p=none->Q (.ref p) (upd H p (.tup (xs++ys))))
theorem Vals.nil_iff {xs:List V} {us:List Value} (r:Vals xs us):us=[] ↔ xs=[]:=by
  cases r with
  | nil=>simp
  | cons _ _=>simp
theorem op_catT:OpR X (binaryOp .Add) (rCatT X.K):=by
  intro pins s σ H x y v u Q I rx ry h
  obtain ⟨a,b,xs,ys,rfl,rfl,ha,hb,hx,hz,q1,q2⟩:=h
  cases rx
  cases ry
  obtain ⟨its,r1,p1,_⟩:=I.tuple ha
  obtain ⟨its2,r2,p2,_⟩:=I.tuple hb
  refine HT.cat_tup p1 p2 (fun z=>hx (r1.nil_iff.mp z)) (fun z=>⟨.ref a,H,I,rfl,q1 (r2.nil_iff.mp z)⟩) (fun z=>?_) (by rw [← r1.length,← r2.length]; exact hz)
  refine ⟨.ref s.heap.objs.size,_,I.laid (t':=s.toks) (o:=.tup (xs++ys)) (fun b ob q=>Heap.get?_push_of_some _ q) (Nat.le_refl _) ?_,rfl,q2 (fun w=>z (r2.nil_iff.mpr w)) _ (I.hok.fresh (Nat.le_refl _))⟩
  exact ⟨by rw [List.length_append]; exact hz,_,r1.append r2,IsTup.new _ _⟩
end
noncomputable def ixN (n:Nat) (i:Int):Option Nat:=if 0<=i then (if i < n then some i.toNat else none) else if -(n:Int)<=i then some (i + n).toNat else none
noncomputable def atI {α:Type} (xs:List α) (i:Int):Option α:=(ixN xs.length i).bind fun j=>xs[j]?
theorem ixN_seq {n:Nat} {i:Int} {j:Nat} (h:ixN n i=some j):seqIndex? i n=some j/\j < n/\-(n:Int)<=i/\i < n:=by
  unfold ixN at h
  by_cases h0:0<=i
  · rw [if_pos h0] at h
    by_cases h1:i < n
    · rw [if_pos h1] at h
      have e:i.toNat=j:=Option.some.inj h
      exact ⟨by rw [seqIndex_of h0 h1,e],by omega,by omega,h1⟩
    · rw [if_neg h1] at h; cases h
  · rw [if_neg h0] at h
    by_cases h1:-(n:Int)<=i
    · rw [if_pos h1] at h
      have e:(i + n).toNat=j:=Option.some.inj h
      exact ⟨by rw [seqIndex_neg (by omega) h1,e],by omega,h1,by omega⟩
    · rw [if_neg h1] at h; cases h
theorem atI_get {α:Type} {xs:List α} {i:Int} {v:α} (h:atI xs i=some v):∃ j,seqIndex? i xs.length=some j/\xs[j]?=some v/\j < xs.length/\-(xs.length:Int)<=i/\i < xs.length:=by
  unfold atI at h
  cases e:ixN xs.length i with
  | none=>rw [e] at h; cases h
  | some j=>
    rw [e] at h
    obtain ⟨h1,h2,h3,h4⟩:=ixN_seq e
    exact ⟨j,h1,h,h2,h3,h4⟩
noncomputable def PlainIx (b:Expr):Prop:=∀ o i,subscripted b false o i=operate [o,i] (getItem o i)
noncomputable def IxR (X:Cx) (r:R2):Prop:=
  ∀ (value slice:Expr) (pins:List (Addr × Obj)) (s:Shared) (σ:St) (H:Hp) (x y:V) (v u:Value) (Q:VK),Inv X pins σ H s->RelV x v->RelV y u->r x y H Q->
    subscripted slice false v u=operate [v,u] (getItem v u)->wpAny (model X.prog X.w) X.A (subscriptTail value slice v u) (EP X pins σ Q) X.xe s
noncomputable def MtR (X:Cx) (id:String) (r:V->List V->Hp->VK->Prop):Prop:=
  ∀ (pins:List (Addr × Obj)) (s:Shared) (σ:St) (H:Hp) (x:V) (xs:List V) (v:Value) (us:List Value) (Q:VK),Inv X pins σ H s->RelV x v->Vals xs us->r x xs H Q->
    wpAny (model X.prog X.w) X.A (call (.builtin id) (v::us)) (EP X pins σ Q) X.xe s
section
variable {X:Cx} {a b:Expr} {ta tb:TE} {pos:Pos}
theorem IxR.or {r r':R2} (h:IxR X r) (h':IxR X r'):IxR X (fun x y H Q=>r x y H Q\/r' x y H Q):=by
  intro value slice pins s σ H x y v u Q I rx ry q hs
  rcases q with q | q
  · exact h value slice pins s σ H x y v u Q I rx ry q hs
  · exact h' value slice pins s σ H x y v u Q I rx ry q hs
theorem pe_ix {r:R2} (hr:IxR X r) (ha:PE X a ta) (hb:PE X b tb) (hs:PlainIx b):PE X (.Subscript a b pos) (tOp r ta tb):=by
  intro pins s σ H Q I h
  exact Subscript_ (binT ha hb I h fun v u s2 x y H2 I2 rx ry q=>hr a b pins s2 σ H2 x y v u Q I2 rx ry q (hs _ _))
noncomputable def rIxL (K:FG):R2:=fun x y H Q=>∃ p xs i v,x=.ref p/\y=.int i/\SqL K H p xs/\atI xs i=some v/\Q v H
noncomputable def rIxT (K:FG):R2:=fun x y H Q=>∃ p xs i v,x=.ref p/\y=.int i/\SqT K H p xs/\atI xs i=some v/\Q v H
noncomputable def rIxS:R2:=fun x y H Q=>∃ z i c,x=.str z/\y=.int i/\z.length<=sizeLine/\atI z.cps.toList i=some c/\Q (.str ⟨#[c]⟩) H
theorem ix_list:IxR X (rIxL X.K):=by
  intro value slice pins s σ H x y v u Q I rx ry h hs
  obtain ⟨p,xs,i,z,rfl,rfl,hq,he,q⟩:=h
  cases rx
  obtain ⟨t,rfl⟩:=ry
  obtain ⟨its,r,pl,hz⟩:=I.list hq
  obtain ⟨j,h1,h2,h3,h4,h5⟩:=atI_get he
  obtain ⟨w,ew,rw'⟩:=r.get h2
  have hl:=r.length
  have hn:=line63
  have fin:EP X pins σ Q w s:=⟨z,H,I,rw',q⟩
  by_cases h0:0<=i
  · have hj:i.toNat=j:=by
      rw [seqIndex_of h0 h5] at h1
      exact Option.some.inj h1
    exact item_listR pl.isList h0 (by omega) (by rw [hj]; simpa using ew) fin hs
  · have hj:(i + (its.toArray.size:Int)).toNat=j:=by
      rw [seqIndex_neg (by omega) h4] at h1
      rw [List.size_toArray,← hl]
      exact Option.some.inj h1
    exact subscriptTail_builtinR (x:=w) pl.isList.typeIs slot_list_getitem.lookup
      (wpAny_getItem_list_neg (Q:=fun r s'=>r=w/\EP X pins σ Q r s') pl.isList (by omega) (by rw [List.size_toArray] <;> omega) (by omega) (by rw [hj]; simpa using ew) ⟨rfl,fin⟩) hs
theorem ix_tup:IxR X (rIxT X.K):=by
  intro value slice pins s σ H x y v u Q I rx ry h hs
  obtain ⟨p,xs,i,z,rfl,rfl,hq,he,q⟩:=h
  cases rx
  obtain ⟨t,rfl⟩:=ry
  obtain ⟨its,r,pl,hz⟩:=I.tuple hq
  obtain ⟨j,h1,h2,h3,h4,h5⟩:=atI_get he
  obtain ⟨w,ew,rw'⟩:=r.get h2
  have hl:=r.length
  have hn:=line63
  have fin:EP X pins σ Q w s:=⟨z,H,I,rw',q⟩
  exact subscriptTail_builtinR (x:=w) pl.typeIs slot_tuple_getitem.lookup
    (getItem_tuple (j:=j) (Q:=fun r s'=>r=w/\EP X pins σ Q r s') pl (by omega) (by omega) (by rw [List.size_toArray,← hl]; exact h1) (by simpa using ew) ⟨rfl,fin⟩) hs
theorem ix_str:IxR X rIxS:=by
  intro value slice pins s σ H x y v u Q I rx ry h hs
  obtain ⟨z,i,c,rfl,rfl,hz,he,q⟩:=h
  obtain ⟨t,rfl⟩:=rx
  obtain ⟨t',rfl⟩:=ry
  obtain ⟨j,h1,h2,h3,h4,h5⟩:=atI_get he
  have hl:z.cps.toList.length=z.length:=by simp [Str.length]
  rw [hl] at h1 h4 h5
  have hn:=line63
  exact tail_any (typeIs_str s z t) slot_str_getitem.lookup (getItem_str (c:=c) (by
    have e1:decide (i < -(2 ^ 63:Int))=false:=decide_eq_false (by omega)
    have e2:decide (i ≥ 2 ^ 63)=false:=decide_eq_false (by omega)
    rw [e1,e2,Bool.or_false]) (by rw [h1]; simpa using h2) ⟨.str ⟨#[c]⟩,H,I.tok _,⟨_,rfl⟩,q⟩) hs
noncomputable def rIx (K:FG):R2:=fun x y H Q=>rIxL K x y H Q\/rIxT K x y H Q\/rIxS x y H Q
theorem ix_seq:IxR X (rIx X.K):=ix_list.or (ix_tup.or ix_str)
theorem mapSeq_set (its:List Value) (n j:Nat) (u:Value):Obj.mapSeq (·.setIfInBounds j u) { cls:=.type "list",data:=.seq its.toArray n }={ cls:=.type "list",data:=.seq (its.set j u).toArray n }:=by
  simp [Obj.mapSeq]
theorem Inv.lst {σ:St} {H:Hp} {p:Addr} {xs:List V} (I:Inv X pins σ H s) (h:H p=some (.lst xs)):
    ∃ (its:List Value) (n:Nat),Vals xs its/\s.heap.get? p=some { cls:=.type "list",data:=.seq its.toArray n }/\xs.length<=sizeLine:=by
  obtain ⟨z,its,n,r,e⟩:=I.hok p _ h
  exact ⟨its,n,r,e,z⟩
theorem Inv.lstUpd {σ:St} {H:Hp} {p:Addr} {xs ys:List V} {its its':List Value} {n n':Nat} {f:Obj->Obj} (I:Inv X pins σ H s) (h:H p=some (.lst xs))
    (ho:s.heap.get? p=some { cls:=.type "list",data:=.seq its.toArray n }) (hf:f { cls:=.type "list",data:=.seq its.toArray n }={ cls:=.type "list",data:=.seq its'.toArray n' }) (r:Vals ys its') (hz:ys.length<=sizeLine) (t:Nat):
    Inv X pins σ (upd H p (.lst ys)) { s with heap:=s.heap.update p f,toks:=t }:=by
  have e:(s.heap.update p f).get? p=some { cls:=.type "list",data:=.seq its'.toArray n' }:=by
    rw [Heap.get?_update_self f ho (by rw [hf] <;> rfl),hf]
  refine I.write (x:=p) (e:=p) (by rw [h]; trivial) (.inl rfl) (fun b u hb q=>(Heap.get?_update_other _ _ (Ne.symm hb)).trans q) ⟨_,e⟩ ?_
  exact ⟨hz,its',n',r,e⟩
noncomputable def rSetL:V->V->V->Hp->(Hp->Prop)->Prop:=fun o i v H Q=>∃ p xs k j,o=.ref p/\i=.int k/\H p=some (.lst xs)/\ixN xs.length k=some j/\Q (upd H p (.lst (xs.set j v)))
theorem set_list:PSet X rSetL:=by
  intro pins s σ H o i v ov iv u Q I ro ri rv h
  obtain ⟨p,xs,k,j,rfl,rfl,hp,hj,q⟩:=h
  cases ro
  obtain ⟨t,rfl⟩:=ri
  obtain ⟨its,n,r,ho,hz⟩:=I.lst hp
  obtain ⟨h1,h2,h3,h4⟩:=ixN_seq hj
  have hl:=r.length
  have hn:=line63
  have I':Inv X pins σ (upd H p (.lst (xs.set j v))) { s with heap:=s.heap.update p (Obj.mapSeq (·.setIfInBounds j u)) }:=
    I.lstUpd hp ho (mapSeq_set its n j u) (r.set rv j) (by rw [List.length_set]; exact hz) s.toks
  by_cases h0:0<=k
  · have hk:k.toNat=j:=by
      rw [seqIndex_of h0 h4] at h1
      exact Option.some.inj h1
    exact PySem.W.ki_setAt ho h0 (by omega) (by rw [List.size_toArray,← hl]; exact h4) (by rw [hk]; exact ⟨_,I',q⟩)
  · have hk:(k + (its.toArray.size:Int)).toNat=j:=by
      rw [seqIndex_neg (by omega) h3] at h1
      rw [List.size_toArray,← hl]
      exact Option.some.inj h1
    exact PySem.W.ki_setBack ho (by omega) (by rw [List.size_toArray,← hl]; exact h3) (by omega) (by rw [hk]; exact ⟨_,I',q⟩)
theorem slice_bounds (lo hi:Option Int) (n:Nat):(sliceBounds lo hi none n).1=((HT.sIx n 0 lo:Nat):Int)/\(sliceBounds lo hi none n).2.1=((HT.sIx n n hi:Nat):Int)/\(sliceBounds lo hi none n).2.2=1:=by
  refine ⟨?_,?_,rfl⟩
  · cases lo with
    | none=>simp [sliceBounds,HT.sIx]
    | some i=>
      simp only [sliceBounds,HT.sIx,Option.getD_none,show (1:Int) > 0 by decide,if_true]
      by_cases h:i < 0
      · simp only [h,if_true] <;> omega
      · simp only [h,if_false] <;> omega
  · cases hi with
    | none=>simp [sliceBounds,HT.sIx]
    | some i=>
      simp only [sliceBounds,HT.sIx,Option.getD_none,show (1:Int) > 0 by decide,if_true]
      by_cases h:i < 0
      · simp only [h,if_true] <;> omega
      · simp only [h,if_false] <;> omega
theorem slicePick_cut (its:List Value) (lo hi:Option Int):slicePick its.toArray lo hi none=((its.drop (HT.sIx its.length 0 lo)).take (HT.sIx its.length its.length hi - HT.sIx its.length 0 lo)).toArray:=by
  obtain ⟨h1,h2,h3⟩:=slice_bounds lo hi its.toArray.size
  unfold slicePick
  rw [h1,h2,h3]
  simp only [sliceRange_one,pick_run,List.size_toArray] <;> rfl
noncomputable def rSlL (K:FG):V->Option Int->Option Int->Hp->VK->Prop:=fun x lo hi H Q=>∃ a xs,x=.ref a/\SqL K H a xs/\∀ p,H p=none->Q (.ref p) (upd H p (.lst (cutV xs lo hi)))
theorem sl_list:SlR X (rSlL X.K):=by
  intro pins s σ H x v vl vu lo hi sl Q I rx hs pl pu h
  obtain ⟨a,xs,rfl,hx,q⟩:=h
  cases rx
  obtain ⟨its,r,ht,hz⟩:=I.list hx
  have hlen:=r.length
  refine ⟨"list",_,slot_list_getitem.lookup,ht.isList.typeIs,?_⟩
  refine wpAny_getItem_list_slice ht.isList hs pl pu .none (by simp) ?_ (by rw [List.size_toArray] <;> omega)
  rw [slicePick_cut,← hlen]
  refine ⟨.ref s.heap.objs.size,_,I.laid (t':=s.toks) (o:=.lst (cutV xs lo hi)) (fun b ob q=>Heap.get?_push_of_some _ q) (Nat.le_refl _) ?_,rfl,q _ (I.hok.fresh (Nat.le_refl _))⟩
  exact ⟨Nat.le_trans (cutV_length xs lo hi) hz,_,0,(r.drop (HT.sIx xs.length 0 lo)).take (HT.sIx xs.length xs.length hi - HT.sIx xs.length 0 lo),Heap.get?_push_size _ rfl⟩
noncomputable def flatV:V->Bool
  | .non=>true
  | .bl _=>true
  | .int _=>true
  | .str _=>true
  | _=>false
theorem call_list_of:CallR X (.type "list") (fun xs H Q=>∃ p ys,xs=[.ref p]/\(SqL X.K H p ys\/SqT X.K H p ys)/\∀ l,H l=none->Q (.ref l) (upd H l (.lst ys))):=by
  intro pins s σ H xs us Q I r h
  obtain ⟨p,ys,rfl,hq,q⟩:=h
  obtain ⟨u,rfl,rx⟩:=vals1 r
  cases rx
  have fin:∀ (its:List Value),Vals ys its->ys.length<=sizeLine->∀ (h':Heap) (c':Nat),(∀ b o',s.heap.get? b=some o'->h'.get? b=some o')->
      h'.get? s.heap.objs.size=some { cls:=.type "list",dict:=none,data:=.seq its.toArray c',slots:=#[] }->EP X pins σ Q (.ref s.heap.objs.size) { s with heap:=h' }:=fun its r' hz h' c' kp e=>
    ⟨.ref s.heap.objs.size,_,I.laid (t':=s.toks) kp (Nat.le_refl _) (show ObjOk X.prog X.w _ h' _ (.lst ys) from ⟨hz,its,c',r',e⟩),rfl,q _ (I.hok.fresh (Nat.le_refl _))⟩
  rcases hq with hq | hq
  · obtain ⟨its,r',pl,hz⟩:=I.list hq
    have hlen:=r'.length
    obtain ⟨o,ho,hc,n,hd⟩:=pl.isList
    exact call_list_seq p (.inl rfl) ho hc hd (fun h' c' kp e=>fin its r' hz h' c' kp e) (by simp only [List.size_toArray] <;> omega)
  · obtain ⟨its,r',pl,hz⟩:=I.tuple hq
    have hlen:=r'.length
    obtain ⟨o,ho,hc,n,hd⟩:=pl
    exact call_list_seq p (.inr rfl) ho hc hd (fun h' c' kp e=>fin its r' hz h' c' kp e) (by simp only [List.size_toArray] <;> omega)
noncomputable def tyV (K:FG) (T:String) (x:V) (H:Hp):Prop:=match x with
  | .str _=>T = "str"
  | .int _=>T = "int"
  | .ref p=>(T = "list" /\ ∃ xs,SqL K H p xs)\/(T = "tuple" /\ ∃ o,K.lookup p=some o/\o.cls=.type "tuple" /\ o.dict=none)\/
      (T = "dict" /\ ((∃ kvs,H p=some (.dK kvs))\/∃ kvs,H p=some (.dT kvs)))\/(T = "set" /\ ∃ S n,H p=some (.set S n))
  | _=>False
theorem tyV_is {σ:St} {H:Hp} {T:String} {x:V} {v:Value} (I:Inv X pins σ H s) (r:RelV x v) (ty:tyV X.K T x H):
    s.TypeIs v T/\∀ a,v=.ref a->∃ ob,s.heap.get? a=some ob/\ob.dict=none:=by
  cases x with
  | str z=>
    obtain ⟨t,rfl⟩:=r
    cases (show T = "str" from ty)
    exact ⟨typeIs_str s z t,fun _ e=>nomatch e⟩
  | int i=>
    obtain ⟨t,rfl⟩:=r
    cases (show T = "int" from ty)
    exact ⟨typeIs_int s i t,fun _ e=>nomatch e⟩
  | ref p=>
    cases r
    rcases ty with ⟨rfl,xs,hq⟩ | ⟨rfl,o,hk,hc,hd⟩ | ⟨rfl,hk⟩ | ⟨rfl,S,n,hk⟩
    · obtain ⟨its,_,pl,_⟩:=I.list hq
      refine ⟨pl.isList.typeIs,fun a e=>?_⟩
      cases e
      obtain ⟨o,n,e,c,hd,_⟩:=pl
      exact ⟨o,e,hd⟩
    · refine ⟨⟨o,I.kIn p o hk,hc⟩,fun a e=>?_⟩
      cases e
      exact ⟨o,I.kIn _ o hk,hd⟩
    · have z:∃ o,s.heap.get? p=some o/\o.ExactDict:=by
        rcases hk with ⟨kvs,hk⟩ | ⟨kvs,hk⟩
        · obtain ⟨_,_,_,_,o,_,_,e,ex,_⟩:=I.hok p _ hk
          exact ⟨o,e,ex⟩
        · obtain ⟨_,_,_,_,o,_,_,e,ex,_⟩:=I.hok p _ hk
          exact ⟨o,e,ex⟩
      obtain ⟨o,e,ex⟩:=z
      refine ⟨⟨o,e,ex.1⟩,fun a e2=>?_⟩
      cases e2
      exact ⟨o,e,ex.2.1⟩
    · obtain ⟨o,_,_,_,e,ex,_⟩:=I.hok p _ hk
      refine ⟨⟨o,e,ex.1⟩,fun a e2=>?_⟩
      cases e2
      exact ⟨o,e,ex.2.1⟩
  | _=>exact False.elim ty
noncomputable def tBM0 (K:FG) (T:String) (r:V->List V->Hp->VK->Prop) (to:TE):TE:=fun σ H Q=>to σ H fun x H1=>tyV K T x H1/\r x [] H1 Q
noncomputable def tBM (K:FG) (T:String) (r:V->List V->Hp->VK->Prop) (to:TE) (t:TA):TE:=fun σ H Q=>to σ H fun x H1=>tyV K T x H1/\t σ H1 fun xs H2=>r x xs H2 Q
variable {o e:Expr} {es:List Expr} {to:TE} {t:TA} {name:Str} {apos cpos:Pos} {T id:String} {r:V->List V->Hp->VK->Prop}
theorem pe_bm0 (pa:PlainAttrs T) (slot:Slot T name id) (hty:typeOf (.builtin id)=pure (.type "method_descriptor")) (hm:MtR X id r) (ho:PE X o to)
    (hbase:attributeBase o name X.env (eval o X.env)=eval o X.env:=by rfl) (hline:(apos.endLine == cpos.line)=true:=by rfl):PE X (.Call (.Attribute o name apos) [] [] cpos) (tBM0 X.K T r to):=by
  intro pins s σ H Q I h
  refine wpAny_Call_method0_late hbase hline (thn (ho pins s σ H _ I h) fun v s1 ⟨x,H1,I1,r1,ty,q1⟩=>?_)
  obtain ⟨h1,h2⟩:=tyV_is I1 r1 ty
  exact ⟨T,id,pa,slot,hty,h1,h2,Calls.callWith_builtin rfl (PySem.evalArgs_none (hm pins s1 σ H1 x [] v [] Q I1 r1 .nil q1))⟩
theorem pe_bm (pa:PlainAttrs T) (slot:Slot T name id) (hty:typeOf (.builtin id)=pure (.type "method_descriptor")) (hm:MtR X id r) (ho:PE X o to) (ha:PA X (e::es) t)
    (hbase:attributeBase o name X.env (eval o X.env)=eval o X.env:=by rfl)
    (hfew:((backTo cpos (starEach (e::es) X.env)).all (fun x=>!x.1) && (backToKw cpos (keywordEach [] X.env)).all (fun x=>x.1.isSome)
      && decide ((e::es).length + ([]:List Keyword).length + (if ([]:List Keyword).isEmpty then 0 else 1) < 30))=true:=by rfl)
    (hline:(apos.endLine == cpos.line)=true:=by rfl) (hs:starEach (e::es) X.env=(false,eval e X.env)::starEach es X.env:=by rfl) (hplain:(backTo cpos (starEach es X.env)).any (·.1)=false:=by rfl):
    PE X (.Call (.Attribute o name apos) (e::es) [] cpos) (tBM X.K T r to t):=by
  intro pins s σ H Q I h
  refine wpAny_Call_method_late hbase hfew hline rfl (thn (ho pins s σ H _ I h) fun v s1 ⟨x,H1,I1,r1,ty,q1⟩=>?_)
  obtain ⟨h1,h2⟩:=tyV_is I1 r1 ty
  refine ⟨T,id,pa,slot,hty,h1,h2,?_⟩
  have hA:=ha cpos pins s1 σ H1 _ I1 q1
  rw [hs] at hA ⊢
  refine Calls.callWith_builtin (by show (false || (backTo cpos (starEach es X.env)).any (·.1))=false; rw [hplain] <;> rfl) (Calls.evalArgs_plain ?_)
  exact thn hA fun us s2 ⟨vs,H2,I2,r2,q2⟩=>hm pins s2 σ H2 x vs v us Q I2 r1 r2 q2
end
noncomputable def MtM (X:Cx) (id:String) (r:V->List V->Hp->VK->Prop):Prop:=
  ∀ (pins:List (Addr × Obj)) (s:Shared) (σ:St) (H:Hp) (x:V) (xs:List V) (v:Value) (us:List Value) (Q:VK),Inv X pins σ H s->RelV x v->Vals xs us->r x xs H Q->
    wpAny (model X.prog X.w) X.A (call (.builtin id) (v::us)) (EP X pins σ Q) X.xe s
theorem Vals.one:∀ {x:V} {us:List Value},Vals [x] us->∃ u,us=[u]/\RelV x u
  | _,_,.cons r .nil=>⟨_,rfl,r⟩
theorem Vals.zero:∀ {us:List Value},Vals [] us->us=[]
  | _,.nil=>rfl
theorem Vals.reverse {xs:List V} {us:List Value} (h:Vals xs us):Vals xs.reverse us.reverse:=by
  induction h with
  | nil=>exact .nil
  | cons r t ih=>rw [List.reverse_cons,List.reverse_cons]; exact Vals.append ih (.cons r .nil)
section
variable {X:Cx} {pins:List (Addr × Obj)} {σ:St} {H:Hp} {s:Shared} {l b:Addr} {xs ys zs:List V}
theorem Inv.lset {its its':List Value} {n:Nat} {f:Array Value->Array Value} {t':Nat} (I:Inv X pins σ H s) (hH:H l=some (.lst xs))
    (e:s.heap.get? l=some { cls:=.type "list",data:=.seq its.toArray n }) (hf:f its.toArray=its'.toArray) (hv:Vals ys its') (hz:ys.length<=sizeLine):
    Inv X pins σ (upd H l (.lst ys)) { s with heap:=s.heap.update l (Obj.mapSeq f),toks:=t' }:=by
  have q:=PySem.IsL.update e f
  rw [hf] at q
  refine I.write (x:=l) (e:=l) (by rw [hH]; exact trivial) (.inl rfl) (fun b' u hb hu=>(Heap.get?_update_other s.heap (Obj.mapSeq f) (Ne.symm hb)).trans hu) ⟨_,q⟩ ?_
  exact ⟨hz,its',_,hv,q⟩
theorem Inv.lnew {its:List Value} {t':Nat} (I:Inv X pins σ H s) (hv:Vals ys its) (hz:ys.length<=sizeLine):
    Inv X pins σ (upd H s.heap.objs.size (.lst ys)) { s with heap:=s.heap.push { cls:=.type "list",data:=.seq its.toArray },toks:=t' }:=
  I.laid (fun _ _ q=>Heap.get?_push_of_some _ q) (Nat.le_refl _) ⟨hz,its,0,hv,Heap.get?_push_size _ rfl⟩
theorem Inv.fresh (I:Inv X pins σ H s):H s.heap.objs.size=none:=I.hok.fresh (Nat.le_refl _)
theorem Inv.lstM (I:Inv X pins σ H s) (hH:H l=some (.lst xs)):xs.length<=sizeLine/\∃ (its:List Value) (n:Nat),Vals xs its/\xs.length=its.length/\s.heap.get? l=some { cls:=.type "list",data:=.seq its.toArray n }:=by
  obtain ⟨z,its,n,r,e⟩:=I.hok l _ hH
  exact ⟨z,its,n,r,r.length,e⟩
end
section
variable {X:Cx}
noncomputable def rAppend:V->List V->Hp->VK->Prop:=fun x vs H Q=>∃ l xs y,x=.ref l/\vs=[y]/\H l=some (.lst xs)/\xs.length < sizeLine/\Q .non (upd H l (.lst (xs++[y])))
theorem mt_append:MtM X "list.append" rAppend:=by
  intro pins s σ H x vs v us Q I rx rv h
  obtain ⟨l,xs,y,rfl,rfl,hH,hz,q⟩:=h
  cases rx
  obtain ⟨u,rfl,ru⟩:=rv.one
  obtain ⟨z,its,n,r,hl,e⟩:=I.lstM hH
  refine call_meets F.slot_list_append ⟨_,e,rfl⟩ F.entry_list_append (F.args_list_append_2 _ _) (PySem.list_append l its.toArray n u (by rw [List.size_toArray]; omega)) ⟨e,?_⟩
  refine ⟨.non,_,I.lset (its':=its++[u]) hH e (by simp) (r.append (.cons ru .nil)) ?_,rfl,q⟩
  rw [List.length_append,List.length_singleton]
  omega
noncomputable def rPop:V->List V->Hp->VK->Prop:=fun x vs H Q=>∃ l xs y,x=.ref l/\vs=[]/\H l=some (.lst xs)/\xs[xs.length - 1]?=some y/\Q y (upd H l (.lst xs.dropLast))
noncomputable def rReverse:V->List V->Hp->VK->Prop:=fun x vs H Q=>∃ l xs,x=.ref l/\vs=[]/\H l=some (.lst xs)/\Q .non (upd H l (.lst xs.reverse))
theorem mt_reverse:MtM X "list.reverse" rReverse:=by
  intro pins s σ H x vs v us Q I rx rv h
  obtain ⟨l,xs,rfl,rfl,hH,q⟩:=h
  cases rx
  have hus:=rv.zero
  subst hus
  obtain ⟨z,its,n,r,hl,e⟩:=I.lstM hH
  refine call_meets F.slot_list_reverse ⟨_,e,rfl⟩ F.entry_list_reverse (F.args_list_reverse_1 _) (AutoSeq1.list_reverse_list_0 l its.toArray n (by rw [List.size_toArray]; omega)) ⟨e,?_⟩
  refine ⟨.non,_,I.lset (its':=its.reverse) hH e (by simp) r.reverse ?_,rfl,q⟩
  rw [List.length_reverse]
  omega
noncomputable def rClear:V->List V->Hp->VK->Prop:=fun x vs H Q=>∃ l xs,x=.ref l/\vs=[]/\H l=some (.lst xs)/\Q .non (upd H l (.lst []))
theorem mt_clear:MtM X "list.clear" rClear:=by
  intro pins s σ H x vs v us Q I rx rv h
  obtain ⟨l,xs,rfl,rfl,hH,q⟩:=h
  cases rx
  have hus:=rv.zero
  subst hus
  obtain ⟨z,its,n,r,hl,e⟩:=I.lstM hH
  refine call_meets F.slot_list_clear ⟨_,e,rfl⟩ F.entry_list_clear (F.args_list_clear_1 _) (AutoSeq1.list_clear_list_0 l its.toArray n (by rw [List.size_toArray]; omega)) ⟨e,?_⟩
  exact ⟨.non,_,I.lset (its':=[]) (ys:=[]) hH e rfl .nil (Nat.zero_le _),rfl,q⟩
end
section
variable {prog:Program}
end
section
variable {X:Cx}
end
end L2
namespace Att
open PySem PySem.W PySem.Calls PyProof.Rows
theorem ints_of_wellAll {P:Params} {h:Heap}:∀ (ns:List Int) (vs:List Value),WellAll P h vs (ns.map WData.int)->IntsAre vs ns:=by
  intro ns
  induction ns with
  | nil=>
    intro vs w
    rw [List.map_nil] at w
    cases w
    exact .nil
  | cons n ns ih=>
    intro vs w
    rw [List.map_cons] at w
    cases w with
    | cons a b=>
      cases a
      exact .cons _ _ (ih _ b)
theorem script_of {l:OpenLaw} {n:Nat} (hn:l.most=some n) {P:Params} {h:Heap} {args:List WData} {vals:List Value}
    (hpre:l.row.toRowW.claim.pre args=true) (hwl:WellAll P h vals args):
    ∃ a vs ns,vals=[Value.ref a]/\args=[WData.list (ns.map WData.int)]/\h.get? a=some { cls:=.type "list",data:=.seq vs.toArray }/\IntsAre vs ns/\ns.length<=n:=by
  have hsh:WShape.hasAll [] args [.list .int]=true:=(pre_splitW hpre).1
  have hc:l.pre.holds [] { args:=args }=true:=(pre_splitW hpre).2
  obtain ⟨d,r,rfl,h1,h2⟩:=hasAllW_cons hsh
  obtain rfl:=hasAllW_nil h2
  obtain ⟨xs,rfl,h3⟩:=hasW_list h1
  obtain ⟨ns,rfl⟩:=items_int h3
  have hlen:ns.length<=n:=by
    unfold OpenLaw.pre at hc
    have h4:(WTm.not (.lt (.lit (.int (n:Int))) (.len (.arg 0)))).holds [] { args:=[.list (ns.map .int)] }=true:=by
      have h4:=(holds_andW hc).1
      rw [hn] at h4
      exact h4
    have h5:=condW_of h4 (w_not (w_lt w_lit (w_len_list (w_arg rfl))))
    rw [List.length_map] at h5
    refine Nat.le_of_not_lt fun q=>?_
    have q':(n:Int) < ((ns.length:Nat):Int):=by omega
    first
      | (rw [decide_eq_true q'] at h5; exact absurd h5 (by decide))
      | (simp at h5; omega)
  cases hwl with
  | cons w1 w2=>
    cases w2
    cases w1 with
    | list ho hall=>exact ⟨_,_,ns,rfl,rfl,ho,ints_of_wellAll ns _ hall,hlen⟩
theorem post_true (l:OpenLaw) (args:List WData):l.row.toRowW.claim.post args (.bool true) args=true:=
  postW_of (r:=l.row.toRowW) (X:=(true == true))
    (show WShape.has [] (.bool true) .bool=true by first | rfl | decide | simp [WShape.has,WShape.arms,WShape.armsAll])
    (show (WTm.eq .res (.lit (.bool true))).value [] { args:=args,res:=some (.bool true),after:=args }=some (.bool (true == true)) from w_eq_bool (w_res rfl) w_lit) rfl
theorem attach_call {l:OpenLaw} {n:Nat} {q:Program} {loose:List Str} {XP:(Str->Option Value)->Heap->Prop} {YP:World->Heap->Prop} {d:DefRec}
    (hn:l.most=some n) (hdf:d.params.defaults=[])
    (call:∀ (w:World) (s₀ s₁:Shared) (mg mb:Str->Option Value) (fa:Addr) (o:Obj) (pm cd doc:Value) (a:Addr) (vs:List Value) (ns:List Int),
      Ground q loose [] XP w s₀ mg mb s₁.heap->YP w s₁.heap->
      s₁.heap.get? fa=some o->o.data=.func (docDef d.name d.params d.body d.scope pm cd doc)->s₁.heap.CodeRec cd d.name->mg d.name=some (.ref fa)->
      s₁.heap.get? a=some { cls:=.type "list",data:=.seq vs.toArray }->IntsAre vs ns->ns.length<=n->s₁.gens=#[]->
      codeAny (model l.prog w) callerA (.call (.ref fa) ⟨[.ref a],[]⟩) (fun r s'=>r=.ok (.ret (.bool true))/\OldK s₁.heap s'.heap/\s'.os=s₁.os/\AllBare s'.gens) s₁):
    WalkO q loose XP YP l.row.toRowW d [] (fun f vs=>PySem.call f vs):=by
  intro w s₀ s₁ mg mb G Y fa o pm cd doc dV kV ho hd hcd hD hmg hg args vals as hpre hlay hrd hwl hlo
  obtain rfl:dV=.none:=Dflts.none hD hdf
  obtain rfl:kV=.none:=Dflts.noKw hD
  obtain ⟨a,vs,ns,rfl,rfl,hobj,hints,hlen⟩:=script_of hn hpre hwl
  refine enter_call (codeAny_mono (call w s₀ s₁ mg mb fa o pm cd doc a vs ns G Y ho (fd_plain hd) hcd hmg hobj hints hlen hg) fun r s' hq=>?_)
  obtain ⟨rfl,h2,h3,h4⟩:=hq
  exact ⟨.inl ⟨.bool true,.bool true,[],rfl,fun _=>rfl,.bool true,post_true l _,fun _=>⟨List.Pairwise.nil,fun _ hm=>(nomatch hm)⟩⟩,h2,h3,h4⟩
section
variable {prog:Program} {w:World} {A:Around} {E:Value->Shared->Prop} {s:Shared} {K:Frag}
end
end Att
namespace L2
open PySem PySem.Spec PyProof.Rows
variable {pins:List (Addr × Obj)} {E:Value->Shared->Prop} {s:Shared} {A:Around} {w:World} {P:Program}
theorem vals_ints:∀ {vs:List Value} {ns:List Int},IntsAre vs ns->Vals (ns.map V.int) vs
  | _,_,.nil=>.nil
  | _,_,.cons n t h=>.cons ⟨t,rfl⟩ (vals_ints h)
noncomputable def Only (H:Hp):Prop:=∀ b,H b=none\/∃ o xs,H b=some (.frz o (.lst xs))
theorem law_call {K:FG} {mg mb:Str->Option Value} {CX:CXT} {k:Nat} {fa a:Addr} {fd:FuncData} {x:Str} {sp:Sp} {s₁:Shared} {vs:List Value} {ns:List Int}
    (KX:K.In s₁.heap) (hns:s₁.heap.Ns mainGlobals mg) (hb:s₁.heap.Ns builtinsNs mb) (hbb:∀ x:Str,x ≠ "__name__" -> mb x=bootBuiltins x) (hlim:s₁.heap.NoLimit) (hg:s₁.gens=#[])
    (ha:s₁.heap.get? a=some { cls:=.type "list",data:=.seq vs.toArray }) (hi:IntsAre vs ns) (hl:ns.length<=sizeLine) (hr:Room k callerA)
    (F:∀ base:Heap,K.In base->base.Ns mainGlobals mg->FnOk P w K mg base CX k fa fd [x] sp) (hbind:∀ (s:Shared) (u:Value),BindsTo s fd ⟨[u],[]⟩ [(x,u)])
    (hsp:∀ H:Hp,Only H->SqL K H a (ns.map V.int)->sp [.ref a] H (fun v _=>v=.bl true) fun _ _ _=>False)
    (hCX:∀ H e s',CX [] H s₁ (fun _ _ _=>False) e s'->False):
    codeAny (model P w) callerA (.call (.ref fa) ⟨[.ref a],[]⟩) (fun r s'=>r=.ok (.ret (.bool true))/\OldK s₁.heap s'.heap/\s'.os=s₁.os/\AllBare s'.gens) s₁:=by
  have rv:=vals_ints hi
  have lenV:=hi.length
  have core:∀ H:Hp,Only H->SqL K H a (ns.map V.int)->HOk P w H s₁.heap->(∀ b,H b ≠ none->b=a)->(H a ≠ none->K.lookup a=none)->
      codeAny (model P w) callerA (.call (.ref fa) ⟨[.ref a],[]⟩) (fun r s'=>r=.ok (.ret (.bool true))/\OldK s₁.heap s'.heap/\s'.os=s₁.os/\AllBare s'.gens) s₁:=by
    intro H hO hS hok hA hK
    have base_of:∀ {b:Addr} {o:Obj},s₁.heap.get? b=some o->H b=none->(hidT s₁.heap H).get? b=some o:=fun e n=>hidT_get e n
    have noA:∀ {b:Addr} {o:Obj} {es:Array DictEntry} {ep:Nat},s₁.heap.get? b=some o->o.data=.dict es ep->H b=none:=fun {b o es ep} e d=>by
      cases q:H b with
      | none=>rfl
      | some u=>
        have e':b=a:=hA b (by rw [q]; simp)
        subst e'
        rw [ha] at e; cases e
        have d':Data.seq vs.toArray _=Data.dict es ep:=d
        cases d'
    have nsK:∀ {b:Addr} {m:Str->Option Value},s₁.heap.Ns b m->(hidT s₁.heap H).Ns b m:=fun {b m} ⟨o,es,ep,e,d,r⟩=>⟨o,es,ep,base_of e (noA e d),d,r⟩
    have hKb:K.In (hidT s₁.heap H):=fun b o e=>base_of (KX b o e) (by
      cases q:H b with
      | none=>rfl
      | some u=>
        have e':b=a:=hA b (by rw [q]; simp)
        subst e'
        rw [hK (by rw [q]; simp)] at e; cases e)
    have hM:Mod K mg (hidT s₁.heap H):=⟨hKb,nsK hns,⟨mb,nsK hb,hbb⟩,let ⟨mc,h1,h2⟩:=hlim; ⟨mc,nsK h1,h2⟩⟩
    have e0:Env0 P w K mg (hidT s₁.heap H) callerA [] s₁ H:=⟨rfl,hM,fun b o e=>of_hidT e,Nat.le_of_eq (hidT_size _ _),trivial,fun b hb=>absurd (show b ∈ ([]:List Addr) from hb) (by simp),hok,.of_eq hg⟩
    refine codeAny_mono ((F _ hKb (nsK hns)).run callerA [] s₁ H ⟨[.ref a],[]⟩ [.ref a] [.ref a] _ _ hr e0 (hbind s₁ (.ref a)) (.cons rfl .nil) (hsp H hO hS)) fun r s' h=>?_
    cases r with
    | error e=>exact (hCX H e s' h).elim
    | ok fl=>
      cases fl with
      | next=>exact False.elim h
      | brk=>exact False.elim h
      | cont=>exact False.elim h
      | ret u=>
        obtain ⟨v,H',os,bare,un,hok',r',q⟩:=h
        have q':v=.bl true:=q
        subst q'
        obtain rfl:u=Value.bool true:=r'
        refine ⟨rfl,OldK.of_keep fun b o e=>?_,os,bare⟩
        cases q:H b with
        | none=>exact un.keep b o e q (by intro z; exact absurd (show b ∈ ([]:List Addr) from z) (by simp)) (by simp)
        | some u=>
          rcases hO b with z | ⟨ob,xs,z⟩
          · rw [q] at z; cases z
          · have z2:=un.frzs b ob _ z
            obtain ⟨e1,_⟩:=hok b _ z
            obtain ⟨e2,_⟩:=hok' b _ z2
            rw [e] at e1; cases e1
            exact e2
  cases hk:K.lookup a with
  | some o=>
    have e:=KX a o hk
    rw [ha] at e
    cases e
    refine core (fun _=>none) (fun _=>.inl rfl) (.inr ⟨_,vs.toArray,_,hk,rfl,rfl,rfl,by rw [List.size_toArray,lenV]; exact hl,by simpa using rv⟩) (fun b u z=>by have z':(none:Option HO)=some u:=z; cases z') (fun b z=>absurd rfl z) fun z=>absurd rfl z
  | none=>
    refine core (fun b=>if b=a then some (.frz { cls:=.type "list",data:=.seq vs.toArray } (.lst (ns.map V.int))) else none) (fun b=>?_) (.inl (.inr ⟨{ cls:=.type "list",data:=.seq vs.toArray },if_pos rfl⟩)) (fun b u z=>?_) (fun b z=>?_) fun _=>hk
    · by_cases hb:b=a
      · exact .inr ⟨_,_,if_pos hb⟩
      · exact .inl (if_neg hb)
    · by_cases hb:b=a
      · have z':=(if_pos hb).symm.trans z
        cases z'
        subst hb
        exact ⟨ha,by rw [List.length_map]; exact hl,vs,_,rv,ha⟩
      · have z':=(if_neg hb).symm.trans z
        cases z'
    · by_cases hb:b=a
      · exact hb
      · exact absurd (if_neg hb) z
theorem walk_of {l:PySem.W.OpenLaw} {n k:Nat} {q:Program} {loose:List Str} {XP:(Str->Option Value)->Heap->Prop} {YP:World->Heap->Prop} {d:DefRec} {K:Params->FG} {CX:World->CXT} {sp:World->Sp} {x:Str}
    (hn:l.most=some n) (hn2:n<=sizeLine) (hdf:d.params.defaults=[]) (hr:Room k callerA)
    (hY:∀ (w:World) (h:Heap),YP w h->(K w.params).In h)
    (F:∀ (w:World) (mg:Str->Option Value) (fa:Addr) (h:Heap),(K w.params).In h->h.Ns mainGlobals mg->mg d.name=some (.ref fa)->
      ∃ fd:FuncData,(∀ (s:Shared) (u:Value),BindsTo s fd ⟨[u],[]⟩ [(x,u)])/\
        ∀ base:Heap,(K w.params).In base->base.Ns mainGlobals mg->FnOk l.prog w (K w.params) mg base (CX w) k fa fd [x] (sp w))
    (hsp:∀ (w:World) (H:Hp) (a:Addr) (ns:List Int),ns.length<=n->Only H->SqL (K w.params) H a (ns.map V.int)->sp w [.ref a] H (fun v _=>v=.bl true) fun _ _ _=>False)
    (hCX:∀ (w:World) (H:Hp) (s:Shared) (e:Value) (s':Shared),CX w [] H s (fun _ _ _=>False) e s'->False):
    PySem.W.WalkO q loose XP YP l.row.toRowW d [] (fun f vs=>PySem.call f vs):=by
  refine Att.attach_call hn hdf fun w s₀ s₁ mg mb fa o pm cd doc a vs ns G Y ho hd hcd hmg hobj hints hlen hg=>?_
  have KX:=hY w _ Y
  obtain ⟨fd,hb,hF⟩:=F w mg fa _ KX G.T.g hmg
  exact law_call KX G.T.g G.T.b G.T.builtins G.T.nolimit hg hobj hints (Nat.le_trans hlen hn2) hr hF hb (fun H hO hS=>hsp w H a ns hlen hO hS) fun H e s'=>hCX w H s₁ e s'
noncomputable def inClass (s:Stmt) (j:Nat):Stmt:=match s with
  | .ClassDef _ _ _ body _ _ _ _ _ _ _=>body.getD j (.Pass ⟨0,0,0,0⟩)
  | _=>.Pass ⟨0,0,0,0⟩
noncomputable def defArgs (s:Stmt):Arguments:=match s with
  | .FunctionDef _ a _ _ _ _ _ _ _ _=>a
  | _=>{ posonlyargs:=[],args:=[],vararg:=none,kwonlyargs:=[],kw_defaults:=[],kwarg:=none,defaults:=[] }
noncomputable def defBody (s:Stmt):List Stmt:=match s with
  | .FunctionDef _ _ b _ _ _ _ _ _ _=>b
  | _=>[]
noncomputable def defScope (s:Stmt):Scope:=match s with
  | .FunctionDef _ _ _ _ _ _ sc _ _ _=>sc
  | _=>{ kind:=.function,names:=[],isGenerator:=false,isCoroutine:=false }
noncomputable abbrev CX0:CXT:=fun _ _ _ _ _ _=>False
noncomputable abbrev E0:XK:=fun _ _ _=>False
theorem pass0 {X:Cx}:Passes CX0 X E0:=fun _ _ _ _ _ _ _ h=>h.elim
structure Fun (K:FG) (x qual:Str) (st:Stmt) (f:Addr) (fd:FuncData):Prop where
  ex:∃ (oc:Value) (od:Option Addr) (kV doc pm:Value) (an:Option Addr) (cdv ct:Value) (osl:Array (Option Value)),
    fd=PySem.W.fnOf x qual (defArgs st) (defBody st) (defScope st) .none kV doc pm an cdv ct/\K.lookup f=some ⟨oc,od,.func fd,osl⟩/\PySem.W.codeIn K cdv qual=true
  kp:PySem.W.keepIn K (.ref f)=true
section
variable {P:Program} {w:World} {K:FG} {mg:Str->Option Value} {base:Heap}
theorem Fun.ok {x qual:Str} {st:Stmt} {f:Addr} {fd:FuncData} {N ps:List Str} {k:Nat} {sp:Sp} (F:Fun K x qual st f fd) (S:FnScope N ps (defScope st)) (len:∀ vs H Q E,sp vs H Q E->vs.length=ps.length)
    (hbody:∀ (cdv:Value) (A:Around) (outer:List Env) (s:Shared) (H:Hp) (vs:List V) (Q:VK) (E:XK),Room k (A.deeper (envOfC qual (defScope st) s.heap.objs.size f cdv))->sp vs H Q E->
      ∃ t,PSs (cxOf CX0 P w K mg base N qual (defScope st) f cdv A outer s H E).nox (defBody st) t/\t { nx:=fun _ H'=>Q .non H',rt:=Q } (start N vs) H):FnOk P w K mg base CX0 (k + 1) f fd ps sp:=by
  obtain ⟨oc,od,kV,doc,pm,an,cdv,ct,osl,rfl,lk,hcd⟩:=F.ex
  refine fn_of lk hcd S len fun A outer s H vs Q E hr hsp=>?_
  obtain ⟨t,h,q⟩:=hbody cdv A outer s H vs Q E hr hsp
  exact ⟨t,h.nox,q⟩
theorem Fun.binds {x qual:Str} {st:Stmt} {f:Addr} {fd:FuncData} {ps:List Str} (F:Fun K x qual st f fd)
    (h:∀ (kV doc pm:Value) (an:Option Addr) (cdv ct:Value) (us:List Value),us.length=ps.length->bindArgs (PySem.W.fnOf x qual (defArgs st) (defBody st) (defScope st) .none kV doc pm an cdv ct) ⟨us,[]⟩=pure (ps.zip us)):Binds K fd ps []:=by
  obtain ⟨oc,od,kV,doc,pm,an,cdv,ct,osl,rfl,lk,hcd⟩:=F.ex
  exact .all (h kV doc pm an cdv ct)
theorem fun_mk {x qual:Str} {st:Stmt} {f:Addr} {oc:Value} {od an:Option Addr} {osl:Array (Option Value)} {kV doc pm cdv ct:Value} (l:K.lookup f=some ⟨oc,od,.func (PySem.W.fnOf x qual (defArgs st) (defBody st) (defScope st) .none kV doc pm an cdv ct),osl⟩)
    (c:PySem.W.codeIn K cdv qual=true) (k:PySem.W.keepIn K (.ref f)=true):Fun K x qual st f (PySem.W.fnOf x qual (defArgs st) (defBody st) (defScope st) .none kV doc pm an cdv ct):=⟨⟨oc,od,kV,doc,pm,an,cdv,ct,osl,rfl,l,c⟩,k⟩
end
theorem hu_of {k:Nat} (hr:Room k A):A.units + 1 < cLine:=Nat.lt_of_le_of_lt (Nat.add_le_add_left (by decide:1<=64) _) hr.units
section
variable {X:Cx}
theorem pv (i:Nat) {x:Str} {pos:Pos} (hN:X.N[i]?=some x:=by rfl) (hv:Vis X.env.scope x:=by first | exact Or.inl rfl | exact Or.inr (Or.inl rfl) | exact Or.inr (Or.inr rfl)) (hd:(x == ("__debug__" : Str))=false:=by decide)
    (hcd:(x == ("__classdict__" : Str))=false:=by decide):PE X (.Name x pos) (tVar i):=pe_var hN hv hd hcd
end
noncomputable def Same (H H':Hp):Prop:=∀ b o,H b=some o->H' b=some o
theorem Same.refl (H:Hp):Same H H:=fun _ _ h=>h
theorem Same.trans {H H1 H2:Hp} (a:Same H H1) (b:Same H1 H2):Same H H2:=fun c o h=>b c o (a c o h)
theorem Same.free {H H':Hp} (e:Same H H') {l:Addr} (h:H' l=Option.none):H l=Option.none:=by
  cases q:H l with
  | none=>rfl
  | some o=>
    rw [e l o q] at h
    cases h
theorem Same.seq {K:FG} {H H':Hp} {a:Addr} {xs:List V} (e:Same H H') (h:SqL K H a xs):SqL K H' a xs:=by
  rcases h with (h | ⟨o,h⟩) | h
  · exact .inl (.inl (e _ _ h))
  · exact .inl (.inr ⟨o,e _ _ h⟩)
  · exact .inr h
section
variable {κ:Type} [DecidableEq κ]
noncomputable def valV (kvs:List (κ × V)) (k:κ):Option V:=(kvs.find? fun kv=>decide (kv.1=k)).map (·.2)
noncomputable def putK (kvs:List (κ × V)) (k:κ) (v:V):List (κ × V):=
  if (kvs.any fun kv=>decide (kv.1=k))=true then kvs.map (fun kv=>if kv.1=k then (kv.1,v) else kv) else kvs++[(k,v)]
theorem valV_pos {p:κ × V} {r:List (κ × V)} {k:κ} (e:p.1=k):valV (p::r) k=some p.2:=by simp [valV,List.find?_cons,e]
theorem valV_neg {p:κ × V} {r:List (κ × V)} {k:κ} (e:¬ p.1=k):valV (p::r) k=valV r k:=by simp [valV,List.find?_cons,e]
theorem valV_any (k:κ):∀ kvs:List (κ × V),(kvs.any fun kv=>decide (kv.1=k))=(valV kvs k).isSome
  | []=>rfl
  | p::r=>by
    rw [List.any_cons]
    by_cases e:p.1=k
    · simp only [valV_pos e,decide_eq_true e,Bool.true_or,Option.isSome_some]
    · rw [valV_neg e,decide_eq_false e,Bool.false_or]; exact valV_any k r
theorem length_putK (kvs:List (κ × V)) (k:κ) (v:V):(putK kvs k v).length<=kvs.length + 1:=by
  unfold putK
  split
  · rw [List.length_map]; omega
  · rw [List.length_append,List.length_cons,List.length_nil]; omega
theorem putK_new {kvs:List (κ × V)} {k:κ} (v:V) (h:valV kvs k=none):putK kvs k v=kvs++[(k,v)]:=by
  unfold putK
  rw [valV_any,h]
  exact if_neg (by decide)
theorem RelO.isSome_eq {o:Option V} {u:Option Value} (r:RelO o u):o.isSome=u.isSome:=by
  cases o with
  | none=>cases u with
    | none=>rfl
    | some _=>exact (show False from r).elim
  | some _=>cases u with
    | none=>exact (show False from r).elim
    | some _=>rfl
theorem KV.val {kvs:List (κ × V)} {vs:List (κ × Value)} (r:KV kvs vs) (k:κ):RelO (valV kvs k) (valueAt vs k):=by
  unfold KV at r
  induction r with
  | nil=>exact True.intro
  | @cons p q ps qs h t ih=>
    obtain ⟨h1,h2⟩:=h
    by_cases e:p.1=k
    · have e':q.1=k:=h1.symm.trans e
      have b:valueAt (q::qs) k=some q.2:=by simp [valueAt,List.find?_cons,e']
      rw [valV_pos e,b]; exact h2
    · have e':¬ q.1=k:=fun z=>e (h1.trans z)
      have b:valueAt (q::qs) k=valueAt qs k:=by simp [valueAt,List.find?_cons,e']
      rw [valV_neg e,b]; exact ih
theorem KV.any {kvs:List (κ × V)} {vs:List (κ × Value)} (r:KV kvs vs) (k:κ):(kvs.any fun kv=>decide (kv.1=k))=vs.any fun kv=>decide (kv.1=k):=by
  unfold KV at r
  induction r with
  | nil=>rfl
  | cons h t ih=>rw [List.any_cons,List.any_cons,ih,h.1]
theorem KV.repl {kvs:List (κ × V)} {vs:List (κ × Value)} (r:KV kvs vs) (k:κ) {y:V} {u:Value} (ry:RelV y u):
    KV (kvs.map fun kv=>if kv.1=k then (kv.1,y) else kv) (vs.map fun kv=>if kv.1=k then (kv.1,u) else kv):=by
  unfold KV at r ⊢
  induction r with
  | nil=>exact .nil
  | @cons p q ps qs h t ih=>
    rw [List.map_cons,List.map_cons]
    refine .cons ?_ ih
    obtain ⟨h1,h2⟩:=h
    by_cases e:p.1=k
    · rw [if_pos e,if_pos (h1.symm.trans e)]; exact ⟨h1,ry⟩
    · rw [if_neg e,if_neg (fun z=>e (h1.trans z))]; exact ⟨h1,h2⟩
theorem KV.put {kvs:List (κ × V)} {vs:List (κ × Value)} (r:KV kvs vs) (k:κ) {y:V} {u:Value} (ry:RelV y u):KV (putK kvs k y) (stored vs k u):=by
  unfold putK stored
  rw [r.any k]
  by_cases e:(vs.any fun kv=>decide (kv.1=k))=true
  · rw [if_pos e,if_pos e]; exact r.repl k ry
  · rw [if_neg e,if_neg e]; exact Paired.snoc r ⟨rfl,ry⟩
theorem KV.keys {kvs:List (κ × V)} {vs:List (κ × Value)} (r:KV kvs vs):kvs.map (·.1)=vs.map (·.1):=by
  unfold KV at r
  induction r with
  | nil=>rfl
  | cons h t ih=>rw [List.map_cons,List.map_cons,ih,h.1]
theorem KV.length {kvs:List (κ × V)} {vs:List (κ × Value)} (r:KV kvs vs):kvs.length=vs.length:=Paired.length r
end
theorem kV_is {k:Key} {u:Value} (r:RelV (kV k) u):(mixKind P w).is k u=true:=by
  cases k with
  | inl i=>obtain ⟨t,e⟩:=(show ∃ t,u=Value.int i t from r); subst e; exact mixKind_int P w i t
  | inr x=>obtain ⟨t,e⟩:=(show ∃ t,u=Value.str x t from r); subst e; exact mixKind_str P w x t
theorem items_are:∀ {ks:List Key} {us:List Value},Vals (ks.map kV) us->ItemsAre (mixKind P w) ks us
  | [],_,r=>by rw [List.map_nil] at r; cases r; exact .nil
  | k::ks,_,r=>by
    rw [List.map_cons] at r
    cases r with
    | cons h t=>exact .cons (kV_is h) (items_are t)
noncomputable abbrev KT (H:Hp):List (List Key × V)->List (List Key × Addr × Value)->Prop:=Paired fun p q=>p.1=q.1/\H q.2.1=some (.tup (p.1.map kV))/\RelV p.2 q.2.2
theorem KT.val {H:Hp} {kvs:List (List Key × V)} {xs:List (List Key × Addr × Value)} (r:KT H kvs xs) (k:List Key):RelO (valV kvs k) ((atKey xs k).map (·.2)):=by
  induction r with
  | nil=>exact True.intro
  | @cons p q ps qs h t ih=>
    obtain ⟨h1,_,h2⟩:=h
    by_cases e:p.1=k
    · have e':q.1=k:=h1.symm.trans e
      have b:atKey (q::qs) k=some q.2:=by simp [atKey,List.find?_cons,e']
      rw [valV_pos e,b]; exact h2
    · have e':¬ q.1=k:=fun z=>e (h1.trans z)
      have b:atKey (q::qs) k=atKey qs k:=by simp [atKey,List.find?_cons,e']
      rw [valV_neg e,b]; exact ih
theorem KT.repl {H:Hp} {kvs:List (List Key × V)} {xs:List (List Key × Addr × Value)} (r:KT H kvs xs) (k:List Key) {y:V} {u:Value} (ry:RelV y u):
    KT H (kvs.map fun kv=>if kv.1=k then (kv.1,y) else kv) (xs.map (putAt k u)):=by
  induction r with
  | nil=>exact .nil
  | @cons p q ps qs h t ih=>
    rw [List.map_cons,List.map_cons]
    refine .cons ?_ ih
    obtain ⟨h1,h2,h3⟩:=h
    unfold putAt
    by_cases e:p.1=k
    · rw [if_pos e,if_pos (h1.symm.trans e)]; exact ⟨h1,h2,ry⟩
    · rw [if_neg e,if_neg (fun z=>e (h1.trans z))]; exact ⟨h1,h2,h3⟩
theorem KT.put {H:Hp} {kvs:List (List Key × V)} {xs:List (List Key × Addr × Value)} (r:KT H kvs xs) (k:List Key) {b:Addr} {y:V} {u:Value} (hb:H b=some (.tup (k.map kV))) (ry:RelV y u):
    KT H (putK kvs k y) (storedH xs k b u):=by
  have e:(kvs.any fun kv=>decide (kv.1=k))=(atKey xs k).isSome:=by
    rw [valV_any,(r.val k).isSome_eq,Option.isSome_map]
  unfold putK storedH
  rw [e]
  by_cases q:(atKey xs k).isSome=true
  · rw [if_pos q,if_pos q]; exact r.repl k ry
  · rw [if_neg q,if_neg q]; exact Paired.snoc r ⟨rfl,hb,ry⟩
theorem KT.keeps {H H':Hp} {kvs:List (List Key × V)} {xs:List (List Key × Addr × Value)} (r:KT H kvs xs) (ht:∀ b ys,H b=some (.tup ys)->H' b=some (.tup ys)):KT H' kvs xs:=
  Paired.mapP r fun _ _ z=>⟨z.1,ht _ _ z.2.1,z.2.2⟩
section
variable {P:Program} {w:World} {H:Hp} {h:Heap} {a:Addr}
theorem rd_of {u:HO} (ok:HOk P w H h) (e:Rd H a u):ObjOk P w H h a u:=e.ok ok
theorem dk_rd {kvs:List (Key × V)} (ok:HOk P w H h) (e:Rd H a (.dK kvs)):kvs.length<=sizeLine/\(a == sysModules)=false/\∃ vs,KV kvs vs/\h.DictOf (mixKind P w) a vs:=
  show ObjOk P w H h a (.dK kvs) from rd_of ok e
theorem dk_of {kvs:List (Key × V)} (ok:HOk P w H h) (e:H a=some (.dK kvs)):kvs.length<=sizeLine/\(a == sysModules)=false/\∃ vs,KV kvs vs/\h.DictOf (mixKind P w) a vs:=dk_rd ok (.inl e)
theorem key_of {ks:List Key} (ok:HOk P w H h) (e:H a=some (.tup (ks.map kV))):(tupleKind (mixKind P w)).is h ks a:=by
  obtain ⟨_,its,r,o,h1,h2,n,h3⟩:=(show ObjOk P w H h a (.tup (ks.map kV)) from ok a _ e)
  exact ⟨o,its.toArray,n,h1,h2,h3,by simpa using items_are r⟩
theorem dt_rd {kvs:List (List Key × V)} (ok:HOk P w H h) (e:Rd H a (.dT kvs)):kvs.length<=sizeLine/\(a == sysModules)=false/\
    ∃ xs,KT H kvs xs/\h.DictOfH (tupleKind (mixKind P w)) a xs:=by
  obtain ⟨z,y,xs,r,o,es,ep,h1,h2,h3,h4,h5⟩:=(show ObjOk P w H h a (.dT kvs) from rd_of ok e)
  refine ⟨z,y,xs,r,o,es,ep,h1,h2,h3,h4,fun x hx=>?_,h5⟩
  have all:∀ {l:List (List Key × V)} {m:List (List Key × Addr × Value)},KT H l m->∀ x ∈ m,(tupleKind (mixKind P w)).is h x.1 x.2.1:=by
    intro l m q
    induction q with
    | nil=>intro x hx; exact nomatch hx
    | @cons p q ps qs hq t ih=>
      intro x hx
      rcases List.mem_cons.mp hx with e | hx
      · subst e
        exact key_of ok (by rw [← hq.1]; exact hq.2.1)
      · exact ih x hx
  exact all r x hx
theorem dt_of {kvs:List (List Key × V)} (ok:HOk P w H h) (e:H a=some (.dT kvs)):kvs.length<=sizeLine/\(a == sysModules)=false/\
    ∃ xs,KT H kvs xs/\h.DictOfH (tupleKind (mixKind P w)) a xs:=dt_rd ok (.inl e)
end
noncomputable def DGet (H:Hp) (a:Addr) (y:V) (r:Option V):Prop:=
  (∃ kvs k,Rd H a (.dK kvs)/\y=kV k/\r=valV kvs k)\/∃ kvs k b,Rd H a (.dT kvs)/\y=.ref b/\H b=some (.tup (k.map kV))/\r=valV kvs k
noncomputable def DPut (H:Hp) (a:Addr) (y v:V) (H':Hp):Prop:=
  (∃ kvs k,H a=some (.dK kvs)/\y=kV k/\kvs.length < sizeLine/\H'=upd H a (.dK (putK kvs k v)))\/
  ∃ kvs k b,H a=some (.dT kvs)/\y=.ref b/\H b=some (.tup (k.map kV))/\kvs.length < sizeLine/\H'=upd H a (.dT (putK kvs k v))
section
variable {X:Cx} {pins:List (Addr × Obj)} {σ:St} {H:Hp} {s:Shared} {a:Addr} {y v:V} {u r:Value} {o:Option V} {A:Around} {E:Value->Shared->Prop}
theorem Inv.big (I:Inv X pins σ H s):sysModules < s.heap.objs.size:=by
  have h:mainGlobals < s.heap.objs.size:=(I.mod.glob.keeps I.bk).lt
  exact Nat.lt_trans (by decide) h
theorem d_getItem {Q:Value->Shared->Prop} (hu:A.units + 1 < cLine) (I:Inv X pins σ H s) (g:DGet H a y (some v)) (ry:RelV y u) (h:∀ w' s',Inv X pins σ H s'->RelV v w'->Q w' s'):
    wpAny (model X.prog X.w) A (getItem (.ref a) u) Q E s:=by
  rcases g with ⟨kvs,k,e,ey,l⟩ | ⟨kvs,k,b,e,ey,eb,l⟩
  · subst ey
    obtain ⟨z,hd,vs,rel,dd⟩:=dk_rd I.hok e
    obtain ⟨w',hw,rw'⟩:=RelO.some_of (v:=v) (o:=valueAt vs k) (by rw [l]; exact rel.val k)
    exact wpAny_getItem_of (kV_is ry) dd.mapOf hw (h w' _ (I.tok _) rw')
  · subst ey
    cases (show u=Value.ref b from ry)
    obtain ⟨z,hd,xs,rel,dd⟩:=dt_rd I.hok e
    obtain ⟨w',hw,rw'⟩:=RelO.some_of (v:=v) (o:=(atKey xs k).map (·.2)) (by rw [l]; exact rel.val k)
    obtain ⟨p,hp,hp2⟩:=Option.map_eq_some_iff.mp hw
    refine wpAny_getItem_heap (tupleKind_room_in1 hu) (key_of I.hok eb) dd hp ?_
    rw [hp2]
    exact h w' _ (I.tok _) rw'
theorem d_write {h':Heap} {t':Nat} {ob:HO} (I:Inv X pins σ H s) (mu:Mut (H a)) (hs:Heap.SameBut a s.heap h') (he:∃ q,h'.get? a=some q) (new:ObjOk X.prog X.w (upd H a ob) h' a ob):
    Inv X pins σ (upd H a ob) { s with heap:=h',toks:=t' }:=
  I.write (x:=a) (e:=a) mu (.inl rfl) (fun b q hb z=>(hs.2 b hb).trans z) he new
theorem dk_new {H':Hp} {h':Heap} {kvs:List (Key × V)} {vs:List (Key × Value)} (z:kvs.length<=sizeLine) (hd:(a == sysModules)=false) (rel:KV kvs vs) (dd:h'.DictOf (mixKind P w) a vs):
    ObjOk P w H' h' a (.dK kvs):=⟨z,hd,vs,rel,dd⟩
theorem d_setItem {H':Hp} {Q:Unit->Shared->Prop} (hu:A.units + 1 < cLine) (I:Inv X pins σ H s) (g:DPut H a y v H') (ry:RelV y u) (rv:RelV v r) (h:∀ s',Inv X pins σ H' s'->Q () s'):
    wpAny (model X.prog X.w) A (setItem (.ref a) u r) Q E s:=by
  rcases g with ⟨kvs,k,e,ey,l,eH⟩ | ⟨kvs,k,b,e,ey,eb,l,eH⟩
  · subst ey eH
    obtain ⟨z,hd,vs,rel,dd⟩:=dk_of I.hok e
    have hz:vs.length<=sizeLine:=by rw [← rel.length]; exact z
    have hl:(putK kvs k v).length<=sizeLine:=by have:=length_putK kvs k v; omega
    refine wpAny_setItem_pairs (hsz:=hz) (kV_is ry) dd fun h' dd' hs=>h _ ?_
    have he:∃ q,h'.get? a=some q:=let ⟨q,_,_,hq,_⟩:=dd'; ⟨q,hq⟩
    exact d_write I (by rw [e]; exact True.intro) hs he (dk_new hl hd (rel.put k rv) dd')
  · subst ey eH
    cases (show u=Value.ref b from ry)
    obtain ⟨z,hd,xs,rel,dd⟩:=dt_of I.hok e
    have hz:xs.length<=sizeLine:=by rw [← Paired.length rel]; exact z
    have hl:(putK kvs k v).length<=sizeLine:=by have:=length_putK kvs k v; omega
    refine wpAny_setItem_heap (hsz:=hz) (tupleKind_room_in1 hu) (key_of I.hok eb) dd fun h' dd' hs=>h _ ?_
    obtain ⟨q,es,ep,hq,h2,h3,h4,_,h5⟩:=dd'
    refine d_write I (by rw [e]; exact True.intro) hs ⟨q,hq⟩ ⟨hl,hd,_,(rel.put k eb rv).keeps fun c ys ec=>?_,q,es,ep,hq,h2,h3,h4,h5⟩
    rw [upd_ne (ne_of ec e (fun z=>nomatch z))]
    exact ec
end
section
variable {X:Cx} {pins:List (Addr × Obj)} {σ:St} {H:Hp} {s:Shared} {a:Addr} {kvs:List (Key × V)} {k:Key} {u:Value} {A:Around} {E:Value->Shared->Prop}
end
theorem dict_typeIs {X:Cx} {σ:St} {H:Hp} {a:Addr} {y:V} {o:Option V} (I:Inv X pins σ H s) (g:DGet H a y o):s.TypeIs (.ref a) "dict" := by
  rcases g with ⟨kvs,k,e,_,_⟩ | ⟨kvs,k,b,e,_,_,_⟩
  · obtain ⟨_,_,vs,_,dd⟩:=dk_rd I.hok e
    exact dd.typeIs
  · obtain ⟨_,_,xs,_,dd⟩:=dt_rd I.hok e
    exact dd.typeIs
section
variable {X:Cx} {o i e value:Expr} {pos pos' tpos:Pos} {td ty tv:TE}
end
theorem dk_empty {H:Hp} (h:Heap) (hb:sysModules < h.objs.size):ObjOk P w H (h.push { cls:=.type "dict",data:=.dict #[] }) h.objs.size (.dK []):=
  ⟨Nat.zero_le _,beq_eq_false_iff_ne.mpr (Ne.symm (Nat.ne_of_lt hb)),[],.nil,Heap.DictOf.new h⟩
theorem dt_empty {H:Hp} (h:Heap) (hb:sysModules < h.objs.size):ObjOk P w H (h.push { cls:=.type "dict",data:=.dict #[] }) h.objs.size (.dT []):=
  ⟨Nat.zero_le _,beq_eq_false_iff_ne.mpr (Ne.symm (Nat.ne_of_lt hb)),[],.nil,_,#[],0,Heap.get?_push_size _ rfl,⟨rfl,rfl,rfl⟩,rfl,rfl,List.nodup_nil⟩
noncomputable def tDNewK:TE:=fun _ H Q=>∀ p,H p=none->Q (.ref p) (upd H p (.dK []))
noncomputable def tDNewT:TE:=fun _ H Q=>∀ p,H p=none->Q (.ref p) (upd H p (.dT []))
section
variable {X:Cx} {pos:Pos}
theorem pe_dnewK:PE X (.Dict [] [] pos) tDNewK:=fun pins s σ H Q I h=>
  wpAny_Dict_empty ⟨.ref s.heap.objs.size,_,I.laid (a:=s.heap.objs.size) (o:=.dK []) (t':=s.toks) (fun _ _ q=>Heap.get?_push_of_some _ q) (Nat.le_refl _) (dk_empty s.heap I.big),rfl,h _ (I.hok.fresh (Nat.le_refl _))⟩
theorem pe_dnewT:PE X (.Dict [] [] pos) tDNewT:=fun pins s σ H Q I h=>
  wpAny_Dict_empty ⟨.ref s.heap.objs.size,_,I.laid (a:=s.heap.objs.size) (o:=.dT []) (t':=s.toks) (fun _ _ q=>Heap.get?_push_of_some _ q) (Nat.le_refl _) (dt_empty s.heap I.big),rfl,h _ (I.hok.fresh (Nat.le_refl _))⟩
end
structure M1 (X:Cx) (o:Expr) (m:Str) (apos:Pos) (e:Expr) (cpos:Pos):Prop where
  base:attributeBase o m X.env (eval o X.env)=eval o X.env
  few:((backTo cpos (starEach [e] X.env)).all (fun x=>!x.1) && (backToKw cpos (keywordEach [] X.env)).all (fun x=>x.1.isSome)
    && decide (([e]:List Expr).length + ([]:List Keyword).length + (if ([]:List Keyword).isEmpty then 0 else 1) < 30))=true
  line:(apos.endLine == cpos.line)=true
  trees:backTo cpos (starEach [e] X.env)=[(false,eval e X.env)]
structure M2 (X:Cx) (o:Expr) (m:Str) (apos:Pos) (e f:Expr) (cpos:Pos):Prop where
  base:attributeBase o m X.env (eval o X.env)=eval o X.env
  few:((backTo cpos (starEach [e,f] X.env)).all (fun x=>!x.1) && (backToKw cpos (keywordEach [] X.env)).all (fun x=>x.1.isSome)
    && decide (([e,f]:List Expr).length + ([]:List Keyword).length + (if ([]:List Keyword).isEmpty then 0 else 1) < 30))=true
  line:(apos.endLine == cpos.line)=true
  trees:backTo cpos (starEach [e,f] X.env)=[(false,eval e X.env),(false,eval f X.env)]
section
variable {X:Cx} {pins:List (Addr × Obj)} {σ:St} {H:Hp} {s:Shared} {a:Addr} {y d:V} {u r:Value} {o:Option V} {A:Around} {E:Value->Shared->Prop}
end
section
variable {X:Cx} {o e f:Expr} {apos cpos:Pos} {td ty tx:TE}
end
section
variable {X:Cx} {pins:List (Addr × Obj)} {σ:St} {H:Hp} {s:Shared} {a:Addr} {kvs:List (Key × V)} {A:Around} {E:Value->Shared->Prop}
end
section
variable {X:Cx} {pins:List (Addr × Obj)} {σ:St} {H:Hp} {s:Shared} {a:Addr} {y:V} {u:Value} {A:Around} {E:Value->Shared->Prop}
end
section
variable {X:Cx}
end
section
variable {κ:Type} [DecidableEq κ]
end
noncomputable def cloOf (names:List (Str × NameKind)) (env:Env):List (Str × Addr):=names.foldl (fun cs p=>if (p.2 == NameKind.free)=true then (p.1,(env.cells.lookup p.1).getD 0)::cs else cs) []
theorem cloOf_lookup {env:Env}:∀ (names:List (Str × NameKind)) (cs:List (Str × Addr)) (x:Str) (c:Addr),
    (∀ y d,cs.lookup y=some d->d=(env.cells.lookup y).getD 0)->
    (names.foldl (fun cs p=>if (p.2 == NameKind.free)=true then (p.1,(env.cells.lookup p.1).getD 0)::cs else cs) cs).lookup x=some c->c=(env.cells.lookup x).getD 0
  | [],cs,x,c,h,e=>h x c e
  | (n,k)::r,cs,x,c,h,e=>by
    simp only [List.foldl_cons] at e
    refine cloOf_lookup r _ x c ?_ e
    intro y d q
    split at q
    · simp only [List.lookup_cons] at q
      split at q
      · rename_i z
        have z':y=n:=by simpa using z
        rw [z']; exact (Option.some.inj q).symm
      · exact h y d q
    · exact h y d q
theorem cloOf_keys {env:Env}:∀ (names:List (Str × NameKind)) (cs:List (Str × Addr)) (x:Str) (c:Addr),
    (names.foldl (fun cs p=>if (p.2 == NameKind.free)=true then (p.1,(env.cells.lookup p.1).getD 0)::cs else cs) cs).lookup x=some c->(∃ d,cs.lookup x=some d)\/(x,NameKind.free) ∈ names
  | [],cs,x,c,e=>.inl ⟨c,e⟩
  | (n,k)::r,cs,x,c,e=>by
    simp only [List.foldl_cons] at e
    rcases cloOf_keys r _ x c e with ⟨d,q⟩ | q
    · split at q
      · rename_i hk
        simp only [List.lookup_cons] at q
        split at q
        · rename_i z
          have z':x=n:=by simpa using z
          have k':k=NameKind.free:=by simpa using hk
          right; rw [z',k']; exact List.mem_cons_self
        · exact .inl ⟨d,q⟩
      · exact .inl ⟨d,q⟩
    · exact .inr (List.mem_cons_of_mem _ q)
theorem cloOf_has {env:Env}:∀ (names:List (Str × NameKind)) (cs:List (Str × Addr)) (x:Str),
    ((∃ d,cs.lookup x=some d)\/(x,NameKind.free) ∈ names)->∃ c,(names.foldl (fun cs p=>if (p.2 == NameKind.free)=true then (p.1,(env.cells.lookup p.1).getD 0)::cs else cs) cs).lookup x=some c
  | [],cs,x,h=>by
    rcases h with h | h
    · exact h
    · cases h
  | (n,k)::r,cs,x,h=>by
    simp only [List.foldl_cons]
    refine cloOf_has r _ x ?_
    rcases h with ⟨d,h⟩ | h
    · left
      split
      · simp only [List.lookup_cons]
        split
        · exact ⟨_,rfl⟩
        · exact ⟨d,h⟩
      · exact ⟨d,h⟩
    · rcases List.mem_cons.mp h with e | h
      · left
        cases e
        simp
      · exact .inr h
theorem closureFor_go {env:Env}:∀ (names:List (Str × NameKind)) (cs:List (Str × Addr)),(∀ p ∈ names,p.2=NameKind.free->∃ c,env.cells.lookup p.1=some c)->
    (forIn names cs fun p r=>if (p.2 == NameKind.free)=true then do let a ← cellOf env p.1; pure (ForInStep.yield ((p.1,a)::r)) else pure (ForInStep.yield r):Sem (List (Str × Addr)))=
      pure (names.foldl (fun cs p=>if (p.2 == NameKind.free)=true then (p.1,(env.cells.lookup p.1).getD 0)::cs else cs) cs)
  | [],cs,_=>by simp
  | (n,k)::r,cs,h=>by
    rw [List.forIn_cons,List.foldl_cons]
    by_cases hk:(k == NameKind.free)=true
    · obtain ⟨c,hc⟩:=h (n,k) List.mem_cons_self (by simpa using hk)
      have hc':List.lookup n env.cells=some c:=hc
      simp only [hk,if_true,cellOf,hc',pure_bind,Option.getD_some]
      exact closureFor_go r _ fun p hp=>h p (List.mem_cons_of_mem _ hp)
    · simp only [hk,pure_bind]
      exact closureFor_go r _ fun p hp=>h p (List.mem_cons_of_mem _ hp)
theorem closureFor_eq {sc:Scope} {env:Env} (h:∀ p ∈ sc.names,p.2=NameKind.free->∃ c,env.cells.lookup p.1=some c):closureFor sc env=pure (cloOf sc.names env):=by
  have:=closureFor_go (env:=env) sc.names [] h
  unfold closureFor cloOf
  rw [← this]
  simp only [bind_pure]
theorem relabel_lookup {env:Env}:∀ (names:List (Str × NameKind)) (x:Str),
    (names.map fun (n,k)=>if (k == NameKind.free && env.scope.kind == .function && env.kindOf n == some .cell) then (n,NameKind.cell) else (n,k)).lookup x=
      (names.lookup x).map fun k=>if (k == NameKind.free && env.scope.kind == .function && env.kindOf x == some .cell) then NameKind.cell else k
  | [],x=>rfl
  | (n,k)::r,x=>by
    have ih:=relabel_lookup (env:=env) r x
    simp only [List.map_cons]
    by_cases hx:x=n
    · subst hx
      split <;> simp_all
    · have hb:(x == n)=false:=beq_eq_false_iff_ne.mpr hx
      split <;> simp only [List.lookup_cons,hb,ih]
structure CompSc (X:Cx) (M F:List Str) (ixs:List Nat) (sc:Scope):Prop where
  kind:sc.kind=.function
  locs:∀ y ∈ sc.names,y.2=.local->sc.names.lookup y.1=some .local
  nocell:∀ y ∈ sc.names,y.2 ≠ .cell
  own:∀ p ∈ sc.names,p.2=.free->X.env.scope.names.lookup p.1=some .cell\/X.env.scope.names.lookup p.1=some .free
  frs:∀ x ∈ F,sc.names.lookup x=some .free
  ixl:ixs.length=F.length
  ixn:∀ (j i:Nat),ixs[j]?=some i->X.N[i]?=F[j]?
  visM:∀ x ∈ M,sc.names.lookup x=some .local
noncomputable abbrev sub0 (m:Nat) (ixs:List Nat) (σ:St):St:=List.replicate m none++ixs.map fun i=>(σ[i]?).join
noncomputable def cxComp (X:Cx) (M F:List Str) (sc:Scope) (C:Addr) (fp:List Addr) (s:Shared) (H:Hp):Cx where
  prog:=X.prog
  w:=X.w
  K:=X.K
  mg:=X.mg
  base:=X.base
  A:=X.A
  N:=M++F
  s₀:=s
  H0:=H
  env:=compEnvC sc (cloOf sc.names X.env) C X.env
  outer:=X.stack
  stack:=X.stack
  ex:=fp
  fn:=fun _=>false
  calm:=X.calm
  pn:=[]
  xe:=fun _ _=>False
section
variable {X:Cx} {pins:List (Addr × Obj)} {σ:St} {H:Hp} {s:Shared}
theorem CompSc.free_of {M F:List Str} {ixs:List Nat} {sc:Scope} (c:CompSc X M F ixs sc) {x:Str} {k:NameKind} (h:sc.names.lookup x=some k):(x,k) ∈ sc.names:=by
  generalize sc.names=l at h
  induction l with
  | nil=>cases h
  | cons p r ih=>
    rw [List.lookup_cons] at h
    split at h
    · rename_i z
      have z':x=p.1:=by simpa using z
      have e:p.2=k:=Option.some.inj h
      subst e
      rw [z']
      exact List.mem_cons_self
    · exact List.mem_cons_of_mem _ (ih h)
theorem comp_has (I:Inv X pins σ H s) {M F:List Str} {ixs:List Nat} {sc:Scope} (c:CompSc X M F ixs sc):∀ p ∈ sc.names,p.2=NameKind.free->∃ a,X.env.cells.lookup p.1=some a:=fun p hp e=>
  I.ok.has p.1 (by rcases c.own p hp e with h | h; exact .inl h; exact .inr h)
theorem clo_lookup (I:Inv X pins σ H s) {M F:List Str} {ixs:List Nat} {sc:Scope} (c:CompSc X M F ixs sc) {x:Str} {a:Addr} (h:(cloOf sc.names X.env).lookup x=some a):X.env.cells.lookup x=some a:=by
  have e:=cloOf_lookup (env:=X.env) sc.names [] x a (fun y d q=>by cases q) h
  rcases cloOf_keys sc.names [] x a h with ⟨d,q⟩ | q
  · cases q
  · obtain ⟨b,hb⟩:=comp_has I c _ q rfl
    have hb':X.env.cells.lookup x=some b:=hb
    rw [hb',Option.getD_some] at e
    rw [hb',e]
theorem comp_ok (I:Inv X pins σ H s) {M F:List Str} {ixs:List Nat} {sc:Scope} (c:CompSc X M F ixs sc) {C:Addr} {fp:List Addr} (hC:s.heap.objs.size<=C) (hf:∀ b ∈ fp,FpOk X pins H b) (ho:∀ b ∈ fp,∃ o,s.heap.get? b=some o):(cxComp X M F sc C fp s H).Ok where
  mod:=I.ok.mod
  kind:=c.kind
  glob:=I.ok.glob
  blt:=I.ok.blt
  above:=hC
  inj:=fun x y a e1 e2=>I.ok.inj x y a (clo_lookup I c e1) (clo_lookup I c e2)
  has:=fun x h=>by
    have h':((sc.names.lookup x).map fun k=>if (k == NameKind.free && X.env.scope.kind == .function && X.env.kindOf x == some .cell) then NameKind.cell else k)=some .cell\/((sc.names.lookup x).map fun k=>if (k == NameKind.free && X.env.scope.kind == .function && X.env.kindOf x == some .cell) then NameKind.cell else k)=some .free:=by
      rw [← relabel_lookup]; exact h
    refine cloOf_has sc.names [] x (.inr ?_)
    cases e:sc.names.lookup x with
    | none=>rw [e] at h'; rcases h' with h' | h' <;> cases h'
    | some k=>
      rw [e] at h'
      have m:=c.free_of e
      cases k with
      | free=>exact m
      | cell=>exact absurd rfl (c.nocell _ m)
      | _=>rcases h' with h' | h' <;> simp at h'
  cab:=fun x a h=>by cases h
  hd:=I.ok.hd
  frames:=I.ok.frames
  stk:=.inl rfl
  exf:=fun b hb=>⟨by
    obtain ⟨o,e⟩:=ho b hb
    exact Nat.ne_of_lt (Nat.lt_of_lt_of_le (Heap.lt_size e) hC),fun x a e=>(hf b hb).2.2.2.2.1 x a (clo_lookup I c e)⟩
  bs:=I.bs
  bsz:=Nat.le_trans I.ok.bsz I.sz
  noex:=fun b o e hb=>by
    obtain ⟨_,_,_,h,_⟩:=hf b hb
    rcases h with h | h
    · exact I.ok.noex b o e h
    · exact absurd (Nat.lt_of_lt_of_le (Heap.lt_size (I.ok.bs b o e).1) h) (Nat.lt_irrefl _)
  exfs:=fun b hb z=>by
    obtain ⟨_,h1,h2,_⟩:=hf b hb
    rcases List.mem_cons.mp (I.stkSub b z) with z | z
    · exact h1 z
    · exact h2 z
  funs:=I.stack
  frf:=I.stkFree
end
section
variable {X:Cx} {pins:List (Addr × Obj)} {σ:St} {H:Hp} {s:Shared}
theorem comp_inv (I:Inv X pins σ H s) {M F:List Str} {ixs:List Nat} {sc:Scope} (c:CompSc X M F ixs sc) {fp:List Addr} (hf:∀ b ∈ fp,FpOk X pins H b) (ho:∀ b ∈ fp,∃ o,s.heap.get? b=some o)
    {h₁:Heap} {tk:Nat} {C:Addr} {m1:Str->Option Value} (hC:C=s.heap.objs.size + 1) (hns:h₁.Ns C m1) (old:∀ b o,s.heap.get? b=some o->h₁.get? b=some o)
    (hD:h₁.get? s.heap.objs.size=some { cls:=.type "list",data:=.seq #[] 0 }):
    Inv (cxComp X M F sc C fp s H) [] (sub0 M.length ixs σ) (upd H s.heap.objs.size (.lst [])) { s with heap:=h₁,toks:=tk }:=by
  have hDn:H s.heap.objs.size=none:=I.hok.fresh (Nat.le_refl _)
  have hCle:s.heap.objs.size<=C:=by rw [hC]; exact Nat.le_succ _
  have hCn:H C=none:=I.hok.fresh hCle
  have hok:=comp_ok (X:=X) I c (C:=C) (fp:=fp) hCle hf ho
  refine ⟨hok,rfl,I.bare,Un.laid old (Nat.le_refl _) hDn,⟨m1,hns,?_⟩,?_,?_,?_,?_,?_,?_⟩
  · intro i x v e1 e2 hv
    have e1':(M++F)[i]?=some x:=e1
    by_cases hi:i < M.length
    · rw [List.getElem?_append_left (by simpa using hi)] at e2
      rw [List.getElem?_replicate] at e2
      simp [hi] at e2
    · rw [List.getElem?_append_right (by omega)] at e1'
      rw [List.getElem?_append_right (by simpa using Nat.le_of_not_lt hi)] at e2
      simp only [List.length_replicate,List.getElem?_map] at e2
      cases q:ixs[i - M.length]? with
      | none=>rw [q] at e2; cases e2
      | some i'=>
        rw [q] at e2
        have e2':(σ[i']?).join=some v:=by simpa using e2
        have e3:σ[i']?=some (some v):=by
          cases z:σ[i']? with
          | none=>rw [z] at e2'; cases e2'
          | some y=>rw [z] at e2'; simp at e2'; rw [e2']
        have xF:x ∈ F:=List.mem_of_getElem? e1'
        have hlk:=c.frs x xF
        have hm:=c.free_of hlk
        have hX:=c.own _ hm rfl
        have hN:X.N[i']?=some x:=by rw [c.ixn _ _ q]; exact e1'
        obtain ⟨m,hn,hl⟩:=I.loc
        have vis:Vis X.env.scope x:=by
          rcases hX with h | h
          · exact .inr (.inl h)
          · exact .inr (.inr h)
        obtain ⟨u,r,l⟩:=hl i' x v hN e3 vis
        refine ⟨u,r,.inr ⟨?_,?_⟩⟩
        · show (Env.kindOf (compEnvC sc (cloOf sc.names X.env) C X.env) x=_)\/(Env.kindOf (compEnvC sc (cloOf sc.names X.env) C X.env) x=_)
          have:Env.kindOf (compEnvC sc (cloOf sc.names X.env) C X.env) x=(sc.names.lookup x).map fun k=>if (k == NameKind.free && X.env.scope.kind == .function && X.env.kindOf x == some .cell) then NameKind.cell else k:=relabel_lookup sc.names x
          rw [this,hlk]
          simp only [Option.map_some]
          split
          · exact .inl rfl
          · exact .inr rfl
        · rcases l with ⟨hk,_⟩ | ⟨_,cc,hcc,hcell⟩
          · rcases hX with h | h
            · have hk':X.env.scope.names.lookup x=some .local:=hk
              have h':X.env.scope.names.lookup x=some .cell:=h
              rw [h'] at hk'; cases hk'
            · have hk':X.env.scope.names.lookup x=some .local:=hk
              have h':X.env.scope.names.lookup x=some .free:=h
              rw [h'] at hk'; cases hk'
          · obtain ⟨a,ha⟩:=cloOf_has (env:=X.env) sc.names [] x (.inr hm)
            have ha':=clo_lookup I c (x:=x) (a:=a) ha
            rw [hcc] at ha'; cases ha'
            obtain ⟨oc,hoc,hd⟩:=hcell
            exact ⟨cc,ha,oc,old _ _ hoc,hd⟩
  · intro x a e
    obtain ⟨v,oc,hoc,hd⟩:=I.cell x a (clo_lookup I c e)
    exact ⟨v,oc,old _ _ hoc,hd⟩
  · show upd H s.heap.objs.size (.lst []) C=none
    rw [upd_ne (by rw [hC]; exact Nat.succ_ne_self _)]; exact hCn
  · intro x a e
    obtain ⟨v,oc,hoc,hd⟩:=I.cell x a (clo_lookup I c e)
    rw [upd_ne (Nat.ne_of_lt (Heap.lt_size hoc))]
    exact I.freeC x a (clo_lookup I c e)
  · intro p hp; cases hp
  · exact I.hok.laid old (Nat.le_refl _) ⟨Nat.zero_le _,[],0,.nil,hD⟩
  · show (List.replicate M.length none++_).length=(M++F).length
    simp [c.ixl]
noncomputable def PIfs (X:Cx) (ifs:List Expr) (t:TT):Prop:=
  ∀ (pins:List (Addr × Obj)) (s:Shared) (σ:St) (H:Hp) (Q:Bool->Hp->Prop),Inv X pins σ H s->t σ H Q->
    wpAny (model X.prog X.w) X.A (forIn ifs true fun c r=>if r=true then do let ok ← isTrue c X.env (eval c X.env); pure (ForInStep.yield ok) else pure (ForInStep.yield r)) (TP X pins σ Q) X.xe s
theorem pifs_nil {X:Cx}:PIfs X [] (fun _ H Q=>Q true H):=fun _ s σ H Q I h=>wpAny_tests_nil ⟨H,I,h⟩
theorem pifs_one {X:Cx} {c:Expr} {t:TT} (h:PT X c t):PIfs X [c] t:=fun pins s σ H Q I q=>wpAny_tests_one (h pins s σ H Q I q)
noncomputable def tComp (wi:TI) (m:Nat) (ixs:List Nat) (g:TG) (tc:TT) (te:TE):TE:=fun σ H Q=>wi σ H fun J H1=>∀ p,H1 p=none->
  ∃ W:Nat->Nat->St->Hp->Prop,(∃ n,W 0 n (sub0 m ixs σ) (upd H1 p (.lst [])))/\∀ i n σ' H',W i n σ' H'->
    ((J.stop i H'/\Q (.ref p) H')\/(J.go i H'/\∀ x H2,J.yld i H' x H2->g x σ' H2 fun σ3 H3=>tc σ3 H3 fun b H4=>
      if b=true then te σ3 H4 fun v H5=>∃ ys,H5 p=some (.lst ys)/\ys.length < sizeLine/\∃ n',n' < n/\W (i + 1) n' σ3 (upd H5 p (.lst (ys++[v])))
      else ∃ n',n' < n/\W (i + 1) n' σ3 H4))
noncomputable def CI (X:Cx) (fp:List Addr) (tn:Nat->Heap->Prop) (W:Nat->Nat->St->Hp->Prop) (n:Nat) (s:Shared):Prop:=∃ i σ H,Inv X [] σ H s/\tn i s.heap/\(∀ b ∈ fp,H b=none)/\W i n σ H
theorem cps1 {P:Prop} (h:∀ G:Prop,(P->G)->G):P:=h P id
theorem comp_turn {D it:Addr} {fp:List Addr} {tn:Nat->Heap->Prop} {J:It} {tg iter elt:Expr} {ifs:List Expr} {sc:Scope} {pos:Pos} {g:TG} {tc:TT} {te:TE} {W:Nat->Nat->St->Hp->Prop} {F:Hp->Prop} (hcalm:X.calm=true) (T:Turn X.prog X.w X.K tg J fp it tn) (hg:PG X tg g) (hc:PIfs X ifs tc) (he:PE X elt te) (hx:∀ u s,X.xe u s->False)
    (stat:∀ {H':Hp},(∀ b ∈ fp,H' b=none)->∀ b ∈ fp,FpOk X [] H' b)
    (turn:∀ i n σ' H',W i n σ' H'->((J.stop i H'/\F H')\/(J.go i H'/\∀ x H2,J.yld i H' x H2->g x σ' H2 fun σ3 H3=>tc σ3 H3 fun b H4=>
      if b=true then te σ3 H4 fun v H5=>∃ ys,H5 D=some (.lst ys)/\ys.length < sizeLine/\∃ n',n' < n/\W (i + 1) n' σ3 (upd H5 D (.lst (ys++[v])))
      else ∃ n',n' < n/\W (i + 1) n' σ3 H4)))
    {R:Result->Shared->Prop} (hR:∀ σ' H' s',Inv X [] σ' H' s'->F H'->R (.ok .next) s') (n:Nat) (s':Shared) (hI:CI X fp tn W n s'):
    wpAny (model X.prog X.w) X.A (compTurn (.ListComp elt [⟨tg,iter,ifs,0⟩] sc pos) 0 (.ref it) (.ref D) X.env)
      (fun fin s'=>match fin with | .done f=>R (.ok f) s' | .again c'=>c'=.compLoop (.ListComp elt [⟨tg,iter,ifs,0⟩] sc pos) 0 (.ref it) (.ref D) X.env/\∃ m,m < n/\CI X fp tn W m s') (fun _ _=>False) s':=by
  refine cps1 fun G kG=>?_
  obtain ⟨i,σ',H',I',st',fr',w'⟩:=hI
  rw [compTurn_list] at kG
  rcases turn i n σ' H' w' with ⟨stop,qn⟩ | ⟨go,step⟩
  · refine kG (wpAny_bind (wpAny_standAt (wpAny_bind (wpAny_mono (T.done X rfl rfl rfl hcalm i [] s' σ' H' (fun _ _=>False) I' (stat fr') st' stop) (fun r s4 h4=>?_) fun _ _ f=>f))))
    obtain ⟨hr,I4⟩:=h4
    subst hr
    exact wpAny_pure (hR σ' H' _ I4 qn)
  · refine kG (wpAny_bind (wpAny_standAt (wpAny_bind (wpAny_mono (T.item X rfl rfl rfl hcalm i [] s' σ' H' (fun _ _=>False) I' (stat fr') st' go) (fun r s4 h4=>?_) fun _ _ f=>f))))
    obtain ⟨u,hr,h4⟩:=h4
    subst hr
    refine wpAny_bind (wpAny_mono h4 (fun _ s5 h5=>?_) fun _ _ f=>f)
    refine cps1 fun G kG=>?_
    obtain ⟨x,H5,I5,r5,y5,st5,fr5⟩:=h5
    have again:∀ {s7:Shared} {σ7:St} {H7:Hp} {n':Nat},Inv X ([]++pinsAt fp s5.heap) σ7 H7 s7->W (i + 1) n' σ7 H7->CI X fp tn W n' s7:=fun {s7 σ7 H7 n'} I7 w7=>by
      have pn:∀ b ∈ fp,∀ o,s5.heap.get? b=some o->s7.heap.get? b=some o/\H7 b=none:=fun b hb o e=>by
        have:=I7.pin (b,o) (List.mem_append_right _ (List.mem_append_right _ (mem_pinsAt hb e)))
        exact ⟨this.1,this.2.1⟩
      refine ⟨i + 1,σ7,H7,I7.unpinned,T.keep _ _ _ st5 fun b hb o e=>(pn b hb o e).1,fun b hb=>?_,w7⟩
      obtain ⟨o,e,d⟩:=T.obj _ _ st5 b hb
      exact (pn b hb o e).2
    refine kG (wpAny_bind (wpAny_mono (hg _ s5 σ' H5 x u _ (I5.pinned (stat fr5) (T.obj _ _ st5)) r5 (step x H5 y5)) (fun _ s6 h6=>?_) hx))
    refine cps1 fun G kG=>?_
    obtain ⟨σ6,H6,I6,q6⟩:=h6
    refine kG (wpAny_bind (wpAny_mono (hc _ s6 σ6 H6 _ I6 q6) (fun ok s7 h7=>?_) hx))
    refine cps1 fun G kG=>?_
    obtain ⟨H7,I7,q7⟩:=h7
    cases ok with
    | false=>
      rw [if_neg Bool.false_ne_true] at q7
      obtain ⟨n',hn',w7⟩:=q7
      exact kG (wpAny_pure ⟨rfl,n',hn',again I7 w7⟩)
    | true=>
      rw [if_pos rfl] at q7
      refine kG (wpAny_bind (wpAny_bind (wpAny_mono (he _ s7 σ6 H7 _ I7 q7) (fun v s8 h8=>?_) hx)))
      refine cps1 fun G kG=>?_
      obtain ⟨y,H8,I8,r8,ys,hp8,hz,n',hn',w8⟩:=h8
      refine kG (wpAny_bind (wpAny_mono (mt_append (X:=X) _ s8 σ6 H8 (.ref D) [y] (.ref D) [v] (fun _ H9=>W (i + 1) n' σ6 H9) I8 rfl (.cons r8 .nil) ⟨_,ys,y,rfl,rfl,hp8,hz,w8⟩) (fun _ s9 h9=>?_) hx))
      obtain ⟨_,H9,I9,_,w9⟩:=h9
      exact wpAny_pure (wpAny_pure ⟨rfl,n',hn',again I9 w9⟩)
theorem comp_block {M F:List Str} {ixs:List Nat} {sc:Scope} {tg iter elt:Expr} {ifs:List Expr} {g:TG} {tc:TT} {te:TE} {pos:Pos} (hcalm:X.calm=true) (c:CompSc X M F ixs sc)
    (hg:∀ C fp s H,PG (cxComp X M F sc C fp s H) tg g) (hc:∀ C fp s H,PIfs (cxComp X M F sc C fp s H) ifs tc) (he:∀ C fp s H,PE (cxComp X M F sc C fp s H) elt te)
    {fp:List Addr} {it:Addr} {tn:Nat->Heap->Prop} {J:It} {Q:VK} (I:Inv X pins σ H s) (T:Turn X.prog X.w X.K tg J fp it tn) (st:tn 0 s.heap) (hf:∀ b ∈ fp,FpOk X pins H b)
    (h:∀ p,H p=none->∃ W:Nat->Nat->St->Hp->Prop,(∃ n,W 0 n (sub0 M.length ixs σ) (upd H p (.lst [])))/\∀ i n σ' H',W i n σ' H'->
      ((J.stop i H'/\Q (.ref p) H')\/(J.go i H'/\∀ x H2,J.yld i H' x H2->g x σ' H2 fun σ3 H3=>tc σ3 H3 fun b H4=>
        if b=true then te σ3 H4 fun v H5=>∃ ys,H5 p=some (.lst ys)/\ys.length < sizeLine/\∃ n',n' < n/\W (i + 1) n' σ3 (upd H5 p (.lst (ys++[v])))
        else ∃ n',n' < n/\W (i + 1) n' σ3 H4)))
    {RR:Value->Addr->Result->Shared->Prop} {E:Value->Shared->Prop}
    (hR:∀ D C s' H' m,s.heap.get? D=none->s.heap.get? C=none->s.heap.objs.size<=C->H D=none->D ≠ C->H' C=none->s'.heap.Ns C m->s'.os=s.os->AllBare s'.gens->Un (frs X.stack) fp H H' s.heap s'.heap->HOk X.prog X.w H' s'.heap->Q (.ref D) H'->RR (.ref D) C (.ok .next) s'):
    wpAny (model X.prog X.w) X.A (newList []) (fun acc s₃=>wpAny (model X.prog X.w) X.A (newFunctionEnv sc X.env.globals (cloOf sc.names X.env) [] X.env.qual none .none (some X.env)) (fun cenv s₄=>
      codeAny (model X.prog X.w) X.A (.compStart (.ListComp elt [⟨tg,iter,ifs,0⟩] sc pos) 0 (.ref it) acc { cenv with scope:=relabel sc X.env }) (RR acc cenv.locals) s₄) E s₃) E s:=by
  refine wpAny_newObj_type (wpAny_newFunctionEnv c.nocell (by intro y hy; simp at hy) (fun h₁ hns₁ hsb₁=>?_) c.kind)
  dsimp only at hns₁ hsb₁ ⊢
  generalize hH2:s.heap.push { cls:=.type "list",dict:=none,data:=.seq ([]:List Value).toArray }=H2 at hns₁ hsb₁ ⊢
  have hC:H2.objs.size=s.heap.objs.size + 1:=by rw [← hH2,Heap.size_push]
  have hDC:s.heap.objs.size ≠ H2.objs.size:=by rw [hC]; exact Nat.ne_of_lt (Nat.lt_succ_self _)
  have below:∀ b,b < s.heap.objs.size->b ≠ H2.objs.size:=fun b hb=>by rw [hC]; exact Nat.ne_of_lt (Nat.lt_succ_of_lt hb)
  have old:∀ b o,s.heap.get? b=some o->h₁.get? b=some o:=fun b o e=>hsb₁.extBut b o (below b (Heap.lt_size e)) (Heap.get?_push_of_some _ (hH2 ▸ Heap.get?_push_of_some _ e))
  have hD:h₁.get? s.heap.objs.size=some { cls:=.type "list",data:=.seq #[] 0 }:=hsb₁.extBut _ _ hDC (Heap.get?_push_of_some _ (hH2 ▸ Heap.get?_push_size _ rfl))
  have fresh:∀ a,s.heap.objs.size<=a->s.heap.get? a=none:=fun a ha=>by
    cases e:s.heap.get? a with
    | none=>rfl
    | some o'=>exact absurd (Heap.lt_size e) (Nat.not_lt.mpr ha)
  have hDn:H s.heap.objs.size=none:=I.hok.fresh (Nat.le_refl _)
  have hfo:∀ b ∈ fp,∃ o,s.heap.get? b=some o:=fun b hb=>let ⟨o,e,_⟩:=T.obj 0 _ st b hb; ⟨o,e⟩
  have I0:=comp_inv I c hf hfo (tk:=s.toks + ([]:List (Str × Value)).length) hC hns₁ old hD
  obtain ⟨W,⟨n0,w0⟩,turn⟩:=h _ hDn
  have nf:∀ b ∈ fp,b ≠ s.heap.objs.size:=fun b hb=>by obtain ⟨o,e⟩:=hfo b hb; exact Nat.ne_of_lt (Heap.lt_size e)
  have stat:∀ {H':Hp},(∀ b ∈ fp,H' b=none)->∀ b ∈ fp,FpOk (cxComp X M F sc H2.objs.size fp s H) [] H' b:=fun {H'} hn b hb=>by
    obtain ⟨f0,f1,f2,f3,f4,f5⟩:=hf b hb
    obtain ⟨o,e⟩:=hfo b hb
    refine ⟨hn b hb,below b (Heap.lt_size e),fun z=>?_,.inl hb,fun x a e'=>f4 x a (clo_lookup I c e'),fun p hp=>by cases hp⟩
    rcases List.mem_cons.mp (I.stkSub b z) with z | z
    · exact f1 z
    · exact f2 z
  have st1:tn 0 h₁:=T.keep 0 _ _ st fun b hb o e=>old b o e
  have loop:codeAny (model X.prog X.w) X.A (.compLoop (.ListComp elt [⟨tg,iter,ifs,0⟩] sc pos) 0 (.ref it) (.ref s.heap.objs.size) (compEnvC sc (cloOf sc.names X.env) H2.objs.size X.env))
        (RR (.ref s.heap.objs.size) H2.objs.size) { s with heap:=h₁,toks:=s.toks + ([]:List (Str × Value)).length }:=by
    refine codeAny_loop rfl (CI (cxComp X M F sc H2.objs.size fp s H) fp tn W) (fun n s' hI=>?_) n0 ⟨0,_,_,I0,st1,fun b hb=>by rw [upd_ne (nf b hb)]; exact (hf b hb).1,w0⟩
    show wpAny _ X.A ((compTurn (.ListComp elt [⟨tg,iter,ifs,0⟩] sc pos) 0 (.ref it) (.ref s.heap.objs.size) (compEnvC sc (cloOf sc.names X.env) H2.objs.size X.env)).onRaise (fun x=>do noteFrame x (compEnvC sc (cloOf sc.names X.env) H2.objs.size X.env); theTreesLotGoes x)) _ _ s'
    refine wpAny_noted (wpAny_mono (comp_turn (X:=cxComp X M F sc H2.objs.size fp s H) hcalm T (hg _ fp s H) (hc _ fp s H) (he _ fp s H) (fun _ _ f=>f) stat turn (fun σ' H' s4 I4 qn=>?_) n s' hI) (fun _ _ h=>h) fun _ _ f=>f.elim)
    obtain ⟨m4,hn4,_⟩:=I4.loc
    exact hR _ _ _ H' m4 (fresh _ (Nat.le_refl _)) (fresh _ (by rw [hC]; exact Nat.le_succ _)) (by rw [hC]; exact Nat.le_succ _) hDn hDC I4.free hn4 I4.os I4.bare I4.base I4.hok qn
  exact codeAny_compStart_list loop (T.self _ 0 _ _ _ st1 loop)
end
section
variable {X:Cx}
theorem fresh_C {σ σ':St} {H H':Hp} {s s':Shared} {C:Addr} (I:Inv X pins σ H s) (hC:s.heap.get? C=none) (I':Inv X pins σ' H' s') (hn:H' C=none) {h':Heap} {m:Str->Option Value} (hs:Heap.SameBut C s'.heap h')
    (hsz:s.heap.objs.size<=C):Inv X pins σ' H' { s' with heap:=h' }:=by
  have ne:∀ a o,s.heap.get? a=some o->C ≠ a:=fun a o e z=>by rw [z,e] at hC; cases hC
  refine I'.turned (t':=s'.toks) (it:=C) (fun b o hb e=>(hs.2 b hb).trans e) hn ?_ (.inr (Nat.le_trans I.sz hsz)) (fun x c e=>?_) (fun p hp=>?_)
  · exact Nat.ne_of_gt (Nat.lt_of_lt_of_le I.lt hsz)
  · obtain ⟨v,o,ho,_⟩:=I.cell x c e
    exact Ne.symm (ne _ _ ho)
  · exact Ne.symm (ne _ _ (I.pin p hp).1)
theorem pe_comp (M F:List Str) (ixs:List Nat) {sc:Scope} {tg iter elt:Expr} {ifs:List Expr} {wi:TI} {g:TG} {tc:TT} {te:TE} {pos:Pos} (hcalm:X.calm=true) (c:CompSc X M F ixs sc) (hi:PI X tg iter wi)
    (hg:∀ C fp s H,PG (cxComp X M F sc C fp s H) tg g) (hc:∀ C fp s H,PIfs (cxComp X M F sc C fp s H) ifs tc) (he:∀ C fp s H,PE (cxComp X M F sc C fp s H) elt te)
    (hs:∀ x,foldedSetIterable iter X.env x=pure x:=by intro _; rfl):PE X (.ListComp elt [⟨tg,iter,ifs,0⟩] sc pos) (tComp wi M.length ixs g tc te):=by
  intro pins s σ H Q I h
  rw [eval_ListComp]
  refine wpAny_comprehension_free (use:=none) rfl hs (closureFor_eq (comp_has I c)) c.kind c.locs (thn (hi pins s σ H _ I h) fun v s1 h1=>thn h1 fun itv s2 h2=>?_)
  obtain ⟨it,fp,tn,J,H2,e,I2,T,st2,f2,q⟩:=h2
  subst e
  refine comp_block (Q:=Q) hcalm c hg hc he I2 T st2 f2 q (RR:=fun acc C=>compPost (model X.prog X.w) X.A X.xe none (EP X pins σ Q) acc C) ?_
  intro D C s' H' m hD hC hsz hDn hDC hCn hns hos hbare hun hok q'
  have I3:Inv X pins σ H' s':=I2.call' hos hun hok hbare fun b hb=>by
    obtain ⟨_,g1,g2,g3,g4,g5⟩:=f2 b hb
    exact ⟨g3,g1,g4,g5⟩
  exact ⟨m,hns,fun h' hs'=>⟨.ref D,H',fresh_C (m:=m) I2 hC I3 hCn hs' hsz,rfl,q'⟩⟩
theorem ps_setC {i:Nat} (M F:List Str) (ixs:List Nat) {x:Str} {sc:Scope} {tg iter elt:Expr} {ifs:List Expr} {wi:TI} {g:TG} {tc:TT} {te:TE} {pos pos' pos2:Pos} (hN:X.N.Nodup) (hix:X.N[i]?=some x) (hx:X.env.scope.names.lookup x=some .local)
    (hcalm:X.calm=true) (c:CompSc X M F ixs sc) (hi:PI X tg iter wi)
    (hg:∀ C fp s H,PG (cxComp X M F sc C fp s H) tg g) (hc:∀ C fp s H,PIfs (cxComp X M F sc C fp s H) ifs tc) (he:∀ C fp s H,PE (cxComp X M F sc C fp s H) elt te)
    (hsw:swapsWith (.ListComp elt [⟨tg,iter,ifs,0⟩] sc pos) (some (.Name x pos')) pos2.line X.env=pure true:=by rfl)
    (hs:∀ x,foldedSetIterable iter X.env x=pure x:=by intro _; rfl):PS X (.Assign [.Name x pos'] (.ListComp elt [⟨tg,iter,ifs,0⟩] sc pos) pos2) (fun D σ H=>tComp wi M.length ixs g tc te σ H fun v H1=>D.nx (σ.set i (some v)) H1):=by
  intro pins s σ H D I h
  rw [exec_Assign_Name_used _ _ _ _ hsw]
  refine wpAny_bind (wpAny_standAt (wpAny_bind ?_))
  show wpAny _ X.A (do let _ ← comprehension (.ListComp elt [⟨tg,iter,ifs,0⟩] sc pos) sc X.env _ (newList []) false (eval iter X.env) (some (assign (.Name x pos') X.env))) _ _ s
  refine wpAny_bind (wpAny_mono (wpAny_comprehension_free (use:=some (assign (.Name x pos') X.env)) (Q:=fun _ s'=>SP X pins D .next s') rfl hs (closureFor_eq (comp_has I c)) c.kind c.locs
    (thn (hi pins s σ H _ I h) fun v s1 h1=>thn h1 fun itv s2 h2=>?_)) (fun _ s' hq=>wpAny_pure (wpAny_pure hq)) fun _ _ e=>e)
  obtain ⟨it,fp,tn,J,H2,e,I2,T,st2,f2,q⟩:=h2
  subst e
  refine comp_block (Q:=fun v H1=>D.nx (σ.set i (some v)) H1) hcalm c hg hc he I2 T st2 f2 q (RR:=fun acc C=>compPost (model X.prog X.w) X.A X.xe (some (assign (.Name x pos') X.env)) (fun _ s'=>SP X pins D .next s') acc C) ?_
  intro D' C s' H' m hD hC hsz hDn hDC hCn hns hos hbare hun hok q'
  have I3:Inv X pins σ H' s':=I2.call' hos hun hok hbare fun b hb=>by
    obtain ⟨_,g1,g2,g3,g4,g5⟩:=f2 b hb
    exact ⟨g3,g1,g4,g5⟩
  have hLC:C ≠ X.env.locals:=Nat.ne_of_gt (Nat.lt_of_lt_of_le I2.lt hsz)
  show wpAny _ X.A (assign (.Name x pos') X.env (.ref D')) _ _ _
  refine wpAny_assign_Name (store_ok2 (v:=.ref D') I3 hN hix (.inl hx) rfl (fun s'' I4 ⟨a,hsb,ha⟩=>?_) (.inr hx))
  have hCa:C ≠ a:=by
    rcases ha with ha | ha
    · rw [ha]; exact hLC
    · obtain ⟨v,o,ho,_⟩:=I2.cell x a ha
      intro z; rw [z,ho] at hC; cases hC
  exact ⟨m,hns.sameBut hsb hCa,fun h' hs'=>⟨_,H',fresh_C (m:=m) I2 hC I4 hCn hs' hsz,q'⟩⟩
end
section
variable {X:Cx}
theorem op_catS:OpR X (binaryOp .Add) (fun x y H Q=>∃ a b xs ys,x=.ref a/\y=.ref b/\SqL X.K H a xs/\SqL X.K H b ys/\xs.length + ys.length<=sizeLine/\∀ p,H p=none->Q (.ref p) (upd H p (.lst (xs++ys)))):=by
  intro pins s σ H x y v u Q I rx ry h
  obtain ⟨a,b,xs,ys,rfl,rfl,ha,hb,hz,q⟩:=h
  cases rx
  cases ry
  obtain ⟨its,r1,⟨⟨c1,d1,dt1,s1⟩,n1,g1,e1,e2,e3⟩,_⟩:=I.list ha
  obtain ⟨its2,r2,⟨⟨c2,d2,dt2,s2⟩,n2,g2,f1,f2,f3⟩,_⟩:=I.list hb
  simp only at e1 e2 e3 f1 f2 f3
  subst e1 e2 e3 f1 f2 f3
  have hl1:=r1.length
  have hl2:=r2.length
  refine concat_meets ⟨_,g1,rfl⟩ ⟨_,g2,rfl⟩ noFill_list_add seq_list_add PySem.F.slot_list_add PySem.F.entry_list_add (PySem.F.args_list_add_2 _ _) (list_addW a b its.toArray its2.toArray n1 n2 none none s1 s2 (by rw [List.size_toArray,List.size_toArray]; omega)) ⟨g1,g2,?_⟩
  have ea:its.toArray++its2.toArray=(its++its2).toArray:=by simp
  rw [ea]
  exact ⟨.ref _,_,I.lnew (t':=s.toks) (r1.append r2) (by rw [List.length_append]; omega),rfl,q _ I.fresh⟩
end
noncomputable def txtCut (z:Str) (lo hi:Option Int):Str:=⟨((z.cps.toList.drop (HT.sIx z.length 0 lo)).take (HT.sIx z.length z.length hi - HT.sIx z.length 0 lo)).toArray⟩
theorem strIx (lo hi:Option Int) (n:Nat):Builtin.Str.strSliceIndices lo hi 1 n=(List.range (HT.sIx n n hi - HT.sIx n 0 lo)).map (HT.sIx n 0 lo + ·):=by
  have e1:∀ (o:Option Int) (d:Nat),d<=n->(match o with | none=>(d:Int) | some i=>max 0 (min (if i < 0 then i + (n:Int) else i) (n:Int)))=((HT.sIx n d o:Nat):Int):=fun o d hd=>by
    cases o with
    | none=>rfl
    | some i=>
      simp only [HT.sIx]
      by_cases h:i < 0
      · simp only [h,if_true] <;> omega
      · simp only [h,if_false] <;> omega
  rw [← sliceRange_one]
  have a1:=e1 lo 0 (Nat.zero_le _)
  have a2:=e1 hi n (Nat.le_refl _)
  unfold Builtin.Str.strSliceIndices
  rw [← a1,← a2]
  cases lo <;> cases hi <;> simp
theorem slice_cut (z:Str) (lo hi:Option Int):Txt.slice z lo hi=txtCut z lo hi:=by
  unfold Txt.slice txtCut
  rw [strIx]
  have hp:=pick_run z.cps (HT.sIx z.length 0 lo) (HT.sIx z.length z.length hi - HT.sIx z.length 0 lo)
  split
  · rename_i h
    have h2:(List.map (HT.sIx z.length 0 lo + ·) (List.range (HT.sIx z.length z.length hi - HT.sIx z.length 0 lo))).length=z.length:=by simpa using h
    rw [List.length_map,List.length_range] at h2
    have hh:HT.sIx z.length z.length hi<=z.length:=HT.sIx_le _ _ (Nat.le_refl _) hi
    have hl0:HT.sIx z.length 0 lo<=z.length:=HT.sIx_le _ _ (Nat.zero_le _) lo
    have hl:HT.sIx z.length 0 lo=0:=by omega
    rw [h2,hl,List.drop_zero,List.take_of_length_le (by rw [Array.length_toList]; exact Nat.le_refl _)]
  · rw [hp]
noncomputable def rSlS:V->Option Int->Option Int->Hp->VK->Prop:=fun x lo hi H Q=>∃ z,x=.str z/\z.length<=sizeLine/\Q (.str (txtCut z lo hi)) H
section
variable {X:Cx}
theorem sl_str:SlR X rSlS:=by
  intro pins s σ H x v vl vu lo hi sl Q I rx hs pl pu h
  obtain ⟨z,rfl,hz,q⟩:=h
  obtain ⟨t,rfl⟩:=rx
  refine ⟨"str",_,F.slot_str_getitem.lookup,typeIs_str _ _ _,?_⟩
  have go:∀ (l u:Option (Int × Tok)),vl=partValue l->vu=partValue u->l.map (·.1)=lo->u.map (·.1)=hi->wpAny (model X.prog X.w) X.A (getItem (.str z t) (.ref sl)) (EP X pins σ Q) X.xe s:=fun l u e1 e2 e3 e4=>by
    subst e1 e2 e3 e4
    refine wpAny_getItem_str_slice (l:=l) (u:=u) (st:=none) hs rfl (post_val_or_str ⟨Nat.le_trans (Txt.slice_le z _ _) hz,fun t' k=>?_⟩)
    refine ⟨.str (txtCut z (l.map (·.1)) (u.map (·.1))),H,I.tok _,⟨t',?_⟩,q⟩
    rw [← slice_cut]
    rfl
  cases pl with
  | none=>cases pu with
    | none=>exact go none none rfl rfl rfl rfl
    | int j tj=>exact go none (some (j,tj)) rfl rfl rfl rfl
  | int i ti=>cases pu with
    | none=>exact go (some (i,ti)) none rfl rfl rfl rfl
    | int j tj=>exact go (some (i,ti)) (some (j,tj)) rfl rfl rfl rfl
end
section
variable {X:Cx} {pins:List (Addr × Obj)} {σ:St} {H:Hp} {s:Shared} {h':Heap}
end
section
variable {X:Cx}
end
section
variable {X:Cx}
noncomputable def rDGet:R2:=fun x y H Q=>∃ a v,x=.ref a/\DGet H a y (some v)/\Q v H
theorem ix_dict (hu:X.A.units + 1 < cLine):IxR X rDGet:=by
  intro value slice pins s σ H x y v u Q I rx ry h hs
  obtain ⟨a,z,rfl,g,q⟩:=h
  cases rx
  exact tail_any (dict_typeIs I g) PySem.F.slot_dict_getitem.lookup (d_getItem hu I g ry fun w' s3 I3 rw'=>⟨z,H,I3,rw',q⟩) hs
noncomputable def rSetD:V->V->V->Hp->(Hp->Prop)->Prop:=fun o i v H Q=>∃ a H',o=.ref a/\DPut H a i v H'/\Q H'
theorem set_dict (hu:X.A.units + 1 < cLine):PSet X rSetD:=by
  intro pins s σ H o i v ov iv u Q I ro ri rv h
  obtain ⟨a,H',rfl,g,q⟩:=h
  cases ro
  exact d_setItem hu I g ri rv fun s4 I4=>⟨H',I4,q⟩
noncomputable def tFz (t:TE):TE:=fun σ H Q=>t σ H fun v H1=>∃ a kvs,v=.ref a/\H1 a=some (.dK kvs)/\∀ o,Q v (upd H1 a (.frz o (.dK kvs)))
theorem Inv.fz {σ:St} {H:Hp} {a:Addr} {kvs:List (Key × V)} (I:Inv X pins σ H s) (e:H a=some (.dK kvs)):∃ o,Inv X pins σ (upd H a (.frz o (.dK kvs))) s:=by
  obtain ⟨z,hd,vs,r,ob,es,ep,h1,h2⟩:=I.hok a _ e
  refine ⟨ob,?_⟩
  exact d_write (h':=s.heap) (t':=s.toks) (ob:=.frz ob (.dK kvs)) I (by rw [e]; exact True.intro) (Heap.SameBut.refl ..) ⟨ob,h1⟩ ⟨h1,z,hd,vs,r,ob,es,ep,h1,h2⟩
theorem pe_fz {e:Expr} {t:TE} (h:PE X e t):PE X e (tFz t):=fun pins s σ H Q I q=>thn (h pins s σ H _ I q) fun u s1 ⟨v,H1,I1,rv,a,kvs,ev,ea,k⟩=>by
  obtain ⟨o,I2⟩:=I1.fz ea
  exact ⟨v,_,I2,rv,k o⟩
noncomputable def Itd (a:Addr) (o:Obj) (kvs:List (Key × V)):It:=
  ⟨fun i H=>H a=some (.frz o (.dK kvs))/\i < kvs.length,fun i H x H'=>H'=H/\∃ k,(kvs.map (·.1))[i]?=some k/\x=kV k,fun i H=>H a=some (.frz o (.dK kvs))/\kvs.length<=i⟩
theorem is_rel {k:Key} {u:Value} (h:(mixKind P w).is k u=true):RelV (kV k) u:=by
  rcases keyIs_shape h with ⟨i,t,rfl,rfl⟩ | ⟨x,t,rfl,rfl⟩
  · exact ⟨t,rfl⟩
  · exact ⟨t,rfl⟩
theorem frz_dict {σ:St} {H:Hp} {a:Addr} {o:Obj} {kvs:List (Key × V)} (I:Inv X pins σ H s) (e:H a=some (.frz o (.dK kvs))):
    (a == sysModules)=false/\∃ vs ep es,KV kvs vs/\o.data=.dict es ep/\s.heap.DictAt (mixKind X.prog X.w) a vs ep:=by
  obtain ⟨h1,z,hd,vs,r,ob,es,ep,h2,h3,h4,h5⟩:=I.hok a _ e
  rw [h1] at h2
  cases h2
  exact ⟨hd,vs,ep,es,r,h4,o,es,h1,h3,h4,h5⟩
theorem turn_dict {K:FG} {tg:Expr} (a it:Addr) (o:Obj) (kvs:List (Key × V)) (ep:Nat) (he:∃ es,o.data=.dict es ep):Turn P w K tg (Itd a o kvs) [it] it (fun i h=>h.IsKeyIter it a i kvs.length ep) where
  mem:=by simp
  obj:=fun i h st b hb=>by
    have e:b=it:=by simpa using hb
    subst e
    obtain ⟨o,e,c,d⟩:=st
    exact ⟨o,e,fun v z=>by rw [d] at z; cases z⟩
  keep:=fun i h h' st k=>by
    obtain ⟨o,e,c,d⟩:=st
    exact ⟨o,k it (by simp) o e,c,d⟩
  item:=by
    intro X hP hw hK hc i pins s σ H E I hf st hg
    subst hP hw hK
    obtain ⟨hg,hi⟩:=hg
    obtain ⟨hd,vs,ep',es,r,hdat,dd⟩:=frz_dict I hg
    obtain ⟨es0,he⟩:=he
    rw [hdat] at he
    cases he
    have hl:kvs.length=vs.length:=r.length
    obtain ⟨f0,f1,f2,f3,f4,f5⟩:=hf it (by simp)
    rw [hl] at st
    have hx:vs[i]?=some (vs[i]'(by omega)):=List.getElem?_eq_getElem (by omega)
    refine wpAny_pyNext_dict_item (k:=(vs[i]'(by omega)).1) (v:=(vs[i]'(by omega)).2) st dd hx fun key h' hk st' sb=>?_
    have I1:Inv X pins σ H { s with heap:=h' }:=I.turned (t':=s.toks) (fun b o hb e=>(sb.2 b hb).trans e) f0 f1 f3 f4 f5
    have ek:=r.keys
    have e1:(kvs.map (·.1))[i]?=some (vs[i]'(by omega)).1:=by rw [ek,List.getElem?_map,hx]; rfl
    obtain ⟨ob,e,c,d⟩:=id st'
    refine ⟨key,rfl,go_of (s:={ s with heap:=h' }) e c d (by decide) ⟨kV (vs[i]'(by omega)).1,H,I1,is_rel hk,⟨rfl,_,e1,rfl⟩,by rw [hl]; exact st',fun b hb=>(hf b hb).1⟩⟩
  done:=by
    intro X hP hw hK hc i pins s σ H E I hf st hg
    subst hP hw hK
    obtain ⟨hg,hi⟩:=hg
    obtain ⟨hd,vs,ep',es,r,hdat,dd⟩:=frz_dict I hg
    obtain ⟨es0,he⟩:=he
    rw [hdat] at he
    cases he
    have hl:kvs.length=vs.length:=r.length
    obtain ⟨f0,f1,f2,f3,f4,f5⟩:=hf it (by simp)
    rw [hl] at st
    exact wpAny_pyNext_dict_end (I.ok.hd hc) st dd (List.getElem?_eq_none (by omega)) fun h' eb=>⟨rfl,I.turned (t':=s.toks) (fun b o hb e=>eb b o hb e) f0 f1 f3 f4 f5⟩
  self:=fun _ _ _ _ _ st h=>wpAny_pyIter_keyiter st h
noncomputable def iDict (tl:TE):TI:=fun σ H R=>tl σ H fun x H1=>∃ a o kvs,x=.ref a/\H1 a=some (.frz o (.dK kvs))/\R (Itd a o kvs) H1
theorem pi_dict {tg l:Expr} {tl:TE} (hl:PE X l tl):PI X tg l (iDict tl):=by
  intro pins s σ H R I h
  refine thn (hl pins s σ H _ I h) fun v s1 ⟨x,H1,I1,r1,q1⟩=>?_
  obtain ⟨a,o,kvs,e,hq,q⟩:=q1
  subst e
  cases r1
  obtain ⟨hd,vs,ep,es,r,hdat,dd⟩:=frz_dict I1 hq
  refine wpAny_pyIter_dict hd dd ?_
  have hln:kvs.length=vs.length:=r.length
  refine ⟨s1.heap.objs.size,[s1.heap.objs.size],_,_,H1,rfl,I1.kept (t':=s1.toks) fun b o e=>Heap.get?_push_of_some _ e,turn_dict a _ o kvs ep ⟨es,hdat⟩,⟨_,Heap.get?_push_size _ rfl,rfl,?_⟩,fun b hb=>?_,q⟩
  · rw [hln]; rfl
  · have e:b=s1.heap.objs.size:=by simpa using hb
    subst e
    exact I1.fpOk (Nat.le_refl _) (I1.hok.fresh (Nat.le_refl _))
end
section
variable {X:Cx} {pins:List (Addr × Obj)} {σ:St} {H:Hp} {s:Shared} {h':Heap}
theorem Inv.turnedL {t':Nat} {fp:List Addr} (I:Inv X pins σ H s) (k:∀ b o,b ∉ fp->s.heap.get? b=some o->h'.get? b=some o) (f:∀ b ∈ fp,FpOk X pins H b):Inv X pins σ H { s with heap:=h',toks:=t' }:=by
  have nit:∀ b u,H b=some u->b ∉ fp:=fun b u e z=>by rw [(f b z).1] at e; cases e
  refine I.step (g':=s.gens) (d':=s.drawn) (ch:=fp) (fun b hb=>⟨(f b hb).2.2.2.1,(f b hb).2.1,(f b hb).2.2.2.2.1,(f b hb).2.2.2.2.2⟩) (fun b o _ _ hc e _=>k b o hc e) (fun b o _ _ hc e _=>⟨o.slots,k b o hc e⟩) (fun _ _ _ _ n=>n)
    (fun b o hc e=>⟨o,k b o hc e⟩) (fun _ _ e=>e) (fun _ _ _ e=>e) (fun b ps e=>⟨#[],by rw [e]; simp⟩) (fun m hm=>?_) (fun b u e=>?_) I.bare
  · obtain ⟨o,es,ep,ho,r⟩:=hm
    exact ⟨o,es,ep,k _ o (fun z=>(f _ z).2.1 rfl) ho,r⟩
  · refine (I.hok b u e).stay (fun c v hc q=>k c v ?_ q) (fun _ q=>q) fun _ _ q=>q
    rcases hc with z | z
    · rw [z]; exact nit b u e
    · exact nit c _ z
end
theorem Inv.madeT {X:Cx} {σ:St} {H:Hp} {fp:List Addr} {xs:List V} {us:List Value} {g2:Heap} {t':Nat} (I:Inv X pins σ H s) (hl:xs.length<=sizeLine) (rv:Vals xs us) (hf:∀ c ∈ fp,FpOk X pins H c) (lt:∀ c ∈ fp,∃ o,s.heap.get? c=some o)
    (hT:g2.get? s.heap.objs.size=some { cls:=.type "tuple",data:=.seq us.toArray }) (k:∀ c o,c ∉ fp->s.heap.get? c=some o->g2.get? c=some o):
    Inv X pins σ (upd H s.heap.objs.size (.tup xs)) { s with heap:=g2,toks:=t' }/\∀ c ∈ fp,upd H s.heap.objs.size (.tup xs) c=none:=by
  have up:∀ c ∈ fp,upd H s.heap.objs.size (.tup xs) c=none:=fun c hc=>by
    obtain ⟨o,e⟩:=lt c hc
    rw [upd_ne (Nat.ne_of_lt (Heap.lt_size e))]
    exact (hf c hc).1
  have I1:Inv X pins σ (upd H s.heap.objs.size (.tup xs)) { s with heap:=s.heap.push { cls:=.type "tuple",data:=.seq us.toArray },toks:=t' }:=
    I.laid (fun b o q=>Heap.get?_push_of_some _ q) (Nat.le_refl _) ⟨hl,us,rv,⟨_,Heap.get?_push_size s.heap rfl,rfl,0,rfl⟩⟩
  refine ⟨Inv.turnedL (s:={ s with heap:=s.heap.push { cls:=.type "tuple",data:=.seq us.toArray },toks:=t' }) (h':=g2) (t':=t') I1 (fp:=fp) (fun c o hc q=>?_) (fun c hc=>⟨up c hc,(hf c hc).2⟩),up⟩
  have q':(s.heap.push { cls:=.type "tuple",data:=.seq us.toArray }).get? c=some o:=q
  by_cases hbT:c=s.heap.objs.size
  · subst hbT
    rw [Heap.get?_push_size s.heap rfl] at q'
    exact q' ▸ hT
  · rw [Heap.get?_push_ne s.heap c _ hbT] at q'
    exact k c o hc q'
theorem two_ok {a b:V}:[a,b].length<=sizeLine:=by rw [sizeLine_eq]; exact Nat.le_of_ble_eq_true rfl
noncomputable def Itz (K:FG) (a b:Addr):It:=
  ⟨fun i H=>∃ xs ys x y,SqL K H a xs/\SqL K H b ys/\xs[i]?=some x/\ys[i]?=some y,
   fun i H x H'=>∃ T y z,H T=none/\x=.ref T/\H'=upd H T (.tup [y,z])/\(∀ xs,SqL K H a xs->xs[i]?=some y)/\∀ ys,SqL K H b ys->ys[i]?=some z,
   fun i H=>∃ xs ys,SqL K H a xs/\SqL K H b ys/\(xs.length<=i\/ys.length<=i)⟩
structure ZipA (z TI TO i1 i2:Addr):Prop where
  TIz:TI ≠ z
  TOz:TO ≠ z
  i1z:i1 ≠ z
  i2z:i2 ≠ z
  TITO:TI ≠ TO
  TIi1:TI ≠ i1
  TIi2:TI ≠ i2
  TOi1:TO ≠ i1
  TOi2:TO ≠ i2
  i12:i1 ≠ i2
theorem ne_cls {h:Heap} {a b:Addr} {o o':Obj} (e:h.get? a=some o) (e':h.get? b=some o') (n:o.cls ≠ o'.cls):a ≠ b:=fun z=>by
  subst z
  rw [e] at e'
  cases e'
  exact n rfl
theorem zipApart {h:Heap} {z TI TO i1 i2 a b:Addr} {u v:Value} {n m:Nat} {xs ys:Array Value} (D:ZipA z TI TO i1 i2) (hz:IsZip h z TI TO .none) (hTO:IsPair h TO u v) (h1:h.IsListIter i1 a n) (h2:h.IsListIter i2 b m) (ha:h.IsList a xs) (hb:h.IsList b ys):ZipApart z TI TO i1 i2 a b:=by
  obtain ⟨o1,q1,c1,_⟩:=h1
  obtain ⟨o2,q2,c2,_⟩:=h2
  obtain ⟨oa,qa,ca,_⟩:=ha
  obtain ⟨ob,qb,cb,_⟩:=hb
  exact ⟨D.TIz,D.TOz,D.i1z,D.i2z,D.TITO,D.TIi1,D.TIi2,D.TOi1,D.TOi2,D.i12,ne_cls qa hz (by rw [ca]; simp),ne_cls qa hTO (by rw [ca]; simp),ne_cls qa q1 (by rw [ca,c1]; simp),ne_cls qa q2 (by rw [ca,c2]; simp),ne_cls qb hz (by rw [cb]; simp),ne_cls qb hTO (by rw [cb]; simp),ne_cls qb q1 (by rw [cb,c1]; simp),ne_cls qb q2 (by rw [cb,c2]; simp)⟩
theorem turn_zip {K:FG} {elts:List Expr} {x1} {pos:Pos} (a b z TI TO i1 i2:Addr) (D:ZipA z TI TO i1 i2):Turn P w K (.Tuple elts x1 pos) (Itz K a b) [z,TI,TO,i1,i2] z
    (fun i h=>IsZip h z TI TO .none/\IsPair h TI (.ref i1) (.ref i2)/\(∃ u v,IsPair h TO u v)/\h.IsListIter i1 a i/\h.IsListIter i2 b i) where
  mem:=by simp
  obj:=fun i h st c hc=>by
    obtain ⟨hz,hTI,⟨u,v,hTO⟩,h1,h2⟩:=st
    simp only [List.mem_cons,List.not_mem_nil,or_false] at hc
    rcases hc with rfl | rfl | rfl | rfl | rfl
    · exact ⟨_,hz,fun v z=>by
        have z':Data.fields _=Data.cell v:=z
        cases z'⟩
    · exact ⟨_,hTI,fun v z=>by
        have z':Data.seq _ _=Data.cell v:=z
        cases z'⟩
    · exact ⟨_,hTO,fun v z=>by
        have z':Data.seq _ _=Data.cell v:=z
        cases z'⟩
    · obtain ⟨o,ho,c,d⟩:=h1
      exact ⟨o,ho,fun v z=>by rw [d] at z; cases z⟩
    · obtain ⟨o,ho,c,d⟩:=h2
      exact ⟨o,ho,fun v z=>by rw [d] at z; cases z⟩
  keep:=fun i h h' st k=>by
    obtain ⟨hz,hTI,⟨u,v,hTO⟩,h1,h2⟩:=st
    exact ⟨k z (by simp) _ hz,k TI (by simp) _ hTI,⟨u,v,k TO (by simp) _ hTO⟩,h1.at fun o q=>k i1 (by simp) o q,h2.at fun o q=>k i2 (by simp) o q⟩
  item:=by
    intro X hP hw hK hc i pins s σ H E I hf st hg
    subst hP hw hK
    refine cps1 fun G kG=>?_
    obtain ⟨hz,hTI,⟨u0,v0,hTO⟩,h1,h2⟩:=st
    obtain ⟨xs,ys,x,y,hq,hr,hx,hy⟩:=hg
    obtain ⟨its,rv,p,hzl⟩:=I.list hq
    obtain ⟨jts,rw',p',hzl'⟩:=I.list hr
    obtain ⟨u,hu,ru⟩:=rv.get hx
    obtain ⟨u',hu',ru'⟩:=rw'.get hy
    have DD:=zipApart D hz hTO h1 h2 p.isList p'.isList
    have zlt:∀ c ∈ [z,TI,TO,i1,i2],∃ o,s.heap.get? c=some o:=fun c hc=>by
      simp only [List.mem_cons,List.not_mem_nil,or_false] at hc
      rcases hc with rfl | rfl | rfl | rfl | rfl
      · exact ⟨_,hz⟩
      · exact ⟨_,hTI⟩
      · exact ⟨_,hTO⟩
      · obtain ⟨o,q,_⟩:=h1; exact ⟨o,q⟩
      · obtain ⟨o,q,_⟩:=h2; exact ⟨o,q⟩
    have hTn:H s.heap.objs.size=none:=I.hok.fresh (Nat.le_refl _)
    refine kG (wpAny_pyNext_zip_item DD hz hTI hTO h1 h2 p.isList p'.isList (x:=u) (y:=u') (by simpa using hu) (by simpa using hu') fun g1 a1 a2 a3 a4 a5 a6 a7=>⟨_,rfl,wpAny_letOwnedTupleGo_zip a1 fun g2 b1 b2=>?_⟩)
    have hb2:∀ c o,c ≠ z->g1.get? c=some o->g2.get? c=some o:=fun c o hc q=>(b2.2 c hc).trans q
    have big:s.heap.objs.size ≠ z:=Nat.ne_of_gt (Heap.lt_size hz)
    obtain ⟨I2,up⟩:=I.madeT (xs:=[x,y]) (us:=[u,u']) (g2:=g2) (t':=s.toks) (fp:=[z,TI,TO,i1,i2]) two_ok (.cons ru (.cons ru' .nil)) hf zlt (hb2 _ _ big a5) fun c o hc q=>by
      simp only [List.mem_cons,List.not_mem_nil,or_false,not_or] at hc
      exact hb2 c o hc.1 (a7 c o hc.1 hc.2.2.1 hc.2.2.2.1 hc.2.2.2.2 q)
    exact ⟨.ref s.heap.objs.size,_,I2,rfl,⟨s.heap.objs.size,x,y,hTn,rfl,rfl,fun ys hy=>by rw [I.list_inj hy hq]; exact hx,fun ys hy'=>by rw [I.list_inj hy' hr]; exact hy⟩,⟨b1,hb2 _ _ D.TIz (a7 _ _ D.TIz D.TITO D.TIi1 D.TIi2 hTI),⟨_,_,hb2 _ _ D.TOz a2⟩,a3.at fun o q=>hb2 _ o D.i1z q,a4.at fun o q=>hb2 _ o D.i2z q⟩,up⟩
  done:=by
    intro X hP hw hK hc i pins s σ H E I hf st hg
    subst hP hw hK
    refine cps1 fun G kG=>?_
    obtain ⟨hz,hTI,⟨u0,v0,hTO⟩,h1,h2⟩:=st
    obtain ⟨xs,ys,hq,hr,hx⟩:=hg
    obtain ⟨its,rv,p,hzl⟩:=I.list hq
    obtain ⟨jts,rw',p',hzl'⟩:=I.list hr
    have DD:=zipApart D hz hTO h1 h2 p.isList p'.isList
    have e1:=rv.length
    have e2:=rw'.length
    refine kG (wpAny_pyNext_zip_end (I.ok.hd hc) DD hz hTI hTO h1 h2 p.isList p'.isList ?_ fun g k=>⟨rfl,?_⟩)
    · rcases hx with hx | hx
      · exact .inl (Array.getElem?_eq_none (by simp; omega))
      · exact .inr (Array.getElem?_eq_none (by simp; omega))
    · refine I.turnedL (h':=g) (t':=s.toks) (fp:=[z,TI,TO,i1,i2]) (fun c o hc q=>?_) hf
      simp only [List.mem_cons,List.not_mem_nil,or_false,not_or] at hc
      exact k c o hc.1 hc.2.2.1 hc.2.2.2.1 hc.2.2.2.2 q
  self:=fun _ _ _ _ _ st h=>wpAny_pyIter_zip st.1 h
section
variable {X:Cx}
noncomputable def iZip (K:FG) (ta:TA):TI:=fun σ H R=>ta σ H fun vs H1=>∃ a b,vs=[.ref a,.ref b]/\(∃ xs,SqL K H1 a xs)/\(∃ ys,SqL K H1 b ys)/\R (Itz K a b) H1
theorem ne_add {n a b:Nat} (h:a ≠ b):n + a ≠ n + b:=fun e=>h (Nat.add_left_cancel e)
theorem pie_zip {σ:St} {H:Hp} {s1:Shared} {h':Heap} {R:It->Hp->Prop} {elts:List Expr} {x1} {tpos:Pos} {l1 l2 z TI TO i1 i2:Addr} (I1:Inv X pins σ H s1) (b7:∀ c o,s1.heap.get? c=some o->h'.get? c=some o) (hl:∀ c ∈ [z,TI,TO,i1,i2],s1.heap.objs.size<=c) (D:ZipA z TI TO i1 i2)
    (st:IsZip h' z TI TO .none/\IsPair h' TI (.ref i1) (.ref i2)/\(∃ u v,IsPair h' TO u v)/\h'.IsListIter i1 l1 0/\h'.IsListIter i2 l2 0) (q:R (Itz X.K l1 l2) H):PIE X pins σ (.Tuple elts x1 tpos) R (.ref z) { s1 with heap:=h' }:=
  ⟨z,[z,TI,TO,i1,i2],_,_,H,rfl,I1.kept (t':=s1.toks) b7,turn_zip l1 l2 z TI TO i1 i2 D,st,fun c hc=>I1.fpOk (hl c hc) (I1.hok.fresh (hl c hc)),q⟩
theorem pi_zip {a b:Expr} {ta:TA} {p pos:Pos} {elts:List Expr} {x1} {tpos:Pos} (hg:Gl X "zip") (hm:X.mg "zip" = none) (ha:PA X [a,b] ta) (hs:starEach [a,b] X.env=(false,eval a X.env)::starEach [b] X.env:=by rfl) (hs2:(backTo pos (starEach [b] X.env)).any (·.1)=false:=by rfl):PI X (.Tuple elts x1 tpos) (.Call (.Name "zip" p) [a,b] [] pos) (iZip X.K ta):=by
  intro pins s σ H R I h
  refine Call_ (ld_blt (u:=.type "zip") I hg hm (by kernel_rfl) (PyProof.Rows.callWith_type1 (thn (ha pos pins s σ H _ I h) fun us s1 ⟨vs,H1,I1,r1,q1⟩=>?_) hs hs2))
  refine cps1 fun G kG=>?_
  obtain ⟨l1,l2,e,⟨xs,hq⟩,⟨ys,hr⟩,q⟩:=q1
  subst e
  cases r1 with
  | cons r rr=>
    cases rr with
    | cons r' rr=>
      cases rr
      cases r
      cases r'
      obtain ⟨its,rv,pl,hz⟩:=I1.list hq
      obtain ⟨jts,rv',pl',hz'⟩:=I1.list hr
      refine kG (call_zip_2 pl.isList pl'.isList fun h' b1 b2 b3 b4 b5 b6 b7=>wpAny_pyIter_zip b1 ?_)
      refine pie_zip I1 b7 (fun c hc=>?_) ⟨ne_add (a:=2) (b:=4) (by decide),ne_add (a:=3) (b:=4) (by decide),ne_add (a:=0) (b:=4) (by decide),ne_add (a:=1) (b:=4) (by decide),ne_add (a:=2) (b:=3) (by decide),ne_add (a:=2) (b:=0) (by decide),ne_add (a:=2) (b:=1) (by decide),ne_add (a:=3) (b:=0) (by decide),ne_add (a:=3) (b:=1) (by decide),ne_add (a:=0) (b:=1) (by decide)⟩ ⟨b1,b2,⟨_,_,b3⟩,b4,b5⟩ q
      simp only [List.mem_cons,List.not_mem_nil,or_false] at hc
      rcases hc with rfl | rfl | rfl | rfl | rfl
      all_goals (first | exact Nat.le_refl _ | exact Nat.le_add_right _ _)
end
section
variable {prog:Program}
end
section
variable {prog:Program} {w:World} {A:Around} {R:Result->Shared->Prop} {I:Addr} {fp wr:List Addr} {G:Array GenState->Array GenState->Prop} {n:Nat} {P:Nat->Value->Prop} {St:Nat->Shared->Prop}
end
section
variable {prog:Program}
end
section
variable {prog:Program}
end
section
variable {prog:Program}
theorem stop_new {α:Type} {Q':α->Shared->Prop} (hh:A.handled=none) (h:∀ h' e,(∀ b o,s.heap.get? b=some o->h'.get? b=some o)->(∃ o,h'.get? e=some o/\o.cls=.type "StopIteration")->E (.ref e) { s with heap:=h' }):
    wpAny (model prog w) A (newExc (.type "StopIteration") [] >>= fun e=>(raiseNew e:Sem α)) Q' E s:=by
  refine wpAny_bind ?_
  simp only [newExc,newTuple]
  refine wpAny_bind (wpAny_newObj_type (wpAny_bind (m:=firstArgMember _ _) (wpAny_of_eq (a:=Value.none) (by first | rfl | (simp only [firstArgMember]; rfl)) (wpAny_newObj_type ?_ (by size_fits)))) (by size_fits))
  simp only [raiseNew]
  refine wpAny_bind (wpAny_handled ?_)
  rw [hh]
  exact wpAny_bind (wpAny_pure (wpAny_throw (h _ _ (fun b o q=>Heap.get?_push_of_some _ (Heap.get?_push_of_some _ q)) ⟨_,Heap.get?_push_size _ rfl,rfl⟩)))
end
section
variable {prog:Program}
end
section
variable {X:Cx} {pins:List (Addr × Obj)} {σ:St} {H:Hp} {s:Shared}
end
section
variable {X:Cx}
end
section
variable {prog:Program}
theorem items_view {d:Addr} {Q:Value->Shared->Prop} (hd:(d == sysModules)=false) (hT:s.TypeIs (.ref d) "dict")
    (h:Q (.ref s.heap.objs.size) { s with heap:=s.heap.push { cls:=.type "dict_items",data:=.fields #[.ref d] } }):wpAny (model prog w) A (Builtin.«dict.items» ⟨[.ref d],[]⟩) (fun fin s'=>∃ v,fin=.done (.ret v)/\Q v s') E s:=by
  unfold Builtin.«dict.items»
  refine wpAny_bind ?_
  unfold Builtin.Dict.noArgs
  refine wpAny_bind (wpAny_notOrdered_dict hT (show wpAny _ _ (pure d) _ _ s from wpAny_pure (show wpAny _ _ (Builtin.Dict.showsAll d >>= _) _ _ s from ?_)))
  unfold Builtin.Dict.showsAll
  rw [if_neg (by rw [hd]; simp)]
  exact wpAny_bind (wpAny_pure (wpAny_bind (wpAny_newObj_type (wpAny_pure ⟨_,rfl,h⟩))))
theorem items_iter {v d:Addr} {od:Obj} {es:Array DictEntry} {ep:Nat} {Q:Value->Shared->Prop} (hv:s.heap.IsItemsView v d) (ho:s.heap.get? d=some od) (hd:od.data=.dict es ep)
    (h:Q (.ref s.heap.objs.size) { s with heap:=s.heap.push { cls:=.type "dict_itemiterator",data:=.fields #[.none,.bool false,.ref d,.int 0 0,.int es.size 0,.int ep 0,.none,.none] } }):wpAny (model prog w) A (pyIter (.ref v)) Q E s:=by
  obtain ⟨ov,q1,q2,q3⟩:=id hv
  refine wpAny_pyIter_slot hv.typeIs F.slot_dict_items_iter (wpAny_call_entry F.slot_dict_items_iter hv.typeIs F.entry_dict_items_iter ?_ (F.args_dict_items_iter_1 _))
  unfold Builtin.«dict_items.__iter__»
  refine wpAny_bind (wpAny_pure (wpAny_bind ?_))
  unfold Builtin.Dict_items.dictOf
  refine wpAny_bind (wpAny_field q1 q3 (x:=.ref d) rfl (wpAny_pure (wpAny_bind ?_)))
  unfold Builtin.Dict_items.newIterator
  refine wpAny_bind (wpAny_dictEntries ho hd (wpAny_bind (wpAny_dictEpoch ho hd ?_)))
  simp only [show Builtin.Dict_items.ownsTuple "dict_itemiterator" = true from by decide,if_true]
  refine wpAny_newObj_type (wpAny_pure ⟨_,rfl, "dict_itemiterator",_,⟨_,Heap.get?_push_size _ rfl,rfl⟩,F.slot_dict_itemiterator_next.lookup,?_⟩) (by simp only [sizeOk,Builtin.Dict_items.ownedTupleFields,List.size_toArray,List.length_append,List.length_cons,List.length_nil,sizeLine_eq]; omega)
  simpa [rawInt,Builtin.Dict_items.ownedTupleFields] using h
theorem items_next {it d:Addr} {od:Obj} {es:Array DictEntry} {i ep:Nat} {ok ov:Value} {Q:Option Value->Shared->Prop} (hit:IsItemIter s.heap it d i es.size ep ok ov) (ho:s.heap.get? d=some od) (hd:od.data=.dict es ep) (hlt:i < es.size)
    (hQ:∀ h',IsItemIterOut h' it d (i + 1) es.size ep es[i].key es[i].val s.heap.objs.size->h'.get? s.heap.objs.size=some { cls:=.type "tuple",data:=.seq #[es[i].key,es[i].val] }->h'.objs.size=s.heap.objs.size + 1->(∀ b o,b ≠ it->s.heap.get? b=some o->h'.get? b=some o)->Q (some (.ref s.heap.objs.size)) { s with heap:=h' }):
    wpAny (model prog w) A (pyNext (.ref it)) Q E s:=by
  have hT:s.TypeIs (.ref it) "dict_itemiterator" := ⟨_,hit,rfl⟩
  have il:it < s.heap.objs.size:=Heap.lt_size hit
  unfold pyNext
  refine wpAny_bind (wpAny_attempt (wpAny_callSpecial?_slot (name:=Str.ofString "__next__") hT F.slot_dict_itemiterator_next (wpAny_call_entry F.slot_dict_itemiterator_next hT F.entry_dict_itemiterator_next ?_ (F.args_dict_itemiterator_next_1 _))))
  refine wpAny_bind (wpAny_pure (wpAny_bind (wpAny_bind ?_)))
  first | refine wpAny_bind (wpAny_typeNameOfWhole_itemiter hT (wpAny_pure (wpAny_bind (wpAny_fieldsOf hit rfl ?_)))) | refine wpAny_bind (wpAny_typeNameOf_itemiter hT (wpAny_pure (wpAny_bind (wpAny_fieldsOf hit rfl ?_))))
  simp only [show Builtin.Dict_items.ownsTuple "dict_itemiterator" = true from by decide,if_true]
  refine (show wpAny _ _ (if (Value.ref d == Value.none)=true then _ else _) _ _ _ from ?_)
  rw [if_neg (show ¬ ((Value.ref d == Value.none)=true) from fun q=>nomatch q)]
  refine wpAny_bind (wpAny_pure (wpAny_bind (wpAny_dictEntries ho hd ?_)))
  rw [if_neg (by simp)]
  refine wpAny_bind (wpAny_pure (wpAny_bind (wpAny_dictEpoch ho hd ?_)))
  rw [if_neg (by simp)]
  refine wpAny_pure ?_
  simp only [show ¬ ((i:Int) < 0) from by omega,if_false,Int.toNat_natCast,Array.getElem?_eq_getElem hlt]
  refine wpAny_bind ?_
  first | refine wpAny_bind (wpAny_typeNameOfWhole_itemiter hT (wpAny_pure (wpAny_bind (wpAny_isOneOf_itemiter hT ?_)))) | refine wpAny_bind (wpAny_typeNameOf_itemiter hT (wpAny_pure (wpAny_bind (wpAny_isOneOf_itemiter hT ?_))))
  refine (show wpAny _ _ (setField (.ref it) 3 (rawInt ((i:Int) + 1)) >>= _) _ _ s from wpAny_bind (wpAny_setField_rec hit (by simp) fun g1 e1 b1=>?_))
  have e1':IsItemIter g1 it d (i + 1) es.size ep ok ov:=e1
  have T1:Shared.TypeIs { s with heap:=g1 } (.ref it) "dict_itemiterator" := ⟨_,e1',rfl⟩
  refine wpAny_bind (wpAny_holding (wpAny_bind (wpAny_isOneOf_itemiter T1 (wpAny_bind (wpAny_isOneOf_itemiter T1 ?_)))))
  refine (show wpAny _ _ (Builtin.Dict_items.pairFromOwner (.ref it) 6 es[i].key es[i].val) _ _ { s with heap:=g1 } from ?_)
  unfold Builtin.Dict_items.pairFromOwner
  refine wpAny_bind (wpAny_newTuple ?_)
  have z1:g1.objs.size=s.heap.objs.size:=b1.1
  have e2:IsItemIter (g1.push { cls:=.type "tuple",data:=.seq #[es[i].key,es[i].val] }) it d (i + 1) es.size ep ok ov:=Heap.get?_push_of_some _ e1'
  have t2:(g1.push { cls:=.type "tuple",data:=.seq #[es[i].key,es[i].val] }).get? s.heap.objs.size=some { cls:=.type "tuple",data:=.seq #[es[i].key,es[i].val] }:=by rw [← z1]; exact Heap.get?_push_size _ rfl
  have z2:(g1.push { cls:=.type "tuple",data:=.seq #[es[i].key,es[i].val] }).objs.size=s.heap.objs.size + 1:=by rw [Heap.size_push,z1]
  have k2:∀ b o,b ≠ it->s.heap.get? b=some o->(g1.push { cls:=.type "tuple",data:=.seq #[es[i].key,es[i].val] }).get? b=some o:=fun b o hb q=>Heap.get?_push_of_some _ (b1.extBut b o hb q)
  refine (show wpAny _ _ (Builtin.Dict_items.ownedTupleIsFree (.ref it) >>= _) _ _ { s with heap:=g1.push { cls:=.type "tuple",data:=.seq #[es[i].key,es[i].val] } } from ?_)
  generalize g1.push { cls:=.type "tuple",data:=.seq #[es[i].key,es[i].val] }=g2 at e2 t2 z2 k2 ⊢
  have n0:s.heap.objs.size ≠ it:=Nat.ne_of_gt il
  refine wpAny_bind ?_
  unfold Builtin.Dict_items.ownedTupleIsFree
  refine wpAny_bind (wpAny_field e2 rfl (x:=.none) rfl (wpAny_pure ?_))
  simp only [if_true]
  refine wpAny_bind (wpAny_field e2 rfl (x:=ok) rfl (wpAny_bind (wpAny_field e2 rfl (x:=ov) rfl ?_)))
  refine wpAny_bind (wpAny_setField_rec (s:={ s with heap:=g2 }) e2 (by simp) fun g3 e3 b3=>wpAny_bind (wpAny_setField_rec (s:={ s with heap:=g3 }) e3 (by simp) fun g4 e4 b4=>wpAny_bind (wpAny_setField_rec (s:={ s with heap:=g4 }) e4 (by simp) fun g5 e5 b5=>wpAny_bind (wpAny_setField_rec (s:={ s with heap:=g5 }) e5 (by simp) fun g6 e6 b6=>?_))))
  rw [z1] at e6 ⊢
  refine wpAny_bind (wpAny_letGo (wpAny_pure (wpAny_pure ⟨_,rfl,wpAny_pure (hQ g6 e6 ?_ ?_ ?_)⟩)))
  · exact b6.extBut _ _ n0 (b5.extBut _ _ n0 (b4.extBut _ _ n0 (b3.extBut _ _ n0 t2)))
  · show g6.objs.size=_
    rw [b6.1,b5.1,b4.1,b3.1]
    exact z2
  · exact fun b o hb q=>b6.extBut b o hb (b5.extBut b o hb (b4.extBut b o hb (b3.extBut b o hb (k2 b o hb q))))
end
section
variable {prog:Program}
theorem items_end {it d:Addr} {od:Obj} {es:Array DictEntry} {i ep:Nat} {ok ov:Value} {Q:Option Value->Shared->Prop} (hh:A.handled=none) (hit:IsItemIter s.heap it d i es.size ep ok ov) (ho:s.heap.get? d=some od) (hd:od.data=.dict es ep) (hge:es.size<=i)
    (hQ:∀ h',Heap.ExtBut it s.heap h'->Q none { s with heap:=h' }):wpAny (model prog w) A (pyNext (.ref it)) Q E s:=by
  have hT:s.TypeIs (.ref it) "dict_itemiterator" := ⟨_,hit,rfl⟩
  unfold pyNext
  refine wpAny_bind (wpAny_attempt (wpAny_callSpecial?_slot (name:=Str.ofString "__next__") hT F.slot_dict_itemiterator_next (wpAny_call_entry F.slot_dict_itemiterator_next hT F.entry_dict_itemiterator_next ?_ (F.args_dict_itemiterator_next_1 _))))
  refine wpAny_bind (wpAny_pure (wpAny_bind (wpAny_bind ?_)))
  first | refine wpAny_bind (wpAny_typeNameOfWhole_itemiter hT (wpAny_pure (wpAny_bind (wpAny_fieldsOf hit rfl ?_)))) | refine wpAny_bind (wpAny_typeNameOf_itemiter hT (wpAny_pure (wpAny_bind (wpAny_fieldsOf hit rfl ?_))))
  simp only [show Builtin.Dict_items.ownsTuple "dict_itemiterator" = true from by decide,if_true]
  refine (show wpAny _ _ (if (Value.ref d == Value.none)=true then _ else _) _ _ _ from ?_)
  rw [if_neg (show ¬ ((Value.ref d == Value.none)=true) from fun q=>nomatch q)]
  refine wpAny_bind (wpAny_pure (wpAny_bind (wpAny_dictEntries ho hd ?_)))
  rw [if_neg (by simp)]
  refine wpAny_bind (wpAny_pure (wpAny_bind (wpAny_dictEpoch ho hd ?_)))
  rw [if_neg (by simp)]
  refine wpAny_pure ?_
  simp only [show ¬ ((i:Int) < 0) from by omega,if_false,Int.toNat_natCast,Array.getElem?_eq_none hge]
  refine wpAny_bind ?_
  first | refine wpAny_bind (wpAny_typeNameOfWhole_itemiter hT (wpAny_pure ?_)) | refine wpAny_bind (wpAny_typeNameOf_itemiter hT (wpAny_pure ?_))
  refine (show wpAny _ _ (setField (.ref it) 2 .none >>= fun _=>newExc (.type "StopIteration") [] >>= fun e=>raiseNew e) _ _ s from wpAny_bind (wpAny_setField_rec hit (by simp) fun g1 q1 b1=>stop_new (s:={ s with heap:=g1 }) hh fun g2 e k ⟨o,q,hc⟩=>?_))
  refine wpAny_bind (wpAny_isInstance (T := "StopIteration") (b:=true) (show Shared.TypeIs { s with heap:=g2 } (.ref e) "StopIteration" from ⟨o,q,hc⟩) isSubtype_stop (?_:wpAny _ _ _ _ _ _))
  exact wpAny_pure (hQ _ fun b o hb z=>k b o (b1.extBut b o hb z))
end
theorem paired_at {α β:Type} {F:α->β->Prop}:∀ {l:List α} {m:List β},Paired F l m->∀ (i:Nat) (h1:i < l.length) (h2:i < m.length),F l[i] m[i]
  | _,_,.nil,i,h1,h2=>absurd h1 (Nat.not_lt_zero _)
  | _,_,.cons a t,0,h1,h2=>a
  | _,_,.cons a t,i + 1,h1,h2=>paired_at t i (by simpa using h1) (by simpa using h2)
theorem ent_iit:entryFor table "dict_itemiterator.__iter__" = some Builtin.«dict_keyiterator.__iter__»:=entryFor_alias (id' := "dict_keyiterator.__iter__") (by kernel_rfl) (by first | rfl | decide +kernel | (unfold String.splitOn; simp +decide [String.splitOnAux])) (by decide +kernel) (by kernel_rfl)
theorem iter_items_self {prog:Program} {it d:Addr} {i n ep:Nat} {u v:Value} {Q:Value->Shared->Prop} (q:IsItemIter s.heap it d i n ep u v) (h:Q (.ref it) s):wpAny (model prog w) A (pyIter (.ref it)) Q E s:=by
  have hT:s.TypeIs (.ref it) "dict_itemiterator" := ⟨_,q,rfl⟩
  refine wpAny_pyIter_slot hT F.slot_dict_itemiterator_iter (wpAny_call_entry F.slot_dict_itemiterator_iter hT ent_iit ?_ (F.args_dict_itemiterator_iter_1 _))
  exact show wpAny _ _ (ret (.ref it)) _ _ s from wpAny_pure ⟨_,rfl, "dict_itemiterator",_,hT,F.slot_dict_itemiterator_next.lookup,h⟩
noncomputable def Iti (a:Addr) (o:Obj) (kvs:List (List Key × V)):It:=
  ⟨fun i H=>H a=some (.frz o (.dT kvs))/\i < kvs.length,fun i H x H'=>∃ T kb kv,H T=none/\x=.ref T/\kvs[i]?=some kv/\H kb=some (.tup (kv.1.map kV))/\H'=upd H T (.tup [.ref kb,kv.2]),fun i H=>H a=some (.frz o (.dT kvs))/\kvs.length<=i⟩
theorem frz_dt {X:Cx} {σ:St} {H:Hp} {a:Addr} {o:Obj} {kvs:List (List Key × V)} (I:Inv X pins σ H s) (e:H a=some (.frz o (.dT kvs))):
    (a == sysModules)=false/\s.heap.get? a=some o/\o.cls=.type "dict" /\ ∃ (es:Array DictEntry) (ep:Nat),o.data=.dict es ep/\es.size=kvs.length/\∀ i (h:i < es.size),∃ kb kv,kvs[i]?=some kv/\es[i].key=.ref kb/\H kb=some (.tup (kv.1.map kV))/\RelV kv.2 es[i].val:=by
  obtain ⟨h1,z,hd,xs,pr,ob,es,ep,h2,h3,h4,h5,h6⟩:=I.hok a _ e
  rw [h1] at h2
  cases h2
  have hl:es.size=xs.length:=by
    have:=congrArg List.length h5
    simpa using this
  refine ⟨hd,h1,h3.1,es,ep,h4,by rw [hl]; exact pr.length.symm,fun i hi=>?_⟩
  have hx:i < xs.length:=by omega
  have e1:es[i]=entryOfKey (tupleKind (mixKind X.prog X.w)) xs[i]:=by
    have q:es.toList[i]?=(xs.map (entryOfKey (tupleKind (mixKind X.prog X.w))))[i]?:=by rw [h5]
    rw [Array.getElem?_toList,Array.getElem?_eq_getElem hi,List.getElem?_map,List.getElem?_eq_getElem hx] at q
    exact Option.some.inj q
  have hk:i < kvs.length:=by have:=pr.length; omega
  obtain ⟨q1,q2,q3⟩:=paired_at pr i hk hx
  exact ⟨xs[i].2.1,kvs[i],List.getElem?_eq_getElem hk,by rw [e1]; rfl,q2,by rw [e1]; exact q3⟩
theorem turn_items {K:FG} {elts:List Expr} {x1} {pos:Pos} (a it:Addr) (o:Obj) (kvs:List (List Key × V)) (ep:Nat) (he:∃ es,o.data=.dict es ep):Turn P w K (.Tuple elts x1 pos) (Iti a o kvs) [it] it (fun i h=>∃ u v,IsItemIter h it a i kvs.length ep u v) where
  mem:=by simp
  obj:=fun i h st b hb=>by
    have e:b=it:=by simpa using hb
    subst e
    obtain ⟨u,v,q⟩:=st
    exact ⟨_,q,fun v z=>by
      have z':Data.fields _=Data.cell v:=z
      cases z'⟩
  keep:=fun i h h' st k=>by
    obtain ⟨u,v,q⟩:=st
    exact ⟨u,v,k it (by simp) _ q⟩
  item:=by
    intro X hP hw hK hc i pins s σ H E I hf st hg
    subst hP hw hK
    refine cps1 fun G kG=>?_
    obtain ⟨hg,hi⟩:=hg
    obtain ⟨u,v,q⟩:=st
    obtain ⟨hd,ho,hcl,es,ep',hdat,hsz,ent⟩:=frz_dt I hg
    obtain ⟨es0,he⟩:=he
    rw [hdat] at he
    cases he
    have hie:i < es.size:=by omega
    obtain ⟨kb,kv,k1,k2,k3,k4⟩:=ent i hie
    have il:it < s.heap.objs.size:=Heap.lt_size q
    have hTn:H s.heap.objs.size=none:=I.hok.fresh (Nat.le_refl _)
    have n0:s.heap.objs.size ≠ it:=Nat.ne_of_gt il
    rw [← hsz] at q
    refine kG (items_next q ho hdat hie fun g1 a1 a2 a3 a4=>⟨_,rfl,wpAny_letOwnedTupleGo_items a1 fun g2 b1 b2=>?_⟩)
    obtain ⟨I2,up⟩:=I.madeT (xs:=[.ref kb,kv.2]) (us:=[es[i].key,es[i].val]) (g2:=g2) (t':=s.toks) (fp:=[it]) two_ok (.cons (by rw [k2]; exact rfl) (.cons k4 .nil)) hf (fun c hc=>by rw [List.mem_singleton.mp hc]; exact ⟨_,q⟩) ((b2.2 _ n0).trans a2) fun c o hc z=>by
      have hc':c ≠ it:=fun e=>hc (List.mem_singleton.mpr e)
      exact (b2.2 c hc').trans (a4 c o hc' z)
    exact ⟨.ref s.heap.objs.size,_,I2,rfl,⟨s.heap.objs.size,kb,kv,hTn,rfl,k1,k3,rfl⟩,⟨_,_,by rw [← hsz]; exact b1⟩,up⟩
  done:=by
    intro X hP hw hK hc i pins s σ H E I hf st hg
    subst hP hw hK
    refine cps1 fun G kG=>?_
    obtain ⟨hg,hi⟩:=hg
    obtain ⟨u,v,q⟩:=st
    obtain ⟨hd,ho,hcl,es,ep',hdat,hsz,ent⟩:=frz_dt I hg
    obtain ⟨es0,he⟩:=he
    rw [hdat] at he
    cases he
    rw [← hsz] at q
    refine kG (items_end (I.ok.hd hc) q ho hdat (by omega) fun g k=>⟨rfl,?_⟩)
    exact I.turnedL (h':=g) (t':=s.toks) (fp:=[it]) (fun c o hc z=>k c o (fun e=>hc (by simp [e])) z) hf
  self:=fun _ _ _ _ _ st h=>by
    obtain ⟨u,v,q⟩:=st
    exact iter_items_self q h
noncomputable def viewφ (v a:Addr):Heap->Prop:=fun h=>h.IsItemsView v a
section
variable {X:Cx}
noncomputable def iItems (tl:TE):TI:=fun σ H R=>tl σ H fun x H1=>∃ v a o kvs,x=.ref v/\H1 v=some (.ext (viewφ v a))/\H1 a=some (.frz o (.dT kvs))/\R (Iti a o kvs) H1
theorem pi_items {l:Expr} {tl:TE} {elts:List Expr} {x1} {tpos:Pos} (hl:PE X l tl):PI X (.Tuple elts x1 tpos) l (iItems tl):=by
  intro pins s σ H R I h
  refine thn (hl pins s σ H _ I h) fun v s1 ⟨x,H1,I1,r1,q1⟩=>?_
  obtain ⟨v,a,o,kvs,rfl,hv,hq,q⟩:=q1
  cases r1
  obtain ⟨vw,_⟩:=I1.hok v _ hv
  obtain ⟨hd,ho,hcl,es,ep,hdat,hsz,ent⟩:=frz_dt I1 hq
  refine items_iter vw ho hdat ?_
  refine ⟨s1.heap.objs.size,[s1.heap.objs.size],_,_,H1,rfl,I1.kept (t':=s1.toks) fun b o e=>Heap.get?_push_of_some _ e,turn_items a _ o kvs ep ⟨es,hdat⟩,⟨.none,.none,?_⟩,fun b hb=>?_,q⟩
  · rw [← hsz]
    exact Heap.get?_push_size _ rfl
  · have e:b=s1.heap.objs.size:=by simpa using hb
    subst e
    exact I1.fpOk (Nat.le_refl _) (I1.hok.fresh (Nat.le_refl _))
end
section
variable {X:Cx}
noncomputable def rItems:V->List V->Hp->VK->Prop:=fun x vs H Q=>∃ a o kvs,x=.ref a/\vs=[]/\H a=some (.frz o (.dT kvs))/\∀ l,H l=none->Q (.ref l) (upd H l (.ext (viewφ l a)))
theorem mt_items:MtR X "dict.items" rItems:=by
  intro pins s σ H x vs v us Q I rx rv h
  obtain ⟨a,o,kvs,rfl,rfl,hH,q⟩:=h
  cases rx
  have hus:=rv.zero
  subst hus
  obtain ⟨hd,ho,hcl,es,ep,hdat,hsz,ent⟩:=frz_dt I hH
  have hT:s.TypeIs (.ref a) "dict" := ⟨o,ho,hcl⟩
  refine wpAny_call_entry F.slot_dict_items hT F.entry_dict_items (items_view hd hT ?_) (F.args_dict_items_1 _)
  exact ⟨.ref s.heap.objs.size,_,I.laid (t':=s.toks) (fun b o q=>Heap.get?_push_of_some _ q) (Nat.le_refl _) (show ObjOk X.prog X.w _ _ _ (.ext (viewφ s.heap.objs.size a)) from ⟨⟨_,Heap.get?_push_size _ rfl,rfl,rfl⟩,⟨_,Heap.get?_push_size _ rfl⟩,fun h1 h2 ⟨o,q1,q2⟩ k=>⟨o,k _ q1,q2⟩⟩),rfl,q _ (I.hok.fresh (Nat.le_refl _))⟩
theorem paired_imp {α β:Type} {F G:α->β->Prop} (h:∀ a b,F a b->G a b):∀ {l:List α} {m:List β},Paired F l m->Paired G l m
  | _,_,.nil=>.nil
  | _,_,.cons a t=>.cons (h _ _ a) (paired_imp h t)
noncomputable def tFzT (t:TE):TE:=fun σ H Q=>t σ H fun v H1=>∃ a kvs,v=.ref a/\H1 a=some (.dT kvs)/\∀ o,Q v (upd H1 a (.frz o (.dT kvs)))
theorem Inv.fzT {σ:St} {H:Hp} {a:Addr} {kvs:List (List Key × V)} (I:Inv X pins σ H s) (e:H a=some (.dT kvs)):∃ o,Inv X pins σ (upd H a (.frz o (.dT kvs))) s:=by
  obtain ⟨z,hd,xs,pr,ob,es,ep,h1,h2,h3,h4,h5⟩:=I.hok a _ e
  refine ⟨ob,?_⟩
  refine d_write (h':=s.heap) (t':=s.toks) (ob:=.frz ob (.dT kvs)) I (by rw [e]; exact True.intro) (Heap.SameBut.refl ..) ⟨ob,h1⟩ ⟨h1,z,hd,xs,?_,ob,es,ep,h1,h2,h3,h4,h5⟩
  refine paired_imp (fun p q ⟨q1,q2,q3⟩=>⟨q1,?_,q3⟩) pr
  rw [upd_ne (fun n=>by rw [n,e] at q2; cases q2)]
  exact q2
theorem pe_fzT {e:Expr} {t:TE} (h:PE X e t):PE X e (tFzT t):=fun pins s σ H Q I q=>thn (h pins s σ H _ I q) fun u s1 ⟨v,H1,I1,rv,a,kvs,ev,ea,k⟩=>by
  obtain ⟨o,I2⟩:=I1.fzT ea
  exact ⟨v,_,I2,rv,k o⟩
end
section
variable {X:Cx}
theorem pe_items {o:Expr} {to:TE} {apos cpos:Pos} (ho:PE X o to)
    (hbase:attributeBase o "items" X.env (eval o X.env)=eval o X.env:=by rfl) (hline:(apos.endLine == cpos.line)=true:=by rfl):PE X (.Call (.Attribute o "items" apos) [] [] cpos) (fun σ H Q=>to σ H fun x H1=>rItems x [] H1 Q):=by
  intro pins s σ H Q I h
  refine wpAny_Call_method0_late hbase hline (thn (ho pins s σ H _ I h) fun v s1 ⟨x,H1,I1,r1,q1⟩=>?_)
  have q1':=q1
  obtain ⟨a,ob,kvs,rfl,_,hH,_⟩:=q1
  cases r1
  have hz:∃ o,s1.heap.get? a=some o/\o.ExactDict:=by
    obtain ⟨h1,z,hd,xs,pr,ob',es,ep,h2,h3,h4,h5,h6⟩:=I1.hok a _ hH
    exact ⟨_,h2,h3⟩
  obtain ⟨o2,e2,ex⟩:=hz
  exact ⟨"dict", "dict.items",PySem.F.plainAttrs_dict,PySem.F.slot_dict_items,PySem.F.type_dict_items,⟨o2,e2,ex.1⟩,fun b e=>(by cases e; exact ⟨o2,e2,ex.2.1⟩),Calls.callWith_builtin rfl (PySem.evalArgs_none (mt_items pins s1 σ H1 (.ref a) [] (.ref a) [] Q I1 rfl .nil q1'))⟩
end
end L2
namespace PL
open PySem PySem.Spec PyProof.Rows L2
inductive PV where
  | non
  | bl (b:Bool)
  | int (i:Int)
  | str (x:Str)
  | tup (ps:List PV)
  | lst (ps:List PV)
  | dk (ks:List Key) (ps:List PV)
  | dt (ks:List (List Key)) (ps:List PV)
  | obj (C:Str) (ks:List Str) (ps:List PV)
  | df (ks:List Key) (ps:List PV)
  | dtf (ks:List (List Key)) (ps:List PV)
  | ptr (n:Nat)
structure ZG where
  z:Hp
  g:List Addr
noncomputable def ZLe (Z Z':ZG):Prop:=Same Z.z Z'.z/\Z.g <+: Z'.g
theorem ZLe.refl (Z:ZG):ZLe Z Z:=⟨Same.refl _,List.prefix_refl _⟩
theorem ZLe.trans {Z Z1 Z2:ZG} (a:ZLe Z Z1) (b:ZLe Z1 Z2):ZLe Z Z2:=⟨a.1.trans b.1,a.2.trans b.2⟩
theorem pre_get {α:Type} {l r:List α} {n:Nat} {a:α} (h:l <+: r) (e:l[n]?=some a):r[n]?=some a:=by
  obtain ⟨t,rfl⟩:=h
  rw [List.getElem?_append_left (List.getElem?_eq_some_iff.mp e).1]; exact e
noncomputable def CN (K:FG) (C:Str) (c:Addr):Prop:=PySem.W.nsIn K mainGlobals C=some (some (.ref c))
mutual
noncomputable def Rep (K:FG) (Z:ZG):PV->V->Prop
  | .non,v=>v=.non
  | .bl b,v=>v=.bl b
  | .int i,v=>v=.int i
  | .str x,v=>v=.str x
  | .tup ps,v=>∃ a vs,v=.ref a/\SqT K Z.z a vs/\RepL K Z ps vs
  | .lst ps,v=>∃ a vs,v=.ref a/\SqL K Z.z a vs/\RepL K Z ps vs
  | .dk ks ps,v=>∃ a kvs,v=.ref a/\Z.z a=some (.dK kvs)/\kvs.map (·.1)=ks/\RepL K Z ps (kvs.map (·.2))
  | .dt ks ps,v=>∃ a kvs,v=.ref a/\Z.z a=some (.dT kvs)/\kvs.map (·.1)=ks/\RepL K Z ps (kvs.map (·.2))
  | .obj C ks ps,v=>∃ a c dx fs,v=.ref a/\CN K C c/\Z.z a=some (.ins c dx fs)/\fs.map (·.1)=ks/\RepL K Z ps (fs.map (·.2))
  | .df ks ps,v=>∃ a o kvs,v=.ref a/\Z.z a=some (.frz o (.dK kvs))/\kvs.map (·.1)=ks/\RepL K Z ps (kvs.map (·.2))
  | .dtf ks ps,v=>∃ a o kvs,v=.ref a/\Z.z a=some (.frz o (.dT kvs))/\kvs.map (·.1)=ks/\RepL K Z ps (kvs.map (·.2))
  | .ptr n,v=>∃ a,v=.ref a/\Z.g[n]?=some a
noncomputable def RepL (K:FG) (Z:ZG):List PV->List V->Prop
  | [],vs=>vs=[]
  | p::ps,vs=>∃ v r,vs=v::r/\Rep K Z p v/\RepL K Z ps r
end
theorem SqL.same {K:FG} {Z Z':Hp} {a:Addr} {vs:List V} (s:Same Z Z') (h:SqL K Z a vs):SqL K Z' a vs:=s.seq h
theorem SqT.same {K:FG} {Z Z':Hp} {a:Addr} {vs:List V} (s:Same Z Z') (h:SqT K Z a vs):SqT K Z' a vs:=by
  rcases h with (h | ⟨o,h⟩) | h
  · exact .inl (.inl (s _ _ h))
  · exact .inl (.inr ⟨o,s _ _ h⟩)
  · exact .inr h
mutual
theorem Rep.mono {K:FG} {Z Z':ZG} (s:ZLe Z Z'):∀ {p:PV} {v:V},Rep K Z p v->Rep K Z' p v
  | .non,v,h=>h
  | .bl _,v,h=>h
  | .int _,v,h=>h
  | .str _,v,h=>h
  | .tup ps,v,h=>by
    unfold Rep at h ⊢
    obtain ⟨a,vs,e,h1,h2⟩:=h
    exact ⟨a,vs,e,SqT.same s.1 h1,RepL.mono s h2⟩
  | .lst ps,v,h=>by
    unfold Rep at h ⊢
    obtain ⟨a,vs,e,h1,h2⟩:=h
    exact ⟨a,vs,e,SqL.same s.1 h1,RepL.mono s h2⟩
  | .dk ks ps,v,h=>by
    unfold Rep at h ⊢
    obtain ⟨a,kvs,e,h1,h2,h3⟩:=h
    exact ⟨a,kvs,e,s.1 _ _ h1,h2,RepL.mono s h3⟩
  | .dt ks ps,v,h=>by
    unfold Rep at h ⊢
    obtain ⟨a,kvs,e,h1,h2,h3⟩:=h
    exact ⟨a,kvs,e,s.1 _ _ h1,h2,RepL.mono s h3⟩
  | .obj C ks ps,v,h=>by
    unfold Rep at h ⊢
    obtain ⟨a,c,dx,fs,e,cn,h1,h2,h3⟩:=h
    exact ⟨a,c,dx,fs,e,cn,s.1 _ _ h1,h2,RepL.mono s h3⟩
  | .df ks ps,v,h=>by
    unfold Rep at h ⊢
    obtain ⟨a,o,kvs,e,h1,h2,h3⟩:=h
    exact ⟨a,o,kvs,e,s.1 _ _ h1,h2,RepL.mono s h3⟩
  | .dtf ks ps,v,h=>by
    unfold Rep at h ⊢
    obtain ⟨a,o,kvs,e,h1,h2,h3⟩:=h
    exact ⟨a,o,kvs,e,s.1 _ _ h1,h2,RepL.mono s h3⟩
  | .ptr n,v,h=>by
    unfold Rep at h ⊢
    obtain ⟨a,e,h1⟩:=h
    exact ⟨a,e,pre_get s.2 h1⟩
theorem RepL.mono {K:FG} {Z Z':ZG} (s:ZLe Z Z'):∀ {ps:List PV} {vs:List V},RepL K Z ps vs->RepL K Z' ps vs
  | [],vs,h=>by unfold RepL at h ⊢; exact h
  | p::ps,vs,h=>by
    unfold RepL at h ⊢
    obtain ⟨v,r,e,h1,h2⟩:=h
    exact ⟨v,r,e,Rep.mono s h1,RepL.mono s h2⟩
end
section
variable {K:FG} {Z:ZG}
theorem RepL.length:∀ {ps:List PV} {vs:List V},RepL K Z ps vs->vs.length=ps.length
  | [],vs,h=>by unfold RepL at h; subst h; rfl
  | p::ps,vs,h=>by
    unfold RepL at h
    obtain ⟨v,r,rfl,_,h2⟩:=h
    simp [RepL.length h2]
theorem RepL.nil:RepL K Z [] []:=by unfold RepL; rfl
theorem RepL.cons {p:PV} {ps:List PV} {v:V} {vs:List V} (h:Rep K Z p v) (t:RepL K Z ps vs):RepL K Z (p::ps) (v::vs):=by unfold RepL; exact ⟨v,vs,rfl,h,t⟩
theorem RepL.inv {p:PV} {ps:List PV} {vs:List V} (h:RepL K Z (p::ps) vs):∃ v r,vs=v::r/\Rep K Z p v/\RepL K Z ps r:=by unfold RepL at h; exact h
theorem RepL.inv0 {vs:List V} (h:RepL K Z [] vs):vs=[]:=by unfold RepL at h; exact h
theorem RepL.append:∀ {ps qs:List PV} {vs ws:List V},RepL K Z ps vs->RepL K Z qs ws->RepL K Z (ps++qs) (vs++ws)
  | [],qs,vs,ws,h,g=>by have:=h.inv0; subst this; exact g
  | p::ps,qs,vs,ws,h,g=>by
    obtain ⟨v,r,rfl,h1,h2⟩:=h.inv
    exact RepL.cons h1 (RepL.append h2 g)
theorem RepL.get:∀ {ps:List PV} {vs:List V} {i:Nat} {p:PV},RepL K Z ps vs->ps[i]?=some p->∃ v,vs[i]?=some v/\Rep K Z p v
  | [],vs,i,p,h,e=>by simp at e
  | q::ps,vs,0,p,h,e=>by
    obtain ⟨v,r,rfl,h1,h2⟩:=h.inv
    simp at e; subst e
    exact ⟨v,rfl,h1⟩
  | q::ps,vs,i + 1,p,h,e=>by
    obtain ⟨v,r,rfl,h1,h2⟩:=h.inv
    obtain ⟨u,h3,h4⟩:=RepL.get (i:=i) (p:=p) h2 (by simpa using e)
    exact ⟨u,by simpa using h3,h4⟩
theorem RepL.getV {ps:List PV} {vs:List V} {i:Nat} {v:V} (h:RepL K Z ps vs) (e:vs[i]?=some v):∃ p,ps[i]?=some p/\Rep K Z p v:=by
  have hi:i < ps.length:=by rw [← h.length]; exact (List.getElem?_eq_some_iff.mp e).1
  obtain ⟨u,h1,h2⟩:=h.get (i:=i) (p:=ps[i]) (List.getElem?_eq_getElem hi)
  rw [e] at h1; cases h1
  exact ⟨_,List.getElem?_eq_getElem hi,h2⟩
theorem RepL.set {q:PV} {u:V} (hq:Rep K Z q u):∀ {ps:List PV} {vs:List V} (i:Nat),RepL K Z ps vs->RepL K Z (ps.set i q) (vs.set i u)
  | [],vs,i,h=>by have:=h.inv0; subst this; exact h
  | p::ps,vs,0,h=>by
    obtain ⟨v,r,rfl,h1,h2⟩:=h.inv
    exact RepL.cons hq h2
  | p::ps,vs,i + 1,h=>by
    obtain ⟨v,r,rfl,h1,h2⟩:=h.inv
    exact RepL.cons h1 (RepL.set hq i h2)
theorem RepL.take:∀ {ps:List PV} {vs:List V} (n:Nat),RepL K Z ps vs->RepL K Z (ps.take n) (vs.take n)
  | [],vs,n,h=>by have:=h.inv0; subst this; simp; exact .nil
  | p::ps,vs,0,h=>by simp; exact .nil
  | p::ps,vs,n + 1,h=>by
    obtain ⟨v,r,rfl,h1,h2⟩:=h.inv
    exact RepL.cons h1 (RepL.take n h2)
theorem RepL.drop:∀ {ps:List PV} {vs:List V} (n:Nat),RepL K Z ps vs->RepL K Z (ps.drop n) (vs.drop n)
  | [],vs,n,h=>by have:=h.inv0; subst this; simp; exact .nil
  | p::ps,vs,0,h=>h
  | p::ps,vs,n + 1,h=>by
    obtain ⟨v,r,rfl,h1,h2⟩:=h.inv
    exact RepL.drop n h2
end
inductive Lc where
  | sh (p:PV)
  | own (p:PV)
noncomputable def Lc.pv:Lc->PV
  | .sh p=>p
  | .own p=>p
noncomputable abbrev Mu:=List (Option PV)
structure Ev where
  vs:List (Option Lc)
  mu:Mu
noncomputable abbrev Pd:=List (V × Lc)
noncomputable def RepO (K:FG) (Z:ZG) (H:Hp) (a:Addr):PV->Prop
  | .lst ps=>∃ vs,H a=some (.lst vs)/\RepL K Z ps vs
  | .dk ks ps=>∃ kvs,H a=some (.dK kvs)/\kvs.map (·.1)=ks/\RepL K Z ps (kvs.map (·.2))
  | .dt ks ps=>∃ kvs,H a=some (.dT kvs)/\kvs.map (·.1)=ks/\RepL K Z ps (kvs.map (·.2))
  | .obj C ks ps=>∃ c dx fs,CN K C c/\H a=some (.ins c dx fs)/\fs.map (·.1)=ks/\RepL K Z ps (fs.map (·.2))
  | _=>False
noncomputable def VR (K:FG) (H0:Hp) (Z:ZG) (H:Hp) (v:Option V):Option Lc->Prop
  | none=>True
  | some (.sh p)=>∃ x,v=some x/\Rep K Z p x
  | some (.own p)=>∃ a,v=some (.ref a)/\RepO K Z H a p/\Z.z a=none/\H0 a=none
noncomputable def oad:Option V × Option Lc->Option Addr
  | (some (.ref a),some (.own _))=>some a
  | _=>none
noncomputable abbrev Sl:=List (Option V × Option Lc)
noncomputable def Slots (K:FG) (H0:Hp) (Z:ZG) (H:Hp) (L:Sl):Prop:=(∀ e ∈ L,VR K H0 Z H e.1 e.2)/\(L.filterMap oad).Nodup
noncomputable def cel (g:List Addr) (mu:Mu):Sl:=(g.map fun a=>some (V.ref a)).zip (mu.map fun o=>o.map Lc.own)
noncomputable def usd (g:List Addr) (mu:Mu):List Addr:=(cel g mu).filterMap oad
noncomputable def sl (g:List Addr) (σ:L2.St) (ρ:Ev) (pd:Pd):Sl:=cel g ρ.mu++(σ.zip ρ.vs++pd.map fun e=>(some e.1,some e.2))
noncomputable def immut:HO->Prop
  | .tup _=>True
  | .frz _ _=>True
  | _=>False
structure ZOk (H0:Hp) (Z0 Z:ZG) (H:Hp):Prop where
  zh:Same Z.z H
  h0:Same H0 H
  z0:ZLe Z0 Z
  new:∀ b o,Z.z b=some o->Z0.z b=some o\/H0 b=none\/immut o
noncomputable def SR (K:FG) (H0:Hp) (Z0:ZG) (σ:L2.St) (H:Hp) (ρ:Ev) (pd:Pd):Prop:=σ.length=ρ.vs.length/\∃ Z,ρ.mu.length=Z.g.length/\ZOk H0 Z0 Z H/\Slots K H0 Z H (sl Z.g σ ρ pd)
section
variable {K:FG} {H0 H H':Hp} {Z0 Z Z':ZG} {L L':Sl} {σ:L2.St} {ρ:Ev} {pd:Pd}
theorem Slots.sub (h:Slots K H0 Z H L) (s:List.Sublist L' L):Slots K H0 Z H L':=⟨fun e he=>h.1 e (s.subset he),h.2.sublist (s.filterMap oad)⟩
theorem Slots.perm (h:Slots K H0 Z H L) (s:List.Perm L' L):Slots K H0 Z H L':=⟨fun e he=>h.1 e (s.subset he),(s.filterMap oad).nodup_iff.mpr h.2⟩
theorem RepO.keep {a:Addr} {p:PV} (h:RepO K Z H a p) (z:ZLe Z Z') (e:H' a=H a):RepO K Z' H' a p:=by
  cases p with
  | lst ps=>obtain ⟨vs,h1,h2⟩:=h; exact ⟨vs,by rw [e]; exact h1,h2.mono z⟩
  | dk ks ps=>obtain ⟨vs,h1,h2,h3⟩:=h; exact ⟨vs,by rw [e]; exact h1,h2,h3.mono z⟩
  | dt ks ps=>obtain ⟨vs,h1,h2,h3⟩:=h; exact ⟨vs,by rw [e]; exact h1,h2,h3.mono z⟩
  | obj C ks ps=>obtain ⟨c,dx,fs,cn,h1,h2,h3⟩:=h; exact ⟨c,dx,fs,cn,by rw [e]; exact h1,h2,h3.mono z⟩
  | _=>exact h
theorem RepO.some {a:Addr} {p:PV} (h:RepO K Z H a p):∃ o,H a=some o/\¬ immut o:=by
  cases p with
  | lst ps=>obtain ⟨vs,h1,h2⟩:=h; exact ⟨_,h1,fun z=>z⟩
  | dk ks ps=>obtain ⟨vs,h1,h2,h3⟩:=h; exact ⟨_,h1,fun z=>z⟩
  | dt ks ps=>obtain ⟨vs,h1,h2,h3⟩:=h; exact ⟨_,h1,fun z=>z⟩
  | obj C ks ps=>obtain ⟨c,dx,fs,cn,h1,h2,h3⟩:=h; exact ⟨_,h1,fun z=>z⟩
  | _=>exact h.elim
theorem RepO.rep {a:Addr} {p:PV} (h:RepO K Z H a p) (z:ZLe Z Z') (e:Z'.z a=H a):Rep K Z' p (.ref a):=by
  cases p with
  | lst ps=>obtain ⟨vs,h1,h2⟩:=h; unfold Rep; exact ⟨a,vs,rfl,SqL.of (by rw [e]; exact h1),h2.mono z⟩
  | dk ks ps=>obtain ⟨vs,h1,h2,h3⟩:=h; unfold Rep; exact ⟨a,vs,rfl,by rw [e]; exact h1,h2,h3.mono z⟩
  | dt ks ps=>obtain ⟨vs,h1,h2,h3⟩:=h; unfold Rep; exact ⟨a,vs,rfl,by rw [e]; exact h1,h2,h3.mono z⟩
  | obj C ks ps=>obtain ⟨c,dx,fs,cn,h1,h2,h3⟩:=h; unfold Rep; exact ⟨a,c,dx,fs,rfl,cn,by rw [e]; exact h1,h2,h3.mono z⟩
  | _=>exact h.elim
theorem Slots.step (h:Slots K H0 Z H L) (z:ZLe Z Z') (hk:∀ e ∈ L,∀ a,oad e=some a->H' a=H a/\Z'.z a=none):Slots K H0 Z' H' L:=by
  refine ⟨fun e he=>?_,h.2⟩
  have q:=h.1 e he
  obtain ⟨v,l⟩:=e
  cases l with
  | none=>trivial
  | some l=>
    cases l with
    | sh p=>obtain ⟨x,e1,e2⟩:=q; exact ⟨x,e1,e2.mono z⟩
    | own p=>
      obtain ⟨a,e1,e2,e3,e4⟩:=q
      have e1':v=some (.ref a):=e1
      subst e1'
      obtain ⟨k1,k2⟩:=hk _ he a rfl
      exact ⟨a,rfl,e2.keep z k1,k2,e4⟩
theorem own_of (h:Slots K H0 Z H L) {e:Option V × Option Lc} (he:e ∈ L) {a:Addr} (ha:oad e=some a):Z.z a=none/\H0 a=none/\∃ o,H a=some o/\¬ immut o:=by
  obtain ⟨v,l⟩:=e
  have q:=h.1 _ he
  cases l with
  | none=>cases v with
    | none=>cases ha
    | some x=>cases x <;> cases ha
  | some l=>
    cases l with
    | sh p=>cases v with
      | none=>cases ha
      | some x=>cases x <;> cases ha
    | own p=>
      obtain ⟨b,e1,e2,e3,e4⟩:=q
      have e1':v=some (.ref b):=e1
      subst e1'
      cases ha
      exact ⟨e3,e4,e2.some⟩
theorem Slots.new (h:Slots K H0 Z H L) (zo:ZOk H0 Z0 Z H) {a:Addr} {o:HO} {p:PV} (ha:H a=none) (hp:RepO K Z (upd H a o) a p):ZOk H0 Z0 Z (upd H a o)/\Slots K H0 Z (upd H a o) ((some (.ref a),some (.own p))::L):=by
  have hz:Z.z a=none:=zo.zh.free ha
  have h0:H0 a=none:=zo.h0.free ha
  refine ⟨⟨fun b u e=>by rw [upd_ne (ne_of_none e hz)]; exact zo.zh b u e,fun b u e=>by rw [upd_ne (ne_of_none e h0)]; exact zo.h0 b u e,zo.z0,zo.new⟩,?_⟩
  have hne:∀ e ∈ L,∀ b,oad e=some b->b ≠ a:=fun e he b hb=>by
    obtain ⟨_,_,o',h3,_⟩:=own_of h he hb
    exact ne_of_none h3 ha
  have st:=h.step (Z':=Z) (H':=upd H a o) (ZLe.refl Z) fun e he b hb=>⟨upd_ne (hne e he b hb),(own_of h he hb).1⟩
  refine ⟨fun e he=>?_,?_⟩
  · rcases List.mem_cons.mp he with rfl | he
    · exact ⟨a,rfl,hp,hz,h0⟩
    · exact st.1 e he
  · show (a::L.filterMap oad).Nodup
    refine List.nodup_cons.mpr ⟨fun hm=>?_,st.2⟩
    obtain ⟨e,he,hb⟩:=List.mem_filterMap.mp hm
    exact hne e he a hb rfl
noncomputable abbrev ZG.put (Z:ZG) (a:Addr) (o:HO):ZG:=⟨upd Z.z a o,Z.g⟩
theorem Slots.newF (h:Slots K H0 Z H L) (zo:ZOk H0 Z0 Z H) {a:Addr} {o:HO} (ha:H a=none):ZOk H0 Z0 (Z.put a o) (upd H a o)/\ZLe Z (Z.put a o)/\Slots K H0 (Z.put a o) (upd H a o) L:=by
  have hz:Z.z a=none:=zo.zh.free ha
  have h0:H0 a=none:=zo.h0.free ha
  have sz:Same Z.z (upd Z.z a o):=fun b u e=>by rw [upd_ne (ne_of_none e hz)]; exact e
  have lz:ZLe Z (Z.put a o):=⟨sz,List.prefix_refl _⟩
  refine ⟨⟨fun b u e=>?_,fun b u e=>by rw [upd_ne (ne_of_none e h0)]; exact zo.h0 b u e,zo.z0.trans lz,fun b u e=>?_⟩,lz,?_⟩
  · have e:upd Z.z a o b=some u:=e
    unfold upd at e ⊢
    split
    · rename_i q; rw [if_pos q] at e; exact e
    · rename_i q; rw [if_neg q] at e; exact zo.zh b u e
  · have e:upd Z.z a o b=some u:=e
    unfold upd at e
    split at e
    · rename_i q; rw [q]; exact .inr (.inl h0)
    · exact zo.new b u e
  · refine h.step lz fun e he b hb=>?_
    obtain ⟨h1,h2,o',h3,_⟩:=own_of h he hb
    have hba:=ne_of_none h3 ha
    exact ⟨upd_ne hba,by show upd Z.z a o b=none; rw [upd_ne hba]; exact h1⟩
theorem Slots.freeze {v:Option V} {p:PV} (h:Slots K H0 Z H ((v,some (.own p))::L)) (zo:ZOk H0 Z0 Z H):∃ Z',ZLe Z Z'/\Z'.g=Z.g/\ZOk H0 Z0 Z' H/\Slots K H0 Z' H ((v,some (.sh p))::L):=by
  obtain ⟨a,e1,e2,e3,e4⟩:=h.1 _ List.mem_cons_self
  have e1':v=some (.ref a):=e1
  subst e1'
  obtain ⟨o,ho,_⟩:=e2.some
  have sz:Same Z.z (upd Z.z a o):=fun b u e=>by rw [upd_ne (ne_of_none e e3)]; exact e
  have lz:ZLe Z (Z.put a o):=⟨sz,List.prefix_refl _⟩
  have nd:(a::L.filterMap oad).Nodup:=h.2
  have hL:Slots K H0 Z H L:=h.sub (List.sublist_cons_self _ _)
  refine ⟨Z.put a o,lz,rfl,⟨fun b u e=>?_,zo.h0,zo.z0.trans lz,fun b u e=>?_⟩,fun e he=>?_,(List.nodup_cons.mp nd).2⟩
  · have e:upd Z.z a o b=some u:=e
    unfold upd at e
    split at e
    · rename_i q; cases e; rw [q]; exact ho
    · exact zo.zh b u e
  · have e:upd Z.z a o b=some u:=e
    unfold upd at e
    split at e
    · rename_i q; rw [q]; exact .inr (.inl e4)
    · exact zo.new b u e
  · rcases List.mem_cons.mp he with rfl | he
    · exact ⟨.ref a,rfl,e2.rep lz (by show upd Z.z a o a=_; rw [upd_same,ho])⟩
    · refine (hL.step (Z':=Z.put a o) (H':=H) lz fun e' he' b hb=>⟨rfl,?_⟩).1 e he
      have:b ≠ a:=fun q=>by
        rw [q] at hb
        exact (List.nodup_cons.mp nd).1 (List.mem_filterMap.mpr ⟨e',he',hb⟩)
      show upd Z.z a o b=none
      rw [upd_ne this]
      exact (own_of hL he' hb).1
theorem Slots.write {a:Addr} {p q:PV} {o:HO} (h:Slots K H0 Z H ((some (.ref a),some (.own p))::L)) (zo:ZOk H0 Z0 Z H) (hq:RepO K Z (upd H a o) a q):ZOk H0 Z0 Z (upd H a o)/\Slots K H0 Z (upd H a o) ((some (.ref a),some (.own q))::L):=by
  obtain ⟨b,e1,e2,e3,e4⟩:=h.1 _ List.mem_cons_self
  cases e1
  have nd:(a::L.filterMap oad).Nodup:=h.2
  have hL:Slots K H0 Z H L:=h.sub (List.sublist_cons_self _ _)
  refine ⟨⟨fun b u e=>by rw [upd_ne (ne_of_none e e3)]; exact zo.zh b u e,fun b u e=>by rw [upd_ne (ne_of_none e e4)]; exact zo.h0 b u e,zo.z0,zo.new⟩,fun e he=>?_,nd⟩
  rcases List.mem_cons.mp he with rfl | he
  · exact ⟨a,rfl,hq,e3,e4⟩
  · refine (hL.step (Z':=Z) (H':=upd H a o) (ZLe.refl Z) fun e' he' b hb=>⟨upd_ne fun q=>?_,(own_of hL he' hb).1⟩).1 e he
    rw [q] at hb
    exact (List.nodup_cons.mp nd).1 (List.mem_filterMap.mpr ⟨e',he',hb⟩)
end
variable {K:FG} {H0 H:Hp} {Z0:ZG} {σ:L2.St} {ρ:Ev} {pd:Pd}
theorem set_split {α:Type}:∀ {l:List α} {i:Nat} {a:α},l[i]?=some a->∃ R,List.Perm l (a::R)/\∀ b,List.Perm (l.set i b) (b::R)
  | [],i,a,h=>by simp at h
  | x::r,0,a,h=>by
    simp at h; subst h
    exact ⟨r,List.Perm.refl _,fun b=>List.Perm.refl _⟩
  | x::r,i + 1,a,h=>by
    obtain ⟨R,h1,h2⟩:=set_split (l:=r) (i:=i) (a:=a) (by simpa using h)
    refine ⟨x::R,(h1.cons x).trans (List.Perm.swap _ _ _),fun b=>?_⟩
    simp only [List.set_cons_succ]
    exact ((h2 b).cons x).trans (List.Perm.swap _ _ _)
theorem zip_set {α β:Type}:∀ (l:List α) (r:List β) (i:Nat) (a:α) (b:β),(l.set i a).zip (r.set i b)=(l.zip r).set i (a,b)
  | [],r,i,a,b=>by simp
  | x::l,[],i,a,b=>by simp
  | x::l,y::r,0,a,b=>by simp
  | x::l,y::r,i + 1,a,b=>by simp [zip_set l r i a b]
theorem zip_get {α β:Type}:∀ {l:List α} {r:List β} {i:Nat} {a:α} {b:β},l[i]?=some a->r[i]?=some b->(l.zip r)[i]?=some (a,b)
  | [],r,i,a,b,h,g=>by simp at h
  | x::l,[],i,a,b,h,g=>by simp at g
  | x::l,y::r,0,a,b,h,g=>by simp at h g; simp [h,g]
  | x::l,y::r,i + 1,a,b,h,g=>by
    have:=zip_get (l:=l) (r:=r) (i:=i) (by simpa using h) (by simpa using g)
    simpa using this
theorem set_same {α:Type}:∀ {l:List α} {i:Nat} {a:α},l[i]?=some a->l.set i a=l
  | [],i,a,h=>by simp at h
  | x::r,0,a,h=>by simp at h; subst h; simp
  | x::r,i + 1,a,h=>by simp [set_same (l:=r) (i:=i) (a:=a) (by simpa using h)]
noncomputable def Ev.set (ρ:Ev) (i:Nat) (x:Option Lc):Ev:=⟨ρ.vs.set i x,ρ.mu⟩
section
variable {K:FG} {H0 H H':Hp} {Z0 Z:ZG} {σ:L2.St} {ρ:Ev} {pd pd':Pd} {v w:V} {l:Lc} {p:PV} {L:Sl} {g:List Addr}
theorem sl_cons:List.Perm (sl g σ ρ ((v,l)::pd)) ((some v,some l)::sl g σ ρ pd):=by
  unfold sl
  exact (List.perm_middle.append_left _).trans List.perm_middle
theorem SR.top (h:SR K H0 Z0 σ H ρ ((v,l)::pd)):σ.length=ρ.vs.length/\∃ Z,ρ.mu.length=Z.g.length/\ZOk H0 Z0 Z H/\Slots K H0 Z H ((some v,some l)::sl Z.g σ ρ pd):=
  let ⟨e,Z,hg,z,s⟩:=h
  ⟨e,Z,hg,z,s.perm sl_cons.symm⟩
theorem SR.mk (e:σ.length=ρ.vs.length) (hg:ρ.mu.length=Z.g.length) (z:ZOk H0 Z0 Z H) (s:Slots K H0 Z H ((some v,some l)::sl Z.g σ ρ pd)):SR K H0 Z0 σ H ρ ((v,l)::pd):=⟨e,Z,hg,z,s.perm sl_cons⟩
theorem SR.pop (h:SR K H0 Z0 σ H ρ ((v,l)::pd)):SR K H0 Z0 σ H ρ pd:=
  let ⟨e,Z,hg,z,s⟩:=h.top
  ⟨e,Z,hg,z,s.sub (List.sublist_cons_self _ _)⟩
theorem SR.perm (h:SR K H0 Z0 σ H ρ pd) (q:List.Perm pd' pd):SR K H0 Z0 σ H ρ pd':=
  let ⟨e,Z,hg,z,s⟩:=h
  ⟨e,Z,hg,z,s.perm (((q.map _).append_left _).append_left _)⟩
theorem SR.swap {l2:Lc} (h:SR K H0 Z0 σ H ρ ((v,l)::(w,l2)::pd)):SR K H0 Z0 σ H ρ ((w,l2)::(v,l)::pd):=h.perm (List.Perm.swap _ _ _)
theorem SR.freeze (h:SR K H0 Z0 σ H ρ ((v,l)::pd)):SR K H0 Z0 σ H ρ ((v,.sh l.pv)::pd):=by
  cases l with
  | sh p=>exact h
  | own p=>
    obtain ⟨e,Z,hg,z,s⟩:=h.top
    obtain ⟨Z',_,eg,z',s'⟩:=s.freeze z
    refine .mk (Z:=Z') e (by rw [eg]; exact hg) z' ?_
    rw [eg]; exact s'
theorem SR.sh (h:SR K H0 Z0 σ H ρ ((v,.sh p)::pd)):σ.length=ρ.vs.length/\∃ Z,ρ.mu.length=Z.g.length/\ZOk H0 Z0 Z H/\Rep K Z p v/\Slots K H0 Z H (sl Z.g σ ρ pd):=by
  obtain ⟨e,Z,hg,z,s⟩:=h.top
  obtain ⟨x,e1,e2⟩:=s.1 _ List.mem_cons_self
  cases e1
  exact ⟨e,Z,hg,z,e2,s.sub (List.sublist_cons_self _ _)⟩
theorem SR.rep (h:SR K H0 Z0 σ H ρ ((v,.sh p)::pd)):∃ Z:ZG,Same Z.z H/\Rep K Z p v:=let ⟨_,Z,_,z,r,_⟩:=h.sh; ⟨Z,z.zh,r⟩
theorem SR.repH (h:SR K H0 Z0 σ H ρ ((v,.sh p)::pd)):∃ g,Rep K ⟨H,g⟩ p v:=let ⟨_,Z,_,z,r,_⟩:=h.sh; ⟨Z.g,r.mono (Z':=⟨H,Z.g⟩) ⟨z.zh,List.prefix_refl _⟩⟩
theorem Slots.consS (s:Slots K H0 Z H L) (r:Rep K Z p v):Slots K H0 Z H ((some v,some (.sh p))::L):=by
  refine ⟨fun e he=>?_,?_⟩
  · rcases List.mem_cons.mp he with rfl | he
    · exact ⟨v,rfl,r⟩
    · exact s.1 e he
  · have:oad (some v,some (Lc.sh p))=none:=by cases v <;> rfl
    rw [List.filterMap_cons_none this]
    exact s.2
theorem SR.scal (h:SR K H0 Z0 σ H ρ pd) (r:∀ Z,Rep K Z p v):SR K H0 Z0 σ H ρ ((v,.sh p)::pd):=
  let ⟨e,Z,hg,z,s⟩:=h
  .mk e hg z (s.consS (r Z))
theorem sl_var {i:Nat} {o:Option Lc} (el:σ.length=ρ.vs.length) (e:ρ.vs[i]?=some o):∃ R:Sl,∃ x,σ[i]?=some x/\(∀ g pd,List.Perm (sl g σ ρ pd) ((x,o)::(cel g ρ.mu++(R++pd.map fun e=>(some e.1,some e.2)))))/\
    ∀ g pd y o',List.Perm (sl g (σ.set i y) (ρ.set i o') pd) ((y,o')::(cel g ρ.mu++(R++pd.map fun e=>(some e.1,some e.2)))):=by
  have hi:i < σ.length:=by rw [el]; exact (List.getElem?_eq_some_iff.mp e).1
  have hσ:σ[i]?=some σ[i]:=List.getElem?_eq_getElem hi
  obtain ⟨R,h1,h2⟩:=set_split (zip_get hσ e)
  refine ⟨R,σ[i],hσ,fun g pd=>?_,fun g pd y o'=>?_⟩
  · unfold sl
    exact ((h1.append_right _).append_left _).trans List.perm_middle
  · unfold sl
    show List.Perm (cel g ρ.mu++((σ.set i y).zip (ρ.vs.set i o')++_)) _
    rw [zip_set]
    exact (((h2 _).append_right _).append_left _).trans List.perm_middle
theorem Ev.set_mu {i:Nat} {x:Option Lc}:(ρ.set i x).mu=ρ.mu:=rfl
theorem Ev.set_len {i:Nat} {x:Option Lc}:(ρ.set i x).vs.length=ρ.vs.length:=by show (ρ.vs.set i x).length=_; rw [List.length_set]
theorem SR.var {i:Nat} (h:SR K H0 Z0 σ H ρ pd) (e:ρ.vs[i]?=some (some l)):∃ v,σ[i]?=some (some v)/\SR K H0 Z0 σ H (ρ.set i (some (.sh l.pv))) ((v,.sh l.pv)::pd):=by
  obtain ⟨el,Z,hg,z,s⟩:=h
  obtain ⟨R,x,hσ,h1,h2⟩:=sl_var el e
  have s1:=s.perm (h1 Z.g pd).symm
  have el':σ.length=(ρ.set i (some (.sh l.pv))).vs.length:=by rw [Ev.set_len]; exact el
  have fin:∀ {Z':ZG} {v:V},Z'.g=Z.g->ZOk H0 Z0 Z' H->x=some v->Slots K H0 Z' H ((x,some (.sh l.pv))::(cel Z.g ρ.mu++(R++pd.map fun e=>(some e.1,some e.2))))->Rep K Z' l.pv v->SR K H0 Z0 σ H (ρ.set i (some (.sh l.pv))) ((v,.sh l.pv)::pd):=
    fun {Z' v} eg z ev s2 r=>by
      have p2:=h2 Z.g pd x (some (.sh l.pv))
      rw [set_same hσ] at p2
      refine .mk (Z:=Z') el' (by rw [eg,Ev.set_mu]; exact hg) z ?_
      rw [eg]
      exact (s2.perm p2).consS r
  cases l with
  | sh p=>
    obtain ⟨v,e1,e2⟩:=s1.1 _ List.mem_cons_self
    exact ⟨v,hσ.trans (congrArg some e1),fin rfl z e1 s1 e2⟩
  | own p=>
    obtain ⟨Z',sz,eg,z',s'⟩:=s1.freeze z
    obtain ⟨v,e1,e2⟩:=s'.1 _ List.mem_cons_self
    exact ⟨v,hσ.trans (congrArg some e1),fin eg z' e1 s' e2⟩
theorem SR.store {i:Nat} (h:SR K H0 Z0 σ H ρ ((v,l)::pd)) (hi:i < ρ.vs.length):SR K H0 Z0 (σ.set i (some v)) H (ρ.set i (some l)) pd:=by
  obtain ⟨el,Z,hg,z,s⟩:=h.top
  have hρ:ρ.vs[i]?=some ρ.vs[i]:=List.getElem?_eq_getElem hi
  obtain ⟨R,x,hσ,h1,h2⟩:=sl_var el hρ
  refine ⟨by rw [List.length_set,Ev.set_len]; exact el,Z,hg,z,?_⟩
  refine (Slots.sub (L:=(some v,some l)::((x,ρ.vs[i])::(cel Z.g ρ.mu++(R++pd.map fun e=>(some e.1,some e.2))))) (s.perm ((h1 Z.g pd).symm.cons _)) ?_).perm (h2 Z.g pd (some v) (some l))
  exact (List.sublist_cons_self _ _).cons_cons _
theorem SR.take {i:Nat} (h:SR K H0 Z0 σ H ρ pd) (e:ρ.vs[i]?=some (some l)):∃ v,σ[i]?=some (some v)/\SR K H0 Z0 σ H (ρ.set i none) ((v,l)::pd):=by
  obtain ⟨el,Z,hg,z,s⟩:=h
  obtain ⟨R,x,hσ,h1,h2⟩:=sl_var el e
  have s1:=s.perm (h1 Z.g pd).symm
  obtain ⟨v,hv⟩:∃ v,x=some v:=by
    have q:=s1.1 _ List.mem_cons_self
    cases l with
    | sh p=>obtain ⟨x,e1,_⟩:=q; exact ⟨x,e1⟩
    | own p=>obtain ⟨a,e1,_⟩:=q; exact ⟨_,e1⟩
  subst hv
  refine ⟨v,hσ,.mk (Z:=Z) (by rw [Ev.set_len]; exact el) hg z ?_⟩
  have p2:=h2 Z.g pd (some v) none
  rw [set_same hσ] at p2
  refine Slots.perm ?_ (p2.cons _)
  have ht:Slots K H0 Z H ((some v,none)::(some v,some l)::(cel Z.g ρ.mu++(R++pd.map fun e=>(some e.1,some e.2)))):=by
    refine ⟨fun e he=>?_,?_⟩
    · rcases List.mem_cons.mp he with rfl | he
      · trivial
      · exact s1.1 e he
    · have:oad (some v,none)=none:=by cases v <;> rfl
      rw [List.filterMap_cons_none this]
      exact s1.2
  exact ht.perm (List.Perm.swap _ _ _)
theorem SR.put {i:Nat} (h:SR K H0 Z0 σ H ρ ((v,l)::pd)) (e:σ[i]?=some (some v)):SR K H0 Z0 σ H (ρ.set i (some l)) pd:=by
  have hi:i < ρ.vs.length:=by rw [← h.1]; exact (List.getElem?_eq_some_iff.mp e).1
  have:=h.store hi
  rw [set_same e] at this
  exact this
end
noncomputable abbrev EF:=Ev->Option (Lc × Ev)
noncomputable abbrev TF:=Ev->Option (Bool × Ev)
noncomputable abbrev AF:=Ev->Option (List Lc × Ev)
inductive Fl where
  | nx (ρ:Ev)
  | rt (r:Lc) (ρ:Ev)
  | bk (ρ:Ev)
  | ct (ρ:Ev)
noncomputable abbrev SF:=Ev->Option Fl
noncomputable def tP (K:FG) (f:EF):TE:=fun σ H Q=>∃ H0 Z0 ρ pd r ρ',SR K H0 Z0 σ H ρ pd/\f ρ=some (r,ρ')/\∀ v H',SR K H0 Z0 σ H' ρ' ((v,r)::pd)->Q v H'
noncomputable def tPT (K:FG) (f:TF):TT:=fun σ H Q=>∃ H0 Z0 ρ pd b ρ',SR K H0 Z0 σ H ρ pd/\f ρ=some (b,ρ')/\∀ H',SR K H0 Z0 σ H' ρ' pd->Q b H'
noncomputable def tPA (K:FG) (f:AF):TA:=fun σ H Q=>∃ H0 Z0 ρ pd ls ρ',SR K H0 Z0 σ H ρ pd/\f ρ=some (ls,ρ')/\∀ vs H',vs.length=ls.length->SR K H0 Z0 σ H' ρ' (vs.zip ls++pd)->Q vs H'
noncomputable def FlOk (K:FG) (H0:Hp) (Z0:ZG) (pd:Pd) (D:Ends):Fl->Prop
  | .nx ρ'=>∀ σ' H',SR K H0 Z0 σ' H' ρ' pd->D.nx σ' H'
  | .rt r ρ'=>∀ v σ' H',SR K H0 Z0 σ' H' ρ' ((v,r)::pd)->D.rt v H'
  | .bk ρ'=>∀ σ' H',SR K H0 Z0 σ' H' ρ' pd->D.bk σ' H'
  | .ct ρ'=>∀ σ' H',SR K H0 Z0 σ' H' ρ' pd->D.ct σ' H'
noncomputable def tPs (K:FG) (g:SF):TS:=fun D σ H=>∃ H0 Z0 ρ pd fl,SR K H0 Z0 σ H ρ pd/\g ρ=some fl/\FlOk K H0 Z0 pd D fl
section
variable {X:Cx} {e:Expr} {es:List Expr} {st:Stmt} {sts:List Stmt}
theorem PE.imp {t t':TE} (h:PE X e t) (i:∀ σ H Q,t' σ H Q->t σ H Q):PE X e t':=fun pins s σ H Q I q=>h pins s σ H Q I (i σ H Q q)
theorem PT.imp {t t':TT} (h:PT X e t) (i:∀ σ H Q,t' σ H Q->t σ H Q):PT X e t':=fun pins s σ H Q I q=>h pins s σ H Q I (i σ H Q q)
theorem PW.imp {t t':TT} (h:PW X e t) (i:∀ σ H Q,t' σ H Q->t σ H Q):PW X e t':=fun wh pins s σ H Q I q=>h wh pins s σ H Q I (i σ H Q q)
theorem PA.imp {t t':TA} (h:PA X es t) (i:∀ σ H Q,t' σ H Q->t σ H Q):PA X es t':=fun pos pins s σ H Q I q=>h pos pins s σ H Q I (i σ H Q q)
theorem PS.imp {t t':TS} (h:PS X st t) (i:∀ D σ H,t' D σ H->t D σ H):PS X st t':=fun pins s σ H D I q=>h pins s σ H D I (i D σ H q)
theorem PSs.imp {t t':TS} (h:PSs X sts t) (i:∀ D σ H,t' D σ H->t D σ H):PSs X sts t':=fun pins s σ H D I q=>h pins s σ H D I (i D σ H q)
noncomputable def eVar (i:Nat):EF:=fun ρ=>match ρ.vs[i]? with
  | some (some l)=>some (.sh l.pv,ρ.set i (some (.sh l.pv)))
  | _=>none
noncomputable def eC (p:PV):EF:=fun ρ=>some (.sh p,ρ)
theorem qv {i:Nat} (h:PE X e (tVar i)):PE X e (tP X.K (eVar i)):=PE.imp h fun σ H Q q=>by
  obtain ⟨H0,Z0,ρ,pd,r,ρ',s,f,k⟩:=q
  unfold eVar at f
  split at f
  · rename_i l e1
    cases f
    obtain ⟨v,h1,h2⟩:=s.var e1
    exact ⟨v,h1,k v H h2⟩
  · cases f
theorem qc {p:PV} {v:V} (h:PE X e (tC v)) (r:∀ Z,Rep X.K Z p v):PE X e (tP X.K (eC p)):=PE.imp h fun σ H Q q=>by
  obtain ⟨H0,Z0,ρ,pd,l,ρ',s,f,k⟩:=q
  cases f
  exact k v H (s.scal r)
theorem rep_int {i:Int}:∀ Z,Rep K Z (.int i) (.int i):=fun Z=>by unfold Rep; rfl
theorem rep_str {i:Str}:∀ Z,Rep K Z (.str i) (.str i):=fun Z=>by unfold Rep; rfl
theorem rep_bl {i:Bool}:∀ Z,Rep K Z (.bl i) (.bl i):=fun Z=>by unfold Rep; rfl
theorem rep_non:∀ Z,Rep K Z .non .non:=fun Z=>by unfold Rep; rfl
noncomputable def OpS (K:FG) (r:R2) (g:PV->PV->Option Lc):Prop:=∀ H0 Z0 σ ρ pd H v w x y l Q,SR K H0 Z0 σ H ρ ((w,.sh y)::(v,.sh x)::pd)->g x y=some l->(∀ u H',SR K H0 Z0 σ H' ρ ((u,l)::pd)->Q u H')->r v w H Q
noncomputable def eOp (g:PV->PV->Option Lc) (fa fb:EF):EF:=fun ρ=>(fa ρ).bind fun x=>(fb x.2).bind fun y=>(g x.1.pv y.1.pv).map fun l=>(l,y.2)
theorem eOp_some {g:PV->PV->Option Lc} {fa fb:EF} {ρ ρ':Ev} {l:Lc} (h:eOp g fa fb ρ=some (l,ρ')):∃ x ρ1 y,fa ρ=some (x,ρ1)/\fb ρ1=some (y,ρ')/\g x.pv y.pv=some l:=by
  unfold eOp at h
  cases h1:fa ρ with
  | none=>rw [h1] at h; cases h
  | some x=>
    rw [h1,Option.bind_some] at h
    cases h2:fb x.2 with
    | none=>rw [h2] at h; cases h
    | some y=>
      rw [h2,Option.bind_some] at h
      cases h3:g x.1.pv y.1.pv with
      | none=>rw [h3] at h; cases h
      | some z=>
        rw [h3] at h
        cases h
        exact ⟨x.1,x.2,y.1,rfl,h2,h3⟩
theorem op_imp {r:R2} {g:PV->PV->Option Lc} (hs:OpS X.K r g) {fa fb:EF}:∀ σ H Q,tP X.K (eOp g fa fb) σ H Q->tOp r (tP X.K fa) (tP X.K fb) σ H Q:=fun σ H Q q=>by
  obtain ⟨H0,Z0,ρ,pd,l,ρ',s,f,k⟩:=q
  obtain ⟨x,ρ1,y,h1,h2,h3⟩:=eOp_some f
  refine ⟨H0,Z0,ρ,pd,x,ρ1,s,h1,fun v H1 s1=>⟨H0,Z0,ρ1,_,y,ρ',s1,h2,fun w H2 s2=>?_⟩⟩
  exact hs H0 Z0 σ ρ' pd H2 v w x.pv y.pv l Q (s2.freeze.swap.freeze.swap) h3 fun u H' s3=>k u H' s3
theorem qop {op:Operator} {a b:Expr} {pos:Pos} {r:R2} {g:PV->PV->Option Lc} {fa fb:EF} (ho:OpR X (binaryOp op) r) (hs:OpS X.K r g) (ha:PE X a (tP X.K fa)) (hb:PE X b (tP X.K fb)):PE X (.BinOp a op b pos) (tP X.K (eOp g fa fb)):=
  PE.imp (pe_op ho ha hb) (op_imp hs)
theorem qcmp {op:CmpOp} {a b:Expr} {pos:Pos} {r:R2} {g:PV->PV->Option Lc} {fa fb:EF} (ho:OpR X (compareOp op) r) (hs:OpS X.K r g) (ha:PE X a (tP X.K fa)) (hb:PE X b (tP X.K fb)) (hm:behindInMarks op b=false):PE X (.Compare a [op] [b] pos) (tP X.K (eOp g fa fb)):=
  PE.imp (pe_cmpR ho ha hb hm) (op_imp hs)
noncomputable def iOp (C:Int->Int->Bool) (g:Int->Int->PV):PV->PV->Option Lc
  | .int i,.int j=>if C i j=true then some (.sh (g i j)) else none
  | _,_=>none
theorem iOp_some {C:Int->Int->Bool} {g:Int->Int->PV} {x y:PV} {l:Lc} (h:iOp C g x y=some l):∃ i j,x=.int i/\y=.int j/\C i j=true/\l=.sh (g i j):=by
  cases x with
  | int i=>
    cases y with
    | int j=>
      have h':(if C i j=true then some (Lc.sh (g i j)) else none)=some l:=h
      split at h'
      · rename_i c; cases h'; exact ⟨i,j,rfl,rfl,c,rfl⟩
      · cases h'
    | _=>cases h
  | _=>cases h
theorem rep_int_inv {Z:ZG} {i:Int} {v:V} (h:Rep K Z (.int i) v):v=.int i:=by unfold Rep at h; exact h
theorem rep_str_inv {Z:ZG} {i:Str} {v:V} (h:Rep K Z (.str i) v):v=.str i:=by unfold Rep at h; exact h
theorem rep_bl_inv {Z:ZG} {i:Bool} {v:V} (h:Rep K Z (.bl i) v):v=.bl i:=by unfold Rep at h; exact h
theorem rep_non_inv {Z:ZG} {v:V} (h:Rep K Z .non v):v=.non:=by unfold Rep at h; exact h
theorem ops_I {C':Int->Int->Prop} {C:Int->Int->Bool} {gV:Int->Int->V} {g:Int->Int->PV} (hc:∀ i j,C i j=true->C' i j) (hg:∀ i j Z,Rep K Z (g i j) (gV i j)):OpS K (rI C' gV) (iOp C g):=by
  intro H0 Z0 σ ρ pd H v w x y l Q s e k
  obtain ⟨i,j,rfl,rfl,c,rfl⟩:=iOp_some e
  obtain ⟨_,rw'⟩:=s.repH
  obtain ⟨_,rv'⟩:=s.pop.repH
  have hw:=rep_int_inv rw'
  have hv:=rep_int_inv rv'
  exact ⟨i,j,hv,hw,hc i j c,k _ H (s.pop.pop.scal (hg i j))⟩
theorem ops_I0 {gV:Int->Int->V} {g:Int->Int->PV} (hg:∀ i j Z,Rep K Z (g i j) (gV i j)):OpS K (rI0 gV) (iOp (fun _ _=>true) g):=by
  intro H0 Z0 σ ρ pd H v w x y l Q s e k
  obtain ⟨i,j,rfl,rfl,c,rfl⟩:=iOp_some e
  obtain ⟨_,rw'⟩:=s.repH
  obtain ⟨_,rv'⟩:=s.pop.repH
  exact ⟨i,j,rep_int_inv rv',rep_int_inv rw',k _ H (s.pop.pop.scal (hg i j))⟩
end
section
variable {X:Cx}
section
variable {K:FG} {H0 H H':Hp} {Z0 Z:ZG} {σ:L2.St} {ρ:Ev} {pd pd':Pd} {v w:V} {l:Lc} {p:PV} {g:List Addr}
theorem SR.newO (h:SR K H0 Z0 σ H ρ pd) {a:Addr} {o:HO} (ha:H a=none) (hp:∀ Z,ZOk H0 Z0 Z H->Slots K H0 Z H (sl Z.g σ ρ pd)->RepO K Z (upd H a o) a p):SR K H0 Z0 σ (upd H a o) ρ ((.ref a,.own p)::pd):=by
  obtain ⟨e,Z,hg,z,s⟩:=h
  obtain ⟨z',s'⟩:=s.new z ha (hp Z z s)
  exact .mk e hg z' s'
theorem perm3 {α:Type} (A B C:List α):List.Perm (A++(B++C)) (B++(A++C)):=by
  rw [← List.append_assoc A B C,← List.append_assoc B A C]
  exact List.perm_append_comm.append_right _
theorem sl_app {pe:Pd}:List.Perm (sl g σ ρ (pe++pd)) (pe.map (fun e=>((some e.1:Option V),(some e.2:Option Lc)))++sl g σ ρ pd):=by
  unfold sl
  rw [List.map_append]
  exact ((perm3 _ _ _).append_left _).trans (perm3 _ _ _)
theorem SR.freezeAll:∀ {vs:List V} {ls:List Lc} {pd:Pd},SR K H0 Z0 σ H ρ (vs.zip ls++pd)->SR K H0 Z0 σ H ρ (vs.zip (ls.map fun l=>.sh l.pv)++pd)
  | [],ls,pd,h=>by simpa using h
  | v::vs,[],pd,h=>by simpa using h
  | v::vs,l::ls,pd,h=>by
    have h1:SR K H0 Z0 σ H ρ ((v,l)::(vs.zip ls++pd)):=h
    have h2:=h1.freeze.perm (pd':=vs.zip ls++((v,.sh l.pv)::pd)) List.perm_middle
    have h3:=SR.freezeAll h2
    exact h3.perm (pd':=(v,.sh l.pv)::(vs.zip (ls.map fun l=>.sh l.pv)++pd)) List.perm_middle.symm
theorem Slots.repl {L:Sl}:∀ {vs:List V} {ps:List PV},vs.length=ps.length->Slots K H0 Z H ((vs.zip (ps.map fun p=>Lc.sh p)).map (fun e=>(some e.1,some e.2))++L)->RepL K Z ps vs
  | [],[],_,_=>.nil
  | v::vs,p::ps,e,h=>by
    have h1:Slots K H0 Z H ((some v,some (.sh p))::((vs.zip (ps.map fun p=>Lc.sh p)).map (fun e=>(some e.1,some e.2))++L)):=h
    obtain ⟨x,e1,e2⟩:=h1.1 _ List.mem_cons_self
    cases e1
    exact RepL.cons e2 (Slots.repl (by simpa using e) (h1.sub (List.sublist_cons_self _ _)))
  | [],p::ps,e,_=>by simp at e
  | v::vs,[],e,_=>by simp at e
theorem SR.repl {vs:List V} {ls:List Lc} (h:SR K H0 Z0 σ H ρ (vs.zip ls++pd)) (e:vs.length=ls.length):σ.length=ρ.vs.length/\∃ Z,ρ.mu.length=Z.g.length/\ZOk H0 Z0 Z H/\RepL K Z (ls.map Lc.pv) vs/\Slots K H0 Z H (sl Z.g σ ρ pd):=by
  obtain ⟨el,Z,hg,z,s⟩:=h.freezeAll
  have hm:(ls.map fun l=>Lc.sh l.pv)=(ls.map Lc.pv).map fun p=>Lc.sh p:=by rw [List.map_map]; rfl
  rw [hm] at s
  have pm:List.Perm (sl Z.g σ ρ (vs.zip ((ls.map Lc.pv).map fun p=>Lc.sh p)++pd)) ((vs.zip ((ls.map Lc.pv).map fun p=>Lc.sh p)).map (fun e=>(some e.1,some e.2))++sl Z.g σ ρ pd):=sl_app
  have s':=s.perm pm.symm
  exact ⟨el,Z,hg,z,Slots.repl (by simpa using e) s',s'.sub (List.sublist_append_right _ _)⟩
end
theorem ln1 {α:Type} {l:List α} (h:l.length=1):∃ a,l=[a]:=List.length_eq_one_iff.mp h
theorem ln2 {α:Type} {l:List α} (h:l.length=2):∃ a b,l=[a,b]:=by
  cases l with
  | nil=>cases h
  | cons a l=>obtain ⟨b,rfl⟩:=ln1 (Nat.succ.inj h); exact ⟨a,b,rfl⟩
theorem ln3 {α:Type} {l:List α} (h:l.length=3):∃ a b c,l=[a,b,c]:=by
  cases l with
  | nil=>cases h
  | cons a l=>obtain ⟨b,c,rfl⟩:=ln2 (Nat.succ.inj h); exact ⟨a,b,c,rfl⟩
noncomputable def aNil:AF:=fun ρ=>some ([],ρ)
noncomputable def aCons (f:EF) (g:AF):AF:=fun ρ=>(f ρ).bind fun x=>(g x.2).map fun y=>(x.1::y.1,y.2)
theorem qa_nil:PA X [] (tPA X.K aNil):=PA.imp pa_nil fun σ H Q q=>by
  obtain ⟨H0,Z0,ρ,pd,l,ρ',s,f,k⟩:=q
  cases f
  exact k [] H rfl s
theorem qa_cons {e:Expr} {es:List Expr} {f:EF} {g:AF} (ha:PE X e (tP X.K f)) (hr:PA X es (tPA X.K g)) (hs:starEach (e::es) X.env=(false,eval e X.env)::starEach es X.env:=by rfl):PA X (e::es) (tPA X.K (aCons f g)):=PA.imp (pa_cons ha hr hs) fun σ H Q q=>by
  obtain ⟨H0,Z0,ρ,pd,l,ρ',s,h,k⟩:=q
  unfold aCons at h
  cases h1:f ρ with
  | none=>rw [h1] at h; cases h
  | some x=>
    rw [h1,Option.bind_some] at h
    cases h2:g x.2 with
    | none=>rw [h2] at h; cases h
    | some y=>
      rw [h2] at h
      cases h
      refine ⟨H0,Z0,ρ,pd,x.1,x.2,s,h1,fun v H1 s1=>⟨H0,Z0,x.2,_,y.1,y.2,s1,h2,fun vs H2 e2 s2=>?_⟩⟩
      refine k (v::vs) H2 (by simp [e2]) (s2.perm (pd':=(v,x.1)::(vs.zip y.1++pd)) List.perm_middle.symm)
noncomputable def eLst (g:AF):EF:=fun ρ=>(g ρ).bind fun y=>if y.1.length<=1000 then some (.own (.lst (y.1.map Lc.pv)),y.2) else none
noncomputable def eTup (g:AF):EF:=fun ρ=>(g ρ).bind fun y=>if y.1.length<=1000 then some (.sh (.tup (y.1.map Lc.pv)),y.2) else none
theorem small {n:Nat} (h:n<=100000):n<=sizeLine:=by rw [sizeLine_eq]; omega
theorem qlst {es:List Expr} {g:AF} {pos:Pos} (h:PA X es (tPA X.K g)):PE X (.List es pos) (tP X.K (eLst g)):=PE.imp (pe_lst h) fun σ H Q q=>by
  obtain ⟨H0,Z0,ρ,pd,l,ρ',s,f,k⟩:=q
  unfold eLst at f
  cases h2:g ρ with
  | none=>rw [h2] at f; cases f
  | some y=>
    rw [h2,Option.bind_some] at f
    split at f
    · rename_i hl
      cases f
      refine ⟨H0,Z0,ρ,pd,y.1,y.2,s,h2,fun vs H2 e2 s2=>⟨small (by omega),fun p hp=>k _ _ ?_⟩⟩
      obtain ⟨el,Z,hg,z,r,sl'⟩:=s2.repl e2
      obtain ⟨z',s'⟩:=sl'.new (o:=.lst vs) (p:=.lst (y.1.map Lc.pv)) z hp ⟨vs,upd_same,r⟩
      exact .mk el hg z' s'
    · cases f
theorem qtup {es:List Expr} {g:AF} {x1} {pos:Pos} (h:PA X es (tPA X.K g)):PE X (.Tuple es x1 pos) (tP X.K (eTup g)):=PE.imp (pe_tup h) fun σ H Q q=>by
  obtain ⟨H0,Z0,ρ,pd,l,ρ',s,f,k⟩:=q
  unfold eTup at f
  cases h2:g ρ with
  | none=>rw [h2] at f; cases f
  | some y=>
    rw [h2,Option.bind_some] at f
    split at f
    · rename_i hl
      cases f
      refine ⟨H0,Z0,ρ,pd,y.1,y.2,s,h2,fun vs H2 e2 s2=>⟨small (by omega),fun p hp=>k _ _ ?_⟩⟩
      obtain ⟨el,Z,hg,z,r,sl'⟩:=s2.repl e2
      obtain ⟨z',sz,s'⟩:=sl'.newF (o:=.tup vs) z hp
      refine .mk (Z:=Z.put p (.tup vs)) el hg z' (s'.consS ?_)
      unfold Rep
      exact ⟨p,vs,rfl,SqT.of upd_same,r.mono sz⟩
    · cases f
noncomputable def tT (f:EF) (tr:PV->Option Bool):TF:=fun ρ=>(f ρ).bind fun x=>(tr x.1.pv).map fun b=>(b,x.2)
noncomputable def truP:PV->Option Bool
  | .non=>some false
  | .bl b=>some b
  | .int i=>some (i != 0)
  | .str x=>if x.length<=100000 then some ((x.length:Int) != 0) else none
  | .tup ps=>some (!ps.isEmpty)
  | .lst ps=>some (!ps.isEmpty)
  | .dk ks ps=>some (!ps.isEmpty)
  | _=>none
theorem truV {H:Hp} {g:List Addr} {p:PV} {v:V} {b:Bool} (r:Rep K ⟨H,g⟩ p v) (h:truP p=some b):TruV K v H b:=by
  cases p with
  | non=>have:=rep_non_inv r; subst this; cases h; exact rfl
  | bl c=>have:=rep_bl_inv r; subst this; cases h; exact rfl
  | int i=>have:=rep_int_inv r; subst this; cases h; exact rfl
  | str x=>
    have:=rep_str_inv r; subst this
    have h:(if x.length<=100000 then some ((x.length:Int) != 0) else none)=some b:=h
    split at h
    · rename_i hl; cases h; exact ⟨small hl,rfl⟩
    · cases h
  | tup ps=>
    unfold Rep at r
    obtain ⟨a,vs,rfl,h1,h2⟩:=r
    cases h
    refine .inr (.inl ⟨vs,h1,?_⟩)
    have:=h2.length
    cases ps <;> cases vs <;> simp at this <;> rfl
  | lst ps=>
    unfold Rep at r
    obtain ⟨a,vs,rfl,h1,h2⟩:=r
    cases h
    refine .inl ⟨vs,h1,?_⟩
    have:=h2.length
    cases ps <;> cases vs <;> simp at this <;> rfl
  | dk ks ps=>
    unfold Rep at r
    obtain ⟨a,kvs,rfl,h1,h3,h2⟩:=r
    cases h
    refine .inr (.inr ⟨kvs,h1,?_⟩)
    have:=h2.length
    cases ps <;> cases kvs <;> simp at this <;> rfl
  | _=>cases h
theorem tT_some {f:EF} {tr:PV->Option Bool} {ρ ρ':Ev} {b:Bool} (h:tT f tr ρ=some (b,ρ')):∃ x,f ρ=some (x,ρ')/\tr x.pv=some b:=by
  unfold tT at h
  cases h1:f ρ with
  | none=>rw [h1] at h; cases h
  | some x=>
    rw [h1,Option.bind_some] at h
    cases h2:tr x.1.pv with
    | none=>rw [h2] at h; cases h
    | some y=>rw [h2] at h; cases h; exact ⟨x.1,rfl,h2⟩
theorem qtruth {a:Expr} {f:EF} (ha:PE X a (tP X.K f)) (he:∀ whole,isTrue a X.env whole=(do let v ← whole; standAt a.pos; holding [v] (truthy v))):PT X a (tPT X.K (tT f truP)):=PT.imp (pt_truth ha he) fun σ H Q q=>by
  obtain ⟨H0,Z0,ρ,pd,b,ρ',s,f',k⟩:=q
  obtain ⟨x,h1,h2⟩:=tT_some f'
  refine ⟨H0,Z0,ρ,pd,x,ρ',s,h1,fun v H1 s1=>⟨b,truV s1.freeze.repH.choose_spec h2,k H1 s1.pop⟩⟩
noncomputable def blP:PV->Option Bool
  | .bl b=>some b
  | _=>none
theorem qtest {a:Expr} {f:EF} (ha:PT X a (tTest (tP X.K f))):PT X a (tPT X.K (tT f blP)):=PT.imp ha fun σ H Q q=>by
  obtain ⟨H0,Z0,ρ,pd,b,ρ',s,f',k⟩:=q
  obtain ⟨x,h1,h2⟩:=tT_some f'
  refine ⟨H0,Z0,ρ,pd,x,ρ',s,h1,fun v H1 s1=>⟨b,?_,k H1 s1.pop⟩⟩
  obtain ⟨_,r⟩:=s1.freeze.repH
  cases e:x.pv with
  | bl c=>rw [e] at h2 r; cases h2; exact rep_bl_inv r
  | _=>rw [e] at h2; cases h2
theorem qtcmp {op:CmpOp} {a b:Expr} {pos:Pos} {r:R2} {g:PV->PV->Option Lc} {fa fb:EF} (ho:OpR X (compareOp op) r) (hs:OpS X.K r g) (ha:PE X a (tP X.K fa)) (hb:PE X b (tP X.K fb)) (hm:behindInMarks op b=false):PT X (.Compare a [op] [b] pos) (tPT X.K (tT (eOp g fa fb) blP)):=
  qtest (PT.imp (pt_cmpR ho ha hb hm) fun σ H Q q=>op_imp hs σ H _ q)
noncomputable def tAndF (f g:TF):TF:=fun ρ=>(f ρ).bind fun x=>if x.1=true then g x.2 else some (false,x.2)
noncomputable def tOrF (f g:TF):TF:=fun ρ=>(f ρ).bind fun x=>if x.1=true then some (true,x.2) else g x.2
noncomputable def tNotF (f:TF):TF:=fun ρ=>(f ρ).map fun x=>(!x.1,x.2)
theorem and_imp {f g:TF}:∀ σ H Q,tPT X.K (tAndF f g) σ H Q->tAnd (tPT X.K f) (tPT X.K g) σ H Q:=fun σ H Q q=>by
  obtain ⟨H0,Z0,ρ,pd,b,ρ',s,h,k⟩:=q
  unfold tAndF at h
  cases h1:f ρ with
  | none=>rw [h1] at h; cases h
  | some x=>
    rw [h1,Option.bind_some] at h
    refine ⟨H0,Z0,ρ,pd,x.1,x.2,s,h1,fun H1 s1=>?_⟩
    dsimp only
    split
    · rename_i c; rw [if_pos c] at h; exact ⟨H0,Z0,x.2,pd,b,ρ',s1,h,k⟩
    · rename_i c; rw [if_neg c] at h; cases h; exact k H1 s1
theorem or_imp {f g:TF}:∀ σ H Q,tPT X.K (tOrF f g) σ H Q->tOr (tPT X.K f) (tPT X.K g) σ H Q:=fun σ H Q q=>by
  obtain ⟨H0,Z0,ρ,pd,b,ρ',s,h,k⟩:=q
  unfold tOrF at h
  cases h1:f ρ with
  | none=>rw [h1] at h; cases h
  | some x=>
    rw [h1,Option.bind_some] at h
    refine ⟨H0,Z0,ρ,pd,x.1,x.2,s,h1,fun H1 s1=>?_⟩
    dsimp only
    split
    · rename_i c; rw [if_pos c] at h; cases h; exact k H1 s1
    · rename_i c; rw [if_neg c] at h; exact ⟨H0,Z0,x.2,pd,b,ρ',s1,h,k⟩
theorem qw_and1 {a:Expr} {f:TF} {pos:Pos} (ha:PT X a (tPT X.K f)):PW X (.BoolOp .And [a] pos) (tPT X.K f):=pw_and1 ha
theorem qw_or1 {a:Expr} {f:TF} {pos:Pos} (ha:PT X a (tPT X.K f)):PW X (.BoolOp .Or [a] pos) (tPT X.K f):=pw_or1 ha
theorem qw_and {a b:Expr} {rest:List Expr} {f g:TF} {pos:Pos} (ha:PT X a (tPT X.K f)) (hb:PW X (.BoolOp .And (b::rest) pos) (tPT X.K g)):PW X (.BoolOp .And (a::b::rest) pos) (tPT X.K (tAndF f g)):=PW.imp (pw_and ha hb) and_imp
theorem qw_or {a b:Expr} {rest:List Expr} {f g:TF} {pos:Pos} (ha:PT X a (tPT X.K f)) (hb:PW X (.BoolOp .Or (b::rest) pos) (tPT X.K g)):PW X (.BoolOp .Or (a::b::rest) pos) (tPT X.K (tOrF f g)):=PW.imp (pw_or ha hb) or_imp
theorem qt_not {a:Expr} {f:TF} {pos:Pos} (ha:PT X a (tPT X.K f)):PT X (.UnaryOp .Not a pos) (tPT X.K (tNotF f)):=PT.imp (pt_not ha) fun σ H Q q=>by
  obtain ⟨H0,Z0,ρ,pd,b,ρ',s,h,k⟩:=q
  unfold tNotF at h
  cases h1:f ρ with
  | none=>rw [h1] at h; cases h
  | some x=>
    rw [h1] at h
    cases h
    exact ⟨H0,Z0,ρ,pd,x.1,x.2,s,h1,fun H1 s1=>k H1 s1⟩
noncomputable def eAnd (f g:EF):EF:=fun ρ=>(f ρ).bind fun x=>match x.1.pv with
  | .bl true=>g x.2
  | .bl false=>some (.sh (.bl false),x.2)
  | _=>none
theorem qone {op} {a:Expr} {f:EF} {pos:Pos} (h:PE X a (tP X.K f)):PE X (.BoolOp op [a] pos) (tP X.K f):=pe_one h
theorem qand {a b:Expr} {rest:List Expr} {f g:EF} {pos:Pos} (ha:PE X a (tP X.K f)) (hb:PE X (.BoolOp .And (b::rest) pos) (tP X.K g)):PE X (.BoolOp .And (a::b::rest) pos) (tP X.K (eAnd f g)):=PE.imp (pe_and ha hb) fun σ H Q q=>by
  obtain ⟨H0,Z0,ρ,pd,b,ρ',s,h,k⟩:=q
  unfold eAnd at h
  cases h1:f ρ with
  | none=>rw [h1] at h; cases h
  | some x=>
    rw [h1,Option.bind_some] at h
    refine ⟨H0,Z0,ρ,pd,x.1,x.2,s,h1,fun v H1 s1=>?_⟩
    obtain ⟨_,r⟩:=s1.freeze.repH
    split at h
    · rename_i e
      rw [e] at r
      refine ⟨true,rep_bl_inv r,?_⟩
      rw [if_pos rfl]
      exact ⟨H0,Z0,x.2,pd,b,ρ',s1.pop,h,k⟩
    · rename_i e
      rw [e] at r
      refine ⟨false,rep_bl_inv r,?_⟩
      rw [if_neg Bool.false_ne_true]
      cases h
      exact k _ H1 (s1.pop.scal rep_bl)
    · cases h
end
section
variable {X:Cx}
noncomputable def sNil:SF:=fun ρ=>some (.nx ρ)
noncomputable def sSeq (f g:SF):SF:=fun ρ=>(f ρ).bind fun x=>match x with
  | .nx ρ'=>g ρ'
  | y=>some y
theorem qss_nil:PSs X [] (tPs X.K sNil):=PSs.imp pss_nil fun D σ H q=>by
  obtain ⟨H0,Z0,ρ,pd,fl,s,h,k⟩:=q
  cases h
  exact k σ H s
theorem qss_cons {st:Stmt} {rest:List Stmt} {f g:SF} (h1:PS X st (tPs X.K f)) (h2:PSs X rest (tPs X.K g)):PSs X (st::rest) (tPs X.K (sSeq f g)):=PSs.imp (pss_cons h1 h2) fun D σ H q=>by
  obtain ⟨H0,Z0,ρ,pd,fl,s,h,k⟩:=q
  unfold sSeq at h
  cases e:f ρ with
  | none=>rw [e] at h; cases h
  | some x=>
    rw [e,Option.bind_some] at h
    refine ⟨H0,Z0,ρ,pd,x,s,e,?_⟩
    cases x with
    | nx ρ'=>exact fun σ' H' s'=>⟨H0,Z0,ρ',pd,fl,s',h,k⟩
    | rt r ρ'=>cases h; exact k
    | bk ρ'=>cases h; exact k
    | ct ρ'=>cases h; exact k
theorem qss_one {st:Stmt} {f:SF} (h1:PS X st (tPs X.K f)):PSs X [st] (tPs X.K f):=pss_one h1
noncomputable def sExpr (f:EF):SF:=fun ρ=>(f ρ).map fun x=>.nx x.2
theorem map_some {α β:Type} {o:Option α} {f:α->β} {b:β} (h:o.map f=some b):∃ a,o=some a/\f a=b:=by
  cases o with
  | none=>cases h
  | some a=>exact ⟨a,rfl,Option.some.inj h⟩
theorem bind_some {α β:Type} {o:Option α} {f:α->Option β} {b:β} (h:o.bind f=some b):∃ a,o=some a/\f a=some b:=by
  cases o with
  | none=>cases h
  | some a=>exact ⟨a,rfl,h⟩
theorem qs_expr {e:Expr} {pos:Pos} {f:EF} (he:PE X e (tP X.K f)) (hs:swapsWith e none pos.line X.env=pure false:=by rfl):PS X (.Expr e pos) (tPs X.K (sExpr f)):=PS.imp (ps_expr he hs) fun D σ H q=>by
  obtain ⟨H0,Z0,ρ,pd,fl,s,h,k⟩:=q
  obtain ⟨x,h1,rfl⟩:=map_some h
  exact ⟨H0,Z0,ρ,pd,x.1,x.2,s,h1,fun v H' s'=>k σ H' s'.pop⟩
noncomputable def sRet (f:EF):SF:=fun ρ=>(f ρ).map fun x=>.rt x.1 x.2
theorem qs_ret {e:Expr} {pos:Pos} {f:EF} (he:PE X e (tP X.K f)):PS X (.Return (some e) pos) (tPs X.K (sRet f)):=PS.imp (ps_ret he) fun D σ H q=>by
  obtain ⟨H0,Z0,ρ,pd,fl,s,h,k⟩:=q
  obtain ⟨x,h1,rfl⟩:=map_some h
  exact ⟨H0,Z0,ρ,pd,x.1,x.2,s,h1,fun v H' s'=>k v σ H' s'⟩
noncomputable def sRetV (i:Nat):SF:=fun ρ=>match ρ.vs[i]? with
  | some (some l)=>some (.rt l (ρ.set i none))
  | _=>none
theorem qs_retV {i:Nat} {e:Expr} {pos:Pos} (he:PE X e (tVar i)):PS X (.Return (some e) pos) (tPs X.K (sRetV i)):=PS.imp (ps_ret he) fun D σ H q=>by
  obtain ⟨H0,Z0,ρ,pd,fl,s,h,k⟩:=q
  unfold sRetV at h
  split at h
  · rename_i l e1
    cases h
    obtain ⟨v,h1,h2⟩:=s.take e1
    exact ⟨v,h1,k v σ H h2⟩
  · cases h
noncomputable def sIf (c:TF) (f g:SF):SF:=fun ρ=>(c ρ).bind fun x=>if x.1=true then f x.2 else g x.2
theorem qs_if {c:Expr} {a b:List Stmt} {fc:TF} {f g:SF} {pos:Pos} (hc:PT X c (tPT X.K fc)) (ha:PSs X a (tPs X.K f)) (hb:PSs X b (tPs X.K g)):PS X (.If c a b pos) (tPs X.K (sIf fc f g)):=PS.imp (ps_if hc ha hb) fun D σ H q=>by
  obtain ⟨H0,Z0,ρ,pd,fl,s,h,k⟩:=q
  obtain ⟨x,h1,h2⟩:=bind_some h
  refine ⟨H0,Z0,ρ,pd,x.1,x.2,s,h1,fun H1 s1=>?_⟩
  dsimp only
  split
  · rename_i c; rw [if_pos c] at h2; exact ⟨H0,Z0,x.2,pd,fl,s1,h2,k⟩
  · rename_i c; rw [if_neg c] at h2; exact ⟨H0,Z0,x.2,pd,fl,s1,h2,k⟩
noncomputable def sSet (i:Nat) (f:EF):SF:=fun ρ=>(f ρ).bind fun x=>if i < x.2.vs.length then some (.nx (x.2.set i (some x.1))) else none
theorem set_imp {i:Nat} {f:EF} {t:TS} (h:∀ D σ H,(tP X.K f σ H fun v H1=>D.nx (σ.set i (some v)) H1)->t D σ H):∀ D σ H,tPs X.K (sSet i f) D σ H->t D σ H:=fun D σ H q=>by
  obtain ⟨H0,Z0,ρ,pd,fl,s,h',k⟩:=q
  obtain ⟨x,h1,h2⟩:=bind_some h'
  split at h2
  · rename_i hl
    cases h2
    exact h D σ H ⟨H0,Z0,ρ,pd,x.1,x.2,s,h1,fun v H1 s1=>k _ _ (s1.store hl)⟩
  · cases h2
theorem qs_set {i:Nat} {x:Str} {e:Expr} {pos pos':Pos} {f:EF} (hN:X.N.Nodup) (hi:X.N[i]?=some x) (hx:L2.Loc X.env.scope x) (he:PE X e (tP X.K f)) (hs:swapsWith e (some (.Name x pos')) pos.line X.env=pure false:=by rfl) (hf:X.fn x=true\/X.env.scope.names.lookup x=some .local:=by first | exact .inl rfl | exact .inr rfl | assumption):
    PS X (.Assign [.Name x pos'] e pos) (tPs X.K (sSet i f)):=PS.imp (ps_set hN hi hx he hs hf) (set_imp fun D σ H q=>q)
noncomputable abbrev GF:=List PV->Mu->Option (Lc × Mu)
noncomputable def offg (H:Hp) (g:List Addr):Hp:=fun b=>if b ∈ g then none else H b
theorem offg_of {H:Hp} {g:List Addr} {b:Addr} {o:HO} (h:offg H g b=some o):H b=some o/\b ∉ g:=by
  unfold offg at h
  split at h
  · cases h
  · rename_i q; exact ⟨h,q⟩
theorem offg_mem {H:Hp} {g:List Addr} {b:Addr} (h:b ∈ g):offg H g b=none:=by unfold offg; rw [if_pos h]
theorem offg_not {H:Hp} {g:List Addr} {b:Addr} (h:b ∉ g):offg H g b=H b:=by unfold offg; rw [if_neg h]
noncomputable def ResR (K:FG) (H:Hp) (Z:ZG) (g:List Addr) (H':Hp) (mu':Mu) (v:V) (r:Lc):Prop:=∃ Z',mu'.length=Z'.g.length/\ZOk (offg H g) Z Z' H'/\Slots K (offg H g) Z' H' ((some v,some r)::cel Z'.g mu')
noncomputable def spP (K:FG) (n:Nat) (g:GF):Sp:=fun vs H Q _=>∃ (Z:ZG) (ps:List PV) (mu:Mu) (r:Lc) (mu':Mu),vs.length=n/\mu.length=Z.g.length/\Same Z.z H/\RepL K Z ps vs/\Slots K (offg H (usd Z.g mu)) Z H (cel Z.g mu)/\g ps mu=some (r,mu')/\∀ v H',ResR K H Z (usd Z.g mu) H' mu' v r->Q v H'
noncomputable def eCall (g:GF) (a:AF):EF:=fun ρ=>(a ρ).bind fun y=>(g (y.1.map Lc.pv) y.2.mu).map fun r=>(r.1,⟨y.2.vs,r.2⟩)
theorem cel_mem {g:List Addr} {mu:Mu} {e:Option V × Option Lc} (he:e ∈ cel g mu):∃ a,e.1=some (.ref a)/\(e.2=none\/∃ p,e.2=some (.own p)):=by
  unfold cel at he
  obtain ⟨v,l⟩:=e
  obtain ⟨h1,h2⟩:=List.of_mem_zip he
  obtain ⟨a,_,e1⟩:=List.mem_map.mp h1
  obtain ⟨o,_,e2⟩:=List.mem_map.mp h2
  refine ⟨a,e1.symm,?_⟩
  cases o with
  | none=>exact .inl e2.symm
  | some p=>exact .inr ⟨p,e2.symm⟩
theorem Slots.cells {Z:ZG} (hg:ρ.mu.length=Z.g.length) (s:Slots K H0 Z H (sl Z.g σ ρ pd)):Slots K (offg H (usd Z.g ρ.mu)) Z H (cel Z.g ρ.mu):=by
  have s1:Slots K H0 Z H (cel Z.g ρ.mu):=s.sub (List.sublist_append_left _ _)
  refine ⟨fun e he=>?_,s1.2⟩
  obtain ⟨a,h1,h2⟩:=cel_mem he
  obtain ⟨v,l⟩:=e
  have h1':v=some (.ref a):=h1
  subst h1'
  rcases h2 with h2 | ⟨p,h2⟩
  · have h2':l=none:=h2
    subst h2'; trivial
  · have h2':l=some (.own p):=h2
    subst h2'
    obtain ⟨b,e1,e2,e3,e4⟩:=s1.1 _ he
    cases e1
    exact ⟨a,rfl,e2,e3,offg_mem (List.mem_filterMap.mpr ⟨_,he,rfl⟩)⟩
theorem SR.called {H0 H H':Hp} {Z0 Z:ZG} {v:V} {r:Lc} {mu':Mu} (el:σ.length=ρ.vs.length) (hg:ρ.mu.length=Z.g.length) (z:ZOk H0 Z0 Z H) (s:Slots K H0 Z H (sl Z.g σ ρ pd)) (h:ResR K H Z (usd Z.g ρ.mu) H' mu' v r):SR K H0 Z0 σ H' ⟨ρ.vs,mu'⟩ ((v,r)::pd):=by
  obtain ⟨Z',hg',z',q⟩:=h
  have s1:Slots K H0 Z H (cel Z.g ρ.mu):=s.sub (List.sublist_append_left _ _)
  have s0:Slots K H0 Z H (σ.zip ρ.vs++pd.map fun e=>(some e.1,some e.2)):=s.sub (List.sublist_append_right _ _)
  have nd:(usd Z.g ρ.mu++(σ.zip ρ.vs++pd.map fun e=>(some e.1,some e.2)).filterMap oad).Nodup:=by
    have:=s.2
    unfold sl at this
    rw [List.filterMap_append] at this
    exact this
  have hc0:∀ a ∈ usd Z.g ρ.mu,H0 a=none:=fun a ha=>by
    obtain ⟨e,he,hb⟩:=List.mem_filterMap.mp ha
    exact (own_of s1 he hb).2.1
  have h0:Same H0 (offg H (usd Z.g ρ.mu)):=fun b o e=>by
    rw [offg_not fun hm=>by rw [hc0 b hm] at e; cases e]
    exact z.h0 b o e
  have z2:ZOk H0 Z0 Z' H':=⟨z'.zh,h0.trans z'.h0,z.z0.trans z'.z0,fun b o e=>by
    rcases z'.new b o e with e | e | e
    · exact z.new b o e
    · exact .inr (.inl (h0.free e))
    · exact .inr (.inr e)⟩
  have nog:∀ e ∈ (σ.zip ρ.vs++pd.map fun e=>((some e.1:Option V),(some e.2:Option Lc))),∀ a,oad e=some a->a ∉ usd Z.g ρ.mu/\offg H (usd Z.g ρ.mu) a=H a:=fun e he a ha=>by
    have hn:a ∉ usd Z.g ρ.mu:=fun hm=>(List.nodup_append.mp nd).2.2 a hm a (List.mem_filterMap.mpr ⟨e,he,ha⟩) rfl
    exact ⟨hn,offg_not hn⟩
  have hk:∀ e ∈ (σ.zip ρ.vs++pd.map fun e=>((some e.1:Option V),(some e.2:Option Lc))),∀ a,oad e=some a->H' a=H a/\Z'.z a=none:=fun e he a ha=>by
    obtain ⟨h1,h2,o,h3,h4⟩:=own_of s0 he ha
    obtain ⟨hn,ho⟩:=nog e he a ha
    have h5:=z'.h0 a o (by rw [ho]; exact h3)
    refine ⟨by rw [h3]; exact h5,?_⟩
    cases q:Z'.z a with
    | none=>rfl
    | some u=>
      rcases z'.new a u q with e | e | e
      · rw [h1] at e; cases e
      · rw [ho,h3] at e; cases e
      · have:=z'.zh a u q
        rw [h5] at this; cases this
        exact (h4 e).elim
  have s2:=s0.step z'.z0 hk
  have q':Slots K H0 Z' H' ((some v,some r)::cel Z'.g mu'):=by
    refine ⟨fun e he=>?_,q.2⟩
    have:=q.1 e he
    obtain ⟨w,l⟩:=e
    cases l with
    | none=>trivial
    | some l=>
      cases l with
      | sh p=>exact this
      | own p=>obtain ⟨a,e1,e2,e3,e4⟩:=this; exact ⟨a,e1,e2,e3,h0.free e4⟩
  have dis:∀ e ∈ ((some v,some r)::cel Z'.g mu'),∀ a,oad e=some a->∀ e' ∈ (σ.zip ρ.vs++pd.map fun e=>((some e.1:Option V),(some e.2:Option Lc))),oad e' ≠ some a:=fun e he a ha e' he' ha'=>by
    obtain ⟨_,h2,_⟩:=own_of q he ha
    obtain ⟨_,_,o,h3,_⟩:=own_of s0 he' ha'
    rw [(nog e' he' a ha').2,h3] at h2; cases h2
  refine .mk (Z:=Z') el hg' z2 ?_
  refine ⟨fun e he=>?_,?_⟩
  · rcases List.mem_cons.mp he with rfl | he
    · exact q'.1 _ List.mem_cons_self
    · rcases List.mem_append.mp he with he | he
      · exact q'.1 _ (List.mem_cons_of_mem _ he)
      · exact s2.1 e he
  · show (((some v,some r)::(cel Z'.g mu'++(σ.zip ρ.vs++pd.map fun e=>(some e.1,some e.2)))).filterMap oad).Nodup
    rw [← List.cons_append,List.filterMap_append]
    refine List.nodup_append.mpr ⟨q'.2,s2.2,fun a ha b hb e=>?_⟩
    subst e
    obtain ⟨e1,he1,h1⟩:=List.mem_filterMap.mp ha
    obtain ⟨e2,he2,h2⟩:=List.mem_filterMap.mp hb
    exact dis e1 he1 a h1 e2 he2 h2
theorem call_imp {n:Nat} {g:GF} {a:AF} {E:XK}:∀ σ H Q,(∃ H0 Z0 ρ pd r ρ',SR X.K H0 Z0 σ H ρ pd/\eCall g a ρ=some (r,ρ')/\(∀ ls ρ1,a ρ=some (ls,ρ1)->ls.length=n)/\∀ v H',SR X.K H0 Z0 σ H' ρ' ((v,r)::pd)->Q v H')->tCall (spP X.K n g) [] E (tPA X.K a) σ H Q:=fun σ H Q q=>by
  obtain ⟨H0,Z0,ρ,pd,r,ρ',s,h,hn,k⟩:=q
  obtain ⟨y,h1,h2⟩:=bind_some h
  obtain ⟨r',h3,h4⟩:=map_some h2
  cases h4
  refine ⟨H0,Z0,ρ,pd,y.1,y.2,s,h1,fun vs H2 e2 s2=>?_⟩
  obtain ⟨el,Z,hg,z,rl,sl'⟩:=s2.repl e2
  refine ⟨Z,y.1.map Lc.pv,y.2.mu,_,_,?_,hg,z.zh,?_,sl'.cells hg,h3,fun v H' rr=>k v H' (SR.called el hg z sl' rr)⟩
  · rw [List.append_nil,e2]; exact hn _ _ h1
  · rw [List.append_nil]; exact rl
end
section
variable {P:Program} {w:World} {K:FG} {mg:Str->Option Value} {base:Heap}
noncomputable def DefAt (K:FG) (mg:Str->Option Value) (x:Str) (st:Stmt) (ps:List Str):Prop:=∃ f fd,Fun K x x st f fd/\mg x=some (.ref f)/\Binds K fd ps []
noncomputable def DefOk (P:Program) (w:World) (K:FG) (mg:Str->Option Value) (base:Heap) (x:Str) (k:Nat) (ps:List Str) (sp:Sp):Prop:=∃ f fd,FnOk P w K mg base CX0 k f fd ps sp/\mg x=some (.ref f)/\PySem.W.keepIn K (.ref f)=true/\Binds K fd ps []
noncomputable def env0 (n:Nat) (ps:List PV) (mu:Mu):Ev:=⟨ps.map (fun p=>some (Lc.sh p))++List.replicate (n - ps.length) none,mu⟩
noncomputable def runP (n:Nat) (g:SF):GF:=fun ps mu=>(g (env0 n ps mu)).bind fun x=>match x with
  | .rt r ρ=>some (r,ρ.mu)
  | .nx ρ=>some (.sh .non,ρ.mu)
  | _=>none
theorem vr_list {Z:ZG} {L:Sl} (s:Slots K H0 Z H L):∀ {ps:List PV} {vs:List V},RepL K Z ps vs->Slots K H0 Z H ((vs.map some).zip (ps.map fun p=>some (Lc.sh p))++L)
  | [],vs,h=>by have:=h.inv0; subst this; simpa using s
  | p::ps,vs,h=>by
    obtain ⟨v,r,rfl,h1,h2⟩:=h.inv
    exact (vr_list s h2).consS h1
theorem nones {Z:ZG} {L:Sl} (s:Slots K H0 Z H L):∀ n:Nat,Slots K H0 Z H ((List.replicate n (none:Option V)).zip (List.replicate n (none:Option Lc))++L)
  | 0=>s
  | n + 1=>by
    rw [List.replicate_succ,List.replicate_succ,List.zip_cons_cons,List.cons_append]
    have ih:=nones s n
    refine ⟨fun e he=>?_,?_⟩
    · rcases List.mem_cons.mp he with rfl | he
      · trivial
      · exact ih.1 e he
    · rw [List.filterMap_cons_none rfl]; exact ih.2
theorem sr_start {H:Hp} {Z:ZG} {ps:List PV} {mu:Mu} {vs:List V} {N:List Str} (hg:mu.length=Z.g.length) (z:Same Z.z H) (r:RepL K Z ps vs) (c:Slots K (offg H (usd Z.g mu)) Z H (cel Z.g mu)):SR K (offg H (usd Z.g mu)) Z (L2.start N vs) H (env0 N.length ps mu) []:=by
  have hl:=r.length
  refine ⟨by simp [L2.start,env0,hl],Z,hg,⟨z,fun b o e=>(offg_of e).1,ZLe.refl _,fun b o e=>.inl e⟩,?_⟩
  unfold sl L2.start env0
  rw [List.zip_append (by simp [hl]),List.map_nil,List.append_nil,hl]
  exact (vr_list (nones c _) r).perm ((List.perm_append_comm).trans (by rw [List.append_assoc]))
theorem DefAt.ok {x:Str} {st:Stmt} {N ps:List Str} {k:Nat} {g:GF} (F:DefAt K mg x st ps) (S:FnScope N ps (defScope st))
    (h:∀ (f:Addr) (cdv:Value) (A:Around) (outer:List PySem.Env) (s:Shared) (H:Hp) (E:XK),Room k (A.deeper (envOfC x (defScope st) s.heap.objs.size f cdv))->
      ∃ g':SF,(∀ a mu,g a mu=runP N.length g' a mu)/\PSs (cxOf CX0 P w K mg base N x (defScope st) f cdv A outer s H E).nox (defBody st) (tPs K g')):DefOk P w K mg base x (k + 1) ps (spP K ps.length g):=by
  obtain ⟨f,fd,F,hm,hb⟩:=F
  refine ⟨f,fd,F.ok S (fun vs H Q E q=>?_) (fun cdv A outer s H vs Q E hr q=>?_),hm,F.kp,hb⟩
  · obtain ⟨Z,qs,mu,r,mu',e,_⟩:=q; exact e
  · obtain ⟨g',eg,b⟩:=h f cdv A outer s H E hr
    obtain ⟨Z,qs,mu,r,mu',e,hg,z,rl,c,hr',kk⟩:=q
    rw [eg] at hr'
    obtain ⟨fl,h1,h2⟩:=bind_some hr'
    refine ⟨_,b,offg H (usd Z.g mu),Z,_,[],fl,sr_start hg z rl c,h1,?_⟩
    cases fl with
    | rt r' ρ'=>
      cases h2
      intro v σ' H' s'
      obtain ⟨el,Z',hg',z',s''⟩:=s'.top
      refine kk v H' ⟨Z',hg',z',s''.sub ?_⟩
      exact (List.sublist_append_left _ _).cons_cons _
    | nx ρ'=>
      cases h2
      intro σ' H' s'
      obtain ⟨el,Z',hg',z',s''⟩:=s'
      exact kk .non H' ⟨Z',hg',z',(s''.sub (List.sublist_append_left _ _)).consS (rep_non _)⟩
    | bk ρ'=>cases h2
    | ct ρ'=>cases h2
end
section
variable {X:Cx}
theorem qcall {x:Str} {k:Nat} {ps:List Str} {g:GF} {e:Expr} {es:List Expr} {a:AF} {p pos:Pos} (D:DefOk X.prog X.w X.K X.mg X.base x k ps (spP X.K ps.length g)) (hr:Room k X.A) (hg:Gl X x)
    (ha:PA X (e::es) (tPA X.K a)) (hn:∀ ρ ls ρ1,a ρ=some (ls,ρ1)->ls.length=ps.length) (hdb:(x == ("__debug__" : Str))=false:=by decide) (he:starEach (e::es) X.env=(false,eval e X.env)::starEach es X.env:=by rfl) (hpl:(backTo pos (starEach es X.env)).any (·.1)=false:=by rfl):PE X (.Call (.Name x p) (e::es) [] pos) (tP X.K (eCall g a)):=by
  obtain ⟨f,fd,F,hm,hk,hb⟩:=D
  refine PE.imp (pe_call (E:=E0) F hr hg hm hk hb .nil pass0 ha hdb he hpl) fun σ H Q q=>?_
  obtain ⟨H0,Z0,ρ,pd,r,ρ',s,h,kk⟩:=q
  exact call_imp σ H Q ⟨H0,Z0,ρ,pd,r,ρ',s,h,fun ls ρ1 e=>hn ρ ls ρ1 e,kk⟩
end
section
variable {X:Cx}
section
variable {K:FG} {H0 H H':Hp} {Z0 Z:ZG} {σ:L2.St} {ρ:Ev} {pd pd':Pd} {v w:V} {l:Lc} {p:PV}
theorem SR.sub (h:SR K H0 Z0 σ H ρ pd') (q:List.Sublist pd pd'):SR K H0 Z0 σ H ρ pd:=
  let ⟨e,Z,hg,z,s⟩:=h
  ⟨e,Z,hg,z,s.sub ((List.Sublist.refl _).append ((List.Sublist.refl _).append (q.map _)))⟩
theorem SR.dup (h:SR K H0 Z0 σ H ρ ((v,.sh p)::pd)):SR K H0 Z0 σ H ρ ((v,.sh p)::(v,.sh p)::pd):=by
  obtain ⟨e,Z,hg,z,s⟩:=h.top
  obtain ⟨x,e1,e2⟩:=s.1 _ List.mem_cons_self
  cases e1
  exact .mk e hg z ((s.perm sl_cons).consS e2)
theorem SR.part {u:V} {q:PV} (h:SR K H0 Z0 σ H ρ ((v,.sh p)::pd)) (k:∀ Z:ZG,Same Z.z H->Rep K Z p v->Rep K Z q u):SR K H0 Z0 σ H ρ ((u,.sh q)::(v,.sh p)::pd):=by
  obtain ⟨e,Z,hg,z,s⟩:=h.top
  obtain ⟨x,e1,e2⟩:=s.1 _ List.mem_cons_self
  cases e1
  exact .mk e hg z ((s.perm sl_cons).consS (k Z z.zh e2))
end
noncomputable abbrev BF:=PV->Ev->Option Ev
noncomputable def GS (K:FG) (g:TG) (b:BF):Prop:=∀ H0 Z0 σ H ρ pd v p ρ' Q,SR K H0 Z0 σ H ρ ((v,.sh p)::pd)->b p ρ=some ρ'->(∀ σ',SR K H0 Z0 σ' H ρ' pd->Q σ' H)->g v σ H Q
noncomputable abbrev BFs:=List PV->Ev->Option Ev
noncomputable def GSs (K:FG) (g:TGs) (b:BFs):Prop:=∀ H0 Z0 σ H ρ pd vs ps ρ' Q,vs.length=ps.length->SR K H0 Z0 σ H ρ (vs.zip (ps.map Lc.sh)++pd)->b ps ρ=some ρ'->(∀ σ',SR K H0 Z0 σ' H ρ' pd->Q σ' H)->g vs σ H Q
noncomputable def bName (i:Nat):BF:=fun p ρ=>if i < ρ.vs.length then some (ρ.set i (some (.sh p))) else none
theorem gs_name {i:Nat}:GS K (gName i) (bName i):=by
  intro H0 Z0 σ H ρ pd v p ρ' Q s h k
  unfold bName at h
  split at h
  · rename_i hl; cases h; exact k _ (s.store hl)
  · cases h
noncomputable def bNil:BFs:=fun ps ρ=>match ps with
  | []=>some ρ
  | _=>none
noncomputable def bCons (b:BF) (bs:BFs):BFs:=fun ps ρ=>match ps with
  | p::r=>(b p ρ).bind fun ρ1=>bs r ρ1
  | []=>none
theorem gs_nil:GSs K gNil bNil:=by
  intro H0 Z0 σ H ρ pd vs ps ρ' Q e s h k
  cases ps with
  | nil=>
    cases h
    have:vs=[]:=List.eq_nil_of_length_eq_zero (by simpa using e)
    subst this
    exact ⟨rfl,k σ s⟩
  | cons p r=>cases h
theorem gs_cons {t:TG} {u:TGs} {b:BF} {bs:BFs} (h1:GS K t b) (h2:GSs K u bs):GSs K (gCons t u) (bCons b bs):=by
  intro H0 Z0 σ H ρ pd vs ps ρ' Q e s h k
  cases ps with
  | nil=>cases h
  | cons p r=>
    cases vs with
    | nil=>simp at e
    | cons v ws=>
      obtain ⟨ρ1,e1,e2⟩:=bind_some h
      refine ⟨v,ws,rfl,h1 H0 Z0 σ H ρ _ v p ρ1 _ s e1 fun σ' s'=>?_⟩
      exact h2 H0 Z0 σ' H ρ1 pd ws r ρ' Q (by simpa using e) s' e2 k
theorem zip_sh {Z:ZG} {L:Sl} (s:Slots K H0 Z H L):∀ {ps:List PV} {vs:List V},RepL K Z ps vs->Slots K H0 Z H ((vs.zip (ps.map Lc.sh)).map (fun e=>(some e.1,some e.2))++L)
  | [],vs,h=>by have:=h.inv0; subst this; simpa using s
  | p::ps,vs,h=>by
    obtain ⟨v,r,rfl,h1,h2⟩:=h.inv
    exact (zip_sh s h2).consS h1
theorem SR.items {Z0 Z:ZG} {vs:List V} {ps:List PV} (e:σ.length=ρ.vs.length) (hg:ρ.mu.length=Z.g.length) (z:ZOk H0 Z0 Z H) (r:RepL K Z ps vs) (s:Slots K H0 Z H (sl Z.g σ ρ pd)):SR K H0 Z0 σ H ρ (vs.zip (ps.map Lc.sh)++pd):=
  ⟨e,Z,hg,z,(zip_sh s r).perm sl_app⟩
noncomputable def sAsg (f:EF) (b:BF):SF:=fun ρ=>(f ρ).bind fun x=>(b x.1.pv x.2).map Fl.nx
theorem qs_asg {tg e:Expr} {f:EF} {g:TG} {b:BF} {pos:Pos} (he:PE X e (tP X.K f)) (hg:PG X tg g) (hb:GS X.K g b) (hs:swapsWithSole [tg] e pos.line X.env=pure false:=by rfl) (hw:swappedStores [tg] e X.env=pure none:=by rfl)
    (h1:(assignEach [tg] X.env).map (·.2)=[assign tg X.env]:=by rfl):PS X (.Assign [tg] e pos) (tPs X.K (sAsg f b)):=PS.imp (ps_asg he hg hs hw h1) fun D σ H q=>by
  obtain ⟨H0,Z0,ρ,pd,fl,s,h,k⟩:=q
  obtain ⟨x,h1,h2⟩:=bind_some h
  obtain ⟨ρ',h3,rfl⟩:=map_some h2
  exact ⟨H0,Z0,ρ,pd,x.1,x.2,s,h1,fun v H1 s1=>hb H0 Z0 σ H1 x.2 pd v _ ρ' D.nx s1.freeze h3 fun σ' s'=>k σ' H1 s'⟩
noncomputable def sPar (i j:Nat) (a:AF):SF:=fun ρ=>(a ρ).bind fun y=>match y.1 with
  | [l,m]=>if i < y.2.vs.length/\j < y.2.vs.length then some (.nx ((y.2.set i (some l)).set j (some m))) else none
  | _=>none
noncomputable def ItOk (K:FG) (H0:Hp) (Z0:ZG) (pd:Pd) (J:It) (xs:List PV):Prop:=∀ σ H ρ (i:Nat),SR K H0 Z0 σ H ρ pd->
  (∀ x,xs[i]?=some x->J.go i H/\∀ v H',J.yld i H v H'->SR K H0 Z0 σ H' ρ ((v,.sh x)::pd))/\(i=xs.length->J.stop i H)
noncomputable abbrev IF:=Ev->Option (List PV × Ev)
noncomputable def tPI (K:FG) (f:IF):TI:=fun σ H R=>∃ H0 Z0 ρ pd xs ρ',SR K H0 Z0 σ H ρ pd/\f ρ=some (xs,ρ')/\∀ J H' pd',SR K H0 Z0 σ H' ρ' pd'->ItOk K H0 Z0 pd' J xs->List.Sublist pd pd'->R J H'
theorem PI.imp {tg iter:Expr} {t t':TI} (h:PI X tg iter t) (i:∀ σ H R,t' σ H R->t σ H R):PI X tg iter t':=fun pins s σ H R I q=>h pins s σ H R I (i σ H R q)
noncomputable def iOf (f:EF) (g:PV->Option (List PV)):IF:=fun ρ=>(f ρ).bind fun x=>(g x.1.pv).map fun xs=>(xs,x.2)
theorem itok_list {H0:Hp} {a:Addr} {ps:List PV}:ItOk K H0 Z0 ((.ref a,.sh (.lst ps))::pd) (Itl K a) ps:=by
  intro σ H ρ i s
  obtain ⟨Z,z,r⟩:=s.rep
  unfold Rep at r
  obtain ⟨b,vs,e,h1,h2⟩:=r
  cases e
  have hq:=SqL.same z h1
  refine ⟨fun x hx=>?_,fun hl=>⟨vs,hq,by rw [h2.length]; omega⟩⟩
  obtain ⟨v,hv,rv⟩:=h2.get hx
  refine ⟨⟨vs,v,hq,hv⟩,fun v' H' y=>?_⟩
  obtain ⟨e',y⟩:=y
  subst e'
  have:=y vs hq
  rw [hv] at this; cases this
  refine s.part fun Z' z' r'=>?_
  unfold Rep at r'
  obtain ⟨b',vs',e',h1',h2'⟩:=r'
  cases e'
  have:vs'[i]?=some v:=y vs' (SqL.same z' h1')
  obtain ⟨p',hp',rp'⟩:=h2'.getV this
  rw [hx] at hp'; cases hp'
  exact rp'
theorem itok_tup {H0:Hp} {a:Addr} {ps:List PV}:ItOk K H0 Z0 ((.ref a,.sh (.tup ps))::pd) (Itt K a) ps:=by
  intro σ H ρ i s
  obtain ⟨Z,z,r⟩:=s.rep
  unfold Rep at r
  obtain ⟨b,vs,e,h1,h2⟩:=r
  cases e
  have hq:=SqT.same z h1
  refine ⟨fun x hx=>?_,fun hl=>⟨vs,hq,by rw [h2.length]; omega⟩⟩
  obtain ⟨v,hv,rv⟩:=h2.get hx
  refine ⟨⟨vs,v,hq,hv⟩,fun v' H' y=>?_⟩
  obtain ⟨e',y⟩:=y
  subst e'
  have:=y vs hq
  rw [hv] at this; cases this
  refine s.part fun Z' z' r'=>?_
  unfold Rep at r'
  obtain ⟨b',vs',e',h1',h2'⟩:=r'
  cases e'
  have:vs'[i]?=some v:=y vs' (SqT.same z' h1')
  obtain ⟨p',hp',rp'⟩:=h2'.getV this
  rw [hx] at hp'; cases hp'
  exact rp'
noncomputable def rngP (lo:Int) (n:Nat):List PV:=(List.range n).map fun i=>.int (lo + (i:Nat))
noncomputable def iRange1 (a:AF):IF:=fun ρ=>(a ρ).bind fun y=>match y.1.map Lc.pv with
  | [.int j]=>if -(2 ^ 62)<=j/\j < 2 ^ 62 then some (rngP 0 j.toNat,y.2) else none
  | _=>none
theorem itok_rng {H0:Hp} {lo:Int} {n:Nat}:ItOk K H0 Z0 pd (Itr lo n) (rngP lo n):=by
  intro σ H ρ i s
  refine ⟨fun x hx=>?_,fun hl=>?_⟩
  · have hi:i < n:=by
      have:=(List.getElem?_eq_some_iff.mp hx).1
      simpa [rngP] using this
    refine ⟨hi,fun v H' y=>?_⟩
    obtain ⟨rfl,rfl⟩:=y
    unfold rngP at hx
    rw [List.getElem?_map,List.getElem?_range hi] at hx
    cases hx
    exact s.scal rep_int
  · show n<=i
    simp [rngP] at hl
    omega
theorem SR.ints {vs:List V} {ls:List Lc} {ns:List Int} (s:SR K H0 Z0 σ H ρ (vs.zip ls++pd)) (e:vs.length=ls.length) (h:ls.map Lc.pv=ns.map PV.int):vs=ns.map V.int/\SR K H0 Z0 σ H ρ pd:=by
  obtain ⟨el,Z,hg,z,r,sl'⟩:=s.repl e
  refine ⟨?_,el,Z,hg,z,sl'⟩
  rw [h] at r
  clear h e s sl'
  induction ns generalizing vs with
  | nil=>exact r.inv0
  | cons n ns ih=>
    obtain ⟨v,w,rfl,h1,h2⟩:=r.inv
    rw [rep_int_inv h1,ih h2]
    rfl
theorem qi_range1 {tg a:Expr} {f:AF} {p pos:Pos} (hg:Gl X "range") (hm:X.mg "range" = none) (ha:PA X [a] (tPA X.K f)) (hs:starEach [a] X.env=[(false,eval a X.env)]:=by rfl):PI X tg (.Call (.Name "range" p) [a] [] pos) (tPI X.K (iRange1 f)):=PI.imp (pi_range1 hg hm ha hs) fun σ H R q=>by
  obtain ⟨H0,Z0,ρ,pd,xs,ρ',s,h,k⟩:=q
  obtain ⟨y,h1,h2⟩:=bind_some h
  refine ⟨H0,Z0,ρ,pd,y.1,y.2,s,h1,fun vs H1 e1 s1=>?_⟩
  split at h2
  · rename_i j e
    split at h2
    · rename_i hj
      cases h2
      obtain ⟨rfl,s2⟩:=s1.ints (ns:=[j]) e1 e
      exact ⟨j,rfl,hj.1,hj.2,k _ _ _ s2 itok_rng (List.Sublist.refl _)⟩
    · cases h2
  · cases h2
noncomputable def forP (b:BF) (body:SF):List PV->SF
  | [],ρ=>some (.nx ρ)
  | x::xs,ρ=>(b x ρ).bind fun ρ1=>(body ρ1).bind fun fl=>match fl with
    | .nx ρ'=>forP b body xs ρ'
    | .ct ρ'=>forP b body xs ρ'
    | .bk ρ'=>some (.nx ρ')
    | .rt r ρ'=>some (.rt r ρ')
noncomputable def sFor (f:IF) (b:BF) (body:SF):SF:=fun ρ=>(f ρ).bind fun y=>forP b body y.1 y.2
theorem cpsP {P:Prop} (h:∀ G:Prop,(P->G)->G):P:=h P id
noncomputable def FW (K:FG) (H0:Hp) (Z0:ZG) (pd:Pd) (b:BF) (fb:SF) (xs:List PV) (fl:Fl) (i m:Nat) (σ:L2.St) (H:Hp):Prop:=m=xs.length - i/\i<=xs.length/\∃ ρ,SR K H0 Z0 σ H ρ pd/\forP b fb (xs.drop i) ρ=some fl
theorem for_core {g:TG} {b:BF} {fb:SF} (hb:GS K g b) {J:It} {xs:List PV} {fl:Fl} {D:Ends} (it:ItOk K H0 Z0 pd J xs) (k:FlOk K H0 Z0 pd D fl) (s:SR K H0 Z0 σ H ρ pd) (h:forP b fb xs ρ=some fl):
    ∃ W:Nat->Nat->L2.St->Hp->Prop,(∃ m,W 0 m σ H)/\∀ i m σ H,W i m σ H->
      (J.stop i H/\D.nx σ H)\/(J.go i H/\∃ N:L2.St->Hp->Prop,(∀ σ' H',N σ' H'->∃ m',m' < m/\W (i + 1) m' σ' H')/\∀ x H',J.yld i H x H'->g x σ H' fun σ2 H2=>tPs K fb { D with nx:=N,ct:=N,bk:=D.nx } σ2 H2):=by
  refine ⟨FW K H0 Z0 pd b fb xs fl,⟨_,rfl,Nat.zero_le _,ρ,s,h⟩,fun i m σ' H' w=>?_⟩
  refine cpsP fun G kG=>?_
  obtain ⟨rfl,hi,ρ',s',h'⟩:=w
  obtain ⟨i1,i2⟩:=it σ' H' ρ' i s'
  by_cases hlt:i < xs.length
  · obtain ⟨go,yl⟩:=i1 _ (List.getElem?_eq_getElem hlt)
    rw [List.drop_eq_getElem_cons hlt] at h'
    obtain ⟨ρ1,e1,e2⟩:=bind_some h'
    obtain ⟨fl1,e3,e4⟩:=bind_some e2
    refine kG (.inr ⟨go,fun σ'' H''=>FW K H0 Z0 pd b fb xs fl (i + 1) (xs.length - (i + 1)) σ'' H'',fun σ'' H'' w=>⟨_,by omega,w⟩,fun x H2 hy=>hb H0 Z0 σ' H2 ρ' pd x _ ρ1 _ (yl x H2 hy) e1 fun σ2 s2=>⟨H0,Z0,ρ1,pd,fl1,s2,e3,?_⟩⟩)
    cases fl1 with
    | nx ρ2=>exact fun σ3 H3 s3=>⟨rfl,hlt,ρ2,s3,e4⟩
    | ct ρ2=>exact fun σ3 H3 s3=>⟨rfl,hlt,ρ2,s3,e4⟩
    | bk ρ2=>cases e4; exact k
    | rt r ρ2=>cases e4; exact k
  · have e:i=xs.length:=Nat.le_antisymm hi (Nat.le_of_not_lt hlt)
    subst e
    rw [List.drop_length] at h'
    cases h'
    exact kG (.inl ⟨i2 rfl,k σ' H' s'⟩)
theorem FlOk.imp {H0:Hp} {Z0 Z₁:ZG} {pd pd':Pd} {D:Ends} {fl:Fl} (k:FlOk K H0 Z0 pd D fl) (w:∀ {τ:L2.St} {J:Hp} {q:Ev},SR K H0 Z₁ τ J q pd'->SR K H0 Z0 τ J q pd) (w':∀ {τ:L2.St} {J:Hp} {q:Ev} {e:V × Lc},SR K H0 Z₁ τ J q (e::pd')->SR K H0 Z0 τ J q (e::pd)):FlOk K H0 Z₁ pd' D fl:=by
  cases fl with
  | rt r ρ=>exact fun v σ H s=>k v σ H (w' s)
  | _=>exact fun σ H s=>k σ H (w s)
theorem qs_for {tg iter:Expr} {body:List Stmt} {f:IF} {g:TG} {b:BF} {fb:SF} {pos:Pos} (hp:PassesOwn (model X.prog X.w) X.A X.env X.xe) (hc:X.calm=true) (hi:PI X tg iter (tPI X.K f)) (hg:PG X tg g) (hb':GS X.K g b) (hb:PSs X body (tPs X.K fb))
    (hs:∀ x,foldedSetIterable iter X.env x=pure x:=by intro _; rfl):PS X (.For tg iter body [] pos) (tPs X.K (sFor f b fb)):=PS.imp (ps_for hp hc hi hg hb hs) fun D σ H q=>by
  refine cpsP fun G kG=>?_
  obtain ⟨H0,Z0,ρ,pd,fl,s,h,k⟩:=q
  obtain ⟨y,h1,h2⟩:=bind_some h
  exact kG ⟨H0,Z0,ρ,pd,y.1,y.2,s,h1,fun J H1 pd' s1 it sub=>for_core hb' it (k.imp (fun s=>s.sub sub) fun s=>s.sub (sub.cons_cons _)) s1 h2⟩
noncomputable def whileP (c:TF) (body:SF):Nat->SF
  | 0,_=>none
  | n + 1,ρ=>(c ρ).bind fun x=>if x.1=true then (body x.2).bind fun fl=>match fl with
    | .nx ρ'=>whileP c body n ρ'
    | .ct ρ'=>whileP c body n ρ'
    | .bk ρ'=>some (.nx ρ')
    | .rt r ρ'=>some (.rt r ρ') else some (.nx x.2)
noncomputable def sWhile (n:Nat) (c:TF) (body:SF):SF:=whileP c body n
theorem qs_while (n:Nat) {c:Expr} {body:List Stmt} {fc:TF} {fb:SF} {pos:Pos} (hp:PassesOwn (model X.prog X.w) X.A X.env X.xe) (hc:PT X c (tPT X.K fc)) (hb:PSs X body (tPs X.K fb)):PS X (.While c body [] pos) (tPs X.K (sWhile n fc fb)):=PS.imp (ps_while hp hc hb) fun D σ H q=>by
  obtain ⟨H0,Z0,ρ,pd,fl,s,h,k⟩:=q
  refine ⟨fun m σ' H'=>∃ ρ',SR X.K H0 Z0 σ' H' ρ' pd/\whileP fc fb m ρ'=some fl,⟨n,ρ,s,h⟩,?_⟩
  rintro m σ' H' ⟨ρ',s',h'⟩
  cases m with
  | zero=>cases h'
  | succ m=>
    obtain ⟨x,e1,e2⟩:=bind_some h'
    refine ⟨H0,Z0,ρ',pd,x.1,x.2,s',e1,fun H1 s1=>?_⟩
    dsimp only
    split
    · rename_i hx
      rw [if_pos hx] at e2
      obtain ⟨fl1,e3,e4⟩:=bind_some e2
      refine ⟨fun σ'' H''=>∃ ρ'',SR X.K H0 Z0 σ'' H'' ρ'' pd/\whileP fc fb m ρ''=some fl,fun σ'' H'' q=>⟨m,Nat.lt_succ_self _,q⟩,H0,Z0,x.2,pd,fl1,s1,e3,?_⟩
      cases fl1 with
      | nx ρ2=>exact fun σ3 H3 s3=>⟨ρ2,s3,e4⟩
      | ct ρ2=>exact fun σ3 H3 s3=>⟨ρ2,s3,e4⟩
      | bk ρ2=>cases e4; exact fun σ3 H3 s3=>k σ3 H3 s3
      | rt r ρ2=>cases e4; exact fun v σ3 H3 s3=>k v σ3 H3 s3
    · rename_i hx
      rw [if_neg hx] at e2
      cases e2
      exact k σ' H1 s1
end
section
variable {K:FG} {H0 H H':Hp} {Z0 Z:ZG} {σ:L2.St} {ρ:Ev} {pd pe:Pd} {v w:V} {l:Lc} {p:PV} {g:List Addr}
noncomputable def Ev.app (ρ:Ev) (pe:Pd):Ev:=⟨ρ.vs++pe.map (fun x=>some x.2),ρ.mu⟩
theorem sl_shift (e:σ.length=ρ.vs.length):sl g (σ++pe.map fun x=>some x.1) (ρ.app pe) pd=sl g σ ρ (pe++pd):=by
  unfold sl Ev.app
  rw [List.zip_append e,List.map_append,List.append_assoc]
  congr 3
  induction pe with
  | nil=>rfl
  | cons a r ih=>simp [ih]
theorem SR.shift (h:SR K H0 Z0 σ H ρ (pe++pd)):SR K H0 Z0 (σ++pe.map fun x=>some x.1) H (ρ.app pe) pd:=by
  obtain ⟨e,Z,hg,z,s⟩:=h
  refine ⟨by simp [Ev.app,e],Z,hg,z,?_⟩
  rw [sl_shift e]
  exact s
theorem SR.unshift (e:σ.length=ρ.vs.length) (h:SR K H0 Z0 (σ++pe.map fun x=>some x.1) H (ρ.app pe) pd):SR K H0 Z0 σ H ρ (pe++pd):=by
  obtain ⟨_,Z,hg,z,s⟩:=h
  refine ⟨e,Z,hg,z,?_⟩
  rw [sl_shift e] at s
  exact s
theorem ItOk.more {J:It} {xs:List PV} (h:ItOk K H0 Z0 pd J xs):ItOk K H0 Z0 (pe++pd) J xs:=by
  intro σ H ρ i s
  obtain ⟨h1,h2⟩:=h _ H _ i s.shift
  refine ⟨fun x hx=>?_,h2⟩
  obtain ⟨g,y⟩:=h1 x hx
  refine ⟨g,fun v H' q=>?_⟩
  have s':=y v H' q
  have e:σ.length=ρ.vs.length:=s.1
  have s2:SR K H0 Z0 (σ++pe.map fun x=>some x.1) H' (ρ.app pe) ((v,.sh x)::pd):=s'
  exact (SR.unshift e s2).perm (pd':=(v,.sh x)::(pe++pd)) List.perm_middle.symm
noncomputable def asPd (σ:L2.St) (ρ:Ev):Pd:=(σ.zip ρ.vs).filterMap fun e=>match e with
  | (some v,some l)=>some (v,l)
  | _=>none
theorem asPd_slots:∀ {L:Sl},(∀ e ∈ L,e.2=none\/∃ v l,e=(some v,some l))->∀ {T:Sl},
    (Slots K H0 Z H (L++T) ↔ Slots K H0 Z H ((L.filterMap fun e=>match e with | (some v,some l)=>some (v,l) | _=>none).map (fun e=>((some e.1:Option V),(some e.2:Option Lc)))++T))
  | [],_,T=>by simp
  | (v,l)::L,h,T=>by
    have h':∀ e ∈ L,e.2=none\/∃ v l,e=(some v,some l):=fun e he=>h e (List.mem_cons_of_mem _ he)
    rcases h (v,l) List.mem_cons_self with e | ⟨v',l',e⟩
    · have e':l=none:=e
      subst e'
      have e1:((v,(none:Option Lc))::L).filterMap (fun e=>match e with | (some v,some l)=>some (v,l) | _=>none)=L.filterMap (fun e=>match e with | (some v,some l)=>some (v,l) | _=>none):=by
        rw [List.filterMap_cons_none]
        cases v <;> rfl
      rw [e1,← asPd_slots h' (T:=T)]
      have o1:oad (v,none)=none:=by
        cases v with
        | none=>rfl
        | some x=>cases x <;> rfl
      constructor
      · exact fun s=>s.sub (List.sublist_cons_self _ _)
      · intro s
        refine ⟨fun e he=>?_,?_⟩
        · rcases List.mem_cons.mp he with rfl | he
          · trivial
          · exact s.1 e he
        · rw [List.cons_append,List.filterMap_cons_none o1]
          exact s.2
    · cases e
      have e1:((some v',some l')::L).filterMap (fun e=>match e with | (some v,some l)=>some (v,l) | _=>none)=(v',l')::L.filterMap (fun e=>match e with | (some v,some l)=>some (v,l) | _=>none):=by
        rfl
      rw [e1]
      have ih1:=asPd_slots h' (T:=T++[(some v',some l')])
      have perm1:∀ A:Sl,List.Perm ((some v',some l')::(A++T)) (A++(T++[(some v',some l')])):=fun A=>by
        rw [← List.append_assoc]
        exact (List.perm_append_singleton _ _).symm
      constructor
      · intro s
        exact (ih1.mp (s.perm (perm1 L).symm)).perm (perm1 _)
      · intro s
        exact (ih1.mpr (s.perm (perm1 _).symm)).perm (perm1 L)
theorem SR.both (s:SR K H0 Z0 σ H ρ pd):∀ e ∈ σ.zip ρ.vs,e.2=none\/∃ v l,e=(some v,some l):=by
  obtain ⟨_,Z,_,z,s⟩:=s
  intro e he
  have q:=s.1 e (List.mem_append_right _ (List.mem_append_left _ he))
  obtain ⟨v,l⟩:=e
  cases l with
  | none=>exact .inl rfl
  | some l=>
    cases l with
    | sh p=>obtain ⟨x,e1,_⟩:=q; have e1':v=some x:=e1; subst e1'; exact .inr ⟨_,_,rfl⟩
    | own p=>obtain ⟨x,e1,_⟩:=q; have e1':v=some (.ref x):=e1; subst e1'; exact .inr ⟨_,_,rfl⟩
theorem out_slots (hb:∀ e ∈ σ.zip ρ.vs,e.2=none\/∃ v l,e=(some v,some l)):Slots K H0 Z H (sl g σ ρ pd) ↔ Slots K H0 Z H (cel g ρ.mu++(asPd σ ρ++pd).map fun e=>(some e.1,some e.2)):=by
  have h1:=asPd_slots (K:=K) (H0:=H0) (Z:=Z) (H:=H) hb (T:=(pd.map fun e=>(some e.1,some e.2))++cel g ρ.mu)
  have c1:List.Perm (sl g σ ρ pd) (σ.zip ρ.vs++((pd.map fun e=>(some e.1,some e.2))++cel g ρ.mu)):=by
    unfold sl
    rw [← List.append_assoc (σ.zip ρ.vs)]
    exact List.perm_append_comm
  have c2:List.Perm (cel g ρ.mu++(asPd σ ρ++pd).map fun e=>((some e.1:Option V),(some e.2:Option Lc))) ((asPd σ ρ).map (fun e=>(some e.1,some e.2))++((pd.map fun e=>(some e.1,some e.2))++cel g ρ.mu)):=by
    rw [List.map_append,← List.append_assoc ((asPd σ ρ).map _)]
    exact List.perm_append_comm
  exact ⟨fun s=>(h1.mp (s.perm c1.symm)).perm c2,fun s=>(h1.mpr (s.perm c2.symm)).perm c1⟩
theorem SR.back {σ':L2.St} {ρ':Ev} (el:σ.length=ρ.vs.length) (hb:∀ e ∈ σ.zip ρ.vs,e.2=none\/∃ v l,e=(some v,some l)) (s:SR K H0 Z0 σ' H ρ' (asPd σ ρ++pd)):SR K H0 Z0 σ H ⟨ρ.vs,ρ'.mu⟩ pd:=by
  obtain ⟨_,Z,hg,z,s⟩:=s
  refine ⟨el,Z,hg,z,(out_slots (ρ:=⟨ρ.vs,ρ'.mu⟩) hb).mpr ?_⟩
  exact s.sub ((List.Sublist.refl _).append (List.sublist_append_right _ _))
noncomputable def frzIx (ixs:List Nat) (ρ:Ev):Ev:=ixs.foldl (fun ρ i=>match ρ.vs[i]? with
  | some (some l)=>ρ.set i (some (.sh l.pv))
  | _=>ρ) ρ
theorem SR.frz:∀ {ixs:List Nat} {ρ:Ev},SR K H0 Z0 σ H ρ pd->SR K H0 Z0 σ H (frzIx ixs ρ) pd
  | [],ρ,s=>s
  | i::r,ρ,s=>by
    unfold frzIx
    rw [List.foldl_cons]
    refine SR.frz (ixs:=r) ?_
    split
    · rename_i l e
      obtain ⟨v,_,h2⟩:=s.var e
      exact h2.pop
    · exact s
noncomputable def isSh:Option Lc->Bool
  | some (.own _)=>false
  | _=>true
theorem frz_keep {j:Nat}:∀ {ixs:List Nat} {ρ:Ev},isSh (ρ.vs[j]?).join=true->isSh ((frzIx ixs ρ).vs[j]?).join=true
  | [],ρ,h=>h
  | i::r,ρ,h=>by
    unfold frzIx
    rw [List.foldl_cons]
    refine frz_keep (ixs:=r) ?_
    split
    · rename_i l e
      by_cases hij:i=j
      · subst hij
        have hi:=(List.getElem?_eq_some_iff.mp e).1
        show isSh ((ρ.vs.set i _)[i]?).join=true
        rw [List.getElem?_set_self hi]
        rfl
      · show isSh ((ρ.vs.set i _)[j]?).join=true
        rw [List.getElem?_set_ne hij]; exact h
    · exact h
theorem frz_sh {j:Nat}:∀ {ixs:List Nat} {ρ:Ev},j ∈ ixs->isSh ((frzIx ixs ρ).vs[j]?).join=true
  | [],ρ,h=>by cases h
  | i::r,ρ,h=>by
    unfold frzIx
    rw [List.foldl_cons]
    rcases List.mem_cons.mp h with e | h
    · subst e
      refine frz_keep (ixs:=r) ?_
      split
      · rename_i l e
        have hi:=(List.getElem?_eq_some_iff.mp e).1
        show isSh ((ρ.vs.set j _)[j]?).join=true
        rw [List.getElem?_set_self hi]
        rfl
      · rename_i hn
        cases q:ρ.vs[j]? with
        | none=>rfl
        | some o=>
          cases o with
          | none=>rfl
          | some l=>exact (hn l q).elim
    · exact frz_sh h
noncomputable def blkEnv (m:Nat) (ixs:List Nat) (ρ:Ev):Ev:=⟨List.replicate m none++ixs.map fun i=>(ρ.vs[i]?).join,ρ.mu⟩
theorem SR.block {m:Nat} {ixs:List Nat} (s:SR K H0 Z0 σ H ρ pd) (hs:∀ j ∈ ixs,isSh (ρ.vs[j]?).join=true):SR K H0 Z0 (sub0 m ixs σ) H (blkEnv m ixs ρ) (asPd σ ρ++pd):=by
  have hb:=s.both
  obtain ⟨el,Z,hg,z,so⟩:=s
  refine ⟨by simp [sub0,blkEnv],Z,hg,z,?_⟩
  have s3:=(out_slots hb).mp so
  have fin:Slots K H0 Z H ((ixs.map fun i=>(σ[i]?).join).zip (ixs.map fun i=>(ρ.vs[i]?).join)++(cel Z.g ρ.mu++(asPd σ ρ++pd).map fun e=>(some e.1,some e.2)))->Slots K H0 Z H (sl Z.g (sub0 m ixs σ) (blkEnv m ixs ρ) (asPd σ ρ++pd)):=fun h=>by
    unfold sl sub0 blkEnv
    rw [List.zip_append (by simp),List.append_assoc]
    refine (nones h m).perm ?_
    exact (perm3 _ _ _).trans ((perm3 _ _ _).append_left _)
  refine fin ?_
  clear fin
  induction ixs with
  | nil=>simpa using s3
  | cons i r ih=>
    have ih':=ih fun j hj=>hs j (List.mem_cons_of_mem _ hj)
    rw [List.map_cons,List.map_cons,List.zip_cons_cons,List.cons_append]
    have h1:=hs i List.mem_cons_self
    cases q:ρ.vs[i]? with
    | none=>
      refine ⟨fun e he=>?_,?_⟩
      · rcases List.mem_cons.mp he with rfl | he
        · trivial
        · exact ih'.1 e he
      · rw [List.filterMap_cons_none]
        · exact ih'.2
        · cases (σ[i]?).join with
          | none=>rfl
          | some x=>cases x <;> rfl
    | some o=>
      cases o with
      | none=>
        refine ⟨fun e he=>?_,?_⟩
        · rcases List.mem_cons.mp he with rfl | he
          · trivial
          · exact ih'.1 e he
        · rw [List.filterMap_cons_none]
          · exact ih'.2
          · cases (σ[i]?).join with
            | none=>rfl
            | some x=>cases x <;> rfl
      | some l=>
        rw [q] at h1
        cases l with
        | own p=>cases h1
        | sh p=>
          have hi:i < σ.length:=by rw [el]; exact (List.getElem?_eq_some_iff.mp q).1
          have hσ:σ[i]?=some σ[i]:=List.getElem?_eq_getElem hi
          have hm:=List.mem_of_getElem? (zip_get hσ q)
          obtain ⟨x,e1,e2⟩:=so.1 _ (List.mem_append_right _ (List.mem_append_left _ hm))
          have e1':σ[i]=some x:=e1
          have ej:(σ[i]?).join=some x:=by rw [hσ,e1']; rfl
          rw [ej]
          exact ih'.consS e2
end
theorem SR.pushO {v:V} {l:Lc} {a:Addr} {ws:List PV} (s:SR K H0 Z0 σ H ρ ((v,l)::(.ref a,.own (.lst ws))::pd)):
    ∃ us,H a=some (.lst us)/\us.length=ws.length/\SR K H0 Z0 σ (upd H a (.lst (us++[v]))) ρ ((.ref a,.own (.lst (ws++[l.pv])))::pd):=by
  obtain ⟨el,Z,hg,z,r,so⟩:=s.freeze.sh
  have so2:=so.perm sl_cons.symm
  obtain ⟨b,eb,⟨us,hu,hr⟩,_⟩:=so2.1 _ List.mem_cons_self
  cases eb
  refine ⟨us,hu,hr.length,?_⟩
  obtain ⟨z',s'⟩:=so2.write (o:=.lst (us++[v])) (q:=.lst (ws++[l.pv])) z ⟨us++[v],upd_same,hr.append (RepL.cons r .nil)⟩
  exact .mk el hg z' s'
noncomputable def compP (b:BF) (tc:TF) (te:EF):List PV->Ev->List PV->Option (List PV × Mu)
  | [],ρ,acc=>some (acc,ρ.mu)
  | x::xs,ρ,acc=>(b x ρ).bind fun ρ1=>(tc ρ1).bind fun c=>if c.1=true then (te c.2).bind fun v=>if acc.length < 100000 then compP b tc te xs v.2 (acc++[v.1.pv]) else none else compP b tc te xs c.2 acc
noncomputable def eComp (f:IF) (m:Nat) (ixs:List Nat) (b:BF) (tc:TF) (te:EF):EF:=fun ρ=>(f ρ).bind fun y=>(compP b tc te y.1 (blkEnv m ixs (frzIx ixs y.2)) []).map fun ys=>(.own (.lst ys.1),⟨(frzIx ixs y.2).vs,ys.2⟩)
noncomputable def CW (K:FG) (H0:Hp) (Z0:ZG) (b:BF) (tc:TF) (te:EF) (p:Addr) (PD:Pd) (xs:List PV) (zs:List PV × Mu) (i n:Nat) (σ':L2.St) (H':Hp):Prop:=
  n=xs.length - i/\i<=xs.length/\∃ ρi ws,SR K H0 Z0 σ' H' ρi ((.ref p,.own (.lst ws))::PD)/\compP b tc te (xs.drop i) ρi ws=some zs
theorem comp_step {g:TG} {b:BF} {tc:TF} {te:EF} (hb:GS K g b) {H0:Hp} {p:Addr} {PD:Pd} {J:It} {xs:List PV} {zs:List PV × Mu} {Q:VK}
    (it:∀ ws,ItOk K H0 Z0 ((.ref p,.own (.lst ws))::PD) J xs) (fin:∀ σ' H' ρi ws,SR K H0 Z0 σ' H' ρi ((.ref p,.own (.lst ws))::PD)->compP b tc te [] ρi ws=some zs->Q (.ref p) H') (i n:Nat) (σ':L2.St) (H':Hp) (w:CW K H0 Z0 b tc te p PD xs zs i n σ' H'):
    (J.stop i H'/\Q (.ref p) H')\/(J.go i H'/\∀ x H2,J.yld i H' x H2->g x σ' H2 fun σ3 H3=>tPT K tc σ3 H3 fun b' H4=>
      if b'=true then tP K te σ3 H4 fun v H5=>∃ ys,H5 p=some (.lst ys)/\ys.length < sizeLine/\∃ n',n' < n/\CW K H0 Z0 b tc te p PD xs zs (i + 1) n' σ3 (upd H5 p (.lst (ys++[v])))
      else ∃ n',n' < n/\CW K H0 Z0 b tc te p PD xs zs (i + 1) n' σ3 H4):=by
  refine cpsP fun G kG=>?_
  obtain ⟨rfl,hi,ρi,ws,s',h'⟩:=w
  obtain ⟨i1,i2⟩:=it ws σ' H' ρi i s'
  by_cases hlt:i < xs.length
  · obtain ⟨go,yl⟩:=i1 _ (List.getElem?_eq_getElem hlt)
    rw [List.drop_eq_getElem_cons hlt] at h'
    obtain ⟨ρ1,e1,e2⟩:=bind_some h'
    obtain ⟨c,e3,e4⟩:=bind_some e2
    have hn:xs.length - (i + 1) < xs.length - i:=by omega
    refine kG (.inr ⟨go,fun x H2 hy=>hb H0 Z0 σ' H2 ρi _ x _ ρ1 _ (yl x H2 hy) e1 fun σ2 s5=>⟨H0,Z0,ρ1,_,c.1,c.2,s5,e3,fun H4 s6=>?_⟩⟩)
    dsimp only
    split
    · rename_i hc
      refine cpsP fun G kG=>?_
      rw [if_pos hc] at e4
      obtain ⟨v,e5,e6⟩:=bind_some e4
      split at e6
      · rename_i hz
        refine kG ⟨H0,Z0,c.2,_,v.1,v.2,s6,e5,fun vv H5 s7=>?_⟩
        refine cpsP fun G kG=>?_
        obtain ⟨us,hu,hl,s8⟩:=s7.pushO
        exact kG ⟨us,hu,by rw [hl,sizeLine_eq]; omega,_,hn,rfl,hlt,v.2,_,s8,e6⟩
      · cases e6
    · rename_i hc
      rw [if_neg hc] at e4
      exact ⟨_,hn,rfl,hlt,c.2,ws,s6,e4⟩
  · have e:i=xs.length:=Nat.le_antisymm hi (Nat.le_of_not_lt hlt)
    subst e
    rw [List.drop_length] at h'
    exact kG (.inl ⟨i2 rfl,fin _ _ _ _ s' h'⟩)
theorem comp_imp {f:IF} {m:Nat} {ixs:List Nat} {g:TG} {b:BF} {tc:TF} {te:EF} (hb:GS K g b):∀ σ H Q,tP K (eComp f m ixs b tc te) σ H Q->tComp (tPI K f) m ixs g (tPT K tc) (tP K te) σ H Q:=fun σ H Q q=>by
  refine cpsP fun G kG=>?_
  obtain ⟨H0,Z0,ρ,pd,r,ρ',s,h,k⟩:=q
  obtain ⟨y,h1,h2⟩:=bind_some h
  obtain ⟨zs,h3,h4⟩:=map_some h2
  cases h4
  refine kG ⟨H0,Z0,ρ,pd,y.1,y.2,s,h1,fun J H1 pd' s1 it sub p hp=>?_⟩
  have s2:SR K H0 Z0 σ H1 (frzIx ixs y.2) pd':=s1.frz
  have s3:=s2.block (m:=m) (ixs:=ixs) fun j hj=>frz_sh hj
  have s4:SR K H0 Z0 (sub0 m ixs σ) (upd H1 p (.lst [])) (blkEnv m ixs (frzIx ixs y.2)) ((.ref p,.own (.lst []))::(asPd σ (frzIx ixs y.2)++pd')):=s3.newO hp fun Z _ _=>⟨[],upd_same,.nil⟩
  refine ⟨CW K H0 Z0 b tc te p (asPd σ (frzIx ixs y.2)++pd') y.1 zs,⟨_,rfl,Nat.zero_le _,_,[],s4,h3⟩,comp_step hb (fun ws=>ItOk.more (pe:=(.ref p,.own (.lst ws))::asPd σ (frzIx ixs y.2)) it) fun σ' H' ρi ws s' h'=>?_⟩
  cases h'
  have s5:SR K H0 Z0 σ' H' ρi (asPd σ (frzIx ixs y.2)++((.ref p,.own (.lst ws))::pd')):=s'.perm List.perm_middle
  exact k _ _ ((SR.back s2.1 s2.both s5).sub (sub.cons_cons _))
section
variable {X:Cx}
theorem qcomp (M F:List Str) (ixs:List Nat) {sc:Scope} {tg iter elt:Expr} {ifs:List Expr} {f:IF} {g:TG} {b:BF} {tc:TF} {te:EF} {pos:Pos} (hcalm:X.calm=true) (c:CompSc X M F ixs sc) (hi:PI X tg iter (tPI X.K f))
    (hg:∀ C fp s H,PG (cxComp X M F sc C fp s H) tg g) (hb:GS X.K g b) (hc:∀ C fp s H,PIfs (cxComp X M F sc C fp s H) ifs (tPT X.K tc)) (he:∀ C fp s H,PE (cxComp X M F sc C fp s H) elt (tP X.K te))
    (hs:∀ x,foldedSetIterable iter X.env x=pure x:=by intro _; rfl):PE X (.ListComp elt [⟨tg,iter,ifs,0⟩] sc pos) (tP X.K (eComp f M.length ixs b tc te)):=PE.imp (pe_comp M F ixs hcalm c hi hg hc he hs) (comp_imp hb)
theorem qs_setC {i:Nat} (M F:List Str) (ixs:List Nat) {x:Str} {sc:Scope} {tg iter elt:Expr} {ifs:List Expr} {f:IF} {g:TG} {b:BF} {tc:TF} {te:EF} {pos pos' pos2:Pos} (hN:X.N.Nodup) (hix:X.N[i]?=some x) (hx:X.env.scope.names.lookup x=some .local)
    (hcalm:X.calm=true) (c:CompSc X M F ixs sc) (hi:PI X tg iter (tPI X.K f))
    (hg:∀ C fp s H,PG (cxComp X M F sc C fp s H) tg g) (hb:GS X.K g b) (hc:∀ C fp s H,PIfs (cxComp X M F sc C fp s H) ifs (tPT X.K tc)) (he:∀ C fp s H,PE (cxComp X M F sc C fp s H) elt (tP X.K te))
    (hsw:swapsWith (.ListComp elt [⟨tg,iter,ifs,0⟩] sc pos) (some (.Name x pos')) pos2.line X.env=pure true:=by rfl)
    (hs:∀ x,foldedSetIterable iter X.env x=pure x:=by intro _; rfl):PS X (.Assign [.Name x pos'] (.ListComp elt [⟨tg,iter,ifs,0⟩] sc pos) pos2) (tPs X.K (sSet i (eComp f M.length ixs b tc te))):=
  PS.imp (ps_setC M F ixs hN hix hx hcalm c hi hg hc he hsw hs) (set_imp fun D σ H q=>comp_imp hb σ H _ q)
noncomputable def cTrue:TF:=fun ρ=>some (true,ρ)
theorem qifs_nil:PIfs X [] (tPT X.K cTrue):=fun pins s σ H Q I q=>pifs_nil pins s σ H Q I (by
  obtain ⟨H0,Z0,ρ,pd,b,ρ',s,h,k⟩:=q
  cases h
  exact k H s)
theorem qifs_one {c:Expr} {f:TF} (h:PT X c (tPT X.K f)):PIfs X [c] (tPT X.K f):=pifs_one h
end
noncomputable def eqDs (f:PV->PV->Option Bool):List PV->List PV->Option Bool
  | p::ps,q::qs=>(f p q).bind fun b=>(eqDs f ps qs).map fun c=>b && c
  | _,_=>some true
noncomputable def eqD:Nat->PV->PV->Option Bool
  | 0,_,_=>none
  | n + 1,p,q=>match p,q with
    | .tup ps,.tup qs=>(eqDs (eqD n) ps qs).map fun b=>b && (ps.length == qs.length)
    | .lst ps,.lst qs=>if ps.length=qs.length then eqDs (eqD n) ps qs else some false
    | .non,.non=>some true
    | .bl a,.bl b=>some (a == b)
    | .int a,.int b=>some (a == b)
    | .str a,.str b=>some (a == b)
    | .bl a,.int b=>some ((if a then 1 else 0) == b)
    | .int a,.bl b=>some (a == (if b then 1 else 0))
    | .non,.bl _=>some false
    | .non,.int _=>some false
    | .non,.str _=>some false
    | .non,.tup _=>some false
    | .non,.lst _=>some false
    | .bl _,.non=>some false
    | .bl _,.str _=>some false
    | .bl _,.tup _=>some false
    | .bl _,.lst _=>some false
    | .int _,.non=>some false
    | .int _,.str _=>some false
    | .int _,.tup _=>some false
    | .int _,.lst _=>some false
    | .str _,.non=>some false
    | .str _,.bl _=>some false
    | .str _,.int _=>some false
    | .str _,.tup _=>some false
    | .str _,.lst _=>some false
    | .tup _,.non=>some false
    | .tup _,.bl _=>some false
    | .tup _,.int _=>some false
    | .tup _,.str _=>some false
    | .tup _,.lst _=>some false
    | .lst _,.non=>some false
    | .lst _,.bl _=>some false
    | .lst _,.int _=>some false
    | .lst _,.str _=>some false
    | .lst _,.tup _=>some false
    | _,_=>none
theorem eqDs_at {f:PV->PV->Option Bool}:∀ {ps qs:List PV} {b:Bool},eqDs f ps qs=some b->(∀ (j:Nat) p q,ps[j]?=some p->qs[j]?=some q->f p q=some ((f (ps.getD j .non) (qs.getD j .non)).getD false))/\
    b=(List.range (min ps.length qs.length)).all fun j=>(f (ps.getD j .non) (qs.getD j .non)).getD false
  | [],qs,b,h=>by
    cases h
    exact ⟨fun j p q e=>by simp at e,by simp⟩
  | p::ps,[],b,h=>by
    cases h
    exact ⟨fun j p q _ e=>by simp at e,by simp⟩
  | p::ps,q::qs,b,h=>by
    obtain ⟨c,h1,h2⟩:=bind_some h
    obtain ⟨d,h3,rfl⟩:=map_some h2
    obtain ⟨i1,i2⟩:=eqDs_at h3
    refine ⟨fun j p' q' e1 e2=>?_,?_⟩
    · cases j with
      | zero=>
        simp at e1 e2
        subst e1 e2
        simp [h1]
      | succ j=>
        have:=i1 j p' q' (by simpa using e1) (by simpa using e2)
        simpa using this
    · have e:min (p::ps).length (q::qs).length=min ps.length qs.length + 1:=by simp only [List.length_cons]; omega
      rw [e,List.range_succ_eq_map,List.all_cons,List.all_map]
      have e0:(f ((p::ps).getD 0 .non) ((q::qs).getD 0 .non)).getD false=c:=by simp [h1]
      rw [e0,i2]
      rfl
theorem elts {Z:ZG} {ps:List PV} {vs:List V} {its:List Value} (r:RepL K Z ps vs) (rv:Vals vs its) {j:Nat} (h:j < its.length):∃ p v,ps[j]?=some p/\Rep K Z p v/\RelV v its[j]:=by
  have hl:=rv.length
  have hv:vs[j]?=some vs[j]:=List.getElem?_eq_getElem (by omega)
  obtain ⟨u,e1,e2⟩:=rv.get hv
  rw [List.getElem?_eq_getElem h] at e1
  cases e1
  obtain ⟨p,e3,e4⟩:=r.getV hv
  exact ⟨p,vs[j],e3,e4,e2⟩
section
open PySem.SeqAt
variable {X:Cx} {pins:List (Addr × Obj)} {σ:L2.St} {H:Hp} {s:Shared} {g:List Addr}
theorem tup_of (I:Inv X pins σ H s) {ps:List PV} {v:V} {u:Value} (r:Rep X.K ⟨H,g⟩ (.tup ps) v) (ru:RelV v u):∃ a vs its,u=.ref a/\SqT X.K H a vs/\RepL X.K ⟨H,g⟩ ps vs/\Vals vs its/\s.heap.IsTuple a its.toArray:=by
  unfold Rep at r
  obtain ⟨a,vs,rfl,h1,h2⟩:=r
  obtain ⟨its,r1,t1,_⟩:=I.tuple h1
  exact ⟨a,vs,its,ru,h1,h2,r1,t1⟩
theorem lst_of (I:Inv X pins σ H s) {ps:List PV} {v:V} {u:Value} (r:Rep X.K ⟨H,g⟩ (.lst ps) v) (ru:RelV v u):∃ a vs its,u=.ref a/\SqL X.K H a vs/\RepL X.K ⟨H,g⟩ ps vs/\Vals vs its/\s.heap.IsList a its.toArray:=by
  unfold Rep at r
  obtain ⟨a,vs,rfl,h1,h2⟩:=r
  obtain ⟨its,r1,t1,_⟩:=I.list h1
  exact ⟨a,vs,its,ru,h1,h2,r1,t1.isList⟩
noncomputable def kn:PV->Nat
  | .non=>0 | .bl _=>1 | .int _=>2 | .str _=>3 | .tup _=>4 | .lst _=>5 | _=>6
theorem kn4 {p:PV} (h:kn p=4):∃ ps,p=.tup ps:=by cases p <;> first | exact ⟨_,rfl⟩ | cases h
theorem kn5 {p:PV} (h:kn p=5):∃ ps,p=.lst ps:=by cases p <;> first | exact ⟨_,rfl⟩ | cases h
theorem eqD_l {n:Nat} {p q:PV} {b:Bool} (h:eqD (n + 1) p q=some b):kn p < 6:=by
  cases p <;> first | cases h; done | exact Nat.le.step (Nat.le.step (Nat.le.step (Nat.le.step (Nat.le.step .refl)))) | exact Nat.le.step (Nat.le.step (Nat.le.step (Nat.le.step .refl))) | exact Nat.le.step (Nat.le.step (Nat.le.step .refl)) | exact Nat.le.step (Nat.le.step .refl) | exact Nat.le.step .refl | exact Nat.le.refl
theorem eqD_r {n:Nat} {p q:PV} {b:Bool} (h:eqD (n + 1) p q=some b):kn q < 6:=by
  have no:eqD (n + 1) p q=none->kn q < 6:=fun e=>absurd (h.symm.trans e) (Option.some_ne_none b)
  cases q with
  | dk _ _=>exact no (by cases p <;> rfl)
  | dt _ _=>exact no (by cases p <;> rfl)
  | obj _ _ _=>exact no (by cases p <;> rfl)
  | df _ _=>exact no (by cases p <;> rfl)
  | dtf _ _=>exact no (by cases p <;> rfl)
  | ptr _=>exact no (by cases p <;> rfl)
  | _=>first | exact Nat.le.step (Nat.le.step (Nat.le.step (Nat.le.step (Nat.le.step .refl)))) | exact Nat.le.step (Nat.le.step (Nat.le.step (Nat.le.step .refl))) | exact Nat.le.step (Nat.le.step (Nat.le.step .refl)) | exact Nat.le.step (Nat.le.step .refl) | exact Nat.le.step .refl | exact Nat.le.refl
noncomputable def back:V->Option PV
  | .non=>some .non | .bl b=>some (.bl b) | .int i=>some (.int i) | .str x=>some (.str x) | _=>none
inductive Sh (K:FG) (Z:ZG) (v:V):PV->Prop
  | at {p:PV}:back v=some p->Sh K Z v p
  | tup {a:Addr} {ps:List PV} {vs:List V}:v=.ref a->SqT K Z.z a vs->RepL K Z ps vs->Sh K Z v (.tup ps)
  | lst {a:Addr} {ps:List PV} {vs:List V}:v=.ref a->SqL K Z.z a vs->RepL K Z ps vs->Sh K Z v (.lst ps)
theorem sh_of {Z:ZG} {v:V} {p:PV} (r:Rep K Z p v) (h:kn p < 6):Sh K Z v p:=by
  cases p with
  | non=>exact .at (congrArg back (rep_non_inv r))
  | bl b=>exact .at (congrArg back (rep_bl_inv r))
  | int b=>exact .at (congrArg back (rep_int_inv r))
  | str b=>exact .at (congrArg back (rep_str_inv r))
  | tup ps=>unfold Rep at r; obtain ⟨a,vs,e,h1,h2⟩:=r; exact .tup e h1 h2
  | lst ps=>unfold Rep at r; obtain ⟨a,vs,e,h1,h2⟩:=r; exact .lst e h1 h2
  | _=>exact absurd h (Nat.lt_irrefl 6)
inductive Tw (K:FG) (Z:ZG):PV->PV->Prop
  | at {v:V} {p:PV}:back v=some p->Tw K Z p p
  | tup {ps qs:List PV} {vs:List V}:RepL K Z ps vs->RepL K Z qs vs->Tw K Z (.tup ps) (.tup qs)
  | lst {ps qs:List PV} {vs:List V}:RepL K Z ps vs->RepL K Z qs vs->Tw K Z (.lst ps) (.lst qs)
theorem tl_no (I:Inv X pins σ H s) {a:Addr} {vs ws:List V} (h1:SqT X.K H a vs) (h3:SqL X.K H a ws):False:=by
  obtain ⟨its,r1,⟨o1,n1,g1,c1,_⟩,_⟩:=I.list h3
  obtain ⟨its2,r2,⟨o2,g2,c2,_⟩,_⟩:=I.tuple h1
  rw [g1] at g2
  cases g2
  rw [c1] at c2
  exact absurd c2 (by decide)
theorem back_ref {v:V} {a:Addr} {p:PV} (e:v=.ref a) (h:back v=some p):False:=by subst e; cases h
theorem Sh.two (I:Inv X pins σ H s) {p q:PV} {v:V} (h1:Sh X.K ⟨H,g⟩ v p) (h2:Sh X.K ⟨H,g⟩ v q):Tw X.K ⟨H,g⟩ p q:=by
  cases h1 with
  | «at» e=>
    cases h2 with
    | «at» e'=>exact (Option.some.inj (e.symm.trans e')) ▸ .at e
    | tup e'=>exact (back_ref e' e).elim
    | lst e'=>exact (back_ref e' e).elim
  | tup e k1 k2=>
    cases h2 with
    | «at» e'=>exact (back_ref e e').elim
    | tup e' m1 m2=>exact .tup k2 (I.tuple_inj k1 (V.ref.inj (e'.symm.trans e) ▸ m1) ▸ m2)
    | lst e' m1=>exact (tl_no I k1 (V.ref.inj (e'.symm.trans e) ▸ m1)).elim
  | lst e k1 k2=>
    cases h2 with
    | «at» e'=>exact (back_ref e e').elim
    | tup e' m1=>exact (tl_no I m1 (V.ref.inj (e.symm.trans e') ▸ k1)).elim
    | lst e' m1 m2=>exact .lst k2 (I.list_inj k1 (V.ref.inj (e'.symm.trans e) ▸ m1) ▸ m2)
theorem eqD_at {n:Nat} {v:V} {p:PV} {b:Bool} (e:back v=some p) (h:eqD (n + 1) p p=some b):b=true:=by
  cases v with
  | non=>cases e; cases h; rfl
  | bl z=>cases e; cases h; exact beq_self_eq_true z
  | int z=>cases e; cases h; exact beq_self_eq_true z
  | str z=>cases e; cases h; exact beq_self_eq_true z
  | _=>cases e
theorem eqDs_self {f:PV->PV->Option Bool} {Z:ZG} (ih:∀ (p q:PV) (v:V) (b:Bool),Rep K Z p v->Rep K Z q v->f p q=some b->b=true):∀ {ps qs:List PV} {vs:List V} {c:Bool},RepL K Z ps vs->RepL K Z qs vs->eqDs f ps qs=some c->c=true
  | [],qs,vs,c,a,b,h=>by cases h; rfl
  | p::ps,[],vs,c,a,b,h=>by cases h; rfl
  | p::ps,q::qs,vs,c,a,b,h=>by
    obtain ⟨w1,r1,e1,e2,e3⟩:=a.inv
    obtain ⟨w2,r2,f1,f2,f3⟩:=b.inv
    obtain ⟨g1,g2⟩:=List.cons.inj (e1.symm.trans f1)
    subst g1 g2
    obtain ⟨c,h1,h2⟩:=bind_some h
    obtain ⟨d,h3,rfl⟩:=map_some h2
    rw [ih _ _ _ _ e2 f2 h1,eqDs_self ih e3 f3 h3]
    rfl
theorem eqDs_det {f:PV->PV->Option Bool} {Z:ZG} (ih:∀ (p q r:PV) (v:V) (b c:Bool),Rep K Z p v->Rep K Z q v->f p r=some b->f q r=some c->b=c):∀ {ps qs rs:List PV} {vs:List V} {b c:Bool},RepL K Z ps vs->RepL K Z qs vs->eqDs f ps rs=some b->eqDs f qs rs=some c->b=c
  | [],[],rs,vs,b,c,_,_,h,k=>Option.some.inj (h.symm.trans k)
  | [],q::qs,rs,vs,b,c,a,b',h,k=>by
    obtain ⟨_,_,e,_⟩:=b'.inv
    exact absurd (a.inv0.symm.trans e) (by simp)
  | p::ps,[],rs,vs,b,c,a,b',h,k=>by
    obtain ⟨_,_,e,_⟩:=a.inv
    exact absurd (b'.inv0.symm.trans e) (by simp)
  | p::ps,q::qs,[],vs,b,c,a,b',h,k=>Option.some.inj (h.symm.trans k)
  | p::ps,q::qs,r::rs,vs,b,c,a,b',h,k=>by
    obtain ⟨w1,r1,e1,e2,e3⟩:=a.inv
    obtain ⟨w2,r2,f1,f2,f3⟩:=b'.inv
    obtain ⟨g1,g2⟩:=List.cons.inj (e1.symm.trans f1)
    subst g1 g2
    obtain ⟨x1,h1,h2⟩:=bind_some h
    obtain ⟨d1,h3,rfl⟩:=map_some h2
    obtain ⟨x2,k1,k2⟩:=bind_some k
    obtain ⟨d2,k3,rfl⟩:=map_some k2
    rw [ih _ _ _ _ _ _ e2 f2 h1 k1,eqDs_det ih e3 f3 h3 k3]
theorem eq_self (I:Inv X pins σ H s):∀ (n:Nat) {p q:PV} {v:V} {b:Bool},Rep X.K ⟨H,g⟩ p v->Rep X.K ⟨H,g⟩ q v->eqD n p q=some b->b=true
  | 0,p,q,v,b,_,_,h=>by cases h
  | n + 1,p,q,v,b,rp,rq,h=>by
    cases Sh.two I (sh_of rp (eqD_l h)) (sh_of rq (eqD_r h)) with
    | «at» e=>exact eqD_at e h
    | tup h2 h4=>
      obtain ⟨c,h5,rfl⟩:=map_some h
      rw [eqDs_self (fun _ _ _ _=>eq_self I n) h2 h4 h5,h2.length.symm.trans h4.length,beq_self_eq_true]
      rfl
    | lst h2 h4=>exact eqDs_self (fun _ _ _ _=>eq_self I n) h2 h4 ((if_pos (h2.length.symm.trans h4.length)).symm.trans h)
inductive U (s:Shared):PV->Value->Prop
  | non:U s .non .none
  | bl {b:Bool}:U s (.bl b) (.bool b)
  | int {i:Int} {t}:U s (.int i) (.int i t)
  | str {x:Str} {t}:U s (.str x) (.str x t)
  | tup {ps:List PV} {a:Addr} {its}:s.heap.IsTuple a its->U s (.tup ps) (.ref a)
  | lst {ps:List PV} {a:Addr} {its}:s.heap.IsList a its->U s (.lst ps) (.ref a)
theorem u_of (I:Inv X pins σ H s) {p:PV} {v:V} {u:Value} (r:Rep X.K ⟨H,g⟩ p v) (ru:RelV v u) (h:kn p < 6):U s p u:=by
  cases p with
  | non=>cases rep_non_inv r; cases ru; exact .non
  | bl b=>cases rep_bl_inv r; cases ru; exact .bl
  | int b=>cases rep_int_inv r; obtain ⟨t,rfl⟩:=ru; exact .int
  | str b=>cases rep_str_inv r; obtain ⟨t,rfl⟩:=ru; exact .str
  | tup ps=>obtain ⟨a,vs,its,rfl,_,_,_,x⟩:=tup_of I r ru; exact .tup x
  | lst ps=>obtain ⟨a,vs,its,rfl,_,_,_,x⟩:=lst_of I r ru; exact .lst x
  | _=>exact absurd h (Nat.lt_irrefl 6)
noncomputable def E3 (A:Around) (s:Shared) (x y:Value) (b:Bool):Prop:=EqAt A s x y b/\RcAt A s x y b/\RcNeAt A s x y (!b)
theorem E3.of {A:Around} {s:Shared} {x y:Value} {b c:Bool} (h:some c=some b) (e:EqAt A s x y c) (r:RcAt A s x y c) (q:RcNeAt A s x y (!c)):E3 A s x y b:=Option.some.inj h ▸ ⟨e,r,q⟩
noncomputable def two (p q:PV):Bool:=kn p == kn q && Nat.ble 4 (kn p)
theorem eq_flat {A:Around} {p q:PV} {u1 u2:Value} {n:Nat} {b:Bool} (hu:A.units < cLine) (h1:U s p u1) (h2:U s q u2) (e:two p q=false) (h:eqD (n + 1) p q=some b):E3 A s u1 u2 b:=by
  cases h1 with
  | non=>
    cases h2 with
    | non=>exact E3.of h (EqAt.same .none) RcAt.none_none RcNeAt.none_none
    | bl=>exact E3.of h (EqAt.none_bool _) (RcAt.none_bool _) (RcNeAt.none_bool _)
    | int=>exact E3.of h (EqAt.none_int _ _) (RcAt.none_int _ _) (RcNeAt.none_int _ _)
    | str=>exact E3.of h (EqAt.none_str _ _) (RcAt.none_str _ _) (RcNeAt.none_str _ _)
    | tup x2=>exact E3.of h (EqAt.none_tuple x2 hu) (RcAt.none_tuple x2 hu) (RcNeAt.none_tuple x2 hu)
    | lst x2=>exact E3.of h (EqAt.none_list x2 hu) (RcAt.none_list x2 hu) (RcNeAt.none_list x2 hu)
  | bl=>
    cases h2 with
    | non=>exact E3.of h (EqAt.bool_none _) (RcAt.bool_none _) (RcNeAt.bool_none _)
    | bl=>exact E3.of h (EqAt.bool_bool _ _) (RcAt.bool_bool _ _) (RcNeAt.bool_bool _ _)
    | int=>exact E3.of h (EqAt.bool_int _ _ _) (RcAt.bool_int _ _ _) (RcNeAt.bool_int _ _ _)
    | str=>exact E3.of h (EqAt.bool_str _ _ _) (RcAt.bool_str _ _ _) (RcNeAt.bool_str _ _ _)
    | tup x2=>exact E3.of h (EqAt.bool_tuple _ x2 hu) (RcAt.bool_tuple _ x2 hu) (RcNeAt.bool_tuple _ x2 hu)
    | lst x2=>exact E3.of h (EqAt.bool_list _ x2 hu) (RcAt.bool_list _ x2 hu) (RcNeAt.bool_list _ x2 hu)
  | int=>
    cases h2 with
    | non=>exact E3.of h (EqAt.int_none _ _) (RcAt.int_none _ _) (RcNeAt.int_none _ _)
    | bl=>exact E3.of h (EqAt.int_bool _ _ _) (RcAt.int_bool _ _ _) (RcNeAt.int_bool _ _ _)
    | int=>exact E3.of h (EqAt.int_int _ _ _ _) (RcAt.int_int _ _ _ _) (RcNeAt.int_int _ _ _ _)
    | str=>exact E3.of h (EqAt.int_str _ _ _ _) (RcAt.int_str _ _ _ _) (RcNeAt.int_str _ _ _ _)
    | tup x2=>exact E3.of h (EqAt.int_tuple _ _ x2 hu) (RcAt.int_tuple _ _ x2 hu) (RcNeAt.int_tuple _ _ x2 hu)
    | lst x2=>exact E3.of h (EqAt.int_list _ _ x2 hu) (RcAt.int_list _ _ x2 hu) (RcNeAt.int_list _ _ x2 hu)
  | str=>
    cases h2 with
    | non=>exact E3.of h (EqAt.str_none _ _) (RcAt.str_none _ _) (RcNeAt.str_none _ _)
    | bl=>exact E3.of h (EqAt.str_bool _ _ _) (RcAt.str_bool _ _ _) (RcNeAt.str_bool _ _ _)
    | int=>exact E3.of h (EqAt.str_int _ _ _ _) (RcAt.str_int _ _ _ _) (RcNeAt.str_int _ _ _ _)
    | str=>exact E3.of h (EqAt.str_str _ _ _ _) (RcAt.str_str _ _ _ _) (RcNeAt.str_str _ _ _ _)
    | tup x2=>exact E3.of h (EqAt.str_tuple _ _ x2 hu) (RcAt.str_tuple _ _ x2 hu) (RcNeAt.str_tuple _ _ x2 hu)
    | lst x2=>exact E3.of h (EqAt.str_list _ _ x2 hu) (RcAt.str_list _ _ x2 hu) (RcNeAt.str_list _ _ x2 hu)
  | tup x1=>
    cases h2 with
    | non=>exact E3.of h (EqAt.tuple_none x1 hu) (RcAt.tuple_none x1 hu) (RcNeAt.tuple_none x1 hu)
    | bl=>exact E3.of h (EqAt.tuple_bool _ x1 hu) (RcAt.tuple_bool _ x1 hu) (RcNeAt.tuple_bool _ x1 hu)
    | int=>exact E3.of h (EqAt.tuple_int _ _ x1 hu) (RcAt.tuple_int _ _ x1 hu) (RcNeAt.tuple_int _ _ x1 hu)
    | str=>exact E3.of h (EqAt.tuple_str _ _ x1 hu) (RcAt.tuple_str _ _ x1 hu) (RcNeAt.tuple_str _ _ x1 hu)
    | tup x2=>cases e
    | lst x2=>exact E3.of h (EqAt.tuple_list x1 x2 hu) (RcAt.tuple_list x1 x2 hu) (RcNeAt.tuple_list x1 x2 hu)
  | lst x1=>
    cases h2 with
    | non=>exact E3.of h (EqAt.list_none x1 hu) (RcAt.list_none x1 hu) (RcNeAt.list_none x1 hu)
    | bl=>exact E3.of h (EqAt.list_bool _ x1 hu) (RcAt.list_bool _ x1 hu) (RcNeAt.list_bool _ x1 hu)
    | int=>exact E3.of h (EqAt.list_int _ _ x1 hu) (RcAt.list_int _ _ x1 hu) (RcNeAt.list_int _ _ x1 hu)
    | str=>exact E3.of h (EqAt.list_str _ _ x1 hu) (RcAt.list_str _ _ x1 hu) (RcNeAt.list_str _ _ x1 hu)
    | tup x2=>exact E3.of h (EqAt.list_tuple x1 x2 hu) (RcAt.list_tuple x1 x2 hu) (RcNeAt.list_tuple x1 x2 hu)
    | lst x2=>cases e
theorem relv_ref {v:V} {a:Addr} (r:RelV v (.ref a)):v=.ref a:=by
  cases v with
  | ref b=>cases r; rfl
  | non=>cases r
  | bl _=>cases r
  | ty _=>cases r
  | _=>obtain ⟨t,e⟩:=r; cases e
theorem eq_fin (I:Inv X pins σ H s) {n:Nat} {p q:PV} {a1 a2:Addr} {b:Bool} {A:Around} (rp:Rep X.K ⟨H,g⟩ p (.ref a1)) (rq:Rep X.K ⟨H,g⟩ q (.ref a2)) (h:eqD n p q=some b) (rc:RcAt A s (.ref a1) (.ref a2) b):EqAt A s (.ref a1) (.ref a2) b:=by
  by_cases ea:a1=a2
  · subst ea
    exact eq_self I n rp rq h ▸ EqAt.same _
  · exact EqAt.of_refs ea rc
theorem eq_at (I:Inv X pins σ H s):∀ (n:Nat) {p q:PV} {v w:V} {u1 u2:Value} {b:Bool},Rep X.K ⟨H,g⟩ p v->Rep X.K ⟨H,g⟩ q w->RelV v u1->RelV w u2->eqD n p q=some b->∀ A:Around,A.units + n < cLine->
    EqAt A s u1 u2 b/\RcAt A s u1 u2 b/\RcNeAt A s u1 u2 (!b)
  | 0,p,q,v,w,u1,u2,b,_,_,_,_,h,_,_=>by cases h
  | n + 1,p,q,v,w,u1,u2,b,rp,rq,r1,r2,h,A,hA=>by
    have hu:A.units < cLine:=Nat.lt_of_le_of_lt (Nat.le_add_right _ _) hA
    have hin:A.in1.units + n < cLine:=by show A.units + 1 + n < cLine; omega
    have item:∀ {ps qs:List PV} {vs ws:List V} {its its2:List Value} {c:Bool},RepL X.K ⟨H,g⟩ ps vs->Vals vs its->RepL X.K ⟨H,g⟩ qs ws->Vals ws its2->eqDs (eqD n) ps qs=some c->
        ∀ j (h1:j < its.toArray.size) (h2:j < its2.toArray.size),EqAt A.in1 s its.toArray[j] its2.toArray[j] ((eqD n (ps.getD j .non) (qs.getD j .non)).getD false):=fun {ps qs vs ws its its2 c} a b c' d e j h1 h2=>by
      obtain ⟨p,v,e1,e2,e3⟩:=elts a b (j:=j) (by simpa using h1)
      obtain ⟨q,w,f1,f2,f3⟩:=elts c' d (j:=j) (by simpa using h2)
      have:=(eqDs_at e).1 j p q e1 f1
      exact (eq_at I n e2 f2 e3 f3 this A.in1 hin).1
    cases e:two p q with
    | false=>exact eq_flat hu (u_of I rp r1 (eqD_l h)) (u_of I rq r2 (eqD_r h)) e h
    | true=>
      have e':kn p=kn q/\4<=kn p:=by unfold two at e; simpa using e
      have hk:=eqD_l h
      rcases (by omega:kn p=4\/kn p=5) with hp | hp
      · obtain ⟨ps,rfl⟩:=kn4 hp
        obtain ⟨qs,rfl⟩:=kn4 (e'.1.symm.trans hp)
        clear e e' hk hp
        obtain ⟨a1,vs1,its1,rfl,q1,l1,rv1,x1⟩:=tup_of I rp r1
        obtain ⟨a2,vs2,its2,rfl,q2,l2,rv2,x2⟩:=tup_of I rq r2
        have e1:=relv_ref r1
        have e2:=relv_ref r2
        subst e1 e2
        obtain ⟨c,h5,rfl⟩:=map_some h
        have it:=item l1 rv1 l2 rv2 h5
        have z1:its1.toArray.size=ps.length:=by rw [List.size_toArray,← rv1.length,l1.length]
        have z2:its2.toArray.size=qs.length:=by rw [List.size_toArray,← rv2.length,l2.length]
        have rc:=RcAt.tuples x1 x2 hu it
        have rn:=RcNeAt.tuples x1 x2 hu it
        rw [z1,z2,← (eqDs_at h5).2] at rc rn
        exact ⟨eq_fin I rp rq h rc,rc,rn⟩
      · obtain ⟨ps,rfl⟩:=kn5 hp
        obtain ⟨qs,rfl⟩:=kn5 (e'.1.symm.trans hp)
        clear e e' hk hp
        obtain ⟨a1,vs1,its1,rfl,q1,l1,rv1,x1⟩:=lst_of I rp r1
        obtain ⟨a2,vs2,its2,rfl,q2,l2,rv2,x2⟩:=lst_of I rq r2
        have e1:=relv_ref r1
        have e2:=relv_ref r2
        subst e1 e2
        have z1:its1.toArray.size=ps.length:=by rw [List.size_toArray,← rv1.length,l1.length]
        have z2:its2.toArray.size=qs.length:=by rw [List.size_toArray,← rv2.length,l2.length]
        by_cases hl:ps.length=qs.length
        · have h':=(if_pos hl).symm.trans h
          have it:=item l1 rv1 l2 rv2 h'
          have hz:=(z1.trans hl).trans z2.symm
          have rc:=RcAt.lists x1 x2 hz hu it
          have rn:=RcNeAt.lists x1 x2 hz hu it
          rw [z1,← (show min ps.length qs.length=ps.length by rw [← hl,Nat.min_self]),← (eqDs_at h').2] at rc rn
          exact ⟨eq_fin I rp rq h rc,rc,rn⟩
        · have h':=Option.some.inj ((if_neg hl).symm.trans h)
          subst h'
          have hz:(its1.toArray.size != its2.toArray.size)=true:=by rw [z1,z2]; exact bne_iff_ne.mpr hl
          have rc:=RcAt.lists_lengths x1 x2 hz hu
          exact ⟨eq_fin I rp rq h rc,rc,RcNeAt.lists_lengths x1 x2 hz hu⟩
end
section
open PySem.SeqAt
variable {X:Cx} {pins:List (Addr × Obj)} {σ:L2.St} {H:Hp} {s:Shared} {g:List Addr}
theorem eqD_tup {n:Nat} {ps:List PV} {r:PV} {b:Bool} (h:eqD (n + 1) (.tup ps) r=some b):b=false\/∃ rs,r=.tup rs:=by
  cases r with
  | tup rs=>exact .inr ⟨rs,rfl⟩
  | _=>cases h <;> exact .inl rfl
theorem eqD_lst {n:Nat} {ps:List PV} {r:PV} {b:Bool} (h:eqD (n + 1) (.lst ps) r=some b):b=false\/∃ rs,r=.lst rs:=by
  cases r with
  | lst rs=>exact .inr ⟨rs,rfl⟩
  | _=>cases h <;> exact .inl rfl
theorem eq_det (I:Inv X pins σ H s):∀ (n:Nat) {p q r:PV} {v:V} {b c:Bool},Rep X.K ⟨H,g⟩ p v->Rep X.K ⟨H,g⟩ q v->eqD n p r=some b->eqD n q r=some c->b=c
  | 0,p,q,r,v,b,c,_,_,h,_=>by cases h
  | n + 1,p,q,r,v,b,c,rp,rq,h,k=>by
    cases Sh.two I (sh_of rp (eqD_l h)) (sh_of rq (eqD_l k)) with
    | «at» e=>exact Option.some.inj (h.symm.trans k)
    | @tup ps qs _ h2 h4=>
      have el:ps.length=qs.length:=h2.length.symm.trans h4.length
      rcases eqD_tup h with rfl | ⟨rs,rfl⟩
      · rcases eqD_tup k with rfl | ⟨rs,rfl⟩
        · rfl
        · obtain ⟨c1,h5,e1⟩:=map_some h
          obtain ⟨c2,k5,rfl⟩:=map_some k
          rw [← eqDs_det (f:=eqD n) (fun _ _ _ _ _ _=>eq_det I n) h2 h4 h5 k5,← el,e1]
      · obtain ⟨c1,h5,rfl⟩:=map_some h
        obtain ⟨c2,k5,rfl⟩:=map_some k
        rw [eqDs_det (f:=eqD n) (fun _ _ _ _ _ _=>eq_det I n) h2 h4 h5 k5,el]
    | @lst ps qs _ h2 h4=>
      have el:ps.length=qs.length:=h2.length.symm.trans h4.length
      have main:∀ rs,r=.lst rs->b=c:=fun rs e=>by
        subst e
        by_cases hl:qs.length=rs.length
        · exact eqDs_det (f:=eqD n) (fun _ _ _ _ _ _=>eq_det I n) h2 h4 ((if_pos (el.trans hl)).symm.trans h) ((if_pos hl).symm.trans k)
        · exact Option.some.inj ((((if_neg fun e=>hl (el.symm.trans e)).symm.trans h).symm.trans ((if_neg hl).symm.trans k)))
      rcases eqD_lst h with e1 | ⟨rs,e⟩
      · rcases eqD_lst k with e2 | ⟨rs,e⟩
        · exact e1.trans e2.symm
        · exact main rs e
      · exact main rs e
noncomputable def inDs (f:PV->PV->Option Bool) (x:PV):List PV->Option Bool
  | []=>some false
  | q::qs=>(f q x).bind fun b=>(inDs f x qs).map fun c=>b || c
theorem inDs_at {f:PV->PV->Option Bool} {x:PV}:∀ {qs:List PV} {b:Bool},inDs f x qs=some b->(∀ q ∈ qs,∃ c,f q x=some c)/\b=qs.any fun q=>(f q x).getD false
  | [],b,h=>by cases h; exact ⟨fun q hq=>by simp at hq,rfl⟩
  | q::qs,b,h=>by
    obtain ⟨c,h1,h2⟩:=bind_some h
    obtain ⟨d,h3,rfl⟩:=map_some h2
    obtain ⟨i1,i2⟩:=inDs_at h3
    refine ⟨fun q' hq=>?_,?_⟩
    · rcases List.mem_cons.mp hq with rfl | hq
      · exact ⟨c,h1⟩
      · exact i1 q' hq
    · rw [List.any_cons,h1,Option.getD_some,← i2]
open Classical in
noncomputable def worth (K:FG) (Z:ZG) (x:PV) (qs:List PV) (vs:List V) (its:List Value) (u:Value):Bool:=
  if h:∃ (j:Nat) (q:PV),qs[j]?=some q/\its[j]?=some u then (eqD 150 h.choose_spec.choose x).getD false else false
theorem worth_at (I:Inv X pins σ H s) {x:PV} {xv:V} {xu:Value} {qs:List PV} {vs:List V} {its:List Value} (r:RepL X.K ⟨H,g⟩ qs vs) (rv:Vals vs its) (hx:∀ q ∈ qs,∃ c,eqD 150 q x=some c) {j:Nat} {q:PV} {u:Value} (e1:qs[j]?=some q) (e2:its[j]?=some u):
    worth X.K ⟨H,g⟩ x qs vs its u=(eqD 150 q x).getD false:=by
  have h:∃ (j:Nat) (q:PV),qs[j]?=some q/\its[j]?=some u:=⟨j,q,e1,e2⟩
  unfold worth
  rw [dif_pos h]
  obtain ⟨f1,f2⟩:=h.choose_spec.choose_spec
  generalize h.choose_spec.choose=q' at f1 f2
  generalize h.choose=j' at f1 f2
  obtain ⟨v1,g1,g2⟩:=r.get e1
  obtain ⟨v2,k1,k2⟩:=r.get f1
  obtain ⟨u1,m1,m2⟩:=rv.get g1
  obtain ⟨u2,n1,n2⟩:=rv.get k1
  rw [e2] at m1; cases m1
  rw [f2] at n1; cases n1
  have ev:=RelV.inj m2 n2
  subst ev
  obtain ⟨c1,h1⟩:=hx q (List.mem_of_getElem? e1)
  obtain ⟨c2,h2⟩:=hx q' (List.mem_of_getElem? f1)
  rw [h1,h2,eq_det I 150 k2 g2 h2 h1]
theorem worth_eq (I:Inv X pins σ H s) {x:PV} {xv:V} {xu:Value} {qs:List PV} {vs:List V} {its:List Value} (rx:Rep X.K ⟨H,g⟩ x xv) (ru:RelV xv xu) (r:RepL X.K ⟨H,g⟩ qs vs) (rv:Vals vs its) (hx:∀ q ∈ qs,∃ c,eqD 150 q x=some c) {A:Around} (hA:A.units + 150 < cLine):
    ∀ u,u ∈ its.toArray->EqAt A s u xu (worth X.K ⟨H,g⟩ x qs vs its u):=fun u hu=>by
  have hu':u ∈ its:=by simpa using hu
  obtain ⟨j,hj,e⟩:=List.getElem_of_mem hu'
  have e2:its[j]?=some u:=by rw [List.getElem?_eq_getElem hj,e]
  have hl:=rv.length
  have hlr:=r.length
  have e1:qs[j]?=some (qs[j]'(by omega)):=List.getElem?_eq_getElem _
  rw [worth_at (xv:=xv) (xu:=xu) I r rv hx e1 e2]
  obtain ⟨v1,g1,g2⟩:=r.get e1
  obtain ⟨u1,m1,m2⟩:=rv.get g1
  rw [e2] at m1; cases m1
  obtain ⟨c1,h1⟩:=hx _ (List.mem_of_getElem? e1)
  rw [h1]
  exact (eq_at I 150 g2 rx m2 ru h1 A hA).1
theorem worth_any (I:Inv X pins σ H s) {x:PV} {xv:V} {xu:Value} {qs:List PV} {vs:List V} {its:List Value} (r:RepL X.K ⟨H,g⟩ qs vs) (rv:Vals vs its) (hx:∀ q ∈ qs,∃ c,eqD 150 q x=some c):
    its.toArray.any (worth X.K ⟨H,g⟩ x qs vs its)=qs.any fun q=>(eqD 150 q x).getD false:=by
  have hl:its.length=qs.length:=by rw [← rv.length,r.length]
  have key:its.map (worth X.K ⟨H,g⟩ x qs vs its)=qs.map fun q=>(eqD 150 q x).getD false:=by
    apply List.ext_getElem?
    intro j
    rw [List.getElem?_map,List.getElem?_map]
    by_cases hj:j < its.length
    · have e2:=List.getElem?_eq_getElem hj
      have e1:qs[j]?=some (qs[j]'(by omega)):=List.getElem?_eq_getElem _
      rw [e2,e1,Option.map_some,Option.map_some,worth_at (xv:=xv) (xu:=xu) I r rv hx e1 e2]
    · rw [List.getElem?_eq_none (by omega),List.getElem?_eq_none (by omega)]
      rfl
  rw [show its.toArray.any (worth X.K ⟨H,g⟩ x qs vs its)=its.any (worth X.K ⟨H,g⟩ x qs vs its) by simp]
  have a1:its.any (worth X.K ⟨H,g⟩ x qs vs its)=(its.map (worth X.K ⟨H,g⟩ x qs vs its)).any id:=by simp [List.any_map]
  have a2:(qs.any fun q=>(eqD 150 q x).getD false)=(qs.map fun q=>(eqD 150 q x).getD false).any id:=by simp [List.any_map]
  rw [a1,a2,key]
end
section
variable {X:Cx}
theorem SR.rep2 {v w:V} {p q:PV} (h:SR K H0 Z0 σ H ρ ((w,.sh q)::(v,.sh p)::pd)):∃ Z:ZG,Same Z.z H/\Rep K Z p v/\Rep K Z q w:=by
  obtain ⟨_,Z,_,z,r,s⟩:=h.sh
  obtain ⟨x,e1,e2⟩:=(s.perm sl_cons.symm).1 _ List.mem_cons_self
  cases e1
  exact ⟨Z,z.zh,e2,r⟩
theorem SR.rep2H {v w:V} {p q:PV} (h:SR K H0 Z0 σ H ρ ((w,.sh q)::(v,.sh p)::pd)):∃ g,Rep K ⟨H,g⟩ p v/\Rep K ⟨H,g⟩ q w:=by
  obtain ⟨Z,z,a,b⟩:=h.rep2
  exact ⟨Z.g,a.mono (Z':=⟨H,Z.g⟩) ⟨z,List.prefix_refl _⟩,b.mono (Z':=⟨H,Z.g⟩) ⟨z,List.prefix_refl _⟩⟩
noncomputable def rEqP (K:FG) (neg:Bool):R2:=fun x y H Q=>∃ g p q b,Rep K ⟨H,g⟩ p x/\Rep K ⟨H,g⟩ q y/\eqD 150 p q=some b/\Q (.bl (if neg then !b else b)) H
theorem op_eqP {k:Nat} (hr:Room k X.A):OpR X (compareOp .Eq) (rEqP X.K false):=by
  intro pins s σ H x y v u Q I rx ry h
  obtain ⟨g,p,q,b,rp,rq,e,k'⟩:=h
  have hA:X.A.units + 150 < cLine:=by have:=hr.un; omega
  obtain ⟨_,rc,_⟩:=eq_at I 150 rp rq rx ry e X.A hA
  exact rc _ _ _ _ ⟨.bl b,H,I,rfl,k'⟩
theorem op_neP {k:Nat} (hr:Room k X.A):OpR X (compareOp .NotEq) (rEqP X.K true):=by
  intro pins s σ H x y v u Q I rx ry h
  obtain ⟨g,p,q,b,rp,rq,e,k'⟩:=h
  have hA:X.A.units + 150 < cLine:=by have:=hr.un; omega
  obtain ⟨_,_,rn⟩:=eq_at I 150 rp rq rx ry e X.A hA
  exact rn _ _ _ _ ⟨.bl (!b),H,I,rfl,k'⟩
noncomputable def eqP (p q:PV):Option Lc:=(eqD 150 p q).map fun b=>.sh (.bl b)
noncomputable def neP (p q:PV):Option Lc:=(eqD 150 p q).map fun b=>.sh (.bl (!b))
theorem ops_eq:OpS K (rEqP K false) eqP:=by
  intro H0 Z0 σ ρ pd H v w x y l Q s e k
  obtain ⟨b,e1,rfl⟩:=map_some e
  obtain ⟨g,r1,r2⟩:=s.rep2H
  exact ⟨g,x,y,b,r1,r2,e1,k _ H (s.pop.pop.scal rep_bl)⟩
theorem ops_ne:OpS K (rEqP K true) neP:=by
  intro H0 Z0 σ ρ pd H v w x y l Q s e k
  obtain ⟨b,e1,rfl⟩:=map_some e
  obtain ⟨g,r1,r2⟩:=s.rep2H
  exact ⟨g,x,y,b,r1,r2,e1,k _ H (s.pop.pop.scal rep_bl)⟩
noncomputable def rInP (K:FG) (neg:Bool):R2:=fun x y H Q=>(∃ g p qs b,Rep K ⟨H,g⟩ p x/\(Rep K ⟨H,g⟩ (.lst qs) y\/Rep K ⟨H,g⟩ (.tup qs) y)/\inDs (eqD 150) p qs=some b/\Q (.bl (if neg then !b else b)) H)\/
  ∃ i j,x=.str i/\y=.str j/\Q (.bl (if neg then (Builtin.Str.occurrences j i 0 j.length 1).isEmpty else !(Builtin.Str.occurrences j i 0 j.length 1).isEmpty)) H
theorem op_inP {k:Nat} (hr:Room k X.A):OpR X (compareOp .In) (rInP X.K false):=by
  intro pins s σ H x y v u Q I rx ry h
  have hA:X.A.in1.units + 150 < cLine:=by have:=hr.un; show X.A.units + 1 + 150 < cLine; omega
  rcases h with ⟨g,p,qs,b,rp,rq,e,k'⟩ | ⟨i,j,rfl,rfl,k'⟩
  · obtain ⟨i1,i2⟩:=inDs_at e
    rcases rq with rq | rq
    · obtain ⟨a,vs,its,rfl,q1,l1,rv1,t1⟩:=lst_of I rq ry
      refine SeqAt.in_listAt (worth X.K ⟨H,g⟩ p qs vs its) t1 (worth_eq I rp rx l1 rv1 i1 hA) ⟨.bl b,H,I,?_,k'⟩
      rw [worth_any (xv:=x) (xu:=v) I l1 rv1 i1,← i2]
      rfl
    · obtain ⟨a,vs,its,rfl,q1,l1,rv1,t1⟩:=tup_of I rq ry
      refine SeqAt.in_tupleAt (worth X.K ⟨H,g⟩ p qs vs its) t1 (worth_eq I rp rx l1 rv1 i1 hA) ⟨.bl b,H,I,?_,k'⟩
      rw [worth_any (xv:=x) (xu:=v) I l1 rv1 i1,← i2]
      rfl
  · exact op_in_str pins s σ H (.str i) (.str j) v u Q I rx ry ⟨i,j,rfl,rfl,k'⟩
theorem op_notInP {k:Nat} (hr:Room k X.A):OpR X (compareOp .NotIn) (rInP X.K true):=by
  intro pins s σ H x y v u Q I rx ry h
  have hA:X.A.in1.units + 150 < cLine:=by have:=hr.un; show X.A.units + 1 + 150 < cLine; omega
  rcases h with ⟨g,p,qs,b,rp,rq,e,k'⟩ | ⟨i,j,rfl,rfl,k'⟩
  · obtain ⟨i1,i2⟩:=inDs_at e
    rcases rq with rq | rq
    · obtain ⟨a,vs,its,rfl,q1,l1,rv1,t1⟩:=lst_of I rq ry
      refine SeqAt.notIn_listAt (worth X.K ⟨H,g⟩ p qs vs its) t1 (worth_eq I rp rx l1 rv1 i1 hA) ⟨.bl (!b),H,I,?_,k'⟩
      rw [worth_any (xv:=x) (xu:=v) I l1 rv1 i1,← i2]
      rfl
    · obtain ⟨a,vs,its,rfl,q1,l1,rv1,t1⟩:=tup_of I rq ry
      refine SeqAt.notIn_tupleAt (worth X.K ⟨H,g⟩ p qs vs its) t1 (worth_eq I rp rx l1 rv1 i1 hA) ⟨.bl (!b),H,I,?_,k'⟩
      rw [worth_any (xv:=x) (xu:=v) I l1 rv1 i1,← i2]
      rfl
  · exact op_notin_str pins s σ H (.str i) (.str j) v u Q I rx ry ⟨i,j,rfl,rfl,by simpa using k'⟩
noncomputable def isIn (x y:PV):Option Bool:=match y with
  | .lst qs=>inDs (eqD 150) x qs
  | .tup qs=>inDs (eqD 150) x qs
  | .str j=>match x with
    | .str i=>some (!(Builtin.Str.occurrences j i 0 j.length 1).isEmpty)
    | _=>none
  | _=>none
noncomputable def inP (p q:PV):Option Lc:=(isIn p q).map fun b=>.sh (.bl b)
noncomputable def ninP (p q:PV):Option Lc:=(isIn p q).map fun b=>.sh (.bl (!b))
theorem ops_in {neg:Bool}:OpS K (rInP K neg) (fun p q=>(isIn p q).map fun b=>.sh (.bl (if neg then !b else b))):=by
  intro H0 Z0 σ ρ pd H v w x y l Q s e k
  obtain ⟨b,e1,rfl⟩:=map_some e
  obtain ⟨g,r1,r2⟩:=s.rep2H
  cases y with
  | lst qs=>exact .inl ⟨g,x,qs,b,r1,.inl r2,e1,k _ H (s.pop.pop.scal rep_bl)⟩
  | tup qs=>exact .inl ⟨g,x,qs,b,r1,.inr r2,e1,k _ H (s.pop.pop.scal rep_bl)⟩
  | str j=>
    cases x with
    | str i=>
      have e1':=Option.some.inj e1
      subst e1'
      refine .inr ⟨i,j,rep_str_inv r1,rep_str_inv r2,?_⟩
      have:=k (.bl (if neg then (Builtin.Str.occurrences j i 0 j.length 1).isEmpty else !(Builtin.Str.occurrences j i 0 j.length 1).isEmpty)) H
      refine this (s.pop.pop.scal fun Z=>?_)
      cases neg <;> simp [Rep]
    | _=>cases e1
  | _=>cases e1
theorem ops_inT:OpS K (rInP K false) inP:=ops_in
theorem ops_inF:OpS K (rInP K true) ninP:=ops_in
noncomputable def isNon:PV->Bool
  | .non=>true
  | _=>false
noncomputable def isNP (p q:PV):Option Lc:=match q with
  | .non=>some (.sh (.bl (isNon p)))
  | _=>none
noncomputable def notNP (p q:PV):Option Lc:=match q with
  | .non=>some (.sh (.bl (!isNon p)))
  | _=>none
theorem non_iff {Z:ZG} {p:PV} {v:V} (r:Rep K Z p v):decide (v=.non)=isNon p:=by
  cases p with
  | non=>have:=rep_non_inv r; subst this; rfl
  | bl b=>have:=rep_bl_inv r; subst this; rfl
  | int b=>have:=rep_int_inv r; subst this; rfl
  | str b=>have:=rep_str_inv r; subst this; rfl
  | tup ps=>unfold Rep at r; obtain ⟨a,vs,rfl,_⟩:=r; rfl
  | lst ps=>unfold Rep at r; obtain ⟨a,vs,rfl,_⟩:=r; rfl
  | dk ks ps=>unfold Rep at r; obtain ⟨a,vs,rfl,_⟩:=r; rfl
  | dt ks ps=>unfold Rep at r; obtain ⟨a,vs,rfl,_⟩:=r; rfl
  | obj c ks ps=>unfold Rep at r; obtain ⟨a,c,dx,fs,rfl,_⟩:=r; rfl
  | df ks ps=>unfold Rep at r; obtain ⟨a,o,kvs,rfl,_⟩:=r; rfl
  | dtf ks ps=>unfold Rep at r; obtain ⟨a,o,kvs,rfl,_⟩:=r; rfl
  | ptr n=>unfold Rep at r; obtain ⟨a,rfl,_⟩:=r; rfl
theorem ops_isN:OpS K (fun x y H Q=>y=.non/\Q (.bl (decide (x=.non))) H) isNP:=by
  intro H0 Z0 σ ρ pd H v w x y l Q s e k
  obtain ⟨g,r1,r2⟩:=s.rep2H
  cases y with
  | non=>
    have e':=Option.some.inj e
    subst e'
    refine ⟨rep_non_inv r2,?_⟩
    rw [non_iff r1]
    exact k _ H (s.pop.pop.scal rep_bl)
  | _=>cases e
theorem ops_notN:OpS K (fun x y H Q=>y=.non/\Q (.bl (!decide (x=.non))) H) notNP:=by
  intro H0 Z0 σ ρ pd H v w x y l Q s e k
  obtain ⟨g,r1,r2⟩:=s.rep2H
  cases y with
  | non=>
    have e':=Option.some.inj e
    subst e'
    refine ⟨rep_non_inv r2,?_⟩
    rw [non_iff r1]
    exact k _ H (s.pop.pop.scal rep_bl)
  | _=>cases e
noncomputable def ltP:=iOp (fun _ _=>true) fun i j=>.bl (decide (i < j))
noncomputable def leP:=iOp (fun _ _=>true) fun i j=>.bl (decide (i<=j))
noncomputable def gtP:=iOp (fun _ _=>true) fun i j=>.bl (decide (j < i))
theorem ops_lt:OpS K (rI0 fun i j=>.bl (decide (i < j))) ltP:=ops_I0 fun _ _ _=>rep_bl _
theorem ops_le:OpS K (rI0 fun i j=>.bl (decide (i<=j))) leP:=ops_I0 fun _ _ _=>rep_bl _
theorem ops_gt:OpS K (rI0 fun i j=>.bl (decide (j < i))) gtP:=ops_I0 fun _ _ _=>rep_bl _
noncomputable def modP:=iOp (fun _ j=>decide (0 < j)) fun i j=>.int (i % j)
noncomputable def fdivP:=iOp (fun _ j=>decide (0 < j/\j < 1073741824)) fun i j=>.int (i / j)
noncomputable def mulP:=iOp (fun i j=>decide ((-(2 ^ 64) < i/\i < 2 ^ 64)\/(-(2 ^ 64) < j/\j < 2 ^ 64))) fun i j=>.int (i * j)
theorem ops_mod:OpS K (rI (fun _ j=>0 < j) fun i j=>.int (i % j)) modP:=ops_I (fun _ _ h=>of_decide_eq_true h) fun _ _ _=>rep_int _
theorem ops_fdiv:OpS K (rI CDiv fun i j=>.int (i / j)) fdivP:=ops_I (fun i j h=>(of_decide_eq_true h:0 < j/\j < 1073741824)) fun _ _ _=>rep_int _
theorem ops_mul:OpS K (rI CMul fun i j=>.int (i * j)) mulP:=ops_I (fun i j h=>(of_decide_eq_true h:(-(2 ^ 64) < i/\i < 2 ^ 64)\/(-(2 ^ 64) < j/\j < 2 ^ 64))) fun _ _ _=>rep_int _
noncomputable def rAdd (K:FG):R2:=fun x y H Q=>rI0 (fun i j=>.int (i + j)) x y H Q\/(∃ i j,x=.str i/\y=.str j/\i.length + j.length<=sizeLine/\Q (.str (i++j)) H)\/
  (∃ a b xs ys,x=.ref a/\y=.ref b/\SqL K H a xs/\SqL K H b ys/\xs.length + ys.length<=sizeLine/\∀ p,H p=none->Q (.ref p) (upd H p (.lst (xs++ys))))\/rCatT K x y H Q
theorem op_addP:OpR X (binaryOp .Add) (rAdd X.K):=op_add.or (op_add_str.or (op_catS.or op_catT))
noncomputable def addP:PV->PV->Option Lc
  | .int i,.int j=>some (.sh (.int (i + j)))
  | .str i,.str j=>if i.length + j.length<=100000 then some (.sh (.str (i++j))) else none
  | .lst ps,.lst qs=>if ps.length + qs.length<=100000 then some (.own (.lst (ps++qs))) else none
  | .tup (p::ps),.tup qs=>if ps.length + qs.length<=10000 then some (.sh (.tup (p::ps++qs))) else none
  | _,_=>none
theorem ite_some {α:Type} {c:Prop} [Decidable c] {a b:α} (e:(if c then some a else none)=some b):c/\a=b:=by
  split at e
  · rename_i h
    exact ⟨h,Option.some.inj e⟩
  · cases e
theorem addP_sh {x y:PV} {l:Lc} (e:addP x y=some l):(∃ i j,x=.int i/\y=.int j/\l=.sh (.int (i + j)))\/(∃ i j,x=.str i/\y=.str j/\i.length + j.length<=100000/\l=.sh (.str (i++j)))
    \/ (∃ ps qs,x=.lst ps/\y=.lst qs/\ps.length + qs.length<=100000/\l=.own (.lst (ps++qs)))\/∃ p ps qs,x=.tup (p::ps)/\y=.tup qs/\ps.length + qs.length<=10000/\l=.sh (.tup (p::ps++qs)):=by
  unfold addP at e
  split at e
  · cases e
    exact .inl ⟨_,_,rfl,rfl,rfl⟩
  · obtain ⟨h,e⟩:=ite_some e
    exact .inr (.inl ⟨_,_,rfl,rfl,h,e.symm⟩)
  · obtain ⟨h,e⟩:=ite_some e
    exact .inr (.inr (.inl ⟨_,_,rfl,rfl,h,e.symm⟩))
  · obtain ⟨h,e⟩:=ite_some e
    exact .inr (.inr (.inr ⟨_,_,_,rfl,rfl,h,e.symm⟩))
  · cases e
theorem ops_add:OpS K (rAdd K) addP:=by
  intro H0 Z0 σ ρ pd H v w x y l Q s e k
  obtain ⟨g,r1,r2⟩:=s.rep2H
  rcases addP_sh e with ⟨i,j,rfl,rfl,rfl⟩ | ⟨i,j,rfl,rfl,hl,rfl⟩ | ⟨ps,qs,rfl,rfl,hl,rfl⟩ | ⟨p,ps,qs,rfl,rfl,hl,rfl⟩
  · exact .inl ⟨i,j,rep_int_inv r1,rep_int_inv r2,k _ H (s.pop.pop.scal rep_int)⟩
  · exact .inr (.inl ⟨i,j,rep_str_inv r1,rep_str_inv r2,small hl,k _ H (s.pop.pop.scal rep_str)⟩)
  · obtain ⟨el,Z,hg,z,rq,s1⟩:=s.sh
    have s2:=s1.perm sl_cons.symm
    obtain ⟨_,e1,rp⟩:=s2.1 _ List.mem_cons_self
    cases e1
    unfold Rep at rp rq
    obtain ⟨a,xs,rfl,h1,h2⟩:=rp
    obtain ⟨b,ys,rfl,h3,h4⟩:=rq
    refine .inr (.inr (.inl ⟨a,b,xs,ys,rfl,rfl,SqL.same z.zh h1,SqL.same z.zh h3,by rw [h2.length,h4.length]; exact small hl,fun p hp=>k _ _ ?_⟩))
    obtain ⟨z',s'⟩:=(s2.sub (List.sublist_cons_self _ _)).new (o:=.lst (xs++ys)) (p:=.lst (ps++qs)) z hp ⟨xs++ys,upd_same,h2.append h4⟩
    exact .mk el hg z' s'
  · obtain ⟨el,Z,hg,z,rq,s1⟩:=s.sh
    have s2:=s1.perm sl_cons.symm
    obtain ⟨_,e1,rp⟩:=s2.1 _ List.mem_cons_self
    cases e1
    unfold Rep at rp rq
    obtain ⟨a,xs,rfl,h1,h2⟩:=rp
    obtain ⟨b,ys,rfl,h3,h4⟩:=rq
    have hx:xs ≠ []:=fun h=>by have:=h2.length; rw [h] at this; simp at this
    have hz:=h2.length
    have hz':=h4.length
    rw [List.length_cons] at hz
    refine .inr (.inr (.inr ⟨a,b,xs,ys,rfl,rfl,SqT.same z.zh h1,SqT.same z.zh h3,hx,small (by omega),fun h=>?_,fun h q hq=>?_⟩))
    · subst h
      have:qs=[]:=List.eq_nil_of_length_eq_zero hz'.symm
      subst this
      rw [List.append_nil] at k
      exact k _ H s.pop
    · have s3:=s2.sub (List.sublist_cons_self _ _)
      obtain ⟨z',sz,s'⟩:=s3.newF (o:=.tup (xs++ys)) z hq
      refine k _ _ (.mk (Z:=Z.put q (.tup (xs++ys))) el hg z' (s'.consS ?_))
      unfold Rep
      exact ⟨q,xs++ys,rfl,SqT.of upd_same,(h2.append h4).mono sz⟩
noncomputable def ixP:PV->PV->Option Lc
  | .lst ps,.int i=>(atI ps i).map .sh
  | .tup ps,.int i=>(atI ps i).map .sh
  | .str x,.int i=>if x.length<=100000 then (atI x.cps.toList i).map fun c=>.sh (.str ⟨#[c]⟩) else none
  | _,_=>none
theorem atI_len {α β:Type} {l:List α} {r:List β} {i:Int} {x:α} (h:atI l i=some x) (e:r.length=l.length):∃ (j:Nat),l[j]?=some x/\∀ y,r[j]?=some y->atI r i=some y:=by
  unfold atI at h
  obtain ⟨j,h1,h2⟩:=bind_some h
  refine ⟨j,h2,fun y hy=>?_⟩
  unfold atI
  rw [e,h1]
  exact hy
theorem ixP_sh {x y:PV} {l:Lc} (e:ixP x y=some l):∃ i,y=.int i/\((∃ ps,(x=.lst ps\/x=.tup ps)/\(atI ps i).map Lc.sh=some l)\/∃ t c,x=.str t/\t.length<=100000/\atI t.cps.toList i=some c/\l=.sh (.str ⟨#[c]⟩)):=by
  unfold ixP at e
  split at e
  · exact ⟨_,rfl,.inl ⟨_,.inl rfl,e⟩⟩
  · exact ⟨_,rfl,.inl ⟨_,.inr rfl,e⟩⟩
  · split at e
    · rename_i h
      obtain ⟨c,h1,rfl⟩:=map_some e
      exact ⟨_,rfl,.inr ⟨_,c,rfl,h,h1,rfl⟩⟩
    · cases e
  · cases e
theorem ops_ix:OpS K (rIx K) ixP:=by
  intro H0 Z0 σ ρ pd H v w x y l Q s e k
  obtain ⟨i,rfl,hx⟩:=ixP_sh e
  obtain ⟨el,Z,hg,z,r2,s1⟩:=s.sh
  have s2:=s1.perm sl_cons.symm
  obtain ⟨_,e1,r1⟩:=s2.1 _ List.mem_cons_self
  cases e1
  have s3:=s2.sub (List.sublist_cons_self _ _)
  have ew:=rep_int_inv r2
  rcases hx with ⟨ps,hx,h0⟩ | ⟨x,c,rfl,hl,h1,rfl⟩
  · obtain ⟨p,h1,rfl⟩:=map_some h0
    rcases hx with rfl | rfl
    · unfold Rep at r1
      obtain ⟨a,vs,rfl,h2,h3⟩:=r1
      obtain ⟨j,e1,e2⟩:=atI_len h1 h3.length
      obtain ⟨u,e3,e4⟩:=h3.get e1
      exact .inl ⟨a,vs,i,u,rfl,ew,SqL.same z.zh h2,e2 u e3,k _ H (.mk el hg z (s3.consS e4))⟩
    · unfold Rep at r1
      obtain ⟨a,vs,rfl,h2,h3⟩:=r1
      obtain ⟨j,e1,e2⟩:=atI_len h1 h3.length
      obtain ⟨u,e3,e4⟩:=h3.get e1
      exact .inr (.inl ⟨a,vs,i,u,rfl,ew,SqT.same z.zh h2,e2 u e3,k _ H (.mk el hg z (s3.consS e4))⟩)
  · exact .inr (.inr ⟨x,i,c,rep_str_inv r1,ew,small hl,h1,k _ H (s.pop.pop.scal rep_str)⟩)
noncomputable def cutP (ps:List PV) (lo hi:Option Int):List PV:=(ps.drop (HT.sIx ps.length 0 lo)).take (HT.sIx ps.length ps.length hi - HT.sIx ps.length 0 lo)
noncomputable abbrev OF:=Ev->Option (Option Int × Ev)
noncomputable def tPO (K:FG) (f:OF):TO:=fun σ H Q=>∃ H0 Z0 ρ pd r ρ',SR K H0 Z0 σ H ρ pd/\f ρ=some (r,ρ')/\∀ H',SR K H0 Z0 σ H' ρ' pd->Q r H'
theorem PO.imp {e:Option Expr} {t t':TO} (h:PO X e t) (i:∀ σ H Q,t' σ H Q->t σ H Q):PO X e t':=fun pins s σ H Q I q=>h pins s σ H Q I (i σ H Q q)
noncomputable def oNone:OF:=fun ρ=>some (none,ρ)
noncomputable def oSome (f:EF):OF:=fun ρ=>(f ρ).bind fun x=>match x.1.pv with
  | .int i=>some (some i,x.2)
  | _=>none
theorem qo_none:PO X none (tPO X.K oNone):=PO.imp po_none fun σ H Q q=>by
  obtain ⟨H0,Z0,ρ,pd,r,ρ',s,h,k⟩:=q
  cases h
  exact k H s
theorem qo_some {e:Expr} {f:EF} (h:PE X e (tP X.K f)):PO X (some e) (tPO X.K (oSome f)):=PO.imp (po_some h) fun σ H Q q=>by
  obtain ⟨H0,Z0,ρ,pd,r,ρ',s,h,k⟩:=q
  obtain ⟨x,h1,h2⟩:=bind_some h
  refine ⟨H0,Z0,ρ,pd,x.1,x.2,s,h1,fun v H1 s1=>?_⟩
  obtain ⟨_,r1⟩:=s1.freeze.repH
  cases e:x.1.pv with
  | int i=>
    rw [e] at h2 r1
    cases h2
    exact ⟨i,rep_int_inv r1,k H1 s1.pop⟩
  | _=>rw [e] at h2; cases h2
theorem RepL.cut {Z:ZG} {ps:List PV} {vs:List V} {lo hi:Option Int} (h:RepL K Z ps vs):RepL K Z (cutP ps lo hi) (cutV vs lo hi):=by
  unfold cutP cutV
  rw [h.length]
  exact (h.drop _).take _
noncomputable def CallS (K:FG) (r:List V->Hp->VK->Prop) (g:List PV->Option Lc):Prop:=∀ H0 Z0 σ ρ pd H vs ps l Q,vs.length=ps.length->SR K H0 Z0 σ H ρ (vs.zip (ps.map Lc.sh)++pd)->g ps=some l->(∀ u H',SR K H0 Z0 σ H' ρ ((u,l)::pd)->Q u H')->r vs H Q
noncomputable def eB (g:List PV->Option Lc) (a:AF):EF:=fun ρ=>(a ρ).bind fun y=>(g (y.1.map Lc.pv)).map fun l=>(l,y.2)
theorem cb_imp {r:List V->Hp->VK->Prop} {g:List PV->Option Lc} (hs:CallS X.K r g) {a:AF}:∀ σ H Q,tP X.K (eB g a) σ H Q->tCB r (tPA X.K a) σ H Q:=fun σ H Q q=>by
  obtain ⟨H0,Z0,ρ,pd,l,ρ',s,f,k⟩:=q
  obtain ⟨y,h1,h2⟩:=bind_some f
  obtain ⟨l',h3,h4⟩:=map_some h2
  cases h4
  refine ⟨H0,Z0,ρ,pd,y.1,y.2,s,h1,fun vs H2 e2 s2=>?_⟩
  have s3:=s2.freezeAll
  have hm:(y.1.map fun l=>Lc.sh l.pv)=(y.1.map Lc.pv).map Lc.sh:=by rw [List.map_map]; rfl
  rw [hm] at s3
  exact hs H0 Z0 σ y.2 pd H2 vs (y.1.map Lc.pv) _ Q (by simpa using e2) s3 h3 k
theorem qcallB {x:Str} {id:String} {r:List V->Hp->VK->Prop} {g:List PV->Option Lc} {e:Expr} {es:List Expr} {a:AF} {p pos:Pos} (hc:CallR X (.builtin id) r) (hs:CallS X.K r g) (h:PE X (.Call (.Name x p) (e::es) [] pos) (tCB r (tPA X.K a))):PE X (.Call (.Name x p) (e::es) [] pos) (tP X.K (eB g a)):=PE.imp h (cb_imp hs)
theorem CallS.one {r:List V->Hp->VK->Prop} {g:PV->Option Lc} (h:∀ H0 Z0 σ ρ pd H v p l Q,SR K H0 Z0 σ H ρ ((v,.sh p)::pd)->g p=some l->(∀ u H',SR K H0 Z0 σ H' ρ ((u,l)::pd)->Q u H')->r [v] H Q):
    CallS K r (fun ps=>match ps with | [p]=>g p | _=>none):=by
  intro H0 Z0 σ ρ pd H vs ps l Q e s hg k
  match ps,vs,e,s,hg with
  | [p],[v],_,s,hg=>exact h H0 Z0 σ ρ pd H v p l Q s hg k
  | [p],[],e,_,_=>simp at e
  | [p],_::_::_,e,_,_=>simp at e
  | [],_,_,_,hg=>cases hg
  | _::_::_,_,_,_,hg=>cases hg
noncomputable def lenP:PV->Option Lc
  | .str x=>if x.length<=100000 then some (.sh (.int x.length)) else none
  | .lst ps=>some (.sh (.int ps.length))
  | .tup ps=>some (.sh (.int ps.length))
  | _=>none
noncomputable abbrev len1:List PV->Option Lc:=fun ps=>match ps with | [p]=>lenP p | _=>none
theorem cs_len:CallS K (fun xs H Q=>∃ x n,xs=[x]/\LenV K x H n/\Q (.int n) H) len1:=CallS.one fun H0 Z0 σ ρ pd H v p l Q s e k=>by
  obtain ⟨_,r⟩:=s.repH
  cases p with
  | str x=>
    have e':(if x.length<=100000 then some (Lc.sh (.int x.length)) else none)=some l:=e
    split at e'
    · rename_i hl
      cases e'
      have:=rep_str_inv r
      subst this
      exact ⟨_,x.length,rfl,⟨small hl,rfl⟩,k _ H (s.pop.scal rep_int)⟩
    · cases e'
  | lst ps=>
    cases e
    unfold Rep at r
    obtain ⟨a,vs,rfl,h1,h2⟩:=r
    exact ⟨_,ps.length,rfl,.inl ⟨vs,h1,h2.length.symm⟩,k _ H (s.pop.scal rep_int)⟩
  | tup ps=>
    cases e
    unfold Rep at r
    obtain ⟨a,vs,rfl,h1,h2⟩:=r
    exact ⟨_,ps.length,rfl,.inr ⟨vs,h1,h2.length.symm⟩,k _ H (s.pop.scal rep_int)⟩
  | _=>cases e
noncomputable def listP:PV->Option Lc
  | .lst ps=>some (.own (.lst ps))
  | .tup ps=>some (.own (.lst ps))
  | _=>none
noncomputable abbrev list1:List PV->Option Lc:=fun ps=>match ps with | [p]=>listP p | _=>none
theorem cs_list:CallS K (fun xs H Q=>∃ p ys,xs=[.ref p]/\(SqL K H p ys\/SqT K H p ys)/\∀ l,H l=none->Q (.ref l) (upd H l (.lst ys))) list1:=CallS.one fun H0 Z0 σ ρ pd H v p l Q s e k=>by
  obtain ⟨el,Z,hg,z,r,s1⟩:=s.sh
  cases p with
  | lst ps=>
    cases e
    unfold Rep at r
    obtain ⟨a,vs,rfl,h1,h2⟩:=r
    refine ⟨a,vs,rfl,.inl (SqL.same z.zh h1),fun q hq=>k _ _ ?_⟩
    obtain ⟨z',s'⟩:=s1.new (o:=.lst vs) (p:=.lst ps) z hq ⟨_,upd_same,h2⟩
    exact .mk el hg z' s'
  | tup ps=>
    cases e
    unfold Rep at r
    obtain ⟨a,vs,rfl,h1,h2⟩:=r
    refine ⟨a,vs,rfl,.inr (SqT.same z.zh h1),fun q hq=>k _ _ ?_⟩
    obtain ⟨z',s'⟩:=s1.new (o:=.lst vs) (p:=.lst ps) z hq ⟨_,upd_same,h2⟩
    exact .mk el hg z' s'
  | _=>cases e
end
section
variable {X:Cx}
theorem Ev.set_set {i:Nat} {x y:Option Lc}:(ρ.set i x).set i y=ρ.set i y:=by
  show Ev.mk ((ρ.vs.set i x).set i y) ρ.mu=_
  rw [List.set_set]
  rfl
theorem SR.takeO {i:Nat} {ws:List PV} (s:SR K H0 Z0 σ H ρ pd) (e:ρ.vs[i]?=some (some (.own (.lst ws)))):
    ∃ a,σ[i]?=some (some (.ref a))/\(∃ us,H a=some (.lst us))/\SR K H0 Z0 σ H (ρ.set i none) ((.ref a,.own (.lst ws))::pd):=by
  obtain ⟨v,e1,s1⟩:=s.take e
  obtain ⟨_,Z,_,z,so⟩:=s1.top
  obtain ⟨a,ea,⟨us,hu,_⟩,_⟩:=so.1 _ List.mem_cons_self
  have ea':v=.ref a:=Option.some.inj ea
  subst ea'
  exact ⟨a,e1,⟨us,hu⟩,s1⟩
noncomputable def sApp (i:Nat) (f:EF):SF:=fun ρ=>match ρ.vs[i]? with
  | some (some (.own (.lst _)))=>(f ρ).bind fun y=>match y.2.vs[i]? with
    | some (some (.own (.lst ws)))=>if ws.length < 100000 then some (.nx (y.2.set i (some (.own (.lst (ws++[y.1.pv])))))) else none
    | _=>none
  | _=>none
theorem qs_app {i:Nat} {o e:Expr} {f:EF} {apos cpos pos:Pos} (h:PS X (.Expr (.Call (.Attribute o "append" apos) [e] [] cpos) pos) (tDrop (tBM X.K "list" rAppend (tVar i) (tPA X.K (aCons f aNil))))):
    PS X (.Expr (.Call (.Attribute o "append" apos) [e] [] cpos) pos) (tPs X.K (sApp i f)):=PS.imp h fun D σ H q=>by
  obtain ⟨H0,Z0,ρ,pd,fl,s,h,k⟩:=q
  unfold sApp at h
  split at h
  · rename_i ws0 e0
    obtain ⟨y,h1,h2⟩:=bind_some h
    obtain ⟨a,ea,⟨us,hu⟩,_⟩:=s.takeO e0
    refine ⟨.ref a,ea,.inl ⟨rfl,us,SqL.of hu⟩,H0,Z0,ρ,pd,[y.1],y.2,s,?_,fun vs H2 e2 s2=>?_⟩
    · unfold aCons aNil
      rw [h1]
      rfl
    · obtain ⟨v1,rfl⟩:=ln1 e2
      split at h2
      · rename_i ws e3
        split at h2
        · rename_i hz
          cases h2
          obtain ⟨a',ea',_,s3⟩:=SR.takeO s2 e3
          rw [ea] at ea'; cases ea'
          have s4:SR X.K H0 Z0 σ H2 (y.2.set i none) ((v1,y.1)::(.ref a,.own (.lst ws))::pd):=s3.swap
          obtain ⟨us2,hu2,hl,s5⟩:=s4.pushO
          refine ⟨a,us2,v1,rfl,rfl,hu2,by rw [hl,sizeLine_eq]; omega,k σ _ ?_⟩
          have s6:=s5.put ea
          rw [Ev.set_set] at s6
          exact s6
        · cases h2
      · cases h2
  · cases h
theorem SR.setO {v:V} {p:PV} {a:Addr} {ws:List PV} {j:Nat} (s:SR K H0 Z0 σ H ρ ((v,.sh p)::(.ref a,.own (.lst ws))::pd)):
    ∃ us,H a=some (.lst us)/\us.length=ws.length/\SR K H0 Z0 σ (upd H a (.lst (us.set j v))) ρ ((.ref a,.own (.lst (ws.set j p)))::pd):=by
  obtain ⟨el,Z,hg,z,r,so⟩:=s.sh
  have so2:=so.perm sl_cons.symm
  obtain ⟨_,eb,⟨us,hu,hr⟩,_⟩:=so2.1 _ List.mem_cons_self
  cases eb
  refine ⟨us,hu,hr.length,?_⟩
  obtain ⟨z',s'⟩:=so2.write (o:=.lst (us.set j v)) (q:=.lst (ws.set j p)) z ⟨us.set j v,upd_same,hr.set r j⟩
  exact .mk el hg z' s'
noncomputable def sSetI (i:Nat) (fi fv:EF):SF:=fun ρ=>(fv ρ).bind fun x=>match x.2.vs[i]? with
  | some (some (.own (.lst _)))=>(fi x.2).bind fun y=>match y.1.pv,y.2.vs[i]? with
    | .int k,some (some (.own (.lst ws)))=>(ixN ws.length k).map fun j=>.nx (y.2.set i (some (.own (.lst (ws.set j x.1.pv)))))
    | _,_=>none
  | _=>none
theorem qs_setI {i:Nat} {o ix e:Expr} {fi fv:EF} {tpos pos:Pos} (h:PS X (.Assign [.Subscript o ix tpos] e pos) (tAsg (tP X.K fv) (gSub (tVar i) (tP X.K fi) rSetL))):PS X (.Assign [.Subscript o ix tpos] e pos) (tPs X.K (sSetI i fi fv)):=PS.imp h fun D σ H q=>by
  obtain ⟨H0,Z0,ρ,pd,fl,s,h,k⟩:=q
  obtain ⟨x,h1,h2⟩:=bind_some h
  refine ⟨H0,Z0,ρ,pd,x.1,x.2,s,h1,fun v H1 s1=>?_⟩
  split at h2
  · rename_i ws0 e0
    obtain ⟨y,h3,h4⟩:=bind_some h2
    obtain ⟨a,ea,_,_⟩:=s1.takeO e0
    refine ⟨.ref a,ea,H0,Z0,x.2,_,y.1,y.2,s1.freeze,h3,fun w H2 s2=>?_⟩
    split at h4
    · rename_i kk ws ek e3
      obtain ⟨j,h5,rfl⟩:=map_some h4
      obtain ⟨_,rw'⟩:=s2.freeze.repH
      rw [ek] at rw'
      have ew:=rep_int_inv rw'
      obtain ⟨a',ea',_,s3⟩:=s2.pop.takeO e3
      rw [ea] at ea'; cases ea'
      obtain ⟨us,hu,hl,s4⟩:=s3.swap.setO (j:=j)
      refine ⟨a,us,kk,j,rfl,ew,hu,by rw [hl]; exact h5,k σ _ ?_⟩
      have s5:=s4.put ea
      rw [Ev.set_set] at s5
      exact s5
    · cases h4
  · cases h2
theorem cel_split {g:List Addr} {mu:Mu} {n:Nat} {a:Addr} {o:Option PV} (hg:g[n]?=some a) (hm:mu[n]?=some o):∃ R:Sl,List.Perm (cel g mu) ((some (.ref a),o.map Lc.own)::R)/\∀ o',List.Perm (cel g (mu.set n o')) ((some (.ref a),o'.map Lc.own)::R):=by
  have h1:(g.map fun a=>some (V.ref a))[n]?=some (some (.ref a)):=by rw [List.getElem?_map,hg]; rfl
  have h2:(mu.map fun o=>o.map Lc.own)[n]?=some (o.map Lc.own):=by rw [List.getElem?_map,hm]; rfl
  obtain ⟨R,p1,p2⟩:=set_split (zip_get h1 h2)
  refine ⟨R,p1,fun o'=>?_⟩
  have:=p2 (some (.ref a),o'.map Lc.own)
  rw [← zip_set,set_same h1] at this
  unfold cel
  rw [List.map_set]
  exact this
theorem SR.cellO {v:V} {n:Nat} {p:PV} (s:SR K H0 Z0 σ H ρ ((v,.sh (.ptr n))::pd)) (hm:ρ.mu[n]?=some (some p)):
    ∃ a,v=.ref a/\SR K H0 Z0 σ H ⟨ρ.vs,ρ.mu.set n none⟩ ((.ref a,.own p)::(.ref a,.sh (.ptr n))::pd):=by
  obtain ⟨el,Z,hg,z,r,so⟩:=s.sh
  have r0:=r
  unfold Rep at r
  obtain ⟨a,rfl,ha⟩:=r
  obtain ⟨R,p1,p2⟩:=cel_split ha hm
  refine ⟨a,rfl,.mk (Z:=Z) el (by simpa using hg) z ?_⟩
  have so2:Slots K H0 Z H ((some (.ref a),some (.own p))::(R++(σ.zip ρ.vs++pd.map fun e=>(some e.1,some e.2)))):=so.perm (p1.append_right _).symm
  have so3:Slots K H0 Z H ((some (.ref a),none)::(some (.ref a),some (.own p))::(R++(σ.zip ρ.vs++pd.map fun e=>(some e.1,some e.2)))):=by
    refine ⟨fun e he=>?_,?_⟩
    · rcases List.mem_cons.mp he with rfl | he
      · trivial
      · exact so2.1 e he
    · rw [List.filterMap_cons_none rfl]; exact so2.2
  have so4:Slots K H0 Z H ((some (.ref a),some (.own p))::sl Z.g σ ⟨ρ.vs,ρ.mu.set n none⟩ pd):=(so3.perm (List.Perm.swap _ _ _)).perm (List.Perm.cons _ ((p2 none).append_right _))
  exact ((so4.consS r0).perm (List.Perm.swap _ _ _)).perm (List.Perm.cons _ sl_cons)
theorem SR.cellP {a:Addr} {n:Nat} {q:PV} (s:SR K H0 Z0 σ H ρ ((.ref a,.own q)::(.ref a,.sh (.ptr n))::pd)) (hm:ρ.mu[n]?=some none):SR K H0 Z0 σ H ⟨ρ.vs,ρ.mu.set n (some q)⟩ pd:=by
  obtain ⟨el,Z,hg,z,r,so⟩:=s.swap.sh
  unfold Rep at r
  obtain ⟨b,eb,ha⟩:=r
  cases eb
  obtain ⟨R,p1,p2⟩:=cel_split ha hm
  have so2:=so.perm sl_cons.symm
  refine ⟨el,Z,by simpa using hg,z,?_⟩
  have p3:List.Perm (sl Z.g σ ρ pd) ((some (.ref a),none)::(R++(σ.zip ρ.vs++pd.map fun e=>(some e.1,some e.2)))):=p1.append_right _
  have so3:=so2.perm (p3.symm.cons _)
  have so4:=so3.sub (L':=(some (.ref a),some (.own q))::(R++(σ.zip ρ.vs++pd.map fun e=>(some e.1,some e.2)))) ((List.sublist_cons_self _ _).cons_cons _)
  exact so4.perm ((p2 (some q)).append_right _)
noncomputable def sSetC (fo fi fv:EF):SF:=fun ρ=>(fv ρ).bind fun x=>(fo x.2).bind fun o=>(fi o.2).bind fun y=>match o.1.pv,y.1.pv with
  | .ptr n,.int k=>match y.2.mu[n]? with
    | some (some (.lst ws))=>(ixN ws.length k).map fun j=>.nx ⟨y.2.vs,y.2.mu.set n (some (.lst (ws.set j x.1.pv)))⟩
    | _=>none
  | _,_=>none
noncomputable def eIx (fa fb:EF):EF:=fun ρ=>(fa ρ).bind fun x=>(fb x.2).bind fun y=>match x.1.pv,y.1.pv with
  | .ptr n,.int k=>match y.2.mu[n]? with
    | some (some (.lst ws))=>(atI ws k).map fun p=>(.sh p,y.2)
    | _=>none
  | p,q=>(ixP p q).map fun l=>(l,y.2)
theorem qix' {a b:Expr} {pos:Pos} {fa fb:EF} (ha:PE X a (tP X.K fa)) (hb:PE X b (tP X.K fb)) (hm:PlainIx b):PE X (.Subscript a b pos) (tP X.K (eIx fa fb)):=PE.imp (pe_ix ix_seq ha hb hm) fun σ H Q q=>by
  obtain ⟨H0,Z0,ρ,pd,l,ρ',s,f,k⟩:=q
  obtain ⟨x,h1,h2⟩:=bind_some f
  obtain ⟨y,h3,h4⟩:=bind_some h2
  refine ⟨H0,Z0,ρ,pd,x.1,x.2,s,h1,fun v H1 s1=>⟨H0,Z0,x.2,_,y.1,y.2,s1,h3,fun w H2 s2=>?_⟩⟩
  have s3:=s2.freeze.swap.freeze.swap
  split at h4
  · rename_i n kk en ek
    split at h4
    · rename_i ws em
      obtain ⟨p,h5,h6⟩:=map_some h4
      cases h6
      rw [en,ek] at s3
      obtain ⟨_,rw'⟩:=s3.repH
      have ew:=rep_int_inv rw'
      obtain ⟨a,rfl,s5⟩:=s3.pop.cellO em
      obtain ⟨el,Z,hg,z,so⟩:=s5.top
      obtain ⟨_,ea,⟨us,hu,hr⟩,_⟩:=so.1 _ List.mem_cons_self
      cases ea
      obtain ⟨j,e1,e2⟩:=atI_len h5 hr.length
      obtain ⟨u,e3,e4⟩:=hr.get e1
      refine .inl ⟨a,us,kk,u,rfl,ew,SqL.of hu,e2 u e3,k u H2 ?_⟩
      have s6:SR X.K H0 Z0 σ H2 ⟨y.2.vs,y.2.mu.set n none⟩ ((u,.sh p)::(.ref a,.own (.lst ws))::(.ref a,.sh (.ptr n))::pd):=.mk (Z:=Z) el hg z ((so.perm sl_cons).consS e4)
      have hn:n < y.2.mu.length:=(List.getElem?_eq_some_iff.mp em).1
      have s7:SR X.K H0 Z0 σ H2 ⟨y.2.vs,y.2.mu.set n none⟩ ((.ref a,.own (.lst ws))::(.ref a,.sh (.ptr n))::(u,.sh p)::pd):=s6.perm (((List.Perm.swap _ _ _).cons _).trans (List.Perm.swap _ _ _))
      have s8:=s7.cellP (by show (y.2.mu.set n none)[n]?=_; rw [List.getElem?_set_self hn])
      have e8:(y.2.mu.set n none).set n (some (.lst ws))=y.2.mu:=by rw [List.set_set]; exact set_same em
      have s9:SR X.K H0 Z0 σ H2 ⟨y.2.vs,(y.2.mu.set n none).set n (some (.lst ws))⟩ ((u,.sh p)::pd):=s8
      rw [e8] at s9
      exact s9
    · cases h4
  · obtain ⟨l',h5,h6⟩:=map_some h4
    cases h6
    exact ops_ix H0 Z0 σ y.2 pd H2 v w x.1.pv y.1.pv _ Q s3 h5 k
mutual
noncomputable def flatP:PV->Bool
  | .non=>true
  | .bl _=>true
  | .int _=>true
  | .str _=>true
  | .tup ps=>flatPs ps
  | _=>false
noncomputable def flatPs:List PV->Bool
  | []=>true
  | p::ps=>flatP p && flatPs ps
end
noncomputable def flatL:Lc->Bool
  | .sh p=>flatP p
  | .own (.lst ps)=>flatPs ps
  | _=>false
noncomputable def peekV:Option Lc->Option Lc
  | some l=>some (.sh l.pv)
  | none=>none
noncomputable def Ev.peek (ρ:Ev):Ev:=⟨ρ.vs.map peekV,ρ.mu.map fun _=>none⟩
noncomputable def eRead (f:EF):EF:=fun ρ=>(f ρ.peek).bind fun x=>if flatL x.1=true then some (x.1,ρ) else none
noncomputable def tRead (f:TF):TF:=fun ρ=>(f ρ.peek).map fun x=>(x.1,ρ)
noncomputable def zb:Option HO->Option HO->Option HO->Option HO
  | some (.tup vs),_,_=>some (.tup vs)
  | some (.frz o u),_,_=>some (.frz o u)
  | some _,z,_=>z
  | none,_,z=>z
noncomputable def zback (H:Hp) (Z Z':ZG):ZG:=⟨fun b=>zb (H b) (Z.z b) (Z'.z b),Z.g⟩
theorem zback_tup {H H':Hp} {Z Z':ZG} (hh:Same H H') (zh:Same Z'.z H') {a:Addr} {vs:List V} (h:SqT K Z'.z a vs):SqT K (zback H Z Z').z a vs:=by
  rcases h with (h | ⟨o,h⟩) | h
  · refine .inl (.inl ?_)
    show zb (H a) (Z.z a) (Z'.z a)=_
    cases q:H a with
    | none=>exact h
    | some o=>
      have e1:=hh a o q
      rw [zh a _ h] at e1
      cases e1
      rfl
  · refine .inl (.inr ⟨o,?_⟩)
    show zb (H a) (Z.z a) (Z'.z a)=_
    cases q:H a with
    | none=>exact h
    | some o'=>
      have e1:=hh a o' q
      rw [zh a _ h] at e1
      cases e1
      rfl
  · exact .inr h
mutual
theorem flat_rep {H H':Hp} {Z Z':ZG} (hh:Same H H') (zh:Same Z'.z H'):∀ {p:PV} {v:V},flatP p=true->Rep K Z' p v->Rep K (zback H Z Z') p v
  | .non,v,_,h=>by unfold Rep at h ⊢; exact h
  | .bl _,v,_,h=>by unfold Rep at h ⊢; exact h
  | .int _,v,_,h=>by unfold Rep at h ⊢; exact h
  | .str _,v,_,h=>by unfold Rep at h ⊢; exact h
  | .tup ps,v,f,h=>by
    unfold Rep at h ⊢
    obtain ⟨a,vs,e,h1,h2⟩:=h
    unfold flatP at f
    exact ⟨a,vs,e,zback_tup hh zh h1,flat_repL hh zh f h2⟩
  | .lst _,v,f,_=>by unfold flatP at f; cases f
  | .dk _ _,v,f,_=>by unfold flatP at f; cases f
  | .dt _ _,v,f,_=>by unfold flatP at f; cases f
  | .obj _ _ _,v,f,_=>by unfold flatP at f; cases f
  | .df _ _,v,f,_=>by unfold flatP at f; cases f
  | .dtf _ _,v,f,_=>by unfold flatP at f; cases f
  | .ptr _,v,f,_=>by unfold flatP at f; cases f
theorem flat_repL {H H':Hp} {Z Z':ZG} (hh:Same H H') (zh:Same Z'.z H'):∀ {ps:List PV} {vs:List V},flatPs ps=true->RepL K Z' ps vs->RepL K (zback H Z Z') ps vs
  | [],vs,_,h=>by unfold RepL at h ⊢; exact h
  | p::ps,vs,f,h=>by
    obtain ⟨v,r,rfl,h1,h2⟩:=h.inv
    unfold flatPs at f
    rw [Bool.and_eq_true] at f
    exact RepL.cons (flat_rep hh zh f.1 h1) (flat_repL hh zh f.2 h2)
end
theorem SR.lookB (s:SR K H0 Z0 σ H ρ pd):
    ∃ Z,(σ.length=ρ.vs.length/\ρ.mu.length=Z.g.length/\ZLe Z ⟨H,Z.g⟩/\Slots K H0 Z H (sl Z.g σ ρ pd))/\(∀ H' v r ρ1,SR K H ⟨H,Z.g⟩ σ H' ρ1 [(v,r)]->flatL r=true->SR K H0 Z0 σ H' ρ ((v,r)::pd))/\∀ H' ρ1,SR K H ⟨H,Z.g⟩ σ H' ρ1 []->SR K H0 Z0 σ H' ρ pd:=by
  obtain ⟨el,Z,hg,z,so⟩:=s
  have lz:ZLe Z ⟨H,Z.g⟩:=⟨z.zh,List.prefix_refl _⟩
  have back:∀ {H':Hp} {Z':ZG},ZOk H ⟨H,Z.g⟩ Z' H'->ZOk H0 Z0 (zback H Z Z') H'/\Slots K H0 (zback H Z Z') H' (sl Z.g σ ρ pd):=fun {H' Z'} z'=>by
    have zz:ZLe Z (zback H Z Z'):=⟨fun b o e=>by
      show zb (H b) (Z.z b) (Z'.z b)=_
      have hb:=z.zh b o e
      rw [hb]
      cases o <;> first | rfl | exact e,List.prefix_refl _⟩
    have cas:∀ b o,(zback H Z Z').z b=some o->(∃ u,H b=some u/\((immut u/\o=u)\/Z.z b=some o))\/(H b=none/\Z'.z b=some o):=fun b o e=>by
      have e:zb (H b) (Z.z b) (Z'.z b)=some o:=e
      cases q:H b with
      | none=>rw [q] at e; exact .inr ⟨rfl,e⟩
      | some u=>
        rw [q] at e
        refine .inl ⟨u,rfl,?_⟩
        cases u with
        | tup vs=>cases e; exact .inl ⟨trivial,rfl⟩
        | frz o' u=>cases e; exact .inl ⟨trivial,rfl⟩
        | _=>exact .inr e
    refine ⟨⟨fun b o e=>?_,z.h0.trans z'.h0,z.z0.trans zz,fun b o e=>?_⟩,?_⟩
    · rcases cas b o e with ⟨u,hu,⟨_,rfl⟩ | hz⟩ | ⟨_,hz⟩
      · exact z'.h0 b _ hu
      · exact z'.h0 b o (z.zh b o hz)
      · exact z'.zh b o hz
    · rcases cas b o e with ⟨u,hu,⟨hi,rfl⟩ | hz⟩ | ⟨hn,hz⟩
      · exact .inr (.inr hi)
      · exact z.new b o hz
      · exact .inr (.inl (z.h0.free hn))
    · refine so.step zz fun e he a ha=>?_
      obtain ⟨h1,h2,o,h3,h4⟩:=own_of so he ha
      refine ⟨by rw [h3]; exact z'.h0 a o h3,?_⟩
      show zb (H a) (Z.z a) (Z'.z a)=_
      rw [h3]
      cases o with
      | tup vs=>exact (h4 trivial).elim
      | frz o u=>exact (h4 trivial).elim
      | _=>exact h1
  refine ⟨Z,⟨el,hg,lz,so⟩,fun H' v r ρ1 s1 hf=>?_,fun H' ρ1 s1=>?_⟩
  · obtain ⟨_,Z',hg',z',s2⟩:=s1.top
    obtain ⟨zo,ss⟩:=back z'
    have q:=s2.1 _ List.mem_cons_self
    refine .mk (Z:=zback H Z Z') el hg zo ?_
    cases r with
    | sh p=>
      obtain ⟨x,e1,e2⟩:=q
      cases e1
      exact ss.consS (flat_rep z'.h0 z'.zh hf e2)
    | own p=>
      obtain ⟨a,e1,e2,e3,e4⟩:=q
      have e1':v=.ref a:=Option.some.inj e1
      subst e1'
      cases p with
      | lst ps=>
        obtain ⟨vs,g1,g2⟩:=e2
        refine ⟨fun e he=>?_,?_⟩
        · rcases List.mem_cons.mp he with rfl | he
          · refine ⟨a,rfl,⟨vs,g1,flat_repL z'.h0 z'.zh hf g2⟩,?_,z.h0.free e4⟩
            show zb (H a) (Z.z a) (Z'.z a)=_
            rw [e4]
            exact e3
          · exact ss.1 e he
        · show (a::(sl Z.g σ ρ pd).filterMap oad).Nodup
          refine List.nodup_cons.mpr ⟨fun hm=>?_,ss.2⟩
          obtain ⟨e,he,hb⟩:=List.mem_filterMap.mp hm
          obtain ⟨_,_,o,h3,_⟩:=own_of so he hb
          rw [h3] at e4; cases e4
      | _=>cases hf
  · obtain ⟨_,Z',hg',z',s2⟩:=s1
    obtain ⟨zo,ss⟩:=back z'
    exact ⟨el,zback H Z Z',hg,zo,ss⟩
theorem SR.peeked {H:Hp} {Z:ZG} {pk:Option Lc->Option Lc} (el:σ.length=ρ.vs.length) (hg:ρ.mu.length=Z.g.length)
    (hs:∀ v o,(v,o) ∈ σ.zip ρ.vs->pk o=none\/∃ x p,pk o=some (.sh p)/\v=some x/\Rep K ⟨H,Z.g⟩ p x):SR K H ⟨H,Z.g⟩ σ H ⟨ρ.vs.map pk,ρ.mu.map fun _=>none⟩ []:=by
  have key:∀ v l,(v,l) ∈ sl Z.g σ ⟨ρ.vs.map pk,ρ.mu.map fun _=>none⟩ []->l=none\/∃ x p,l=some (.sh p)/\v=some x/\Rep K ⟨H,Z.g⟩ p x:=fun v l he=>by
    rcases List.mem_append.mp he with he | he
    · obtain ⟨_,h2⟩:=List.of_mem_zip he
      obtain ⟨o,ho,e2⟩:=List.mem_map.mp h2
      obtain ⟨o',_,e3⟩:=List.mem_map.mp ho
      subst e3
      exact .inl e2.symm
    · rw [List.map_nil,List.append_nil] at he
      have he:(v,l) ∈ σ.zip (ρ.vs.map pk):=he
      rw [List.zip_map_right] at he
      obtain ⟨e,he2,e1⟩:=List.mem_map.mp he
      cases e1
      exact hs _ _ he2
  refine ⟨by simp [el],⟨H,Z.g⟩,by simp [hg],⟨Same.refl _,Same.refl _,ZLe.refl _,fun b o e=>.inl e⟩,fun e he=>?_,?_⟩
  · obtain ⟨v,l⟩:=e
    rcases key v l he with rfl | ⟨x,p,rfl,rfl,r⟩
    · trivial
    · exact ⟨x,rfl,r⟩
  · have:(sl Z.g σ ⟨ρ.vs.map pk,ρ.mu.map fun _=>none⟩ []).filterMap oad=[]:=by
      rw [List.filterMap_eq_nil_iff]
      intro e he
      obtain ⟨v,l⟩:=e
      rcases key v l he with rfl | ⟨x,p,rfl,rfl,_⟩
      · cases v with
        | none=>rfl
        | some x=>cases x <;> rfl
      · cases x <;> rfl
    show ((sl Z.g σ ⟨ρ.vs.map pk,ρ.mu.map fun _=>none⟩ []).filterMap oad).Nodup
    rw [this]
    exact List.nodup_nil
theorem SR.look (s:SR K H0 Z0 σ H ρ pd):
    ∃ Zt,SR K H Zt σ H ρ.peek []/\(∀ H' v r ρ1,SR K H Zt σ H' ρ1 [(v,r)]->flatL r=true->SR K H0 Z0 σ H' ρ ((v,r)::pd))/\∀ H' ρ1,SR K H Zt σ H' ρ1 []->SR K H0 Z0 σ H' ρ pd:=by
  obtain ⟨Z,⟨el,hg,lz,so⟩,b1,b2⟩:=s.lookB
  refine ⟨_,SR.peeked (pk:=peekV) el hg fun v o he=>?_,b1,b2⟩
  have q:=so.1 _ (List.mem_append_right _ (List.mem_append_left _ he))
  match o,q with
  | none,_=>exact .inl rfl
  | some (.sh p),⟨x,e1,e2⟩=>exact .inr ⟨x,p,rfl,e1,e2.mono lz⟩
  | some (.own p),⟨a,e1,e2,_,_⟩=>exact .inr ⟨.ref a,p,rfl,e1,e2.rep lz rfl⟩
noncomputable def resP (mu:Mu):PV->PV
  | .ptr n=>match mu[n]? with
    | some (some p)=>p
    | _=>.ptr n
  | p=>p
noncomputable def peekC (mu:Mu):Option Lc->Option Lc
  | some l=>some (.sh (resP mu l.pv))
  | none=>none
noncomputable def Ev.peekC (ρ:Ev):Ev:=⟨ρ.vs.map (PL.peekC ρ.mu),ρ.mu.map fun _=>none⟩
theorem res_rep {Z:ZG} (so:Slots K H0 Z H (sl Z.g σ ρ pd)) (lz:ZLe Z ⟨H,Z.g⟩) {p:PV} {x:V} (r:Rep K Z p x):Rep K ⟨H,Z.g⟩ (resP ρ.mu p) x:=by
  unfold resP
  split
  · rename_i n
    split
    · rename_i q hq
      unfold Rep at r
      obtain ⟨a,rfl,ha⟩:=r
      have hc:(some (V.ref a),some (Lc.own q)) ∈ cel Z.g ρ.mu:=List.mem_of_getElem? (zip_get (i:=n) (by rw [List.getElem?_map,ha]; rfl) (by rw [List.getElem?_map,hq]; rfl))
      obtain ⟨b,e1,e2,_,_⟩:=so.1 _ (List.mem_append_left _ hc)
      cases e1
      exact e2.rep lz rfl
    · exact r.mono lz
  · exact r.mono lz
theorem res_own {mu:Mu} {p:PV} (h:∀ n,p ≠ .ptr n):resP mu p=p:=by
  unfold resP
  split
  · rename_i n
    exact absurd rfl (h n)
  · rfl
theorem SR.lookC (s:SR K H0 Z0 σ H ρ pd):
    ∃ Zt,SR K H Zt σ H ρ.peekC []/\(∀ H' v r ρ1,SR K H Zt σ H' ρ1 [(v,r)]->flatL r=true->SR K H0 Z0 σ H' ρ ((v,r)::pd))/\∀ H' ρ1,SR K H Zt σ H' ρ1 []->SR K H0 Z0 σ H' ρ pd:=by
  obtain ⟨Z,⟨el,hg,lz,so⟩,b1,b2⟩:=s.lookB
  refine ⟨_,SR.peeked (pk:=peekC ρ.mu) el hg fun v o he=>?_,b1,b2⟩
  have q:=so.1 _ (List.mem_append_right _ (List.mem_append_left _ he))
  match o,q with
  | none,_=>exact .inl rfl
  | some (.sh p),⟨x,e1,e2⟩=>exact .inr ⟨x,_,rfl,e1,res_rep so lz e2⟩
  | some (.own p),⟨a,e1,e2,_,_⟩=>
    have hn:∀ n,p ≠ .ptr n:=fun n e=>by subst e; exact e2
    exact .inr ⟨.ref a,p,by show some (Lc.sh (resP ρ.mu p))=_; rw [res_own hn],e1,e2.rep lz rfl⟩
theorem read_imp {f:EF}:∀ σ H Q,tP K (eRead f) σ H Q->tP K f σ H Q:=fun σ H Q q=>by
  obtain ⟨H0,Z0,ρ,pd,r,ρ',s,h,k⟩:=q
  obtain ⟨x,h1,h2⟩:=bind_some h
  obtain ⟨Zt,s1,b1,_⟩:=s.look
  split at h2
  · rename_i hf
    cases h2
    exact ⟨H,Zt,ρ.peek,[],x.1,x.2,s1,h1,fun v H' s2=>k v H' (b1 H' v x.1 x.2 s2 hf)⟩
  · cases h2
theorem qread {e:Expr} {f:EF} (h:PE X e (tP X.K f)):PE X e (tP X.K (eRead f)):=PE.imp h read_imp
theorem qtread {e:Expr} {f:TF} (h:PT X e (tPT X.K f)):PT X e (tPT X.K (tRead f)):=PT.imp h fun σ H Q q=>by
  obtain ⟨H0,Z0,ρ,pd,r,ρ',s,h,k⟩:=q
  obtain ⟨x,h1,h2⟩:=map_some h
  cases h2
  obtain ⟨Zt,s1,_,b2⟩:=s.look
  exact ⟨H,Zt,ρ.peek,[],x.1,x.2,s1,h1,fun H' s2=>k H' (b2 H' x.2 s2)⟩
noncomputable def eReadC (f:EF):EF:=fun ρ=>(f ρ.peekC).bind fun x=>if flatL x.1=true then some (x.1,ρ) else none
theorem qreadC {e:Expr} {f:EF} (h:PE X e (tP X.K f)):PE X e (tP X.K (eReadC f)):=PE.imp h fun σ H Q q=>by
  obtain ⟨H0,Z0,ρ,pd,r,ρ',s,h,k⟩:=q
  obtain ⟨x,h1,h2⟩:=bind_some h
  obtain ⟨Zt,s1,b1,_⟩:=s.lookC
  split at h2
  · rename_i hf
    cases h2
    exact ⟨H,Zt,ρ.peekC,[],x.1,x.2,s1,h1,fun v H' s2=>k v H' (b1 H' v x.1 x.2 s2 hf)⟩
  · cases h2
end
noncomputable def Itstr (x:Str):It:=⟨fun i _=>i < x.cps.size,fun i H v H'=>H'=H/\∃ c,x.cps[i]?=some c/\v=.str ⟨#[c]⟩,fun i _=>i=x.cps.size⟩
theorem turn_str {P:Program} {w:World} {tg:Expr} (it:Addr) (x:Str) {St:Nat->Heap->Prop} (W:∀ A':Around,A'.handled=none->Walks P w A' it [it] [it] x.cps.size (SignAt x) St)
    (hob:∀ i h,St i h->∃ o,h.get? it=some o/\∀ v,o.data ≠ .cell v) (slf:∀ (A:Around) (i:Nat) (s:Shared) (Q:Value->Shared->Prop) (E:Value->Shared->Prop),St i s.heap->Q (.ref it) s->wpAny (model P w) A (pyIter (.ref it)) Q E s):Turn P w K tg (Itstr x) [it] it St where
  mem:=by simp
  obj:=fun i h st b hb=>by
    have e:b=it:=by simpa using hb
    subst e
    exact hob i h st
  keep:=fun i h h' st k=>(W {} rfl).frame i h h' st k
  item:=by
    intro X hP hw hK hc i pins s σ H E I hf st hg
    subst hP hw hK
    obtain ⟨f0,f1,f2,f3,f4,f5⟩:=hf it (by simp)
    refine (W X.A (I.ok.hd hc)).item i s _ E hg st fun v h' tk hv st' hk=>?_
    obtain ⟨c,u,e1,rfl⟩:=hv
    have I1:Inv X pins σ H { s with heap:=h',toks:=tk }:=I.turned (fun b o hb e=>hk b o (by simpa using hb) e) f0 f1 f3 f4 f5
    refine ⟨_,rfl,?_⟩
    have fin:∃ x_1 H',Inv X pins σ H' { s with heap:=h',toks:=tk }/\RelV x_1 (.str ⟨#[c]⟩ u)/\(Itstr x).yld i H x_1 H'/\St (i + 1) h'/\∀ b ∈ [it],H' b=none:=⟨.str ⟨#[c]⟩,H,I1,⟨u,rfl⟩,⟨rfl,c,e1,rfl⟩,st',fun b hb=>(hf b hb).1⟩
    unfold letOwnedTupleGo
    cases tg <;> exact wpAny_pure fin
  done:=by
    intro X hP hw hK hc i pins s σ H E I hf st hg
    subst hP hw hK
    obtain ⟨f0,f1,f2,f3,f4,f5⟩:=hf it (by simp)
    have hg:i=x.cps.size:=hg
    subst hg
    exact (W X.A (I.ok.hd hc)).done s _ E st fun h' tk hk=>⟨rfl,I.turned (fun b o hb e=>hk b o (by simpa using hb) e) f0 f1 f3 f4 f5⟩
  self:=fun A i s Q E st h=>slf A i s Q E st h
section
variable {X:Cx}
noncomputable def signs (x:Str):List PV:=x.cps.toList.map fun c=>.str ⟨#[c]⟩
noncomputable def strP:PV->Option (List PV)
  | .str x=>some (signs x)
  | _=>none
theorem itok_str {H0:Hp} {x:Str}:ItOk K H0 Z0 pd (Itstr x) (signs x):=by
  intro σ H ρ i s
  refine ⟨fun p hp=>?_,fun hl=>?_⟩
  · unfold signs at hp
    rw [List.getElem?_map] at hp
    obtain ⟨c,hc,rfl⟩:=map_some hp
    have hi:=(List.getElem?_eq_some_iff.mp hc).1
    refine ⟨(show i < x.cps.size by simpa using hi),fun v H' y=>?_⟩
    obtain ⟨rfl,c',hc',rfl⟩:=y
    have:c'=c:=by
      rw [Array.getElem?_toList] at hc
      rw [hc] at hc'
      exact (Option.some.inj hc').symm
    subst this
    exact s.scal rep_str
  · show i=x.cps.size
    simpa [signs] using hl
theorem truth_bools {P:Program} {w:World} {A:Around} {ys:List V} {its:List Value} {bs:List Bool} (rv:Vals ys its) (e:ys=bs.map V.bl):TruthOf P w A (fun i v=>its.toArray[i]?=some v) (fun i=>bs.getD i false):=by
  intro i v s Q E hv q
  have hv':its[i]?=some v:=by simpa using hv
  have hi:=(List.getElem?_eq_some_iff.mp hv').1
  have hl:=rv.length
  have hb:i < bs.length:=by rw [e,List.length_map] at hl; omega
  obtain ⟨u,h1,h2⟩:=rv.get (i:=i) (x:=.bl bs[i]) (by rw [e,List.getElem?_map,List.getElem?_eq_getElem hb]; rfl)
  rw [hv'] at h1; cases h1
  cases h2
  have:bs.getD i false=bs[i]:=by simp [hb]
  have q':Q (bs.getD i false) s:=q
  rw [this] at q'
  exact wpAny_truthy_bool q'
theorem range_all {bs:List Bool}:((List.range bs.length).all fun i=>bs.getD i false)=bs.all id:=by
  induction bs with
  | nil=>rfl
  | cons b r ih=>
    rw [List.length_cons,List.range_succ_eq_map,List.all_cons,List.all_map,List.all_cons]
    have:((List.range r.length).all ((fun i=>(b::r).getD i false) ∘ Nat.succ))=(List.range r.length).all fun i=>r.getD i false:=rfl
    rw [this,ih]
    rfl
theorem call_all (hc:X.calm=true):CallR X (.builtin "all") (fun xs H Q=>∃ (p:Addr) (bs:List Bool),xs=[.ref p]/\SqL X.K H p (bs.map V.bl)/\Q (.bl (bs.all id)) H):=by
  intro pins s σ H xs us Q I r h
  obtain ⟨p,bs,rfl,hq,q⟩:=h
  obtain ⟨u,rfl,ru⟩:=vals1 r
  cases ru
  obtain ⟨its,rv,pl,_⟩:=I.list hq
  have hlt:p < s.heap.objs.size:=by obtain ⟨o,n,g1,_⟩:=pl; exact Heap.lt_size g1
  refine call_all_walk (wpAny_pyIter_list pl.isList ?_)
  have old:∀ b o,s.heap.get? b=some o->(s.heap.push { cls:=.type "list_iterator",data:=.fields #[.ref p,.int 0 0] }).get? b=some o:=fun b o e=>Heap.get?_push_of_some _ e
  have hl:its.toArray.size=bs.length:=by rw [List.size_toArray,← rv.length,List.length_map]
  refine ⟨s.heap.objs.size,_,_,_,_,_,fun i=>bs.getD i false,rfl,Walks.list (A:=X.A.in1) (show X.A.in1.handled=none from I.ok.hd hc) _ p (Nat.ne_of_lt hlt) its.toArray,⟨⟨_,Heap.get?_push_size _ rfl,rfl,rfl⟩,?_⟩,truth_bools rv rfl,fun h' tk hk=>?_⟩
  · obtain ⟨o,g1,g2⟩:=pl.isList
    exact ⟨o,old _ _ g1,g2⟩
  · rw [hl,range_all]
    refine ⟨.bl _,H,I.kept (t':=tk) fun b o e=>hk b o ?_ (old b o e),rfl,q⟩
    have:=Heap.lt_size e
    simp
    exact Nat.ne_of_lt this
noncomputable def boolsOf:List PV->Option (List Bool)
  | []=>some []
  | .bl b::r=>(boolsOf r).map (b::·)
  | _=>none
theorem bools_rep {Z:ZG}:∀ {ps:List PV} {bs:List Bool} {vs:List V},boolsOf ps=some bs->RepL K Z ps vs->vs=bs.map V.bl
  | [],bs,vs,h,r=>by cases h; exact r.inv0
  | p::ps,bs,vs,h,r=>by
    cases p with
    | bl b=>
      obtain ⟨cs,h1,rfl⟩:=map_some h
      obtain ⟨v,w,rfl,r1,r2⟩:=r.inv
      rw [rep_bl_inv r1,bools_rep h1 r2]
      rfl
    | _=>cases h
noncomputable def allP:PV->Option Lc
  | .lst ps=>(boolsOf ps).map fun bs=>.sh (.bl (bs.all id))
  | _=>none
noncomputable abbrev all1:List PV->Option Lc:=fun ps=>match ps with | [p]=>allP p | _=>none
theorem cs_all:CallS K (fun xs H Q=>∃ (p:Addr) (bs:List Bool),xs=[.ref p]/\SqL K H p (bs.map V.bl)/\Q (.bl (bs.all id)) H) all1:=CallS.one fun H0 Z0 σ ρ pd H v p l Q s e k=>by
  obtain ⟨_,r⟩:=s.repH
  cases p with
  | lst ps=>
    obtain ⟨bs,h1,rfl⟩:=map_some (show (boolsOf ps).map (fun bs=>Lc.sh (.bl (bs.all id)))=some l from e)
    unfold Rep at r
    obtain ⟨a,vs,rfl,h2,h3⟩:=r
    have:=bools_rep h1 h3
    subst this
    exact ⟨a,bs,rfl,h2,k _ H (s.pop.scal rep_bl)⟩
  | _=>cases e
noncomputable def tyN:PV->Option String
  | .non=>some "NoneType"
  | .bl _=>some "bool"
  | .int _=>some "int"
  | .str _=>some "str"
  | .tup _=>some "tuple"
  | .lst _=>some "list"
  | _=>none
noncomputable def isTy (p:PV) (C:String):Option Bool:=(tyN p).bind fun T=>if (Value.type T == Value.type C)=true then some true else if PySem.W.kitMeta C=true then (fastBuiltinMro T).map fun x=>x.contains (.type C) else none
theorem isTy_kit {p:PV} {T C:String} {b:Bool} (h1:tyN p=some T) (h:isTy p C=some b):PySem.W.kitOne K (.type T) (.type C)=some b:=by
  unfold isTy at h
  rw [h1,Option.bind_some] at h
  exact h
theorem call_isinst:CallR X (.builtin "isinstance") (fun xs H Q=>∃ x C g p b,xs=[x,.ty C]/\Rep X.K ⟨H,g⟩ p x/\isTy p C=some b/\Q (.bl b) H):=by
  intro pins s σ H xs us Q I r h
  obtain ⟨x,C,g,p,b,rfl,rp,e,q⟩:=h
  obtain ⟨u,w',rfl,ru,rw'⟩:=vals2 r
  cases rw'
  have fin:∀ tk,EP X pins σ Q (.bool b) { s with toks:=tk }:=fun tk=>⟨.bl b,H,I.tok tk,rfl,q⟩
  cases p with
  | non=>have:=rep_non_inv rp; subst this; cases ru; exact PySem.W.kia_one PySem.W.kitx_none I.kIn trivial (isTy_kit rfl e) (by intro z; cases z) fin
  | bl c=>have:=rep_bl_inv rp; subst this; cases ru; exact PySem.W.kia_one PySem.W.kitx_bool I.kIn trivial (isTy_kit rfl e) (by intro z; cases z) fin
  | int i=>have:=rep_int_inv rp; subst this; obtain ⟨t,rfl⟩:=ru; exact PySem.W.kia_one PySem.W.kitx_int I.kIn trivial (isTy_kit rfl e) (by intro z; cases z) fin
  | str i=>have:=rep_str_inv rp; subst this; obtain ⟨t,rfl⟩:=ru; exact PySem.W.kia_one PySem.W.kitx_str I.kIn trivial (isTy_kit rfl e) (by intro z; cases z) fin
  | tup ps=>
    obtain ⟨a,vs,its,rfl,_,_,_,o,t1,t2,_⟩:=tup_of I rp ru
    exact PySem.W.kia_one (t:=.type "tuple") PySem.W.kitx_tuple I.kIn ⟨o,t1,t2⟩ (isTy_kit rfl e) (by intro z; cases z) fin
  | lst ps=>
    obtain ⟨a,vs,its,rfl,_,_,_,o,t1,t2,_⟩:=lst_of I rp ru
    exact PySem.W.kia_one (t:=.type "list") PySem.W.kitx_list I.kIn ⟨o,t1,t2⟩ (isTy_kit rfl e) (by intro z; cases z) fin
  | _=>cases e
noncomputable def eIs (C:String) (f:EF):EF:=fun ρ=>(f ρ).bind fun x=>(isTy x.1.pv C).map fun b=>(.sh (.bl b),x.2)
theorem qis {C:String} {f:EF} {e c:Expr} {pp pos:Pos} (h:PE X (.Call (.Name "isinstance" pp) [e,c] [] pos) (tCB (fun xs H Q=>∃ x C g p b,xs=[x,.ty C]/\Rep X.K ⟨H,g⟩ p x/\isTy p C=some b/\Q (.bl b) H) (tCons (tP X.K f) (tCons (tC (.ty C)) tNil)))):
    PE X (.Call (.Name "isinstance" pp) [e,c] [] pos) (tP X.K (eIs C f)):=PE.imp h fun σ H Q q=>by
  obtain ⟨H0,Z0,ρ,pd,r,ρ',s,h,k⟩:=q
  obtain ⟨x,h1,h2⟩:=bind_some h
  obtain ⟨b,h3,h4⟩:=map_some h2
  cases h4
  refine ⟨H0,Z0,ρ,pd,x.1,x.2,s,h1,fun v H1 s1=>?_⟩
  obtain ⟨g,r1⟩:=s1.freeze.repH
  exact ⟨v,C,g,_,b,rfl,r1,h3,k _ H1 (s1.pop.scal rep_bl)⟩
noncomputable def strsOf:List PV->Option (List Str)
  | []=>some []
  | .str x::r=>(strsOf r).map (x::·)
  | _=>none
theorem strs_rep {Z:ZG}:∀ {ps:List PV} {xs:List Str} {vs:List V},strsOf ps=some xs->RepL K Z ps vs->vs=xs.map V.str
  | [],xs,vs,h,r=>by cases h; exact r.inv0
  | p::ps,xs,vs,h,r=>by
    cases p with
    | str b=>
      obtain ⟨cs,h1,rfl⟩:=map_some h
      obtain ⟨v,w,rfl,r1,r2⟩:=r.inv
      rw [rep_str_inv r1,strs_rep h1 r2]
      rfl
    | _=>cases h
theorem strsAre_of:∀ {xs:List Str} {its:List Value},Vals (xs.map V.str) its->StrsAre its xs
  | [],_,.nil=>.nil
  | x::xs,_,.cons r t=>by
    obtain ⟨tk,rfl⟩:=r
    exact .cons _ _ (strsAre_of t)
theorem mt_join:MtM X "str.join" (fun x xs H Q=>∃ (z:Str) (p:Addr) (ys:List Str),x=.str z/\xs=[.ref p]/\SqL X.K H p (ys.map V.str)/\(ys.map (·.length)).sum + ys.length * z.length<=16777216/\Q (.str (Txt.join z ys)) H):=by
  intro pins s σ H x vs v us Q I rx rv h
  obtain ⟨z,p,ys,rfl,rfl,hq,hz,q⟩:=h
  obtain ⟨t,rfl⟩:=rx
  obtain ⟨u,rfl,ru⟩:=rv.one
  cases ru
  obtain ⟨its,rvs,pl,_⟩:=I.list hq
  exact join_list pl.isList (by simpa using strsAre_of rvs) hz fun t' k=>⟨.str _,H,I.tok k,⟨t',rfl⟩,q⟩
noncomputable def eJoin (f:EF) (a:AF):EF:=fun ρ=>(f ρ).bind fun x=>(a x.2).bind fun y=>match x.1.pv,y.1.map Lc.pv with
  | .str z,[.lst ps]=>(strsOf ps).bind fun xs=>if (xs.map (·.length)).sum + xs.length * z.length<=100000 then some (.sh (.str (Txt.join z xs)),y.2) else none
  | _,_=>none
theorem qjoin {o e:Expr} {f:EF} {a:AF} {apos cpos:Pos} (h:PE X (.Call (.Attribute o "join" apos) [e] [] cpos) (tBM X.K "str" (fun x xs H Q=>∃ (z:Str) (p:Addr) (ys:List Str),x=.str z/\xs=[.ref p]/\SqL X.K H p (ys.map V.str)/\(ys.map (·.length)).sum + ys.length * z.length<=16777216/\Q (.str (Txt.join z ys)) H) (tP X.K f) (tPA X.K a))):
    PE X (.Call (.Attribute o "join" apos) [e] [] cpos) (tP X.K (eJoin f a)):=PE.imp h fun σ H Q q=>by
  obtain ⟨H0,Z0,ρ,pd,r,ρ',s,h,k⟩:=q
  obtain ⟨x,h1,h2⟩:=bind_some h
  obtain ⟨y,h3,h4⟩:=bind_some h2
  refine ⟨H0,Z0,ρ,pd,x.1,x.2,s,h1,fun v H1 s1=>?_⟩
  split at h4
  · rename_i z ps ez ep
    obtain ⟨xs,h5,h6⟩:=bind_some h4
    split at h6
    · rename_i hz
      cases h6
      obtain ⟨_,rz⟩:=s1.freeze.repH
      rw [ez] at rz
      have:=rep_str_inv rz
      subst this
      refine ⟨rfl,H0,Z0,x.2,pd,y.1,y.2,s1.pop,h3,fun vs H2 e2 s2=>?_⟩
      obtain ⟨el,Z,hg,zz,rl,ss⟩:=s2.repl e2
      rw [ep] at rl
      obtain ⟨w,rr,rfl,r1,r2⟩:=rl.inv
      have:=r2.inv0
      subst this
      unfold Rep at r1
      obtain ⟨b,ws,rfl,g1,g2⟩:=r1
      have:=strs_rep h5 g2
      subst this
      exact ⟨z,b,xs,rfl,rfl,SqL.same zz.zh g1,by omega,k _ H2 (.mk (Z:=Z) el hg zz (ss.consS (rep_str _)))⟩
    · cases h6
  · cases h4
end
section
variable {prog:Program} {w:World} {A:Around} {E:Value->Shared->Prop} {s:Shared}
theorem draw_list {it t:Addr} {items:Array Value} (hne:t ≠ it):∀ (n i:Nat) (s:Shared) (Q:List Value->Shared->Prop),s.heap.IsListIter it t i->s.heap.IsList t items->i + n<=items.size->
    (∀ h',h'.IsListIter it t (i + n)->Heap.SameBut it s.heap h'->Q ((items.toList.drop i).take n) { s with heap:=h' })->wpAny (model prog w) A (draw (.ref it) n) Q E s
  | 0,i,s,Q,hit,_,_,hQ=>by
    show wpAny _ _ (pure []) Q E s
    exact wpAny_pure (by simpa using hQ s.heap hit (Heap.SameBut.refl ..))
  | n + 1,i,s,Q,hit,ht,hle,hQ=>by
    have hlt:i < items.size:=by omega
    show wpAny _ _ (pyNext (.ref it) >>= _) Q E s
    refine wpAny_bind (wpAny_pyNext_list_item hit ht (x:=items[i]) (by simp [hlt]) fun h₁ hit₁ hs₁=>?_)
    refine wpAny_bind (wpAny_holding (draw_list hne n (i + 1) _ _ hit₁ (ht.extBut hs₁.extBut hne) (by omega) fun h₂ hit₂ hs₂=>wpAny_pure ?_))
    have hd:items.toList.drop i=items[i]::items.toList.drop (i + 1):=by simp [List.drop_eq_getElem_cons,hlt]
    have:=hQ h₂ (by rw [show i + (n + 1)=i + 1 + n by omega]; exact hit₂) (hs₁.trans hs₂)
    rw [hd,List.take_succ_cons] at this
    exact this
theorem unpackItems_list {t:Addr} {items:Array Value} {Q:List Value->Shared->Prop} (hh:A.handled=none) (ht:s.heap.IsList t items)
    (hQ:∀ h',Heap.ExtBut s.heap.objs.size s.heap h'->Q items.toList { s with heap:=h' }):wpAny (model prog w) A (unpackItems (.ref t) items.size none) Q E s:=by
  have hlt:t ≠ s.heap.objs.size:=by obtain ⟨o,ho,_⟩:=ht; exact Nat.ne_of_lt (Heap.lt_size ho)
  unfold unpackItems
  refine wpAny_bind ?_
  · unfold notIterableAtAll
    refine wpAny_bind (wpAny_specialOf ht.typeIs slot_list_iter.lookup ?_)
    refine wpAny_pure ?_
    simp only [Bool.false_eq_true,if_false]
    refine wpAny_bind (wpAny_holding (wpAny_pyIter_list ht ?_))
    refine wpAny_bind (wpAny_holding (draw_list hlt items.size 0 _ _ ⟨_,Heap.get?_push_size _ rfl,rfl,rfl⟩ (by obtain ⟨o,g1,g2⟩:=ht; exact ⟨o,Heap.get?_push_of_some _ g1,g2⟩) (by omega) fun h₁ hit₁ hs₁=>?_))
    have hall:List.take items.size (List.drop 0 items.toList)=items.toList:=by
      rw [List.drop_zero]; exact List.take_of_length_le (by simp)
    rw [hall]
    rw [if_neg (by simp)]
    have ht₁:h₁.IsList t items:=Heap.IsList.extBut (by obtain ⟨o,g1,g2⟩:=ht; exact ⟨o,Heap.get?_push_of_some _ g1,g2⟩) hs₁.extBut hlt
    refine wpAny_bind (wpAny_holding (wpAny_pyNext_list_end hh hit₁ ht₁ (by simp) fun h₂ he₂=>?_))
    simp only [Option.isSome_none,Bool.false_eq_true,if_false]
    refine wpAny_pure (hQ h₂ fun b o hb e=>he₂ b o hb (hs₁.extBut b o hb (Heap.get?_push_of_some _ e)))
end
section
variable {X:Cx} {pos:Pos}
noncomputable def gSeq (K:FG) (n:Nat) (t:TGs):TG:=fun v σ H Q=>∃ a xs,v=.ref a/\(SqT K H a xs\/SqL K H a xs)/\xs.length=n/\t xs σ H Q
theorem pg_seq {es:List Expr} {k:Nat} {t:TGs} {n:Nat} (hc:X.calm=true) (h:PGs X es t)
    (hn:(assignEach es X.env).length=n:=by rfl) (hst:(assignEach es X.env).findIdx? (·.1)=none:=by rfl):PG X (.Tuple es k pos) (gSeq X.K n t):=by
  intro pins s σ H v u Q I r hw
  obtain ⟨a,xs,e1,hq,hl,hw⟩:=hw
  rcases hq with hq | hq
  · exact pg_tup hc h hn hst pins s σ H v u Q I r ⟨a,xs,e1,hq,hl,hw⟩
  · subst e1
    cases r
    obtain ⟨its,rv,ht,hz⟩:=I.list hq
    rw [assign_Tuple]
    refine wpAny_bind (wpAny_standAt ?_)
    unfold unpack
    have hsz:(assignEach es X.env).length=its.toArray.size:=by simp [hn,← hl,rv.length]
    rw [hsz,hst]
    refine wpAny_bind (wpAny_holding (unpackItems_list (I.ok.hd hc) ht.isList fun h' hx=>?_))
    have I1:Inv X pins σ H { s with heap:=h' }:=I.kept (t':=s.toks) fun b o e=>hx b o (Nat.ne_of_lt (Heap.lt_size e)) e
    exact h pins _ σ H xs _ Q I1 (by simpa using rv) hw
noncomputable def bSeq (n:Nat) (bs:BFs):BF:=fun p ρ=>match p with
  | .tup ps=>if ps.length=n then bs ps ρ else none
  | .lst ps=>if ps.length=n then bs ps ρ else none
  | _=>none
theorem gs_seq {n:Nat} {t:TGs} {bs:BFs} (h1:GSs K t bs):GS K (gSeq K n t) (bSeq n bs):=by
  intro H0 Z0 σ H ρ pd v p ρ' Q s h k
  cases p with
  | tup ps=>
    have h':(if ps.length=n then bs ps ρ else none)=some ρ':=h
    split at h'
    · rename_i hn
      obtain ⟨e,Z,hg,z,r,sl'⟩:=s.sh
      unfold Rep at r
      obtain ⟨a,vs,rfl,h2,h3⟩:=r
      exact ⟨a,vs,rfl,.inl (SqT.same z.zh h2),by rw [h3.length]; exact hn,h1 H0 Z0 σ H ρ pd vs ps ρ' Q h3.length (SR.items e hg z h3 sl') h' k⟩
    · cases h'
  | lst ps=>
    have h':(if ps.length=n then bs ps ρ else none)=some ρ':=h
    split at h'
    · rename_i hn
      obtain ⟨e,Z,hg,z,r,sl'⟩:=s.sh
      unfold Rep at r
      obtain ⟨a,vs,rfl,h2,h3⟩:=r
      exact ⟨a,vs,rfl,.inr (SqL.same z.zh h2),by rw [h3.length]; exact hn,h1 H0 Z0 σ H ρ pd vs ps ρ' Q h3.length (SR.items e hg z h3 sl') h' k⟩
    · cases h'
  | _=>cases h
noncomputable def iAny (K:FG) (tl:TE):TI:=fun σ H R=>tl σ H fun x H1=>(∃ a,x=.ref a/\(∃ xs,SqL K H1 a xs)/\R (Itl K a) H1)\/(∃ a,x=.ref a/\(∃ xs,SqT K H1 a xs)/\R (Itt K a) H1)\/∃ z,x=.str z/\R (Itstr z) H1
theorem pi_any {tg l:Expr} {tl:TE} (hl:PE X l tl):PI X tg l (iAny X.K tl):=by
  intro pins s σ H R I h
  have at':∀ (v:Value) (s1:Shared) (x:V) (H1:Hp),Inv X pins σ H1 s1->RelV x v->((∃ a,x=.ref a/\(∃ xs,SqL X.K H1 a xs)/\R (Itl X.K a) H1)\/(∃ a,x=.ref a/\(∃ xs,SqT X.K H1 a xs)/\R (Itt X.K a) H1)\/∃ z,x=.str z/\R (Itstr z) H1)->
      wpAny (model X.prog X.w) X.A (pyIter v) (PIE X pins σ tg R) X.xe s1:=fun v s1 x H1 I1 r1 q=>by
    have fp:∀ b,b ∈ [s1.heap.objs.size]->FpOk X pins H1 b:=fun b hb=>by
      have e:b=s1.heap.objs.size:=by simpa using hb
      subst e
      exact I1.fpOk (Nat.le_refl _) (I1.hok.fresh (Nat.le_refl _))
    rcases q with ⟨a,rfl,⟨xs,hq⟩,q⟩ | ⟨a,rfl,⟨xs,hq⟩,q⟩ | ⟨z,rfl,q⟩
    · cases r1
      obtain ⟨its,rv,p,hz⟩:=I1.list hq
      exact wpAny_pyIter_list p.isList ⟨s1.heap.objs.size,[s1.heap.objs.size],_,_,H1,rfl,I1.kept (t':=s1.toks) fun b o e=>Heap.get?_push_of_some _ e,turn_list a _,⟨_,Heap.get?_push_size _ rfl,rfl,rfl⟩,fp,q⟩
    · cases r1
      obtain ⟨its,rv,p,hz⟩:=I1.tuple hq
      exact wpAny_pyIter_tuple p ⟨s1.heap.objs.size,[s1.heap.objs.size],_,_,H1,rfl,I1.kept (t':=s1.toks) fun b o e=>Heap.get?_push_of_some _ e,turn_tuple a _,⟨_,Heap.get?_push_size _ rfl,rfl,rfl⟩,fp,q⟩
    · obtain ⟨t,rfl⟩:=r1
      have kp:∀ (o:Obj),Inv X pins σ H1 { s1 with heap:=s1.heap.push o }:=fun o=>I1.kept (t':=s1.toks) fun b u e=>Heap.get?_push_of_some _ e
      have ob:∀ {n:String} (i:Nat) (h:Heap),h.IsStrIter s1.heap.objs.size n z t i->∃ o,h.get? s1.heap.objs.size=some o/\∀ v,o.data ≠ .cell v:=fun i h st=>by
        obtain ⟨o,ho,_,hd⟩:=st
        exact ⟨o,ho,fun v e=>by rw [hd] at e; cases e⟩
      cases ha:z.cps.all (· < 128)
      · exact wpAny_pyIter_wide ha ⟨s1.heap.objs.size,[s1.heap.objs.size],_,Itstr z,H1,rfl,kp _,turn_str _ z (fun A' hA=>Walks.strWide hA _ z t) ob (fun A i s Q E st h=>wpAny_pyIter_striter_wide st h),⟨_,Heap.get?_push_size _ rfl,rfl,rfl⟩,fp,q⟩
      · exact wpAny_pyIter_ascii ha ⟨s1.heap.objs.size,[s1.heap.objs.size],_,Itstr z,H1,rfl,kp _,turn_str _ z (fun A' hA=>Walks.strAscii hA _ z t) ob (fun A i s Q E st h=>wpAny_pyIter_striter_ascii st h),⟨_,Heap.get?_push_size _ rfl,rfl,rfl⟩,fp,q⟩
  exact thn (hl pins s σ H _ I h) fun v s1 ⟨x,H1,I1,r1,q⟩=>at' v s1 x H1 I1 r1 q
noncomputable def walkP:PV->Option (List PV)
  | .lst ps=>some ps
  | .tup ps=>some ps
  | .str x=>some (signs x)
  | _=>none
theorem qi_any {tg l:Expr} {f:EF} (hl:PE X l (tP X.K f)):PI X tg l (tPI X.K (iOf f walkP)):=PI.imp (pi_any hl) fun σ H R q=>by
  obtain ⟨H0,Z0,ρ,pd,xs,ρ',s,h,k⟩:=q
  obtain ⟨x,h1,h2⟩:=bind_some h
  obtain ⟨ys,h3,h4⟩:=map_some h2
  cases h4
  refine ⟨H0,Z0,ρ,pd,x.1,x.2,s,h1,fun v H1 s1=>?_⟩
  have s2:=s1.freeze
  cases e:x.1.pv with
  | lst ps=>
    rw [e] at h3 s2
    cases h3
    obtain ⟨Z,z,r⟩:=s2.rep
    unfold Rep at r
    obtain ⟨b,vs,rfl,h1',h2'⟩:=r
    exact .inl ⟨b,rfl,⟨vs,SqL.same z h1'⟩,k _ _ _ s2 itok_list (List.sublist_cons_self _ _)⟩
  | tup ps=>
    rw [e] at h3 s2
    cases h3
    obtain ⟨Z,z,r⟩:=s2.rep
    unfold Rep at r
    obtain ⟨b,vs,rfl,h1',h2'⟩:=r
    exact .inr (.inl ⟨b,rfl,⟨vs,SqT.same z h1'⟩,k _ _ _ s2 itok_tup (List.sublist_cons_self _ _)⟩)
  | str z=>
    rw [e] at h3 s2
    cases h3
    obtain ⟨_,r⟩:=s2.repH
    exact .inr (.inr ⟨z,rep_str_inv r,k _ _ _ s2.pop itok_str (List.Sublist.refl _)⟩)
  | _=>rw [e] at h3; cases h3
noncomputable def eChain (g g':PV->PV->Option Lc) (fa fb fc:EF):EF:=fun ρ=>(fa ρ).bind fun x=>(fb x.2).bind fun y=>(g x.1.pv y.1.pv).bind fun z=>match z.pv with
  | .bl true=>(fc y.2).bind fun w=>(g' y.1.pv w.1.pv).map fun l=>(l,w.2)
  | .bl false=>some (.sh (.bl false),y.2)
  | _=>none
theorem chain_imp {r r':R2} {g g':PV->PV->Option Lc} (hs:OpS X.K r g) (hs':OpS X.K r' g') {fa fb fc:EF}:∀ σ H Q,tP X.K (eChain g g' fa fb fc) σ H Q->tChain r r' (tP X.K fa) (tP X.K fb) (tP X.K fc) σ H Q:=fun σ H Q q=>by
  obtain ⟨H0,Z0,ρ,pd,l,ρ',s,f,k⟩:=q
  obtain ⟨x,h1,h2⟩:=bind_some f
  obtain ⟨y,h3,h4⟩:=bind_some h2
  obtain ⟨z,h5,h6⟩:=bind_some h4
  refine ⟨H0,Z0,ρ,pd,x.1,x.2,s,h1,fun v H1 s1=>⟨H0,Z0,x.2,_,y.1,y.2,s1,h3,fun w H2 s2=>?_⟩⟩
  have s3:=s2.freeze.swap.freeze.swap
  have s4:SR X.K H0 Z0 σ H2 y.2 ((w,.sh y.1.pv)::(v,.sh x.1.pv)::(w,.sh y.1.pv)::pd):=s3.dup.perm ((List.Perm.swap _ _ _).cons _)
  refine hs H0 Z0 σ y.2 _ H2 v w x.1.pv y.1.pv z _ s4 h5 fun u H3 s5=>?_
  obtain ⟨_,ru⟩:=s5.freeze.repH
  split at h6
  · rename_i e
    rw [e] at ru
    refine ⟨true,rep_bl_inv ru,?_⟩
    rw [if_pos rfl]
    obtain ⟨t,h7,h8⟩:=bind_some h6
    obtain ⟨l',h9,h10⟩:=map_some h8
    cases h10
    refine ⟨H0,Z0,y.2,_,t.1,t.2,s5.pop,h7,fun b H4 s6=>?_⟩
    exact hs' H0 Z0 σ t.2 pd H4 w b y.1.pv t.1.pv _ Q s6.freeze h9 k
  · rename_i e
    rw [e] at ru
    refine ⟨false,rep_bl_inv ru,?_⟩
    rw [if_neg Bool.false_ne_true]
    cases h6
    exact k _ H3 (s5.pop.pop.scal rep_bl)
  · cases h6
theorem qchain {op op':CmpOp} {a b c:Expr} {r r':R2} {g g':PV->PV->Option Lc} {fa fb fc:EF} (ho:OpR X (compareOp op) r) (ho':OpR X (compareOp op') r') (hs:OpS X.K r g) (hs':OpS X.K r' g') (ha:PE X a (tP X.K fa)) (hb:PE X b (tP X.K fb)) (hc:PE X c (tP X.K fc))
    (hm:lastMarks [op,op'] [b,c]=false:=by with_unfolding_all rfl):PE X (.Compare a [op,op'] [b,c] pos) (tP X.K (eChain g g' fa fb fc)):=PE.imp (pe_chain ho ho' ha hb hc hm) (chain_imp hs hs')
end
section
variable {P:Program} {w:World} {K:FG} {mg:Str->Option Value} {base:Heap}
noncomputable def Blt (mg:Str->Option Value) (L:List Str):Prop:=∀ x ∈ L,mg x=none
noncomputable def spLaw (K:FG):Sp:=fun vs H Q _=>∃ (a:Addr) (ns:List Int),vs=[.ref a]/\SqL K H a (ns.map V.int)/\ns.length<=63/\∀ H',Q (.bl true) H'
theorem law_of {f:Addr} {fd:FuncData} {k:Nat} {g:GF} (F:FnOk P w K mg base CX0 k f fd ["_law_script"] (spP K 1 g)) (h:∀ ns:List Int,ns.length<=63->∃ mu',g [.lst (ns.map PV.int)] []=some (.sh (.bl true),mu')):FnOk P w K mg base CX0 k f fd ["_law_script"] (spLaw K):=
  F.imp fun vs H Q E q=>by
    obtain ⟨a,ns,rfl,hs,hl,k⟩:=q
    obtain ⟨mu',e⟩:=h ns hl
    refine ⟨⟨H,[]⟩,[.lst (ns.map PV.int)],[],_,mu',rfl,rfl,Same.refl _,RepL.cons ?_ .nil,⟨fun e he=>(by cases he),List.nodup_nil⟩,e,fun v H' r=>?_⟩
    · unfold Rep
      refine ⟨a,ns.map V.int,rfl,hs,?_⟩
      clear hs e hl
      induction ns with
      | nil=>exact .nil
      | cons n r ih=>exact RepL.cons (rep_int _) ih
    · obtain ⟨Z',_,_,s⟩:=r
      obtain ⟨x,e1,e2⟩:=s.1 _ List.mem_cons_self
      cases e1
      rw [rep_bl_inv e2]
      exact k H'
end
theorem al_nil:∀ ρ ls ρ1,aNil ρ=some (ls,ρ1)->ls.length=0:=fun ρ ls ρ1 h=>by cases h; rfl
theorem al_cons {f:EF} {g:AF} {n:Nat} (h:∀ ρ ls ρ1,g ρ=some (ls,ρ1)->ls.length=n):∀ ρ ls ρ1,aCons f g ρ=some (ls,ρ1)->ls.length=n + 1:=fun ρ ls ρ1 e=>by
  obtain ⟨x,h1,h2⟩:=bind_some e
  obtain ⟨y,h3,h4⟩:=map_some h2
  cases h4
  rw [List.length_cons,h _ _ _ h3]
theorem cs_mk {X:Cx} {M F:List Str} {ixs:List Nat} {sc:Scope} (S:Scope) (hS:X.env.scope=S) (kind:sc.kind=.function) (locs:∀ y ∈ sc.names,y.2=.local->sc.names.lookup y.1=some .local) (nocell:∀ y ∈ sc.names,y.2 ≠ .cell)
    (own:∀ p ∈ sc.names,p.2=.free->S.names.lookup p.1=some .cell\/S.names.lookup p.1=some .free) (frs:∀ x ∈ F,sc.names.lookup x=some .free) (ix:ixs.map (fun i=>X.N[i]?)=F.map some) (visM:∀ x ∈ M,sc.names.lookup x=some .local):CompSc X M F ixs sc:=by
  refine ⟨kind,locs,nocell,fun p hp e=>by rw [hS]; exact own p hp e,frs,?_,fun j i h=>?_,visM⟩
  · have:=congrArg List.length ix
    simpa using this
  · have h2:(ixs.map (fun i=>X.N[i]?))[j]?=some X.N[i]?:=by rw [List.getElem?_map,h]; rfl
    rw [ix,List.getElem?_map] at h2
    cases q:F[j]? with
    | none=>rw [q] at h2; cases h2
    | some x=>rw [q] at h2; exact (Option.some.inj h2).symm
section
variable {P:Program} {w:World} {K:FG} {mg:Str->Option Value} {base:Heap}
theorem Fun.okP {x:Str} {st:Stmt} {N ps:List Str} {k:Nat} {g:GF} {f:Addr} {fd:FuncData} (F:Fun K x x st f fd) (S:FnScope N ps (defScope st))
    (h:∀ (cdv:Value) (A:Around) (outer:List PySem.Env) (s:Shared) (H:Hp) (E:XK),Room k (A.deeper (envOfC x (defScope st) s.heap.objs.size f cdv))->
      ∃ g':SF,(∀ a mu,g a mu=runP N.length g' a mu)/\PSs (cxOf CX0 P w K mg base N x (defScope st) f cdv A outer s H E).nox (defBody st) (tPs K g')):FnOk P w K mg base CX0 (k + 1) f fd ps (spP K ps.length g):=by
  refine F.ok S (fun vs H Q E q=>?_) (fun cdv A outer s H vs Q E hr q=>?_)
  · obtain ⟨Z,qs,mu,r,mu',e,_⟩:=q; exact e
  · obtain ⟨g',eg,b⟩:=h cdv A outer s H E hr
    obtain ⟨Z,qs,mu,r,mu',e,hg,z,rl,c,hr',kk⟩:=q
    rw [eg] at hr'
    obtain ⟨fl,h1,h2⟩:=bind_some hr'
    refine ⟨_,b,offg H (usd Z.g mu),Z,_,[],fl,sr_start hg z rl c,h1,?_⟩
    cases fl with
    | rt r' ρ'=>
      cases h2
      intro v σ' H' s'
      obtain ⟨el,Z',hg',z',s''⟩:=s'.top
      refine kk v H' ⟨Z',hg',z',s''.sub ?_⟩
      exact (List.sublist_append_left _ _).cons_cons _
    | nx ρ'=>
      cases h2
      intro σ' H' s'
      obtain ⟨el,Z',hg',z',s''⟩:=s'
      exact kk .non H' ⟨Z',hg',z',(s''.sub (List.sublist_append_left _ _)).consS (rep_non _)⟩
    | bk ρ'=>cases h2
    | ct ρ'=>cases h2
end
section
variable {X:Cx}
noncomputable def negP:PV->Option PV
  | .int i=>some (.int (-i))
  | _=>none
noncomputable def eNeg (f:EF):EF:=fun ρ=>(f ρ).bind fun x=>(negP x.1.pv).map fun p=>(.sh p,x.2)
theorem qneg {a:Expr} {f:EF} {pos:Pos} (ha:PE X a (tP X.K f)):PE X (.UnaryOp .USub a pos) (tP X.K (eNeg f)):=PE.imp (pe_un un_neg ha) fun σ H Q q=>by
  obtain ⟨H0,Z0,ρ,pd,r,ρ',s,h,k⟩:=q
  obtain ⟨x,h1,h2⟩:=bind_some h
  obtain ⟨p,h3,h4⟩:=map_some h2
  cases h4
  refine ⟨H0,Z0,ρ,pd,x.1,x.2,s,h1,fun v H1 s1=>?_⟩
  obtain ⟨_,r1⟩:=s1.freeze.repH
  cases e:x.1.pv with
  | int i=>
    rw [e] at h3 r1
    cases h3
    exact ⟨i,rep_int_inv r1,k _ H1 (s1.pop.scal rep_int)⟩
  | _=>rw [e] at h3; cases h3
end
theorem forP_nx {b:BF} {body:SF} {xs:List PV} (I:Nat->Ev->Prop) (h0:I 0 ρ) (hs:∀ (i:Nat) x ρ,xs[i]?=some x->I i ρ->∃ ρ1,b x ρ=some ρ1/\∃ ρ2,(body ρ1=some (.nx ρ2)\/body ρ1=some (.ct ρ2))/\I (i + 1) ρ2):∃ ρ',forP b body xs ρ=some (.nx ρ')/\I xs.length ρ':=by
  induction xs generalizing ρ I with
  | nil=>exact ⟨ρ,rfl,h0⟩
  | cons x xs ih=>
    obtain ⟨ρ1,e1,ρ2,e2,h2⟩:=hs 0 x ρ rfl h0
    obtain ⟨ρ',e3,h3⟩:=ih (ρ:=ρ2) (fun i ρ=>I (i + 1) ρ) h2 (fun i y ρ h=>hs (i + 1) y ρ (by simpa using h))
    refine ⟨ρ',?_,h3⟩
    show (b x ρ).bind _=_
    rw [e1,Option.bind_some]
    rcases e2 with e2 | e2 <;> rw [e2,Option.bind_some] <;> exact e3
theorem compP_eq {b:BF} {tc:TF} {te:EF} {mu:Mu} (J:Ev->Prop) (hJ:∀ ρ,J ρ->ρ.mu=mu) (c:PV->Bool) (f:PV->PV):∀ {xs:List PV} {ρ:Ev} {acc:List PV},J ρ->acc.length + xs.length<=100000->
    (∀ x ∈ xs,∀ ρ,J ρ->∃ ρ1,b x ρ=some ρ1/\∃ ρ2,tc ρ1=some (c x,ρ2)/\J ρ2/\(c x=true->∃ l ρ3,te ρ2=some (l,ρ3)/\l.pv=f x/\J ρ3))->compP b tc te xs ρ acc=some (acc++(xs.filter c).map f,mu)
  | [],ρ,acc,h,_,_=>by
    show some (acc,ρ.mu)=_
    rw [hJ ρ h]
    simp
  | x::xs,ρ,acc,h,hl,hs=>by
    obtain ⟨ρ1,e1,ρ2,e2,h2,h3⟩:=hs x List.mem_cons_self ρ h
    have hs':∀ y ∈ xs,∀ ρ,J ρ->∃ ρ1,b y ρ=some ρ1/\∃ ρ2,tc ρ1=some (c y,ρ2)/\J ρ2/\(c y=true->∃ l ρ3,te ρ2=some (l,ρ3)/\l.pv=f y/\J ρ3):=fun y hy=>hs y (List.mem_cons_of_mem _ hy)
    rw [List.length_cons] at hl
    show (b x ρ).bind _=_
    rw [e1,Option.bind_some,e2,Option.bind_some]
    cases hc:c x with
    | false=>
      simp only [Bool.false_eq_true,if_false]
      rw [compP_eq J hJ c f h2 (by omega) hs',List.filter_cons_of_neg (by simp [hc])]
    | true=>
      obtain ⟨l,ρ3,e3,ef,h4⟩:=h3 hc
      simp only [if_true]
      rw [e3,Option.bind_some,if_pos (by omega),compP_eq J hJ c f h4 (by rw [List.length_append,List.length_singleton]; omega) hs',List.filter_cons_of_pos (by simp [hc]),ef]
      simp
theorem compP_map {b:BF} {te:EF} {mu:Mu} (J:Ev->Prop) (hJ:∀ ρ,J ρ->ρ.mu=mu) (f:PV->PV) {xs:List PV} (h:J ρ) (hl:xs.length<=100000)
    (hs:∀ x ∈ xs,∀ ρ,J ρ->∃ ρ1,b x ρ=some ρ1/\∃ l ρ3,te ρ1=some (l,ρ3)/\l.pv=f x/\J ρ3) (hb:∀ x ∈ xs,∀ ρ ρ1,J ρ->b x ρ=some ρ1->J ρ1):compP b cTrue te xs ρ []=some (xs.map f,mu):=by
  rw [compP_eq J hJ (fun _=>true) f h (by simpa using hl) fun x hx ρ hρ=>?_]
  · rw [List.nil_append,List.filter_eq_self.mpr (fun _ _=>rfl)]
  · obtain ⟨ρ1,e1,l,ρ3,e3⟩:=hs x hx ρ hρ
    exact ⟨ρ1,e1,ρ1,rfl,hb x hx ρ ρ1 hρ e1,fun _=>⟨l,ρ3,e3⟩⟩
theorem modP_int {a b:Int} (h:0 < b):modP (.int a) (.int b)=some (.sh (.int (a % b))):=by
  show (if decide (0 < b)=true then _ else _)=_
  rw [if_pos (decide_eq_true h)]
theorem fdivP_int {a b:Int} (h:0 < b) (h2:b < 1073741824):fdivP (.int a) (.int b)=some (.sh (.int (a / b))):=by
  show (if decide (0 < b/\b < 1073741824)=true then _ else _)=_
  rw [if_pos (decide_eq_true ⟨h,h2⟩)]
theorem mulP_l {a b:Int} (h:-18446744073709551616 < a) (h2:a < 18446744073709551616):mulP (.int a) (.int b)=some (.sh (.int (a * b))):=by
  show (if decide ((-(2 ^ 64) < a/\a < 2 ^ 64)\/(-(2 ^ 64) < b/\b < 2 ^ 64))=true then _ else _)=_
  rw [if_pos (decide_eq_true (.inl ⟨by omega,by omega⟩))]
theorem eOp_eq {g:PV->PV->Option Lc} {fa fb:EF} {ρ ρ1 ρ2:Ev} {x y l:Lc} (h1:fa ρ=some (x,ρ1)) (h2:fb ρ1=some (y,ρ2)) (h3:g x.pv y.pv=some l):eOp g fa fb ρ=some (l,ρ2):=by
  unfold eOp
  rw [h1,Option.bind_some,h2,Option.bind_some,h3]
  rfl
theorem atI_some {α:Type} {l:List α} {i:Int} (h0:0<=i) (h1:i < l.length):∃ x,atI l i=some x/\l[i.toNat]?=some x:=by
  have hi:i.toNat < l.length:=by omega
  refine ⟨l[i.toNat],?_,List.getElem?_eq_getElem hi⟩
  unfold atI ixN
  rw [if_pos h0,if_pos h1,Option.bind_some,List.getElem?_eq_getElem hi]
theorem len_rng {lo:Int} {n:Nat}:(rngP lo n).length=n:=by simp [rngP]
theorem mem_rng {lo:Int} {n:Nat} {p:PV} (h:p ∈ rngP lo n):∃ i:Nat,i < n/\p=.int (lo + i):=by
  unfold rngP at h
  obtain ⟨i,hi,rfl⟩:=List.mem_map.mp h
  exact ⟨i,List.mem_range.mp hi,rfl⟩
theorem sSeq_nx {f g:SF} {ρ ρ':Ev} (h:f ρ=some (.nx ρ')):sSeq f g ρ=g ρ':=by unfold sSeq; rw [h,Option.bind_some]
theorem sSeq_rt {f g:SF} {ρ ρ':Ev} {r:Lc} (h:f ρ=some (.rt r ρ')):sSeq f g ρ=some (.rt r ρ'):=by unfold sSeq; rw [h,Option.bind_some]
theorem sSet_eq {i:Nat} {f:EF} {ρ ρ1:Ev} {l:Lc} (h:f ρ=some (l,ρ1)) (hi:i < ρ1.vs.length):sSet i f ρ=some (.nx (ρ1.set i (some l))):=by unfold sSet; rw [h,Option.bind_some,if_pos hi]
theorem sIf_t {c:TF} {f g:SF} {ρ ρ1:Ev} (h:c ρ=some (true,ρ1)):sIf c f g ρ=f ρ1:=by unfold sIf; rw [h,Option.bind_some,if_pos rfl]
theorem sIf_f {c:TF} {f g:SF} {ρ ρ1:Ev} (h:c ρ=some (false,ρ1)):sIf c f g ρ=g ρ1:=by unfold sIf; rw [h,Option.bind_some,if_neg Bool.false_ne_true]
theorem sRet_eq {f:EF} {ρ ρ1:Ev} {l:Lc} (h:f ρ=some (l,ρ1)):sRet f ρ=some (.rt l ρ1):=by unfold sRet; rw [h]; rfl
theorem sFor_eq {f:IF} {b:BF} {body:SF} {ρ ρ1:Ev} {xs:List PV} (h:f ρ=some (xs,ρ1)):sFor f b body ρ=forP b body xs ρ1:=by unfold sFor; rw [h,Option.bind_some]
theorem runP_rt {n:Nat} {g:SF} {ps:List PV} {mu:Mu} {r:Lc} (h:g (env0 n ps mu)=some (.rt r ρ)):runP n g ps mu=some (r,ρ.mu):=by unfold runP; rw [h,Option.bind_some]
theorem runP_nx {n:Nat} {g:SF} {ps:List PV} {mu:Mu} (h:g (env0 n ps mu)=some (.nx ρ)):runP n g ps mu=some (.sh .non,ρ.mu):=by unfold runP; rw [h,Option.bind_some]
theorem eCall_eq {g:GF} {a:AF} {ρ ρ1:Ev} {ls:List Lc} {r:Lc} {mu:Mu} (h:a ρ=some (ls,ρ1)) (h2:g (ls.map Lc.pv) ρ1.mu=some (r,mu)):eCall g a ρ=some (r,⟨ρ1.vs,mu⟩):=by unfold eCall; rw [h,Option.bind_some,h2]; rfl
theorem aCons_eq {f:EF} {a:AF} {ρ ρ1 ρ2:Ev} {l:Lc} {ls:List Lc} (h:f ρ=some (l,ρ1)) (h2:a ρ1=some (ls,ρ2)):aCons f a ρ=some (l::ls,ρ2):=by unfold aCons; rw [h,Option.bind_some,h2]; rfl
theorem eB_eq {g:List PV->Option Lc} {a:AF} {ρ ρ1:Ev} {ls:List Lc} {r:Lc} (h:a ρ=some (ls,ρ1)) (h2:g (ls.map Lc.pv)=some r):eB g a ρ=some (r,ρ1):=by unfold eB; rw [h,Option.bind_some,h2]; rfl
theorem eComp_eq {f:IF} {m:Nat} {ixs:List Nat} {b:BF} {tc:TF} {te:EF} {ρ ρ1:Ev} {xs ys:List PV} {mu:Mu} (h:f ρ=some (xs,ρ1)) (h2:compP b tc te xs (blkEnv m ixs (frzIx ixs ρ1)) []=some (ys,mu)):eComp f m ixs b tc te ρ=some (.own (.lst ys),⟨(frzIx ixs ρ1).vs,mu⟩):=by unfold eComp; rw [h,Option.bind_some,h2]; rfl
theorem iOf_eq {f:EF} {g:PV->Option (List PV)} {ρ ρ1:Ev} {l:Lc} {xs:List PV} (h:f ρ=some (l,ρ1)) (h2:g l.pv=some xs):iOf f g ρ=some (xs,ρ1):=by unfold iOf; rw [h,Option.bind_some,h2]; rfl
theorem iRange1_eq {a:AF} {ρ ρ1:Ev} {l:Lc} {n:Int} (h:a ρ=some ([l],ρ1)) (hl:l.pv=.int n) (h1:-4611686018427387904<=n) (h2:n < 4611686018427387904):iRange1 a ρ=some (rngP 0 n.toNat,ρ1):=by
  unfold iRange1
  rw [h,Option.bind_some]
  show (match [l.pv] with | [.int j]=>_ | _=>_)=_
  rw [hl]
  show (if -(2 ^ 62)<=n/\n < 2 ^ 62 then _ else _)=_
  rw [if_pos ⟨by omega,by omega⟩]
theorem tRead_eq {f:TF} {ρ ρ1:Ev} {b:Bool} (h:f ρ.peek=some (b,ρ1)):tRead f ρ=some (b,ρ):=by unfold tRead; rw [h]; rfl
theorem eRead_eq {f:EF} {ρ ρ1:Ev} {l:Lc} (h:f ρ.peek=some (l,ρ1)) (hf:flatL l=true):eRead f ρ=some (l,ρ):=by unfold eRead; rw [h,Option.bind_some,if_pos hf]
theorem tT_eq {f:EF} {tr:PV->Option Bool} {ρ ρ1:Ev} {l:Lc} {b:Bool} (h:f ρ=some (l,ρ1)) (h2:tr l.pv=some b):tT f tr ρ=some (b,ρ1):=by unfold tT; rw [h,Option.bind_some,h2]; rfl
theorem eJoin_eq {f:EF} {a:AF} {ρ ρ1 ρ2:Ev} {l m:Lc} {z:Str} {ps:List PV} {xs:List Str} (h:f ρ=some (l,ρ1)) (h2:a ρ1=some ([m],ρ2)) (hl:l.pv=.str z) (hm:m.pv=.lst ps) (hx:strsOf ps=some xs) (hs:(xs.map (·.length)).sum + xs.length * z.length<=100000):eJoin f a ρ=some (.sh (.str (Txt.join z xs)),ρ2):=by
  unfold eJoin
  rw [h,Option.bind_some,h2,Option.bind_some,hl]
  show (match PV.str z,[m.pv] with | .str z,[.lst ps]=>_ | _,_=>_)=_
  rw [hm]
  show (strsOf ps).bind _=_
  rw [hx,Option.bind_some,if_pos hs]
section
variable {f g:SF} {ρ ρ1 ρ2 ρ':Ev} {R:Option Fl} {l m r:Lc} {fa fb fc:EF} {c d:TF} {a:AF} {b:Bool}
theorem seq_go (h:f ρ=some (.nx ρ')) (h2:g ρ'=R):sSeq f g ρ=R:=(sSeq_nx h).trans h2
theorem set_go {i:Nat} (h:fa ρ=some (l,ρ1)) (hi:Nat.blt i ρ1.vs.length=true) (e:ρ1.set i (some l)=ρ'):sSet i fa ρ=some (.nx ρ'):=by
  rw [sSet_eq h (by simpa using hi),e]
theorem ret_go (h:fa ρ=some (l,ρ1)):sRet fa ρ=some (.rt l ρ1):=sRet_eq h
theorem expr_go (h:fa ρ=some (l,ρ1)):sExpr fa ρ=some (.nx ρ1):=by unfold sExpr; rw [h]; rfl
theorem op_go {o:PV->PV->Option Lc} {p q:PV} (h1:fa ρ=some (l,ρ1)) (hx:l.pv=p) (h2:fb ρ1=some (m,ρ2)) (hy:m.pv=q) (h3:o p q=some r):eOp o fa fb ρ=some (r,ρ2):=eOp_eq h1 h2 (by rw [hx,hy]; exact h3)
theorem call_go {G:GF} {ls:List Lc} {ps:List PV} {mu:Mu} {v:List (Option Lc)} {mu1:Mu} (h:a ρ=some (ls,ρ1)) (hp:ls.map Lc.pv=ps) (hv:ρ1.vs=v) (hm:ρ1.mu=mu1) (h2:G ps mu1=some (r,mu)):eCall G a ρ=some (r,⟨v,mu⟩):=by
  subst hp hv hm
  exact eCall_eq h h2
theorem b_go {G:List PV->Option Lc} {ls:List Lc} {ps:List PV} (h:a ρ=some (ls,ρ1)) (hp:ls.map Lc.pv=ps) (h2:G ps=some r):eB G a ρ=some (r,ρ1):=by
  subst hp
  exact eB_eq h h2
theorem cons_go {ls:List Lc} (h:fa ρ=some (l,ρ1)) (h2:a ρ1=some (ls,ρ2)):aCons fa a ρ=some (l::ls,ρ2):=aCons_eq h h2
theorem tT_go {tr:PV->Option Bool} {p:PV} (h:fa ρ=some (l,ρ1)) (hp:l.pv=p) (h2:tr p=some b):tT fa tr ρ=some (b,ρ1):=by
  subst hp
  exact tT_eq h h2
theorem not_go (h:c ρ=some (b,ρ1)):tNotF c ρ=some (!b,ρ1):=by unfold tNotF; rw [h]; rfl
theorem and_go {b2:Bool} (h:c ρ=some (b,ρ1)) (h2:d ρ1=some (b2,ρ1)):tAndF c d ρ=some (b && b2,ρ1):=by
  unfold tAndF
  rw [h,Option.bind_some]
  cases b with
  | true=>rw [if_pos rfl,h2]; rfl
  | false=>rfl
theorem or_go {b2:Bool} (h:c ρ=some (b,ρ1)) (h2:d ρ1=some (b2,ρ1)):tOrF c d ρ=some (b || b2,ρ1):=by
  unfold tOrF
  rw [h,Option.bind_some]
  cases b with
  | true=>rfl
  | false=>rw [if_neg Bool.false_ne_true,h2]; rfl
theorem tread_go (h:c ρ.peek=some (b,ρ1)):tRead c ρ=some (b,ρ):=tRead_eq h
theorem eread_go (h:fa ρ.peek=some (l,ρ1)) (hf:flatL l=true):eRead fa ρ=some (l,ρ):=eRead_eq h hf
theorem lst_go {ls:List Lc} {ps:List PV} (h:a ρ=some (ls,ρ1)) (hl:Nat.ble ls.length 1000=true) (hp:ls.map Lc.pv=ps):eLst a ρ=some (.own (.lst ps),ρ1):=by
  subst hp
  unfold eLst
  rw [h,Option.bind_some,if_pos (by simpa using hl)]
theorem tup_go {ls:List Lc} {ps:List PV} (h:a ρ=some (ls,ρ1)) (hl:Nat.ble ls.length 1000=true) (hp:ls.map Lc.pv=ps):eTup a ρ=some (.sh (.tup ps),ρ1):=by
  subst hp
  unfold eTup
  rw [h,Option.bind_some,if_pos (by simpa using hl)]
theorem ix_go {p q:PV} (h1:fa ρ=some (l,ρ1)) (hx:l.pv=p) (h2:fb ρ1=some (m,ρ2)) (hy:m.pv=q) (hn:∀ n,p ≠ .ptr n) (h3:ixP p q=some r):eIx fa fb ρ=some (r,ρ2):=by
  subst hx hy
  unfold eIx
  rw [h1,Option.bind_some,h2,Option.bind_some]
  split
  · rename_i n k e1 e2
    exact (hn n e1).elim
  · rw [h3]; rfl
theorem ixc_go {n:Nat} {k:Int} {ws:List PV} {p:PV} (h1:fa ρ=some (l,ρ1)) (hx:l.pv=.ptr n) (h2:fb ρ1=some (m,ρ2)) (hy:m.pv=.int k) (hm:ρ2.mu[n]?=some (some (.lst ws))) (h3:atI ws k=some p):eIx fa fb ρ=some (.sh p,ρ2):=by
  unfold eIx
  rw [h1,Option.bind_some,h2,Option.bind_some,hx,hy]
  show (match ρ2.mu[n]? with | some (some (.lst ws))=>_ | _=>_)=_
  rw [hm]
  show (atI ws k).map _=_
  rw [h3]
  rfl
theorem app_go {i:Nat} {ws0 ws:List PV} {p:PV} (h0:ρ.vs[i]?=some (some (.own (.lst ws0)))) (h:fa ρ=some (l,ρ1)) (hp:l.pv=p) (h1:ρ1.vs[i]?=some (some (.own (.lst ws)))) (hz:ws.length < 100000) (e:ρ1.set i (some (.own (.lst (ws++[p]))))=ρ'):sApp i fa ρ=some (.nx ρ'):=by
  subst hp
  unfold sApp
  rw [h0]
  show (fa ρ).bind _=_
  rw [h,Option.bind_some]
  show (match ρ1.vs[i]? with | some (some (.own (.lst ws)))=>_ | _=>_)=_
  rw [h1]
  show (if ws.length < 100000 then _ else _)=_
  rw [if_pos hz,e]
theorem seti_go {i:Nat} {fi fv:EF} {ws0 ws:List PV} {k:Int} {j:Nat} {x y:Lc} {p:PV} (h:fv ρ=some (x,ρ1)) (hxp:x.pv=p) (h0:ρ1.vs[i]?=some (some (.own (.lst ws0)))) (h2:fi ρ1=some (y,ρ2)) (hy:y.pv=.int k) (h1:ρ2.vs[i]?=some (some (.own (.lst ws)))) (hj:ixN ws.length k=some j) (e:ρ2.set i (some (.own (.lst (ws.set j p))))=ρ'):sSetI i fi fv ρ=some (.nx ρ'):=by
  subst hxp
  unfold sSetI
  rw [h,Option.bind_some]
  show (match ρ1.vs[i]? with | some (some (.own (.lst _)))=>_ | _=>_)=_
  rw [h0]
  show (fi ρ1).bind _=_
  rw [h2,Option.bind_some,hy]
  show (match PV.int k,ρ2.vs[i]? with | .int k,some (some (.own (.lst ws)))=>_ | _,_=>_)=_
  rw [h1]
  show (ixN ws.length k).map _=_
  rw [hj,Option.map_some,e]
theorem for_go {F:IF} {B:BF} {body:SF} {xs:List PV} (h:F ρ=some (xs,ρ1)) (h2:forP B body xs ρ1=R):sFor F B body ρ=R:=(sFor_eq h).trans h2
theorem iof_go {G:PV->Option (List PV)} {p:PV} {xs:List PV} (h:fa ρ=some (l,ρ1)) (hp:l.pv=p) (h2:G p=some xs):iOf fa G ρ=some (xs,ρ1):=by
  subst hp
  exact iOf_eq h h2
end
section
variable {X:Cx}
noncomputable def eOpen (f:EF):EF:=fun ρ=>(f ρ).bind fun x=>match x.1 with
  | .sh (.ptr n)=>match x.2.mu[n]? with
    | some (some p)=>some (.own p,⟨x.2.vs,x.2.mu.set n none⟩)
    | _=>none
  | _=>none
noncomputable def openV (i:Nat) (ρ:Ev):Option Ev:=match ρ.vs[i]? with
  | some (some (.sh (.ptr n)))=>match ρ.mu[n]? with
    | some (some p)=>some ⟨ρ.vs.set i (some (.own p)),ρ.mu.set n none⟩
    | _=>none
  | _=>none
noncomputable def sOpen (i:Nat) (f:SF):SF:=fun ρ=>(f ρ).bind fun fl=>match fl with
  | .nx ρ'=>(openV i ρ').map .nx
  | _=>none
theorem SR.openV {ρ ρ':Ev} {i:Nat} (s:SR K H0 Z0 σ H ρ pd) (h:PL.openV i ρ=some ρ'):SR K H0 Z0 σ H ρ' pd:=by
  unfold PL.openV at h
  split at h
  · rename_i n en
    split at h
    · rename_i p em
      cases h
      obtain ⟨v,ev,s1⟩:=s.var en
      obtain ⟨a,rfl,s2⟩:=s1.cellO (p:=p) em
      have s3:=SR.sub s2 (pd:=(.ref a,.own p)::pd) ((List.sublist_cons_self _ _).cons_cons _)
      have hi:i < ρ.vs.length:=(List.getElem?_eq_some_iff.mp en).1
      have s4:=s3.store (i:=i) (by show i < (ρ.vs.set i _).length; rw [List.length_set]; exact hi)
      rw [set_same ev] at s4
      have e:(⟨(ρ.vs.set i (some (.sh (.ptr n)))).set i (some (.own p)),ρ.mu.set n none⟩:Ev)=⟨ρ.vs.set i (some (.own p)),ρ.mu.set n none⟩:=by rw [List.set_set]
      have s5:SR K H0 Z0 σ H ⟨(ρ.vs.set i (some (.sh (.ptr n)))).set i (some (.own p)),ρ.mu.set n none⟩ pd:=s4
      rw [e] at s5
      exact s5
    · cases h
  · cases h
theorem qs_open {i:Nat} {st:Stmt} {f:SF} (h:PS X st (tPs X.K f)):PS X st (tPs X.K (sOpen i f)):=PS.imp h fun D σ H q=>by
  obtain ⟨H0,Z0,ρ,pd,fl,s,h,k⟩:=q
  obtain ⟨y,h1,h2⟩:=bind_some h
  cases y with
  | nx ρ'=>
    obtain ⟨ρ2,h3,rfl⟩:=map_some h2
    exact ⟨H0,Z0,ρ,pd,.nx ρ',s,h1,fun σ' H' s'=>k σ' H' (s'.openV h3)⟩
  | rt r ρ'=>cases h2
  | bk ρ'=>cases h2
  | ct ρ'=>cases h2
end
section
variable {X:Cx}
noncomputable def eSlx (f:EF) (lo hi:OF):EF:=fun ρ=>(f ρ).bind fun x=>(lo x.2).bind fun y=>(hi y.2).bind fun z=>match x.1.pv with
  | .lst ps=>some (.own (.lst (cutP ps y.1 z.1)),z.2)
  | .str t=>if t.length<=100000 then some (.sh (.str (txtCut t y.1 z.1)),z.2) else none
  | _=>none
theorem qslicex {e:Expr} {lo hi:Option Expr} {p2 pos:Pos} {f:EF} {fl fh:OF} (he:PE X e (tP X.K f)) (hl:PO X lo (tPO X.K fl)) (hu:PO X hi (tPO X.K fh)):PE X (.Subscript e (.Slice lo hi none p2) pos) (tP X.K (eSlx f fl fh)):=PE.imp (pe_slice (sl_list.or sl_str) he hl hu) fun σ H Q q=>by
  obtain ⟨H0,Z0,ρ,pd,r,ρ',s,h,k⟩:=q
  obtain ⟨x,h1,h2⟩:=bind_some h
  obtain ⟨y,h3,h4⟩:=bind_some h2
  obtain ⟨z,h5,h6⟩:=bind_some h4
  refine ⟨H0,Z0,ρ,pd,x.1,x.2,s,h1,fun v H1 s1=>⟨H0,Z0,x.2,_,y.1,y.2,s1.freeze,h3,fun H2 s2=>⟨H0,Z0,y.2,_,z.1,z.2,s2,h5,fun H3 s3=>?_⟩⟩⟩
  cases e:x.1.pv with
  | lst ps=>
    rw [e] at h6 s3
    cases h6
    obtain ⟨el,Z,hg,zz,r1,s4⟩:=s3.sh
    unfold Rep at r1
    obtain ⟨a,vs,rfl,g1,g2⟩:=r1
    refine .inl ⟨a,vs,rfl,SqL.same zz.zh g1,fun p hp=>k _ _ ?_⟩
    obtain ⟨z',s'⟩:=s4.new (o:=.lst (cutV vs y.1 z.1)) (p:=.lst (cutP ps y.1 z.1)) zz hp ⟨_,upd_same,g2.cut⟩
    exact .mk el hg z' s'
  | str t=>
    rw [e] at h6 s3
    have h6':(if t.length<=100000 then some (Lc.sh (.str (txtCut t y.1 z.1)),z.2) else none)=some (r,ρ'):=h6
    split at h6'
    · rename_i hz
      cases h6'
      obtain ⟨_,r1⟩:=s3.repH
      unfold Rep at r1
      exact .inr ⟨t,r1,small hz,k _ H3 (s3.pop.scal rep_str)⟩
    · cases h6'
  | _=>rw [e] at h6; cases h6
noncomputable def ePop (i:Nat):EF:=fun ρ=>match ρ.vs[i]? with
  | some (some (.own (.lst ws)))=>(ws[ws.length - 1]?).map fun p=>(.sh p,ρ.set i (some (.own (.lst ws.dropLast))))
  | _=>none
noncomputable def rIndexP (K:FG):V->List V->Hp->VK->Prop:=fun x vs H Q=>∃ g p qs w,vs=[w]/\Rep K ⟨H,g⟩ p w/\Rep K ⟨H,g⟩ (.lst qs) x/\inDs (eqD 150) p qs=some true/\qs.length<=100000/\Q (.int (qs.findIdx fun q=>(eqD 150 q p).getD false)) H
theorem mt_index {k:Nat} (hr:Room k X.A):MtR X "list.index" (rIndexP X.K):=by
  intro pins s σ H x vs v us Q I rx rv h
  obtain ⟨g,p,qs,w,rfl,rp,rq,e,hz,q⟩:=h
  have hA:X.A.in1.units + 150 < cLine:=by have:=hr.un; show X.A.units + 1 + 150 < cLine; omega
  obtain ⟨u,rfl,ru⟩:=rv.one
  obtain ⟨i1,i2⟩:=inDs_at e
  obtain ⟨a,vs,its,rfl,q1,l1,rv1,t1⟩:=lst_of I rq rx
  have hl:its.length=qs.length:=by rw [← rv1.length,l1.length]
  have hex:∃ q ∈ qs,(fun q=>(eqD 150 q p).getD false) q=true:=List.any_eq_true.mp i2.symm
  have hj:qs.findIdx (fun q=>(eqD 150 q p).getD false) < qs.length:=List.findIdx_lt_length.mpr hex
  have hat:∀ m (hm:m < its.toArray.size),worth X.K ⟨H,g⟩ p qs vs its its.toArray[m]=(eqD 150 (qs[m]'(by rw [List.size_toArray] at hm; omega)) p).getD false:=fun m hm=>by
    have hm':m < its.length:=by simpa using hm
    exact worth_at (xv:=w) (xu:=u) I l1 rv1 i1 (j:=m) (List.getElem?_eq_getElem (by omega)) (by simp)
  obtain ⟨⟨oc,od,oD,os⟩,ht,hc,n,hd⟩:=t1
  have hc':oc=.type "list" := hc
  have hd':oD=.seq its.toArray n:=hd
  subst hc' hd'
  refine call_meets F.slot_list_index ⟨_,ht,rfl⟩ F.entry_list_index (F.args_list_index_2 _ _) (SeqAt.list_indexAt a its.toArray n od os u (worth X.K ⟨H,g⟩ p qs vs its) (qs.findIdx fun q=>(eqD 150 q p).getD false) (by rw [List.size_toArray]; omega) (by omega) ?_ ?_) ⟨ht,worth_eq I rp ru l1 rv1 i1 hA,?_⟩
  · rw [hat]
    exact List.findIdx_getElem (w:=hj)
  · intro m hm hlt
    rw [hat]
    have:=List.not_of_lt_findIdx hlt
    simpa using this
  · exact ⟨.int _,H,I.tok _,⟨_,rfl⟩,q⟩
noncomputable def eIndex (f g:EF):EF:=fun ρ=>(f ρ).bind fun x=>(g x.2).bind fun y=>match x.1.pv with
  | .lst qs=>if inDs (eqD 150) y.1.pv qs=some true/\qs.length<=100000 then some (.sh (.int (qs.findIdx fun q=>(eqD 150 q y.1.pv).getD false)),y.2) else none
  | _=>none
theorem qindex {o e:Expr} {f g:EF} {apos cpos:Pos} (h:PE X (.Call (.Attribute o "index" apos) [e] [] cpos) (tBM X.K "list" (rIndexP X.K) (tP X.K f) (tPA X.K (aCons g aNil)))):PE X (.Call (.Attribute o "index" apos) [e] [] cpos) (tP X.K (eIndex f g)):=PE.imp h fun σ H Q q=>by
  obtain ⟨H0,Z0,ρ,pd,r,ρ',s,h,k⟩:=q
  obtain ⟨x,h1,h2⟩:=bind_some h
  obtain ⟨y,h3,h4⟩:=bind_some h2
  refine ⟨H0,Z0,ρ,pd,x.1,x.2,s,h1,fun v H1 s1=>?_⟩
  have s1':=s1.freeze
  cases e:x.1.pv with
  | lst qs=>
    rw [e] at h4 s1'
    have h4':(if inDs (eqD 150) y.1.pv qs=some true/\qs.length<=100000 then some (Lc.sh (.int (qs.findIdx fun q=>(eqD 150 q y.1.pv).getD false)),y.2) else none)=some (r,ρ'):=h4
    split at h4'
    · rename_i hc
      cases h4'
      obtain ⟨_,r1⟩:=s1'.repH
      have r1':=r1
      unfold Rep at r1'
      obtain ⟨a,us,rfl,hq,_⟩:=r1'
      refine ⟨.inl ⟨rfl,us,hq⟩,H0,Z0,x.2,_,[y.1],y.2,s1',?_,fun vs H2 e2 s2=>?_⟩
      · unfold aCons aNil
        rw [h3]
        rfl
      · obtain ⟨w,rfl⟩:=ln1 e2
        have s3:SR X.K H0 Z0 σ H2 y.2 ((w,.sh y.1.pv)::(.ref a,.sh (.lst qs))::pd):=SR.freeze s2
        obtain ⟨g,ra,rb⟩:=s3.rep2H
        exact ⟨g,y.1.pv,qs,w,rfl,rb,ra,hc.1,hc.2,k _ H2 (s3.pop.pop.scal rep_int)⟩
    · cases h4'
  | _=>rw [e] at h4; cases h4
end
section
variable {X:Cx}
end
section
variable {X:Cx}
noncomputable abbrev PD:=List (Key × PV)
noncomputable def valP:PD->Key->Option PV
  | [],_=>none
  | kv::r,k=>if kv.1=k then some kv.2 else valP r k
noncomputable def replP (k:Key) (v:PV):PD->PD
  | []=>[]
  | kv::r=>(if kv.1=k then (kv.1,v) else kv)::replP k v r
noncomputable def putP (l:PD) (k:Key) (v:PV):PD:=match valP l k with
  | some _=>replP k v l
  | none=>l++[(k,v)]
noncomputable def keyP:PV->Option Key
  | .int i=>some (.inl i)
  | .str x=>some (.inr x)
  | _=>none
noncomputable def pvK:Key->PV
  | .inl i=>.int i
  | .inr x=>.str x
noncomputable def dkP (l:PD):PV:=.dk (l.map (·.1)) (l.map (·.2))
noncomputable def RepD (K:FG) (Z:ZG):PD->List (Key × V)->Prop:=Paired fun p q=>p.1=q.1/\Rep K Z p.2 q.2
section
variable {K:FG} {Z Z':ZG}
theorem repD_mk:∀ {kvs:List (Key × V)} {ks:List Key} {ps:List PV},kvs.map (·.1)=ks->RepL K Z ps (kvs.map (·.2))->RepD K Z (ks.zip ps) kvs
  | [],ks,ps,h1,h2=>by
    subst h1
    exact .nil
  | kv::r,ks,ps,h1,h2=>by
    subst h1
    cases ps with
    | nil=>have:=h2.inv0; simp at this
    | cons p ps=>
      obtain ⟨v,r',e,h3,h4⟩:=h2.inv
      rw [List.map_cons] at e
      injection e with e1 e2
      subst e1 e2
      rw [List.map_cons,List.zip_cons_cons]
      exact .cons ⟨rfl,h3⟩ (repD_mk rfl h4)
theorem RepD.keys:∀ {l:PD} {kvs:List (Key × V)},RepD K Z l kvs->kvs.map (·.1)=l.map (·.1)
  | _,_,.nil=>rfl
  | _,_,.cons h t=>by rw [List.map_cons,List.map_cons,h.1,RepD.keys t]
theorem RepD.vals:∀ {l:PD} {kvs:List (Key × V)},RepD K Z l kvs->RepL K Z (l.map (·.2)) (kvs.map (·.2))
  | _,_,.nil=>.nil
  | _,_,.cons h t=>RepL.cons h.2 (RepD.vals t)
theorem RepD.len:∀ {l:PD} {kvs:List (Key × V)},RepD K Z l kvs->kvs.length=l.length
  | _,_,.nil=>rfl
  | _,_,.cons h t=>by rw [List.length_cons,List.length_cons,RepD.len t]
theorem RepD.val {k:Key}:∀ {l:PD} {kvs:List (Key × V)},RepD K Z l kvs->(∀ p,valP l k=some p->∃ v,valV kvs k=some v/\Rep K Z p v)/\(valP l k=none->valV kvs k=none)
  | _,_,.nil=>⟨fun p h=>(by cases h),fun _=>rfl⟩
  | p::l,q::kvs,.cons h t=>by
    have ih:=RepD.val (k:=k) t
    by_cases e:p.1=k
    · have e':q.1=k:=by rw [← h.1]; exact e
      refine ⟨fun x hx=>⟨q.2,valV_pos e',?_⟩,fun hx=>?_⟩
      · unfold valP at hx; rw [if_pos e] at hx; cases hx; exact h.2
      · unfold valP at hx; rw [if_pos e] at hx; cases hx
    · have e':¬ q.1=k:=by rw [← h.1]; exact e
      rw [valV_neg e']
      unfold valP
      rw [if_neg e]
      exact ih
theorem RepD.repl {k:Key} {p:PV} {v:V} (r:Rep K Z p v):∀ {l:PD} {kvs:List (Key × V)},RepD K Z l kvs->RepD K Z (replP k p l) (kvs.map fun kv=>if kv.1=k then (kv.1,v) else kv)
  | _,_,.nil=>.nil
  | a::l,b::kvs,.cons h t=>by
    refine .cons ?_ (RepD.repl r t)
    by_cases e:a.1=k
    · have e':b.1=k:=by rw [← h.1]; exact e
      rw [if_pos e]
      dsimp only
      rw [if_pos e']
      exact ⟨h.1,r⟩
    · have e':¬ b.1=k:=by rw [← h.1]; exact e
      rw [if_neg e]
      dsimp only
      rw [if_neg e']
      exact h
theorem RepD.app:∀ {l l':PD} {kvs kvs':List (Key × V)},RepD K Z l kvs->RepD K Z l' kvs'->RepD K Z (l++l') (kvs++kvs')
  | _,_,_,_,.nil,h=>h
  | _,_,_,_,.cons a t,h=>.cons a (RepD.app t h)
theorem RepD.put {k:Key} {p:PV} {v:V} {l:PD} {kvs:List (Key × V)} (h:RepD K Z l kvs) (r:Rep K Z p v):RepD K Z (putP l k p) (putK kvs k v):=by
  have hv:=h.val (k:=k)
  unfold putP
  cases e:valP l k with
  | none=>
    rw [putK_new v (hv.2 e)]
    exact h.app (.cons ⟨rfl,r⟩ .nil)
  | some q=>
    obtain ⟨u,hu,_⟩:=hv.1 q e
    have e2:putK kvs k v=kvs.map fun kv=>if kv.1=k then (kv.1,v) else kv:=by
      unfold putK
      rw [valV_any,hu]
      rfl
    rw [e2]
    exact h.repl r
theorem key_rep {p:PV} {k:Key} {v:V} (h:keyP p=some k) (r:Rep K Z p v):v=kV k:=by
  cases p with
  | int i=>cases h; exact rep_int_inv r
  | str x=>cases h; exact rep_str_inv r
  | _=>cases h
theorem rep_key {k:Key}:Rep K Z (pvK k) (kV k):=by
  cases k with
  | inl i=>exact rep_int _
  | inr x=>exact rep_str _
end
noncomputable def eIy (fa fb:EF):EF:=fun ρ=>(fa ρ).bind fun x=>(fb x.2).bind fun y=>match x.1.pv with
  | .dk ks ps=>(keyP y.1.pv).bind fun k=>(valP (ks.zip ps) k).map fun p=>(.sh p,y.2)
  | .df ks ps=>(keyP y.1.pv).bind fun k=>(valP (ks.zip ps) k).map fun p=>(.sh p,y.2)
  | _=>eIx (fun _=>some x) (fun _=>some y) ρ
theorem ix_core {ρ ρ0 ρ':Ev} {v w:V} {x y:Lc × Ev} {l:Lc} {Q:VK} (hy:y.2=ρ) (s3:SR X.K H0 Z0 σ H ρ ((w,.sh y.1.pv)::(v,.sh x.1.pv)::pd)) (h:eIx (fun _=>some x) (fun _=>some y) ρ0=some (l,ρ')) (k:∀ u H',SR X.K H0 Z0 σ H' ρ' ((u,l)::pd)->Q u H'):rIx X.K v w H Q:=by
  unfold eIx at h
  rw [Option.bind_some,Option.bind_some] at h
  subst hy
  split at h
  · rename_i n kk en ek
    split at h
    · rename_i ws em
      obtain ⟨p,h5,h6⟩:=map_some h
      cases h6
      rw [en,ek] at s3
      obtain ⟨_,rw'⟩:=s3.repH
      have ew:=rep_int_inv rw'
      obtain ⟨a,rfl,s5⟩:=s3.pop.cellO em
      obtain ⟨el,Z,hg,z,so⟩:=s5.top
      obtain ⟨_,ea,⟨us,hu,hr⟩,_⟩:=so.1 _ List.mem_cons_self
      cases ea
      obtain ⟨j,e1,e2⟩:=atI_len h5 hr.length
      obtain ⟨u,e3,e4⟩:=hr.get e1
      refine .inl ⟨a,us,kk,u,rfl,ew,SqL.of hu,e2 u e3,k u H ?_⟩
      have s6:SR X.K H0 Z0 σ H ⟨y.2.vs,y.2.mu.set n none⟩ ((u,.sh p)::(.ref a,.own (.lst ws))::(.ref a,.sh (.ptr n))::pd):=.mk (Z:=Z) el hg z ((so.perm sl_cons).consS e4)
      have hn:n < y.2.mu.length:=(List.getElem?_eq_some_iff.mp em).1
      have s7:SR X.K H0 Z0 σ H ⟨y.2.vs,y.2.mu.set n none⟩ ((.ref a,.own (.lst ws))::(.ref a,.sh (.ptr n))::(u,.sh p)::pd):=s6.perm (((List.Perm.swap _ _ _).cons _).trans (List.Perm.swap _ _ _))
      have s8:=s7.cellP (by show (y.2.mu.set n none)[n]?=_; rw [List.getElem?_set_self hn])
      have e8:(y.2.mu.set n none).set n (some (.lst ws))=y.2.mu:=by rw [List.set_set]; exact set_same em
      have s9:SR X.K H0 Z0 σ H ⟨y.2.vs,(y.2.mu.set n none).set n (some (.lst ws))⟩ ((u,.sh p)::pd):=s8
      rw [e8] at s9
      exact s9
    · cases h
  · obtain ⟨l',h5,h6⟩:=map_some h
    cases h6
    exact ops_ix H0 Z0 σ y.2 pd H v w x.1.pv y.1.pv _ Q s3 h5 k
theorem qiy {a b:Expr} {pos:Pos} {fa fb:EF} (hu:X.A.units + 1 < cLine) (ha:PE X a (tP X.K fa)) (hb:PE X b (tP X.K fb)) (hm:PlainIx b):PE X (.Subscript a b pos) (tP X.K (eIy fa fb)):=PE.imp (pe_ix (ix_seq.or (ix_dict hu)) ha hb hm) fun σ H Q q=>by
  obtain ⟨H0,Z0,ρ,pd,l,ρ',s,f,k⟩:=q
  obtain ⟨x,h1,h2⟩:=bind_some f
  obtain ⟨y,h3,h4⟩:=bind_some h2
  refine ⟨H0,Z0,ρ,pd,x.1,x.2,s,h1,fun v H1 s1=>⟨H0,Z0,x.2,_,y.1,y.2,s1,h3,fun w H2 s2=>?_⟩⟩
  have s3:=s2.freeze.swap.freeze.swap
  split at h4
  · rename_i ks ps en
    obtain ⟨kk,h5,h6⟩:=bind_some h4
    obtain ⟨p,h7,h8⟩:=map_some h6
    cases h8
    obtain ⟨_,rw'⟩:=s3.repH
    have ew:=key_rep h5 rw'
    have s4:=s3.pop
    rw [en] at s4
    obtain ⟨Z,z,r⟩:=s4.rep
    unfold Rep at r
    obtain ⟨b',kvs,rfl,g1,g2,g3⟩:=r
    obtain ⟨u,hu',ru⟩:=(repD_mk g2 g3).val.1 p h7
    have e1:=z _ _ g1
    refine .inr ⟨b',u,rfl,.inl ⟨kvs,kk,.inl e1,ew,hu'.symm⟩,k u H2 ?_⟩
    refine (s4.part (u:=u) (q:=p) fun Z' z' r'=>?_).sub ((List.sublist_cons_self _ _).cons_cons _)
    unfold Rep at r'
    obtain ⟨b2,kvs2,eb,g1',g2',g3'⟩:=r'
    cases eb
    have e2:=z' _ _ g1'
    rw [e1] at e2
    cases e2
    obtain ⟨u2,hu2,ru2⟩:=(repD_mk g2' g3').val.1 p h7
    rw [hu'] at hu2
    cases hu2
    exact ru2
  · rename_i ks ps en
    obtain ⟨kk,h5,h6⟩:=bind_some h4
    obtain ⟨p,h7,h8⟩:=map_some h6
    cases h8
    obtain ⟨_,rw'⟩:=s3.repH
    have ew:=key_rep h5 rw'
    have s4:=s3.pop
    rw [en] at s4
    obtain ⟨Z,z,r⟩:=s4.rep
    unfold Rep at r
    obtain ⟨b',ob,kvs,rfl,g1,g2,g3⟩:=r
    obtain ⟨u,hu',ru⟩:=(repD_mk g2 g3).val.1 p h7
    have e1:=z _ _ g1
    refine .inr ⟨b',u,rfl,.inl ⟨kvs,kk,.inr ⟨ob,e1⟩,ew,hu'.symm⟩,k u H2 ?_⟩
    refine (s4.part (u:=u) (q:=p) fun Z' z' r'=>?_).sub ((List.sublist_cons_self _ _).cons_cons _)
    unfold Rep at r'
    obtain ⟨b2,ob2,kvs2,eb,g1',g2',g3'⟩:=r'
    cases eb
    have e2:=z' _ _ g1'
    rw [e1] at e2
    cases e2
    obtain ⟨u2,hu2,ru2⟩:=(repD_mk g2' g3').val.1 p h7
    rw [hu'] at hu2
    cases hu2
    exact ru2
  · exact .inl (ix_core rfl s3 h4 k)
theorem SR.takeD {i:Nat} {ks:List Key} {ps:List PV} (s:SR K H0 Z0 σ H ρ pd) (e:ρ.vs[i]?=some (some (.own (.dk ks ps)))):
    ∃ a,σ[i]?=some (some (.ref a))/\SR K H0 Z0 σ H (ρ.set i none) ((.ref a,.own (.dk ks ps))::pd):=by
  obtain ⟨v,e1,s1⟩:=s.take e
  obtain ⟨_,Z,_,z,so⟩:=s1.top
  obtain ⟨a,ea,_⟩:=so.1 _ List.mem_cons_self
  have ea':v=.ref a:=Option.some.inj ea
  subst ea'
  exact ⟨a,e1,s1⟩
theorem SR.setD {v:V} {p:PV} {a:Addr} {ks:List Key} {ps:List PV} {k:Key} (s:SR K H0 Z0 σ H ρ ((v,.sh p)::(.ref a,.own (.dk ks ps))::pd)):
    ∃ kvs,H a=some (.dK kvs)/\kvs.length=ks.length/\SR K H0 Z0 σ (upd H a (.dK (putK kvs k v))) ρ ((.ref a,.own (dkP (putP (ks.zip ps) k p)))::pd):=by
  obtain ⟨el,Z,hg,z,r,so⟩:=s.sh
  have so2:=so.perm sl_cons.symm
  obtain ⟨_,eb,⟨kvs,hu,hk,hr⟩,_⟩:=so2.1 _ List.mem_cons_self
  cases eb
  refine ⟨kvs,hu,by rw [← hk,List.length_map],?_⟩
  have d:=(repD_mk hk hr).put (k:=k) r
  obtain ⟨z',s'⟩:=so2.write (o:=.dK (putK kvs k v)) (q:=dkP (putP (ks.zip ps) k p)) z ⟨putK kvs k v,upd_same,d.keys,d.vals⟩
  exact .mk el hg z' s'
noncomputable def sSetD (i:Nat) (fi fv:EF):SF:=fun ρ=>(fv ρ).bind fun x=>match x.2.vs[i]? with
  | some (some (.own (.dk _ _)))=>(fi x.2).bind fun y=>match keyP y.1.pv,y.2.vs[i]? with
    | some k,some (some (.own (.dk ks ps)))=>if ks.length < 100000 then some (.nx (y.2.set i (some (.own (dkP (putP (ks.zip ps) k x.1.pv)))))) else none
    | _,_=>none
  | _=>none
theorem qs_setD {i:Nat} {o ix e:Expr} {fi fv:EF} {tpos pos:Pos} (h:PS X (.Assign [.Subscript o ix tpos] e pos) (tAsg (tP X.K fv) (gSub (tVar i) (tP X.K fi) rSetD))):PS X (.Assign [.Subscript o ix tpos] e pos) (tPs X.K (sSetD i fi fv)):=PS.imp h fun D σ H q=>by
  obtain ⟨H0,Z0,ρ,pd,fl,s,h,k⟩:=q
  obtain ⟨x,h1,h2⟩:=bind_some h
  refine ⟨H0,Z0,ρ,pd,x.1,x.2,s,h1,fun v H1 s1=>?_⟩
  split at h2
  · rename_i ks0 ps0 e0
    obtain ⟨y,h3,h4⟩:=bind_some h2
    obtain ⟨a,ea,_⟩:=s1.takeD e0
    refine ⟨.ref a,ea,H0,Z0,x.2,_,y.1,y.2,s1.freeze,h3,fun w H2 s2=>?_⟩
    split at h4
    · rename_i kk ks ps ek e3
      split at h4
      · rename_i hlen
        cases h4
        obtain ⟨_,rw'⟩:=s2.freeze.repH
        have ew:=key_rep ek rw'
        obtain ⟨a',ea',s3⟩:=s2.pop.takeD e3
        rw [ea] at ea'; cases ea'
        obtain ⟨kvs,hu,hl,s4⟩:=s3.swap.setD (k:=kk)
        refine ⟨a,_,rfl,.inl ⟨kvs,kk,hu,ew,by rw [hl,sizeLine_eq]; omega,rfl⟩,k σ _ ?_⟩
        have s5:=s4.put ea
        rw [Ev.set_set] at s5
        exact s5
      · cases h4
    · cases h4
  · cases h2
noncomputable def sAppC (fo fv:EF):SF:=fun ρ=>(fo ρ).bind fun o=>match o.1.pv with
  | .ptr n=>match o.2.mu[n]? with
    | some (some (.lst _))=>(fv o.2).bind fun y=>match y.2.mu[n]? with
      | some (some (.lst ws))=>if ws.length < 100000 then some (.nx ⟨y.2.vs,y.2.mu.set n (some (.lst (ws++[y.1.pv])))⟩) else none
      | _=>none
    | _=>none
  | _=>none
noncomputable abbrev DF:=Ev->Option (List (Lc × Lc) × Ev)
noncomputable def flatV:List (V × V)->List V
  | []=>[]
  | p::r=>p.1::p.2::flatV r
noncomputable def eDict0:EF:=fun ρ=>some (.own (.dk [] []),ρ)
theorem qdict0 {pos:Pos}:PE X (.Dict [] [] pos) (tP X.K eDict0):=PE.imp pe_dnewK fun σ H Q q=>by
  obtain ⟨H0,Z0,ρ,pd,l,ρ',s,f,k⟩:=q
  cases f
  exact fun p hp=>k _ _ (s.newO hp fun Z _ _=>⟨[],upd_same,rfl,.nil⟩)
theorem SR.fzD {a:Addr} {ks:List Key} {ps:List PV} (s:SR K H0 Z0 σ H ρ ((.ref a,.own (.dk ks ps))::pd)):
    ∃ kvs,H a=some (.dK kvs)/\∀ o,SR K H0 Z0 σ (upd H a (.frz o (.dK kvs))) ρ ((.ref a,.sh (.df ks ps))::pd):=by
  obtain ⟨el,Z,hg,z,so⟩:=s.top
  obtain ⟨_,eb,⟨kvs,hu,hk,hr⟩,e3,e4⟩:=so.1 _ List.mem_cons_self
  cases eb
  refine ⟨kvs,hu,fun o=>?_⟩
  have sz:Same Z.z (upd Z.z a (.frz o (.dK kvs))):=fun b u e=>by rw [upd_ne (ne_of_none e e3)]; exact e
  have lz:ZLe Z (Z.put a (.frz o (.dK kvs))):=⟨sz,List.prefix_refl _⟩
  have nd:(a::(sl Z.g σ ρ pd).filterMap oad).Nodup:=so.2
  have hL:Slots K H0 Z H (sl Z.g σ ρ pd):=so.sub (List.sublist_cons_self _ _)
  refine .mk (Z:=Z.put a (.frz o (.dK kvs))) el hg ⟨fun b u e=>?_,fun b u e=>by rw [upd_ne (ne_of_none e e4)]; exact z.h0 b u e,z.z0.trans lz,fun b u e=>?_⟩ (Slots.consS ?_ ?_)
  · have e:upd Z.z a (.frz o (.dK kvs)) b=some u:=e
    unfold upd at e ⊢
    split
    · rename_i q; rw [if_pos q] at e; exact e
    · rename_i q; rw [if_neg q] at e; exact z.zh b u e
  · have e:upd Z.z a (.frz o (.dK kvs)) b=some u:=e
    unfold upd at e
    split at e
    · rename_i q; rw [q]; exact .inr (.inl e4)
    · exact z.new b u e
  · refine hL.step lz fun e he b hb=>?_
    have hba:b ≠ a:=fun q=>by
      rw [q] at hb
      exact (List.nodup_cons.mp nd).1 (List.mem_filterMap.mpr ⟨e,he,hb⟩)
    exact ⟨upd_ne hba,by show upd Z.z a _ b=none; rw [upd_ne hba]; exact (own_of hL he hb).1⟩
  · unfold Rep
    exact ⟨a,o,kvs,rfl,by show upd Z.z a _ a=_; rw [upd_same],hk,hr.mono lz⟩
noncomputable def eFz (f:EF):EF:=fun ρ=>(f ρ).bind fun x=>match x.1 with
  | .own (.dk ks ps)=>some (.sh (.df ks ps),x.2)
  | _=>none
theorem qfz {e:Expr} {f:EF} (h:PE X e (tP X.K f)):PE X e (tP X.K (eFz f)):=PE.imp (pe_fz h) fun σ H Q q=>by
  obtain ⟨H0,Z0,ρ,pd,r,ρ',s,h,k⟩:=q
  obtain ⟨x,h1,h2⟩:=bind_some h
  refine ⟨H0,Z0,ρ,pd,x.1,x.2,s,h1,fun v H1 s1=>?_⟩
  split at h2
  · rename_i ks ps e1
    cases h2
    rw [e1] at s1
    obtain ⟨_,Z,_,z,so⟩:=s1.top
    obtain ⟨a,ea,_⟩:=so.1 _ List.mem_cons_self
    have ea':v=.ref a:=Option.some.inj ea
    subst ea'
    obtain ⟨kvs,hu,st⟩:=s1.fzD
    exact ⟨a,kvs,rfl,hu,fun o=>k _ _ (st o)⟩
  · cases h2
theorem SR.weak {H0 H H1:Hp} {Z0 Z₁:ZG} (zo:ZOk H0 Z0 Z₁ H1) (s:SR K H0 Z₁ σ H ρ pd):SR K H0 Z0 σ H ρ pd:=by
  obtain ⟨e,Z,hg,z,so⟩:=s
  exact ⟨e,Z,hg,⟨z.zh,z.h0,zo.z0.trans z.z0,fun b o e=>(z.new b o e).elim (fun h=>zo.new b o h) .inr⟩,so⟩
noncomputable def iDf (f:EF):IF:=fun ρ=>(f ρ).bind fun x=>match x.1.pv with
  | .df ks _=>some (ks.map pvK,x.2)
  | _=>none
theorem itok_dictk {H0:Hp} {Z:ZG} {a:Addr} {o:Obj} {kvs:List (Key × V)} {ks:List Key} (g1:Z.z a=some (.frz o (.dK kvs))) (g2:kvs.map (·.1)=ks):ItOk K H0 Z pd (Itd a o kvs) (ks.map pvK):=by
  intro σ H ρ i s
  have at':H a=some (.frz o (.dK kvs)):=by
    obtain ⟨_,Z',_,z',_⟩:=s
    exact z'.zh _ _ (z'.z0.1 _ _ g1)
  have hlen:kvs.length=ks.length:=by rw [← g2,List.length_map]
  refine ⟨fun x hx=>?_,fun e=>⟨at',by rw [e,List.length_map,hlen]; exact Nat.le_refl _⟩⟩
  rw [List.getElem?_map] at hx
  obtain ⟨kk,hk,rfl⟩:=map_some hx
  refine ⟨⟨at',by rw [hlen]; exact (List.getElem?_eq_some_iff.mp hk).1⟩,fun v H' hy=>?_⟩
  obtain ⟨rfl,k2,hk2,rfl⟩:=hy
  rw [g2,hk] at hk2
  cases hk2
  exact s.scal fun Z=>rep_key
theorem qs_forD {tg iter:Expr} {body:List Stmt} {f:EF} {g:TG} {b:BF} {fb:SF} {pos:Pos} (hp:PassesOwn (model X.prog X.w) X.A X.env X.xe) (hc:X.calm=true) (hl:PE X iter (tP X.K f)) (hg:PG X tg g) (hb':GS X.K g b) (hb:PSs X body (tPs X.K fb))
    (hs:∀ x,foldedSetIterable iter X.env x=pure x:=by intro _; rfl):PS X (.For tg iter body [] pos) (tPs X.K (sFor (iDf f) b fb)):=PS.imp (ps_for hp hc (pi_dict hl) hg hb hs) fun D σ H q=>by
  obtain ⟨H0,Z0,ρ,pd,fl,s,h,k⟩:=q
  obtain ⟨y,h1,h2⟩:=bind_some h
  obtain ⟨x,h3,h4⟩:=bind_some h1
  refine ⟨H0,Z0,ρ,pd,x.1,x.2,s,h3,fun v H1 s1=>?_⟩
  refine cpsP fun G kG=>?_
  split at h4
  · rename_i ks ps en
    cases h4
    have s2:=s1.freeze
    rw [en] at s2
    obtain ⟨el,Z,hgg,z,r,so⟩:=s2.sh
    unfold Rep at r
    obtain ⟨a,o,kvs,rfl,g1,g2,g3⟩:=r
    have hst:SR X.K H0 Z σ H1 x.2 pd:=⟨el,Z,hgg,⟨z.zh,z.h0,ZLe.refl Z,fun b u e=>.inl e⟩,so⟩
    exact kG ⟨a,o,kvs,rfl,z.zh _ _ g1,for_core hb' (itok_dictk g1 g2) (k.imp (fun s=>s.weak z) fun s=>s.weak z) hst h2⟩
  · cases h4
noncomputable def eLen (f:EF):EF:=fun ρ=>(f ρ).bind fun x=>match x.1.pv with
  | .ptr n=>match x.2.mu[n]? with
    | some (some (.lst ws))=>some (.sh (.int (ws.length:Nat)),x.2)
    | _=>none
  | p=>(lenP p).map fun l=>(l,x.2)
theorem qlen {x:Str} {e:Expr} {f:EF} {p pos:Pos} (h:PE X (.Call (.Name x p) [e] [] pos) (tCB (fun xs H Q=>∃ x n,xs=[x]/\LenV X.K x H n/\Q (.int n) H) (tPA X.K (aCons f aNil)))):PE X (.Call (.Name x p) [e] [] pos) (tP X.K (eLen f)):=PE.imp h fun σ H Q q=>by
  obtain ⟨H0,Z0,ρ,pd,l,ρ',s,ff,k⟩:=q
  obtain ⟨y,h1,h2⟩:=bind_some ff
  refine ⟨H0,Z0,ρ,pd,[y.1],y.2,s,?_,fun vs H1 e1 s1=>?_⟩
  · unfold aCons aNil
    rw [h1]
    rfl
  · obtain ⟨v,rfl⟩:=ln1 e1
    have s2:SR X.K H0 Z0 σ H1 y.2 ((v,.sh y.1.pv)::pd):=SR.freeze s1
    split at h2
    · rename_i n en
      split at h2
      · rename_i ws em
        cases h2
        rw [en] at s2
        obtain ⟨a,rfl,s5⟩:=s2.cellO em
        obtain ⟨_,Z,_,z,so⟩:=s5.top
        obtain ⟨_,ea,⟨us,hu,hr⟩,_⟩:=so.1 _ List.mem_cons_self
        cases ea
        exact ⟨.ref a,ws.length,rfl,.inl ⟨us,SqL.of hu,hr.length.symm⟩,k _ H1 (s2.pop.scal rep_int)⟩
      · cases h2
    · obtain ⟨l',h3,h4⟩:=map_some h2
      cases h4
      exact cs_len H0 Z0 σ y.2 pd H1 [v] [y.1.pv] _ Q rfl s2 h3 k
noncomputable def andP:=iOp (fun _ _=>true) fun i j=>.int (Builtin.bitAnd i j)
theorem ops_and:OpS K (rI0 fun i j=>.int (Builtin.bitAnd i j)) andP:=ops_I0 fun _ _ _=>rep_int _
end
open PySem.SeqAt
section
variable {X:Cx}
noncomputable def eqDk (n:Nat):PD->PD->Option Bool
  | [],_=>some true
  | kv::r,lb=>match valP lb kv.1 with
    | none=>some false
    | some q=>(eqD n kv.2 q).bind fun e=>(eqDk n r lb).map fun c=>e && c
noncomputable def eqDict (n:Nat) (la lb:PD):Option Bool:=if la.length=lb.length then eqDk n la lb else some false
theorem hits_of {pins:List (Addr × Obj)} {H:Hp} {s:Shared} {g:List Addr} (I:Inv X pins σ H s) {n:Nat} {A:Around} (hA:A.units + n < cLine) {lb:PD} {kb:List (Key × V)} {vb:List (Key × Value)} (rb:RepD X.K ⟨H,g⟩ lb kb) (qb:KV kb vb):
    ∀ {la:PD} {ka:List (Key × V)} {va:List (Key × Value)} {b:Bool},RepD X.K ⟨H,g⟩ la ka->KV ka va->eqDk n la lb=some b->PySem.W.KeqHits A s vb va b
  | _,_,va,b,.nil,qa,h=>by
    cases h
    cases (show Paired _ [] va from qa)
    exact .nil
  | p::la,q::ka,va,b,.cons hpq t,qa,h=>by
    cases (show Paired _ (q::ka) va from qa) with
    | @cons _ u _ vr e qr=>
      obtain ⟨u1,u2⟩:=u
      have ek:p.1=u1:=hpq.1.trans e.1
      unfold eqDk at h
      have rel:=qb.val p.1
      cases hv:valP lb p.1 with
      | none=>
        rw [hv] at h
        cases h
        rw [rb.val.2 hv] at rel
        refine .miss ?_
        rw [← ek]
        cases hx:valueAt vb p.1 with
        | none=>rfl
        | some y=>rw [hx] at rel; exact rel.elim
      | some q'=>
        rw [hv] at h
        obtain ⟨e1,h1,h2⟩:=bind_some h
        obtain ⟨c,h3,h4⟩:=map_some h2
        subst h4
        obtain ⟨v',hv',rv'⟩:=rb.val.1 q' hv
        rw [hv'] at rel
        cases hx:valueAt vb p.1 with
        | none=>rw [hx] at rel; exact rel.elim
        | some y=>
          rw [hx] at rel
          refine .hit (y:=y) (by rw [← ek]; exact hx) (eq_at I n hpq.2 rv' e.2 rel h1 A hA).1 (hits_of I hA rb qb t qr h3)
noncomputable def rEqK (K:FG) (neg:Bool):R2:=fun x y H Q=>∃ g ks ps js qs b,Rep K ⟨H,g⟩ (.dk ks ps) x/\Rep K ⟨H,g⟩ (.dk js qs) y/\eqDict 150 (ks.zip ps) (js.zip qs)=some b/\Q (.bl (if neg then !b else b)) H
theorem eqK_at {pins:List (Addr × Obj)} {H:Hp} {s:Shared} {g:List Addr} (I:Inv X pins σ H s) (hA:X.A.in1.units + 150 < cLine) {ks js:List Key} {ps qs:List PV} {x y:V} {v u:Value} {b:Bool}
    (r1:Rep X.K ⟨H,g⟩ (.dk ks ps) x) (r2:Rep X.K ⟨H,g⟩ (.dk js qs) y) (rx:RelV x v) (ry:RelV y u) (e:eqDict 150 (ks.zip ps) (js.zip qs)=some b):
    ∃ a a' va vb r,v=.ref a/\u=.ref a'/\(a == sysModules)=false/\(a' == sysModules)=false/\s.heap.DictOf (mixKind X.prog X.w) a va/\s.heap.DictOf (mixKind X.prog X.w) a' vb/\(va.length=vb.length->PySem.W.KeqHits X.A.in1 s vb va r)/\(va.length == vb.length && r)=b:=by
  unfold Rep at r1 r2
  obtain ⟨a,ka,rfl,h1,h2,h3⟩:=r1
  obtain ⟨a',kb,rfl,h1',h2',h3'⟩:=r2
  cases rx
  cases ry
  obtain ⟨_,d1,va,q1,dd1⟩:=dk_of I.hok h1
  obtain ⟨_,d2,vb,q2,dd2⟩:=dk_of I.hok h1'
  have ra:=repD_mk h2 h3
  have rb:=repD_mk h2' h3'
  have la:va.length=(ks.zip ps).length:=by rw [← q1.length,ra.len]
  have lb:vb.length=(js.zip qs).length:=by rw [← q2.length,rb.len]
  unfold eqDict at e
  split at e
  · rename_i hl
    refine ⟨a,a',va,vb,b,rfl,rfl,d1,d2,dd1,dd2,fun _=>hits_of I hA rb q2 ra q1 e,?_⟩
    rw [la,lb,hl]
    simp
  · rename_i hl
    cases e
    refine ⟨a,a',va,vb,false,rfl,rfl,d1,d2,dd1,dd2,fun z=>(hl (by rw [← la,← lb]; exact z)).elim,by simp⟩
theorem op_eqK {k:Nat} (hr:Room k X.A):OpR X (compareOp .Eq) (rEqK X.K false):=by
  intro pins s σ H x y v u Q I rx ry h
  obtain ⟨g,ks,ps,js,qs,b,r1,r2,e,k'⟩:=h
  have hA:X.A.in1.units + 150 < cLine:=by have:=hr.un; show X.A.units + 1 + 150 < cLine; omega
  obtain ⟨a,a',va,vb,r,rfl,rfl,d1,d2,dd1,dd2,hits,eb⟩:=eqK_at I hA r1 r2 rx ry e
  refine PySem.W.keq_eq d1 d2 dd1 dd2 (by have:=hr.un; omega) hits ?_
  rw [eb]
  exact ⟨.bl b,H,I,rfl,k'⟩
noncomputable def eqY (p q:PV):Option Lc:=match p,q with
  | .dk ks ps,.dk js qs=>(eqDict 150 (ks.zip ps) (js.zip qs)).map fun b=>.sh (.bl b)
  | p,q=>eqP p q
noncomputable def rEqY (K:FG) (neg:Bool):R2:=fun x y H Q=>rEqP K neg x y H Q\/rEqK K neg x y H Q
theorem op_eqY {k:Nat} (hr:Room k X.A):OpR X (compareOp .Eq) (rEqY X.K false):=(op_eqP hr).or (op_eqK hr)
theorem ops_eqY:OpS K (rEqY K false) eqY:=by
  intro H0 Z0 σ ρ pd H v w x y l Q s e k
  unfold eqY at e
  split at e
  · obtain ⟨b,e1,rfl⟩:=map_some e
    obtain ⟨g,r1,r2⟩:=s.rep2H
    exact .inr ⟨g,_,_,_,_,b,r1,r2,e1,k _ H (s.pop.pop.scal rep_bl)⟩
  · exact .inl (ops_eq H0 Z0 σ ρ pd H v w _ _ l Q s e k)
end
section
variable {X:Cx}
noncomputable def zipP (ps qs:List PV):List PV:=List.zipWith (fun p q=>.tup [p,q]) ps qs
theorem zipP_get {ps qs:List PV} {i:Nat} {x:PV} (h:(zipP ps qs)[i]?=some x):∃ p q,ps[i]?=some p/\qs[i]?=some q/\x=.tup [p,q]:=by
  unfold zipP at h
  rw [List.getElem?_zipWith] at h
  cases h1:ps[i]? with
  | none=>rw [h1] at h; cases h
  | some p=>
    cases h2:qs[i]? with
    | none=>rw [h1,h2] at h; cases h
    | some q=>rw [h1,h2] at h; cases h; exact ⟨p,q,rfl,rfl,rfl⟩
theorem zipP_len {ps qs:List PV}:(zipP ps qs).length=min ps.length qs.length:=by unfold zipP; simp
theorem itok_zip {H0:Hp} {a b:Addr} {ps qs:List PV}:ItOk K H0 Z0 ((.ref a,.sh (.lst ps))::(.ref b,.sh (.lst qs))::pd) (Itz K a b) (zipP ps qs):=by
  intro σ H ρ i s
  refine cpsP fun G kG=>?_
  obtain ⟨el,Z,hg,z,rl,so⟩:=SR.repl (vs:=[.ref a,.ref b]) (ls:=[.sh (.lst ps),.sh (.lst qs)]) (pd:=pd) s rfl
  obtain ⟨_,_,ev,r,rl⟩:=rl
  cases ev
  obtain ⟨_,_,ev,r',_⟩:=rl
  cases ev
  simp only [Lc.pv] at r r'
  have r0:=r
  have r0':=r'
  unfold Rep at r r'
  obtain ⟨a',vs,e,h1,h2⟩:=r
  obtain ⟨b',ws,e',h1',h2'⟩:=r'
  cases e
  cases e'
  have hq:=SqL.same z.zh h1
  have hr:=SqL.same z.zh h1'
  refine kG ⟨fun x hx=>?_,fun hl=>⟨vs,ws,hq,hr,?_⟩⟩
  · refine cpsP fun G kG=>?_
    obtain ⟨p,q,hp,hq',rfl⟩:=zipP_get hx
    obtain ⟨v,hv,rv⟩:=h2.get hp
    obtain ⟨u,hu,ru⟩:=h2'.get hq'
    refine kG ⟨⟨vs,ws,v,u,hq,hr,hv,hu⟩,fun v' H' y=>?_⟩
    obtain ⟨T,y1,y2,hT,rfl,rfl,hy1,hy2⟩:=y
    have e1:=hy1 vs hq
    rw [hv] at e1
    cases e1
    have e2:=hy2 ws hr
    rw [hu] at e2
    cases e2
    obtain ⟨z',lz,so'⟩:=((so.consS r0').consS r0).newF z (a:=T) (o:=.tup [v,u]) hT
    refine .mk (Z:=Z.put T (.tup [v,u])) el hg z' (Slots.perm (Slots.consS so' ?_) ((sl_cons.trans (sl_cons.cons _)).cons _))
    unfold Rep
    exact ⟨T,[v,u],rfl,.inl (.inl (by show upd Z.z T _ T=_; rw [upd_same])),RepL.cons (rv.mono lz) (RepL.cons (ru.mono lz) .nil)⟩
  · rw [zipP_len] at hl
    rw [h2.length,h2'.length]
    omega
noncomputable def iZipF (f g:EF):IF:=fun ρ=>(f ρ).bind fun x=>(g x.2).bind fun y=>match x.1.pv,y.1.pv with
  | .lst ps,.lst qs=>some (zipP ps qs,y.2)
  | _,_=>none
theorem zips_sh {α:Type} {p q:PV} {w r:α} {zs:List PV} (h:(match p,q with
  | .lst ps,.lst qs=>some (zipP ps qs,w)
  | _,_=>none)=some (zs,r)):∃ ps qs,p=.lst ps/\q=.lst qs/\zs=zipP ps qs/\w=r:=by
  split at h
  · rename_i ps qs; cases h; exact ⟨ps,qs,rfl,rfl,rfl,rfl⟩
  · cases h
theorem qi_zip {a b:Expr} {f g:EF} {p pos:Pos} {elts:List Expr} {x1} {tpos:Pos} (hg:Gl X "zip") (hm:X.mg "zip" = none) (ha:PA X [a,b] (tPA X.K (aCons f (aCons g aNil)))) (hs:starEach [a,b] X.env=(false,eval a X.env)::starEach [b] X.env:=by rfl) (hs2:(backTo pos (starEach [b] X.env)).any (·.1)=false:=by rfl):PI X (.Tuple elts x1 tpos) (.Call (.Name "zip" p) [a,b] [] pos) (tPI X.K (iZipF f g)):=PI.imp (pi_zip hg hm ha hs hs2) fun σ H R q=>by
  obtain ⟨H0,Z0,ρ,pd,xs,ρ',s,h,k⟩:=q
  obtain ⟨x,h1,h2⟩:=bind_some h
  obtain ⟨y,h3,h4⟩:=bind_some h2
  refine ⟨H0,Z0,ρ,pd,[x.1,y.1],y.2,s,?_,fun vs H1 e1 s1=>?_⟩
  · unfold aCons aNil
    rw [h1]
    simp only [Option.bind_some,h3,Option.map_some]
  · refine cpsP fun G kG=>?_
    obtain ⟨v,u,rfl⟩:=ln2 e1
    have s2:SR X.K H0 Z0 σ H1 y.2 ((v,.sh x.1.pv)::(u,.sh y.1.pv)::pd):=SR.freezeAll (vs:=[v,u]) (ls:=[x.1,y.1]) s1
    obtain ⟨ps,qs,e,e',rfl,rfl⟩:=zips_sh h4
    rw [e,e'] at s2
    obtain ⟨Z,z,r,r'⟩:=s2.rep2
    unfold Rep at r r'
    obtain ⟨b',us,rfl,g1',g2'⟩:=r
    obtain ⟨a',vs',rfl,g1,g2⟩:=r'
    exact kG ⟨a',b',rfl,⟨_,SqL.same z g1⟩,⟨_,SqL.same z g1'⟩,k _ _ _ s2 itok_zip ((List.sublist_cons_self _ _).cons _)⟩
end
end PL
namespace L2
open PySem PySem.Spec PyProof.Rows
variable {pins:List (Addr × Obj)} {E:Value->Shared->Prop} {s:Shared} {A:Around} {w:World} {P:Program}
section
variable {X:Cx}
end
end L2
namespace PL
open PySem PySem.Spec PyProof.Rows L2
variable {K:FG} {H0 H:Hp} {Z0:ZG} {σ:L2.St} {ρ:Ev} {pd:Pd}
section
variable {X:Cx}
end
section
variable {X:Cx}
noncomputable def intsP:List PV->Option (List Int)
  | []=>some []
  | .int x::ps=>(intsP ps).map (x::·)
  | _::_=>none
theorem intsP_rep {Z:ZG}:∀ {ps:List PV} {vs:List V} {ns:List Int},intsP ps=some ns->RepL K Z ps vs->vs=ns.map V.int
  | [],vs,ns,h,r=>by
    cases h
    exact r
  | p::ps,vs,ns,h,r=>by
    obtain ⟨v,r',rfl,h1,h2⟩:=r
    cases p with
    | int x=>
      obtain ⟨t,g1,g2⟩:=map_some h
      cases g2
      rw [intsP_rep g1 h2]
      unfold Rep at h1
      rw [h1]
      rfl
    | _=>cases h
end
section
variable {X:Cx}
noncomputable abbrev PDT:=List (List Key × PV)
noncomputable def valT:PDT->List Key->Option PV
  | [],_=>none
  | kv::r,k=>if kv.1=k then some kv.2 else valT r k
noncomputable def replT (k:List Key) (v:PV):PDT->PDT
  | []=>[]
  | kv::r=>(if kv.1=k then (kv.1,v) else kv)::replT k v r
noncomputable def putT (l:PDT) (k:List Key) (v:PV):PDT:=match valT l k with
  | some _=>replT k v l
  | none=>l++[(k,v)]
noncomputable def dtP (l:PDT):PV:=.dt (l.map (·.1)) (l.map (·.2))
noncomputable def RepT (K:FG) (Z:ZG):PDT->List (List Key × V)->Prop:=Paired fun p q=>p.1=q.1/\Rep K Z p.2 q.2
section
variable {K:FG} {Z Z':ZG}
theorem repT_mk:∀ {kvs:List (List Key × V)} {ks:List (List Key)} {ps:List PV},kvs.map (·.1)=ks->RepL K Z ps (kvs.map (·.2))->RepT K Z (ks.zip ps) kvs
  | [],ks,ps,h1,h2=>by
    subst h1
    exact .nil
  | kv::r,ks,ps,h1,h2=>by
    subst h1
    cases ps with
    | nil=>have:=h2.inv0; simp at this
    | cons p ps=>
      obtain ⟨v,r',e,h3,h4⟩:=h2.inv
      rw [List.map_cons] at e
      injection e with e1 e2
      subst e1 e2
      rw [List.map_cons,List.zip_cons_cons]
      exact .cons ⟨rfl,h3⟩ (repT_mk rfl h4)
theorem RepT.keys:∀ {l:PDT} {kvs:List (List Key × V)},RepT K Z l kvs->kvs.map (·.1)=l.map (·.1)
  | _,_,.nil=>rfl
  | _,_,.cons h t=>by rw [List.map_cons,List.map_cons,h.1,RepT.keys t]
theorem RepT.vals:∀ {l:PDT} {kvs:List (List Key × V)},RepT K Z l kvs->RepL K Z (l.map (·.2)) (kvs.map (·.2))
  | _,_,.nil=>.nil
  | _,_,.cons h t=>RepL.cons h.2 (RepT.vals t)
theorem RepT.val {k:List Key}:∀ {l:PDT} {kvs:List (List Key × V)},RepT K Z l kvs->(∀ p,valT l k=some p->∃ v,valV kvs k=some v/\Rep K Z p v)/\(valT l k=none->valV kvs k=none)
  | _,_,.nil=>⟨fun p h=>(by cases h),fun _=>rfl⟩
  | p::l,q::kvs,.cons h t=>by
    have ih:=RepT.val (k:=k) t
    by_cases e:p.1=k
    · have e':q.1=k:=by rw [← h.1]; exact e
      refine ⟨fun x hx=>⟨q.2,valV_pos e',?_⟩,fun hx=>?_⟩
      · unfold valT at hx; rw [if_pos e] at hx; cases hx; exact h.2
      · unfold valT at hx; rw [if_pos e] at hx; cases hx
    · have e':¬ q.1=k:=by rw [← h.1]; exact e
      rw [valV_neg e']
      unfold valT
      rw [if_neg e]
      exact ih
theorem RepT.repl {k:List Key} {p:PV} {v:V} (r:Rep K Z p v):∀ {l:PDT} {kvs:List (List Key × V)},RepT K Z l kvs->RepT K Z (replT k p l) (kvs.map fun kv=>if kv.1=k then (kv.1,v) else kv)
  | _,_,.nil=>.nil
  | a::l,b::kvs,.cons h t=>by
    refine .cons ?_ (RepT.repl r t)
    by_cases e:a.1=k
    · have e':b.1=k:=by rw [← h.1]; exact e
      rw [if_pos e]
      dsimp only
      rw [if_pos e']
      exact ⟨h.1,r⟩
    · have e':¬ b.1=k:=by rw [← h.1]; exact e
      rw [if_neg e]
      dsimp only
      rw [if_neg e']
      exact h
theorem RepT.app:∀ {l l':PDT} {kvs kvs':List (List Key × V)},RepT K Z l kvs->RepT K Z l' kvs'->RepT K Z (l++l') (kvs++kvs')
  | _,_,_,_,.nil,h=>h
  | _,_,_,_,.cons a t,h=>.cons a (RepT.app t h)
theorem RepT.put {k:List Key} {p:PV} {v:V} {l:PDT} {kvs:List (List Key × V)} (h:RepT K Z l kvs) (r:Rep K Z p v):RepT K Z (putT l k p) (putK kvs k v):=by
  have hv:=h.val (k:=k)
  unfold putT
  cases e:valT l k with
  | none=>
    rw [putK_new v (hv.2 e)]
    exact h.app (.cons ⟨rfl,r⟩ .nil)
  | some q=>
    obtain ⟨u,hu,_⟩:=hv.1 q e
    have e2:putK kvs k v=kvs.map fun kv=>if kv.1=k then (kv.1,v) else kv:=by
      unfold putK
      rw [valV_any,hu]
      rfl
    rw [e2]
    exact h.repl r
end
noncomputable def keysP:List PV->Option (List Key)
  | []=>some []
  | p::ps=>(keyP p).bind fun k=>(keysP ps).map (k::·)
theorem keysP_rep {Z:ZG}:∀ {ps:List PV} {vs:List V} {ks:List Key},keysP ps=some ks->RepL K Z ps vs->vs=ks.map kV
  | [],vs,ks,h,r=>by
    cases h
    exact r
  | p::ps,vs,ks,h,r=>by
    obtain ⟨v,r',rfl,h1,h2⟩:=r
    obtain ⟨k,g1,g2⟩:=bind_some h
    obtain ⟨t,g3,g4⟩:=map_some g2
    cases g4
    rw [key_rep g1 h1,keysP_rep g3 h2]
    rfl
theorem SR.takeT {i:Nat} {ks:List (List Key)} {ps:List PV} (s:SR K H0 Z0 σ H ρ pd) (e:ρ.vs[i]?=some (some (.own (.dt ks ps)))):
    ∃ a,σ[i]?=some (some (.ref a))/\SR K H0 Z0 σ H (ρ.set i none) ((.ref a,.own (.dt ks ps))::pd):=by
  obtain ⟨v,e1,s1⟩:=s.take e
  obtain ⟨_,Z,_,z,so⟩:=s1.top
  obtain ⟨a,ea,_⟩:=so.1 _ List.mem_cons_self
  have ea':v=.ref a:=Option.some.inj ea
  subst ea'
  exact ⟨a,e1,s1⟩
theorem SR.setT {v:V} {p:PV} {a:Addr} {ks:List (List Key)} {ps:List PV} {k:List Key} (s:SR K H0 Z0 σ H ρ ((v,.sh p)::(.ref a,.own (.dt ks ps))::pd)):
    ∃ kvs,H a=some (.dT kvs)/\kvs.length=ks.length/\SR K H0 Z0 σ (upd H a (.dT (putK kvs k v))) ρ ((.ref a,.own (dtP (putT (ks.zip ps) k p)))::pd):=by
  obtain ⟨el,Z,hg,z,r,so⟩:=s.sh
  have so2:=so.perm sl_cons.symm
  obtain ⟨_,eb,⟨kvs,hu,hk,hr⟩,_⟩:=so2.1 _ List.mem_cons_self
  cases eb
  refine ⟨kvs,hu,by rw [← hk,List.length_map],?_⟩
  have d:=(repT_mk hk hr).put (k:=k) r
  obtain ⟨z',s'⟩:=so2.write (o:=.dT (putK kvs k v)) (q:=dtP (putT (ks.zip ps) k p)) z ⟨putK kvs k v,upd_same,d.keys,d.vals⟩
  exact .mk el hg z' s'
noncomputable def sSetT (i:Nat) (fi:AF) (fv:EF):SF:=fun ρ=>(fv ρ).bind fun x=>match x.2.vs[i]? with
  | some (some (.own (.dt _ _)))=>(fi x.2).bind fun y=>match keysP (y.1.map Lc.pv),y.2.vs[i]? with
    | some k,some (some (.own (.dt ks ps)))=>if ks.length < 100000/\k.length<=1000 then some (.nx (y.2.set i (some (.own (dtP (putT (ks.zip ps) k x.1.pv)))))) else none
    | _,_=>none
  | _=>none
theorem qs_setT {i:Nat} {o ix e:Expr} {fi:AF} {fv:EF} {tpos pos:Pos} (h:PS X (.Assign [.Subscript o ix tpos] e pos) (tAsg (tP X.K fv) (gSub (tVar i) (tTup (tPA X.K fi)) rSetD))):PS X (.Assign [.Subscript o ix tpos] e pos) (tPs X.K (sSetT i fi fv)):=PS.imp h fun D σ H q=>by
  obtain ⟨H0,Z0,ρ,pd,fl,s,h,k⟩:=q
  obtain ⟨x,h1,h2⟩:=bind_some h
  refine ⟨H0,Z0,ρ,pd,x.1,x.2,s,h1,fun v H1 s1=>?_⟩
  split at h2
  · rename_i ks0 ps0 e0
    obtain ⟨y,h3,h4⟩:=bind_some h2
    obtain ⟨a,ea,_⟩:=s1.takeT e0
    refine ⟨.ref a,ea,H0,Z0,x.2,_,y.1,y.2,s1.freeze,h3,fun ws H2 e2 s2=>?_⟩
    split at h4
    · rename_i kk ks ps ek e3
      split at h4
      · rename_i hlen
        cases h4
        obtain ⟨el,Z,hg,z,rl,so⟩:=s2.repl e2
        have ew:=keysP_rep ek rl
        refine ⟨by rw [ew,List.length_map,sizeLine_eq]; omega,fun b hb=>?_⟩
        obtain ⟨z',lz,so'⟩:=so.newF z (a:=b) (o:=.tup ws) hb
        have s3:SR X.K H0 Z0 σ (upd H2 b (.tup ws)) y.2 ((v,.sh x.1.pv)::pd):=⟨el,Z.put b (.tup ws),hg,z',so'⟩
        obtain ⟨a',ea',s4⟩:=s3.takeT e3
        rw [ea] at ea'; cases ea'
        obtain ⟨kvs,hu,hl,s5⟩:=s4.swap.setT (k:=kk)
        refine ⟨a,_,rfl,.inr ⟨kvs,kk,b,hu,rfl,by rw [upd_same,ew],by rw [hl,sizeLine_eq]; omega,rfl⟩,k σ _ ?_⟩
        have s6:=s5.put ea
        rw [Ev.set_set] at s6
        exact s6
      · cases h4
    · cases h4
  · cases h2
noncomputable def eDictT:EF:=fun ρ=>some (.own (.dt [] []),ρ)
end
section
variable {X:Cx}
theorem qdictT {pos:Pos}:PE X (.Dict [] [] pos) (tP X.K eDictT):=PE.imp pe_dnewT fun σ H Q q=>by
  obtain ⟨H0,Z0,ρ,pd,l,ρ',s,f,k⟩:=q
  cases f
  exact fun p hp=>k _ _ (s.newO hp fun Z _ _=>⟨[],upd_same,rfl,.nil⟩)
theorem SR.fzT {a:Addr} {ks:List (List Key)} {ps:List PV} (s:SR K H0 Z0 σ H ρ ((.ref a,.own (.dt ks ps))::pd)):
    ∃ kvs,H a=some (.dT kvs)/\∀ o,SR K H0 Z0 σ (upd H a (.frz o (.dT kvs))) ρ ((.ref a,.sh (.dtf ks ps))::pd):=by
  obtain ⟨el,Z,hg,z,so⟩:=s.top
  obtain ⟨_,eb,⟨kvs,hu,hk,hr⟩,e3,e4⟩:=so.1 _ List.mem_cons_self
  cases eb
  refine ⟨kvs,hu,fun o=>?_⟩
  have sz:Same Z.z (upd Z.z a (.frz o (.dT kvs))):=fun b u e=>by rw [upd_ne (ne_of_none e e3)]; exact e
  have lz:ZLe Z (Z.put a (.frz o (.dT kvs))):=⟨sz,List.prefix_refl _⟩
  have nd:(a::(sl Z.g σ ρ pd).filterMap oad).Nodup:=so.2
  have hL:Slots K H0 Z H (sl Z.g σ ρ pd):=so.sub (List.sublist_cons_self _ _)
  refine .mk (Z:=Z.put a (.frz o (.dT kvs))) el hg ⟨fun b u e=>?_,fun b u e=>by rw [upd_ne (ne_of_none e e4)]; exact z.h0 b u e,z.z0.trans lz,fun b u e=>?_⟩ (Slots.consS ?_ ?_)
  · have e:upd Z.z a (.frz o (.dT kvs)) b=some u:=e
    unfold upd at e ⊢
    split
    · rename_i q; rw [if_pos q] at e; exact e
    · rename_i q; rw [if_neg q] at e; exact z.zh b u e
  · have e:upd Z.z a (.frz o (.dT kvs)) b=some u:=e
    unfold upd at e
    split at e
    · rename_i q; rw [q]; exact .inr (.inl e4)
    · exact z.new b u e
  · refine hL.step lz fun e he b hb=>?_
    have hba:b ≠ a:=fun q=>by
      rw [q] at hb
      exact (List.nodup_cons.mp nd).1 (List.mem_filterMap.mpr ⟨e,he,hb⟩)
    exact ⟨upd_ne hba,by show upd Z.z a _ b=none; rw [upd_ne hba]; exact (own_of hL he hb).1⟩
  · unfold Rep
    exact ⟨a,o,kvs,rfl,by show upd Z.z a _ a=_; rw [upd_same],hk,hr.mono lz⟩
noncomputable def eFzT (f:EF):EF:=fun ρ=>(f ρ).bind fun x=>match x.1 with
  | .own (.dt ks ps)=>some (.sh (.dtf ks ps),x.2)
  | _=>none
theorem qfzT {e:Expr} {f:EF} (h:PE X e (tP X.K f)):PE X e (tP X.K (eFzT f)):=PE.imp (pe_fzT h) fun σ H Q q=>by
  obtain ⟨H0,Z0,ρ,pd,r,ρ',s,h,k⟩:=q
  obtain ⟨x,h1,h2⟩:=bind_some h
  refine ⟨H0,Z0,ρ,pd,x.1,x.2,s,h1,fun v H1 s1=>?_⟩
  split at h2
  · rename_i ks ps e1
    cases h2
    rw [e1] at s1
    obtain ⟨_,Z,_,z,so⟩:=s1.top
    obtain ⟨a,ea,_⟩:=so.1 _ List.mem_cons_self
    have ea':v=.ref a:=Option.some.inj ea
    subst ea'
    obtain ⟨kvs,hu,st⟩:=s1.fzT
    exact ⟨a,kvs,rfl,hu,fun o=>k _ _ (st o)⟩
  · cases h2
theorem Slots.know {Z0 Z:ZG} {L:Sl} (h:Slots K H0 Z H L) (zo:ZOk H0 Z0 Z H) {a:Addr} {vs:List V} (ha:H a=some (.tup vs)):ZOk H0 Z0 (Z.put a (.tup vs)) H/\ZLe Z (Z.put a (.tup vs))/\Slots K H0 (Z.put a (.tup vs)) H L:=by
  have sz:Same Z.z (upd Z.z a (.tup vs)):=fun b u e=>by
    unfold upd
    split
    · rename_i q
      rw [q] at e
      rw [← ha,← zo.zh _ _ e]
    · exact e
  have lz:ZLe Z (Z.put a (.tup vs)):=⟨sz,List.prefix_refl _⟩
  refine ⟨⟨fun b u e=>?_,zo.h0,zo.z0.trans lz,fun b u e=>?_⟩,lz,?_⟩
  · have e:upd Z.z a (.tup vs) b=some u:=e
    unfold upd at e
    split at e
    · rename_i q; rw [q,ha]; exact e
    · exact zo.zh b u e
  · have e:upd Z.z a (.tup vs) b=some u:=e
    unfold upd at e
    split at e
    · cases e; exact .inr (.inr True.intro)
    · exact zo.new b u e
  · refine h.step lz fun e he b hb=>?_
    obtain ⟨h1,h2,o',h3,h4⟩:=own_of h he hb
    have hba:b ≠ a:=fun q=>by
      rw [q,ha] at h3
      cases h3
      exact h4 True.intro
    exact ⟨rfl,by show upd Z.z a _ b=none; rw [upd_ne hba]; exact h1⟩
noncomputable def itemsP (ks:List (List Key)) (ps:List PV):List PV:=List.zipWith (fun k p=>.tup [.tup (k.map pvK),p]) ks ps
theorem itemsP_get {ks:List (List Key)} {ps:List PV} {i:Nat} {x:PV} (h:(itemsP ks ps)[i]?=some x):∃ k p,ks[i]?=some k/\ps[i]?=some p/\x=.tup [.tup (k.map pvK),p]:=by
  unfold itemsP at h
  rw [List.getElem?_zipWith] at h
  cases h1:ks[i]? with
  | none=>rw [h1] at h; cases h
  | some p=>
    cases h2:ps[i]? with
    | none=>rw [h1,h2] at h; cases h
    | some q=>rw [h1,h2] at h; cases h; exact ⟨p,q,rfl,rfl,rfl⟩
theorem repL_keys {Z:ZG}:∀ {k:List Key},RepL K Z (k.map pvK) (k.map kV)
  | []=>.nil
  | _::_=>RepL.cons rep_key repL_keys
theorem itok_items {H0:Hp} {a:Addr} {ks:List (List Key)} {ps:List PV} {o:Obj} {kvs:List (List Key × V)} {H1:Hp} (h1:H1 a=some (.frz o (.dT kvs))) (hz:Z0.z a=some (.frz o (.dT kvs))) (hk:kvs.map (·.1)=ks) (hl:ps.length=ks.length):ItOk K H0 Z0 ((.ref a,.sh (.dtf ks ps))::pd) (Iti a o kvs) (itemsP ks ps):=by
  intro σ H ρ i s
  obtain ⟨el,Z,hg,z,r,so⟩:=s.sh
  have r0:=r
  unfold Rep at r
  obtain ⟨b',o',kvs',e,g1,g2,g3⟩:=r
  cases e
  have e1:=z.z0.1 _ _ hz
  rw [g1] at e1
  cases e1
  have hH:H a=some (.frz o (.dT kvs)):=z.zh _ _ g1
  have hlen:kvs.length=ks.length:=by rw [← hk,List.length_map]
  refine ⟨fun x hx=>?_,fun hi=>⟨hH,?_⟩⟩
  · obtain ⟨k,p,hk',hp,rfl⟩:=itemsP_get hx
    have hi:i < ks.length:=(List.getElem?_eq_some_iff.mp hk').1
    refine ⟨⟨hH,by omega⟩,fun v' H' y=>?_⟩
    obtain ⟨T,kb,kv,hT,rfl,hkv,hkb,rfl⟩:=y
    have hk2:k=kv.1:=by
      have:=congrArg (fun l=>l[i]?) hk
      simp only [List.getElem?_map,hkv,hk',Option.map_some] at this
      exact (Option.some.inj this).symm
    obtain ⟨v,hv,rv⟩:=g3.get hp
    rw [List.getElem?_map,hkv] at hv
    cases hv
    obtain ⟨z1,lz1,so1⟩:=so.know z hkb
    obtain ⟨z',lz,so'⟩:=(so1.consS (r0.mono lz1)).newF z1 (a:=T) (o:=.tup [.ref kb,kv.2]) hT
    refine .mk (Z:=(Z.put kb (.tup (kv.1.map kV))).put T (.tup [.ref kb,kv.2])) el hg z' (Slots.perm (Slots.consS so' ?_) (sl_cons.cons _))
    unfold Rep
    refine ⟨T,[.ref kb,kv.2],rfl,.inl (.inl (by show upd _ T _ T=_; rw [upd_same])),RepL.cons (Rep.mono (Z:=Z.put kb (.tup (kv.1.map kV))) lz ?_) (RepL.cons ((rv.mono lz1).mono lz) .nil)⟩
    unfold Rep
    exact ⟨kb,kv.1.map kV,rfl,.inl (.inl (by show upd _ kb _ kb=_; rw [upd_same])),by rw [hk2]; exact repL_keys⟩
  · unfold itemsP at hi
    rw [List.length_zipWith] at hi
    omega
noncomputable def iItm (f:EF):IF:=fun ρ=>(f ρ).bind fun x=>match x.1.pv with
  | .dtf ks ps=>if ps.length=ks.length then some (itemsP ks ps,x.2) else none
  | _=>none
theorem SR.ext {l:Addr} {o:HO} (s:SR K H0 Z0 σ H ρ pd) (hl:H l=none):SR K H0 Z0 σ (upd H l o) ρ pd:=by
  obtain ⟨el,Z,hg,z,so⟩:=s
  obtain ⟨z',lz,so'⟩:=so.newF z (o:=o) hl
  exact ⟨el,Z.put l o,hg,z',so'⟩
theorem qs_forItems {o:Expr} {elts:List Expr} {x1} {tpos apos cpos:Pos} {body:List Stmt} {f:EF} {g:TG} {b:BF} {fb:SF} {pos:Pos} (hp:PassesOwn (model X.prog X.w) X.A X.env X.xe) (hc:X.calm=true) (hl:PE X o (tP X.K f)) (hg:PG X (.Tuple elts x1 tpos) g) (hb':GS X.K g b) (hb:PSs X body (tPs X.K fb))
    (hbase:attributeBase o "items" X.env (eval o X.env)=eval o X.env:=by rfl) (hline:(apos.endLine == cpos.line)=true:=by rfl)
    (hs:∀ x,foldedSetIterable (.Call (.Attribute o "items" apos) [] [] cpos) X.env x=pure x:=by intro _; rfl):PS X (.For (.Tuple elts x1 tpos) (.Call (.Attribute o "items" apos) [] [] cpos) body [] pos) (tPs X.K (sFor (iItm f) b fb)):=PS.imp (ps_for hp hc (pi_items (pe_items hl hbase hline)) hg hb hs) fun D σ H q=>by
  obtain ⟨H0,Z0,ρ,pd,fl,s,h,k⟩:=q
  obtain ⟨y,h1,h2⟩:=bind_some h
  obtain ⟨x,h3,h4⟩:=bind_some h1
  refine ⟨H0,Z0,ρ,pd,x.1,x.2,s,h3,fun v H1 s1=>?_⟩
  refine cpsP fun G kG=>?_
  split at h4
  · rename_i ks ps en
    split at h4
    · rename_i hlp
      cases h4
      have s2:=s1.freeze
      rw [en] at s2
      obtain ⟨el,Z,hgg,z,r,so⟩:=s2.sh
      have r0:=r
      unfold Rep at r
      obtain ⟨a,o,kvs,rfl,g1,g2,g3⟩:=r
      have e1:H1 a=some (.frz o (.dT kvs)):=z.zh _ _ g1
      have hst0:SR X.K H0 Z σ H1 x.2 ((.ref a,.sh (.dtf ks ps))::pd):=.mk (Z:=Z) el hgg ⟨z.zh,z.h0,ZLe.refl Z,fun b u e=>.inl e⟩ (so.consS r0)
      exact kG ⟨a,o,kvs,rfl,rfl,e1,fun l hl=>⟨l,a,o,kvs,rfl,upd_same,by rw [upd_ne (ne_of_none e1 hl)]; exact e1,for_core hb' (itok_items e1 g1 g2 hlp) (k.imp (fun s=>s.pop.weak z) fun s=>(s.sub ((List.sublist_cons_self _ _).cons_cons _)).weak z) (hst0.ext hl) h2⟩⟩
    · cases h4
  · cases h4
end
section
variable {X:Cx}
noncomputable def sFail:SF:=fun _=>none
theorem qs_fail {st:Stmt}:PS X st (tPs X.K sFail):=fun pins s σ H D I q=>by
  obtain ⟨H0,Z0,ρ,pd,fl,s,h,k⟩:=q
  cases h
noncomputable abbrev FD:=List (Str × PV)
noncomputable def lookP:FD->Str->Option PV
  | [],_=>none
  | kv::r,k=>if kv.1=k then some kv.2 else lookP r k
noncomputable def putFP (f:Str) (p:PV):FD->FD
  | []=>[(f,p)]
  | kv::r=>if kv.1=f then (kv.1,p)::r else kv::putFP f p r
noncomputable def objP (C:Str) (l:FD):PV:=.obj C (l.map (·.1)) (l.map (·.2))
noncomputable def RepF (K:FG) (Z:ZG):FD->List (Str × V)->Prop:=Paired fun p q=>p.1=q.1/\Rep K Z p.2 q.2
section
variable {K:FG} {Z Z':ZG}
theorem repF_mk:∀ {kvs:List (Str × V)} {ks:List Str} {ps:List PV},kvs.map (·.1)=ks->RepL K Z ps (kvs.map (·.2))->RepF K Z (ks.zip ps) kvs
  | [],ks,ps,h1,h2=>by
    subst h1
    exact .nil
  | kv::r,ks,ps,h1,h2=>by
    subst h1
    cases ps with
    | nil=>have:=h2.inv0; simp at this
    | cons p ps=>
      obtain ⟨v,r',e,h3,h4⟩:=h2.inv
      rw [List.map_cons] at e
      injection e with e1 e2
      subst e1 e2
      rw [List.map_cons,List.zip_cons_cons]
      exact .cons ⟨rfl,h3⟩ (repF_mk rfl h4)
theorem RepF.keys:∀ {l:FD} {kvs:List (Str × V)},RepF K Z l kvs->kvs.map (·.1)=l.map (·.1)
  | _,_,.nil=>rfl
  | _,_,.cons h t=>by rw [List.map_cons,List.map_cons,h.1,RepF.keys t]
theorem RepF.vals:∀ {l:FD} {kvs:List (Str × V)},RepF K Z l kvs->RepL K Z (l.map (·.2)) (kvs.map (·.2))
  | _,_,.nil=>.nil
  | _,_,.cons h t=>RepL.cons h.2 (RepF.vals t)
theorem RepF.look {f:Str}:∀ {l:FD} {kvs:List (Str × V)},RepF K Z l kvs->(∀ p,lookP l f=some p->∃ v,kvs.lookup f=some v/\Rep K Z p v)/\(lookP l f=none->kvs.lookup f=none)
  | _,_,.nil=>⟨fun p h=>(by cases h),fun _=>rfl⟩
  | p::l,q::kvs,.cons h t=>by
    have ih:=RepF.look (f:=f) t
    have e0:(q::kvs).lookup f=if f=q.1 then some q.2 else kvs.lookup f:=by
      obtain ⟨q1,q2⟩:=q
      rw [List.lookup_cons]
      by_cases e:f=q1
      · subst e; simp
      · rw [if_neg e,show (f == q1)=false from beq_eq_false_iff_ne.mpr e]
    rw [e0]
    by_cases e:p.1=f
    · have e':f=q.1:=by rw [← h.1]; exact e.symm
      rw [if_pos e']
      refine ⟨fun x hx=>⟨q.2,rfl,?_⟩,fun hx=>?_⟩
      · unfold lookP at hx; rw [if_pos e] at hx; cases hx; exact h.2
      · unfold lookP at hx; rw [if_pos e] at hx; cases hx
    · have e':¬ f=q.1:=by rw [← h.1]; exact fun z=>e z.symm
      rw [if_neg e']
      unfold lookP
      rw [if_neg e]
      exact ih
theorem RepF.put {f:Str} {p:PV} {v:V} (r:Rep K Z p v):∀ {l:FD} {kvs:List (Str × V)},RepF K Z l kvs->RepF K Z (putFP f p l) (putF f v kvs)
  | _,_,.nil=>.cons ⟨rfl,r⟩ .nil
  | a::l,b::kvs,.cons h t=>by
    obtain ⟨b1,b2⟩:=b
    unfold putFP putF
    have h1:a.1=b1:=h.1
    by_cases e:a.1=f
    · rw [if_pos e,if_pos (by rw [← h1]; exact e)]
      exact .cons ⟨h1,r⟩ t
    · rw [if_neg e,if_neg (by rw [← h1]; exact e)]
      exact .cons h (RepF.put r t)
end
structure ClsT (K:FG) (mg:Str->Option Value) (C:Str) (c:Addr):Prop where
  cn:CN K C c
  cl:Cls K c
  mgC:mg C=some (.ref c)
theorem cn_eq {C:Str} {c d:Addr} (h:CN K C c) (g:CN K C d):c=d:=by
  have:(some (some (Value.ref c)))=some (some (.ref d)):=h.symm.trans g
  cases this
  rfl
noncomputable def eFld (C f:Str) (fo:EF):EF:=fun ρ=>(fo ρ).bind fun x=>match x.1.pv with
  | .ptr n=>match x.2.mu[n]? with
    | some (some (.obj D ks ps))=>if D=C then (lookP (ks.zip ps) f).map fun p=>(.sh p,x.2) else none
    | _=>none
  | _=>none
theorem SR.cellB {pd pe:Pd} {a:Addr} {n:Nat} {p:PV} (hm:ρ.mu[n]?=some (some p)) (s:SR K H0 Z0 σ H ⟨ρ.vs,ρ.mu.set n none⟩ ((.ref a,.own p)::(.ref a,.sh (.ptr n))::pd)):SR K H0 Z0 σ H ρ pd:=by
  have hn:n < ρ.mu.length:=(List.getElem?_eq_some_iff.mp hm).1
  have s8:=s.cellP (by show (ρ.mu.set n none)[n]?=_; rw [List.getElem?_set_self hn])
  have e8:(ρ.mu.set n none).set n (some p)=ρ.mu:=by rw [List.set_set]; exact set_same hm
  have s9:SR K H0 Z0 σ H ⟨ρ.vs,(ρ.mu.set n none).set n (some p)⟩ pd:=s8
  rw [e8] at s9
  exact s9
theorem SR.objAt {v:V} {n:Nat} {C:Str} {ks:List Str} {ps:List PV} (s:SR K H0 Z0 σ H ρ ((v,.sh (.ptr n))::pd)) (hm:ρ.mu[n]?=some (some (.obj C ks ps))):
    ∃ a c dx fs,v=.ref a/\CN K C c/\H a=some (.ins c dx fs)/\fs.map (·.1)=ks/\(∀ f p,lookP (ks.zip ps) f=some p->∃ u,fs.lookup f=some u/\SR K H0 Z0 σ H ρ ((u,.sh p)::(v,.sh (.ptr n))::pd))/\∀ f,lookP (ks.zip ps) f=none->fs.lookup f=none:=by
  have sdup:SR K H0 Z0 σ H ρ ((v,.sh (.ptr n))::(v,.sh (.ptr n))::pd):=s.part fun Z _ r=>r
  obtain ⟨a,rfl,s5⟩:=sdup.cellO hm
  obtain ⟨el,Z,hg,z,so⟩:=s5.top
  obtain ⟨_,ea,⟨c,dx,fs,cn,hu,hk,hr⟩,_⟩:=so.1 _ List.mem_cons_self
  cases ea
  have rf:=repF_mk hk hr
  refine ⟨a,c,dx,fs,rfl,cn,hu,hk,fun f p hl=>?_,fun f hl=>rf.look.2 hl⟩
  obtain ⟨u,h1,h2⟩:=rf.look.1 p hl
  refine ⟨u,h1,?_⟩
  have s6:SR K H0 Z0 σ H ⟨ρ.vs,ρ.mu.set n none⟩ ((u,.sh p)::(.ref a,.own (.obj C ks ps))::(.ref a,.sh (.ptr n))::(.ref a,.sh (.ptr n))::pd):=.mk (Z:=Z) el hg z ((so.perm sl_cons).consS h2)
  have s7:SR K H0 Z0 σ H ⟨ρ.vs,ρ.mu.set n none⟩ ((.ref a,.own (.obj C ks ps))::(.ref a,.sh (.ptr n))::(u,.sh p)::(.ref a,.sh (.ptr n))::pd):=s6.perm (((List.Perm.swap _ _ _).cons _).trans (List.Perm.swap _ _ _))
  exact SR.cellB (pe:=pd) hm s7
theorem qfld {C f:Str} {c:Addr} {o:Expr} {fo:EF} {pos:Pos} (T:ClsT X.K X.mg C c) (na:NoAttr X.K c f) (ho:PE X o (tP X.K fo)) (hb:attributeBase o f X.env (eval o X.env)=eval o X.env:=by rfl):PE X (.Attribute o f pos) (tP X.K (eFld C f fo)):=PE.imp (pe_fld ho hb) fun σ H Q q=>by
  obtain ⟨H0,Z0,ρ,pd,l,ρ',s,h,k⟩:=q
  obtain ⟨x,h1,h2⟩:=bind_some h
  refine ⟨H0,Z0,ρ,pd,x.1,x.2,s,h1,fun v H1 s1=>?_⟩
  split at h2
  · rename_i n en
    split at h2
    · rename_i D ks ps em
      split at h2
      · rename_i eD
        subst eD
        obtain ⟨p,h3,h4⟩:=map_some h2
        cases h4
        have s2:=s1.freeze
        rw [en] at s2
        obtain ⟨a,c',dx,fs,rfl,cn,hH,hk,hl,_⟩:=s2.objAt em
        have:=cn_eq T.cn cn
        subst this
        obtain ⟨u,h5,s6⟩:=hl f p h3
        exact ⟨a,c,dx,fs,u,rfl,hH,T.cl,na,h5,k u H1 (s6.sub ((List.sublist_cons_self _ _).cons_cons _))⟩
      · cases h2
    · cases h2
  · cases h2
noncomputable def sFldP (C f:Str) (fo fv:EF):SF:=fun ρ=>(fv ρ).bind fun y=>(fo y.2).bind fun x=>match x.1.pv with
  | .ptr n=>match x.2.mu[n]? with
    | some (some (.obj D ks ps))=>if D=C/\ks.length < 1000 then some (.nx ⟨x.2.vs,x.2.mu.set n (some (objP C (putFP f y.1.pv (ks.zip ps))))⟩) else none
    | _=>none
  | _=>none
theorem qs_fldP {C f:Str} {c:Addr} {o value:Expr} {fo fv:EF} {pos' pos:Pos} (T:ClsT X.K X.mg C c) (na:NoAttr X.K c f) (ho:PE X o (tP X.K fo)) (hv:PE X value (tP X.K fv)) (hs:swapsWith value (some (.Attribute o f pos')) pos.line X.env=pure false:=by rfl):PS X (.Assign [.Attribute o f pos'] value pos) (tPs X.K (sFldP C f fo fv)):=PS.imp (ps_fld ho hv hs) fun D σ H q=>by
  obtain ⟨H0,Z0,ρ,pd,fl,s,h,k⟩:=q
  obtain ⟨y,h1,h2⟩:=bind_some h
  obtain ⟨x,h3,h4⟩:=bind_some h2
  refine ⟨H0,Z0,ρ,pd,y.1,y.2,s,h1,fun v H1 s1=>⟨H0,Z0,y.2,_,x.1,x.2,s1.freeze,h3,fun w H2 s2=>?_⟩⟩
  split at h4
  · rename_i n en
    split at h4
    · rename_i D' ks ps em
      split at h4
      · rename_i eD
        obtain ⟨eD,hz⟩:=eD
        subst eD
        cases h4
        have s3:=s2.freeze
        rw [en] at s3
        obtain ⟨a,rfl,s5⟩:=s3.cellO em
        have s6:SR X.K H0 Z0 σ H2 ⟨x.2.vs,x.2.mu.set n none⟩ ((v,.sh y.1.pv)::(.ref a,.own (.obj D' ks ps))::(.ref a,.sh (.ptr n))::pd):=s5.perm ((List.Perm.swap _ _ _).trans ((List.Perm.swap _ _ _).cons _))
        obtain ⟨el,Z,hg,z,r,so⟩:=s6.sh
        have so2:=so.perm sl_cons.symm
        obtain ⟨_,eb,⟨c',dx,fs,cn,hu,hk,hr⟩,_⟩:=so2.1 _ List.mem_cons_self
        cases eb
        have:=cn_eq T.cn cn
        subst this
        have rf:=repF_mk hk hr
        have rp:=rf.put (f:=f) r
        have hlen:fs.length=ks.length:=by rw [← hk,List.length_map]
        refine ⟨a,c,dx,fs,rfl,hu,T.cl,na,by omega,k σ _ ?_⟩
        obtain ⟨z',s'⟩:=so2.write (o:=.ins c dx (putF f v fs)) (q:=objP D' (putFP f y.1.pv (ks.zip ps))) z ⟨c,dx,putF f v fs,cn,upd_same,rp.keys,rp.vals⟩
        have s7:SR X.K H0 Z0 σ (upd H2 a (.ins c dx (putF f v fs))) ⟨x.2.vs,x.2.mu.set n none⟩ ((.ref a,.own (objP D' (putFP f y.1.pv (ks.zip ps))))::(.ref a,.sh (.ptr n))::pd):=.mk el hg z' s'
        have hn:n < x.2.mu.length:=(List.getElem?_eq_some_iff.mp em).1
        have s8:=s7.cellP (by show (x.2.mu.set n none)[n]?=_; rw [List.getElem?_set_self hn])
        have e8:(x.2.mu.set n none).set n (some (objP D' (putFP f y.1.pv (ks.zip ps))))=x.2.mu.set n (some (objP D' (putFP f y.1.pv (ks.zip ps)))):=List.set_set ..
        have s9:SR X.K H0 Z0 σ (upd H2 a (.ins c dx (putF f v fs))) ⟨x.2.vs,(x.2.mu.set n none).set n (some (objP D' (putFP f y.1.pv (ks.zip ps))))⟩ pd:=s8
        rw [e8] at s9
        exact s9
      · cases h4
    · cases h4
  · cases h4
end
section
variable {P:Program} {w:World} {K:FG} {mg:Str->Option Value} {base:Heap}
noncomputable def MAt (K:FG) (c:Addr) (m qual:Str) (st:Stmt) (ps:List Str):Prop:=∃ f fd,Fun K m qual st f fd/\PySem.W.findIn K (.ref c) m=some (some (.ref f))/\PySem.W.isFn K (.ref f)=true/\Binds K fd ps []
noncomputable def MOk (P:Program) (w:World) (K:FG) (mg:Str->Option Value) (base:Heap) (c:Addr) (m:Str) (k:Nat) (ps:List Str) (sp:Sp):Prop:=∃ f fd,FnOk P w K mg base CX0 k f fd ps sp/\Meth K c m f/\Binds K fd ps []
theorem Fun.okQ {x qual:Str} {st:Stmt} {N ps:List Str} {k:Nat} {g:GF} {f:Addr} {fd:FuncData} (F:Fun K x qual st f fd) (S:FnScope N ps (defScope st))
    (h:∀ (cdv:Value) (A:Around) (outer:List PySem.Env) (s:Shared) (H:Hp) (E:XK),Room k (A.deeper (envOfC qual (defScope st) s.heap.objs.size f cdv))->
      ∃ g':SF,(∀ a mu,g a mu=runP N.length g' a mu)/\PSs (cxOf CX0 P w K mg base N qual (defScope st) f cdv A outer s H E).nox (defBody st) (tPs K g')):FnOk P w K mg base CX0 (k + 1) f fd ps (spP K ps.length g):=by
  refine F.ok S (fun vs H Q E q=>?_) (fun cdv A outer s H vs Q E hr q=>?_)
  · obtain ⟨Z,qs,mu,r,mu',e,_⟩:=q; exact e
  · obtain ⟨g',eg,b⟩:=h cdv A outer s H E hr
    obtain ⟨Z,qs,mu,r,mu',e,hg,z,rl,c,hr',kk⟩:=q
    rw [eg] at hr'
    obtain ⟨fl,h1,h2⟩:=bind_some hr'
    refine ⟨_,b,offg H (usd Z.g mu),Z,_,[],fl,sr_start hg z rl c,h1,?_⟩
    cases fl with
    | rt r' ρ'=>
      cases h2
      intro v σ' H' s'
      obtain ⟨el,Z',hg',z',s''⟩:=s'.top
      refine kk v H' ⟨Z',hg',z',s''.sub ?_⟩
      exact (List.sublist_append_left _ _).cons_cons _
    | nx ρ'=>
      cases h2
      intro σ' H' s'
      obtain ⟨el,Z',hg',z',s''⟩:=s'
      exact kk .non H' ⟨Z',hg',z',(s''.sub (List.sublist_append_left _ _)).consS (rep_non _)⟩
    | bk ρ'=>cases h2
    | ct ρ'=>cases h2
theorem MAt.ok {c:Addr} {m qual:Str} {st:Stmt} {N ps:List Str} {k:Nat} {g:GF} (F:MAt K c m qual st ps) (S:FnScope N ps (defScope st))
    (h:∀ (f:Addr) (cdv:Value) (A:Around) (outer:List PySem.Env) (s:Shared) (H:Hp) (E:XK),Room k (A.deeper (envOfC qual (defScope st) s.heap.objs.size f cdv))->
      ∃ g':SF,(∀ a mu,g a mu=runP N.length g' a mu)/\PSs (cxOf CX0 P w K mg base N qual (defScope st) f cdv A outer s H E).nox (defBody st) (tPs K g')):MOk P w K mg base c m (k + 1) ps (spP K ps.length g):=by
  obtain ⟨f,fd,F,h1,h2,hb⟩:=F
  exact ⟨f,fd,Fun.okQ F S (h f),⟨h1,h2,F.kp⟩,hb⟩
end
section
variable {X:Cx}
noncomputable def eMeth (C m:Str) (g:GF) (fo:EF) (a:AF):EF:=fun ρ=>(fo ρ).bind fun x=>match x.1.pv with
  | .ptr n=>match x.2.mu[n]? with
    | some (some (.obj D ks _))=>if D=C/\ks.contains m=false then (a x.2).bind fun y=>(g (.ptr n::y.1.map Lc.pv) y.2.mu).map fun r=>(r.1,⟨y.2.vs,r.2⟩) else none
    | _=>none
  | _=>none
theorem look_none {m:Str}:∀ {fs:List (Str × V)},(fs.map (·.1)).contains m=false->fs.lookup m=none
  | [],_=>rfl
  | (g,x)::r,h=>by
    rw [List.map_cons,List.contains_cons,Bool.or_eq_false_iff] at h
    rw [List.lookup_cons,h.1]
    exact look_none h.2
theorem meth_imp {C m:Str} {c:Addr} {g:GF} {fo:EF} {a:AF} {n':Nat} {E:XK} (T:ClsT X.K X.mg C c) (hn:∀ ρ ls ρ1,a ρ=some (ls,ρ1)->ls.length + 1=n'):∀ σ H Q,tP X.K (eMeth C m g fo a) σ H Q->tMeth c m (spP X.K n' g) [] E (tP X.K fo) (tPA X.K a) σ H Q:=fun σ H Q q=>by
  obtain ⟨H0,Z0,ρ,pd,l,ρ',s,h,k⟩:=q
  obtain ⟨x,h1,h2⟩:=bind_some h
  refine ⟨H0,Z0,ρ,pd,x.1,x.2,s,h1,fun v H1 s1=>?_⟩
  split at h2
  · rename_i n en
    split at h2
    · rename_i D ks ps em
      split at h2
      · rename_i eD
        obtain ⟨eD,hk⟩:=eD
        subst eD
        obtain ⟨y,h3,h4⟩:=bind_some h2
        obtain ⟨r,h5,h6⟩:=map_some h4
        cases h6
        have s2:=s1.freeze
        rw [en] at s2
        obtain ⟨a',c',dx,fs,rfl,cn,hH,hks,_,_⟩:=s2.objAt em
        have:=cn_eq T.cn cn
        subst this
        refine ⟨a',dx,fs,rfl,hH,look_none (by rw [hks]; exact hk),H0,Z0,x.2,_,y.1,y.2,s2,h3,fun vs H2 e2 s3=>?_⟩
        have s4:SR X.K H0 Z0 σ H2 y.2 ((V.ref a'::vs).zip (Lc.sh (.ptr n)::y.1)++pd):=s3.perm (by
          rw [List.zip_cons_cons,List.cons_append]
          exact List.perm_middle.symm)
        obtain ⟨el,Z,hg,z,rl,sl'⟩:=s4.repl (by rw [List.length_cons,List.length_cons,e2])
        refine ⟨Z,.ptr n::y.1.map Lc.pv,y.2.mu,r.1,r.2,?_,hg,z.zh,?_,sl'.cells hg,h5,fun v H' rr=>k v H' (SR.called el hg z sl' rr)⟩
        · rw [List.append_nil,List.length_cons,e2]; exact hn _ _ _ h3
        · rw [List.append_nil]; exact rl
      · cases h2
    · cases h2
  · cases h2
theorem qmeth {C m:Str} {c:Addr} {k:Nat} {ps:List Str} {g:GF} {fo:EF} {e o:Expr} {es:List Expr} {a:AF} {apos pos:Pos} {pl:Sem Bool} (T:ClsT X.K X.mg C c) (M:MOk X.prog X.w X.K X.mg X.base c m k ps (spP X.K ps.length g)) (hr:Room k X.A) (ho:PE X o (tP X.K fo)) (ha:PA X (e::es) (tPA X.K a)) (hn:∀ ρ ls ρ1,a ρ=some (ls,ρ1)->ls.length + 1=ps.length)
    (hst:starEach (e::es) X.env=(false,eval e X.env)::starEach es X.env:=by rfl) (hpl:(backTo pos (starEach es X.env)).any (·.1)=false:=by rfl)
    (ht:eval (.Call (.Attribute o m apos) (e::es) [] pos) X.env=(do
      let ov ← eval o X.env
      standAt apos.atName
      let (f,first) ← holding [ov] (getMethod ov m pl)
      callWith pos f first (backTo pos (starEach (e::es) X.env)) (backToKw pos (keywordEach [] X.env))):=by rfl):PE X (.Call (.Attribute o m apos) (e::es) [] pos) (tP X.K (eMeth C m g fo a)):=by
  obtain ⟨f,fd,F,hm,hb⟩:=M
  exact PE.imp (pe_meth (pl:=pl) (E:=E0) ho T.cl hm F hr hb .nil pass0 ha hst hpl ht) (meth_imp T hn)
theorem qmeth0 {C m:Str} {c:Addr} {k:Nat} {ps:List Str} {g:GF} {fo:EF} {o:Expr} {apos pos:Pos} {pl:Sem Bool} (T:ClsT X.K X.mg C c) (M:MOk X.prog X.w X.K X.mg X.base c m k ps (spP X.K ps.length g)) (hr:Room k X.A) (ho:PE X o (tP X.K fo)) (hn:1=ps.length)
    (ht:eval (.Call (.Attribute o m apos) [] [] pos) X.env=(do
      let ov ← eval o X.env
      standAt apos.atName
      let (f,first) ← holding [ov] (getMethod ov m pl)
      callWith pos f first (backTo pos (starEach [] X.env)) (backToKw pos (keywordEach [] X.env))):=by rfl):PE X (.Call (.Attribute o m apos) [] [] pos) (tP X.K (eMeth C m g fo aNil)):=by
  obtain ⟨f,fd,F,hm,hb⟩:=M
  refine PE.imp (pe_meth0 (pl:=pl) (E:=E0) ho T.cl hm F hr hb .nil pass0 ht) fun σ H Q q=>?_
  have:=meth_imp (X:=X) (E:=E0) (a:=aNil) (n':=ps.length) T (fun ρ ls ρ1 h=>by cases h; rw [← hn]; rfl) σ H Q q
  obtain ⟨H0,Z0,ρ,pd,l,ρ',s,h,k⟩:=this
  refine ⟨H0,Z0,ρ,pd,l,ρ',s,h,fun v H1 s1=>?_⟩
  obtain ⟨a,dx,fs,e1,e2,e3,H0',Z0',ρ2,pd2,ls,ρ3,s2,h2,k2⟩:=k v H1 s1
  cases h2
  exact ⟨a,dx,fs,e1,e2,e3,k2 [] H1 rfl s2⟩
theorem SR.toCell {a:Addr} {p:PV} (s:SR K H0 Z0 σ H ρ ((.ref a,.own p)::pd)):SR K H0 Z0 σ H ⟨ρ.vs,ρ.mu++[some p]⟩ ((.ref a,.sh (.ptr ρ.mu.length))::pd):=by
  obtain ⟨el,Z,hg,z,so⟩:=s.top
  have lz:ZLe Z ⟨Z.z,Z.g++[a]⟩:=⟨Same.refl _,List.prefix_append _ _⟩
  have so2:=so.step (Z':=⟨Z.z,Z.g++[a]⟩) (H':=H) lz fun e he b hb=>⟨rfl,(own_of so he hb).1⟩
  refine .mk (Z:=⟨Z.z,Z.g++[a]⟩) el (by simp [hg]) ⟨z.zh,z.h0,z.z0.trans lz,z.new⟩ (Slots.consS ?_ ?_)
  · refine so2.perm ?_
    have ec:cel (Z.g++[a]) (ρ.mu++[some p])=cel Z.g ρ.mu++[(some (.ref a),some (.own p))]:=by
      unfold cel
      rw [List.map_append,List.map_append,List.zip_append (by simp [hg])]
      rfl
    unfold sl
    show List.Perm (cel (Z.g++[a]) (ρ.mu++[some p])++_) _
    rw [ec,List.append_assoc]
    exact List.perm_middle
  · unfold Rep
    exact ⟨a,rfl,by show (Z.g++[a])[ρ.mu.length]?=some a; rw [hg,List.getElem?_append_right (Nat.le_refl _)]; simp⟩
noncomputable def eMake (C:Str) (g:GF) (a:AF):EF:=fun ρ=>(a ρ).bind fun y=>(g (.ptr y.2.mu.length::y.1.map Lc.pv) (y.2.mu++[some (.obj C [] [])])).bind fun r=>match r.1 with
  | .sh .non=>some (.sh (.ptr y.2.mu.length),⟨y.2.vs,r.2⟩)
  | _=>none
noncomputable def MkOk (P:Program) (w:World) (K:FG) (mg:Str->Option Value) (base:Heap) (c:Addr) (k:Nat) (ps:List Str) (sp:Sp):Prop:=∃ f fd,FnOk P w K mg base CX0 k f fd ps sp/\Mk K c f/\Binds K fd ps []
theorem make_imp {C:Str} {c:Addr} {g:GF} {a:AF} {n':Nat} {E:XK} (T:ClsT X.K X.mg C c) (hn:∀ ρ ls ρ1,a ρ=some (ls,ρ1)->ls.length + 1=n'):∀ σ H Q,tP X.K (eMake C g a) σ H Q->tMake c (spP X.K n' g) [] E (tPA X.K a) σ H Q:=fun σ H Q q=>by
  obtain ⟨H0,Z0,ρ,pd,l,ρ',s,h,k⟩:=q
  obtain ⟨y,h1,h2⟩:=bind_some h
  obtain ⟨r,h3,h4⟩:=bind_some h2
  split at h4
  · rename_i er
    cases h4
    refine ⟨H0,Z0,ρ,pd,y.1,y.2,s,h1,fun vs H1 e1 s1 x dx hx hdx hne=>?_⟩
    have s2:SR X.K H0 Z0 σ (upd H1 dx (.own x)) y.2 (vs.zip y.1++pd):=s1.ext hdx
    have s3:SR X.K H0 Z0 σ (upd (upd H1 dx (.own x)) x (.ins c dx [])) y.2 ((.ref x,.own (.obj C [] []))::(vs.zip y.1++pd)):=s2.newO (by rw [upd_ne hne.symm]; exact hx) fun Z _ _=>⟨c,dx,[],T.cn,upd_same,rfl,.nil⟩
    have s4:=s3.toCell
    have s5:SR X.K H0 Z0 σ (upd (upd H1 dx (.own x)) x (.ins c dx [])) ⟨y.2.vs,y.2.mu++[some (.obj C [] [])]⟩ ((.ref x,.sh (.ptr y.2.mu.length))::(.ref x,.sh (.ptr y.2.mu.length))::(vs.zip y.1++pd)):=s4.part fun Z _ r=>r
    have s6:SR X.K H0 Z0 σ (upd (upd H1 dx (.own x)) x (.ins c dx [])) ⟨y.2.vs,y.2.mu++[some (.obj C [] [])]⟩ ((V.ref x::vs).zip (Lc.sh (.ptr y.2.mu.length)::y.1)++(.ref x,.sh (.ptr y.2.mu.length))::pd):=s5.perm (by
      rw [List.zip_cons_cons,List.cons_append]
      exact List.perm_middle.cons _)
    obtain ⟨el,Z,hg,z,rl,sl'⟩:=s6.repl (by rw [List.length_cons,List.length_cons,e1])
    refine ⟨Z,.ptr y.2.mu.length::y.1.map Lc.pv,y.2.mu++[some (.obj C [] [])],r.1,r.2,?_,hg,z.zh,?_,sl'.cells hg,h3,fun v H' rr=>?_⟩
    · rw [List.append_nil,List.length_cons,e1]; exact hn _ _ _ h1
    · rw [List.append_nil]; exact rl
    · have s7:=SR.called el hg z sl' rr
      rw [er] at s7
      obtain ⟨_,r0⟩:=s7.repH
      exact ⟨rep_non_inv r0,k _ _ s7.pop⟩
  · cases h4
theorem qmake {C:Str} {c:Addr} {k:Nat} {ps:List Str} {g:GF} {e:Expr} {es:List Expr} {a:AF} {p pos:Pos} (T:ClsT X.K X.mg C c) (M:MkOk X.prog X.w X.K X.mg X.base c k ps (spP X.K ps.length g)) (hr:Room (k + 1) X.A) (hg:Gl X C) (ha:PA X (e::es) (tPA X.K a)) (hn:∀ ρ ls ρ1,a ρ=some (ls,ρ1)->ls.length + 1=ps.length)
    (hdb:(C == ("__debug__" : Str))=false:=by decide) (he:starEach (e::es) X.env=(false,eval e X.env)::starEach es X.env:=by rfl) (hpl:(backTo pos (starEach es X.env)).any (·.1)=false:=by rfl):PE X (.Call (.Name C p) (e::es) [] pos) (tP X.K (eMake C g a)):=by
  obtain ⟨f,fd,F,hm,hb⟩:=M
  exact PE.imp (pe_make (E:=E0) hm F hr hg T.mgC hb .nil pass0 ha hdb he hpl) (make_imp T hn)
end
section
variable {X:Cx}
noncomputable def rCountP (K:FG):V->List V->Hp->VK->Prop:=fun x vs H Q=>∃ g p qs w b,vs=[w]/\Rep K ⟨H,g⟩ p w/\Rep K ⟨H,g⟩ (.lst qs) x/\inDs (eqD 150) p qs=some b/\qs.length<=100000/\Q (.int (qs.countP fun q=>(eqD 150 q p).getD false:Nat)) H
theorem mt_count {k:Nat} (hr:Room k X.A):MtR X "list.count" (rCountP X.K):=by
  intro pins s σ H x vs v us Q I rx rv h
  obtain ⟨g,p,qs,w,b,rfl,rp,rq,e,hz,q⟩:=h
  have hA:X.A.in1.units + 150 < cLine:=by have:=hr.un; show X.A.units + 1 + 150 < cLine; omega
  obtain ⟨u,rfl,ru⟩:=rv.one
  obtain ⟨i1,i2⟩:=inDs_at e
  obtain ⟨a,vs,its,rfl,q1,l1,rv1,t1⟩:=lst_of I rq rx
  have hl:its.length=qs.length:=by rw [← rv1.length,l1.length]
  have hat:∀ m (hm:m < its.length),worth X.K ⟨H,g⟩ p qs vs its its[m]=(eqD 150 (qs[m]'(by omega)) p).getD false:=fun m hm=>
    worth_at (xv:=w) (xu:=u) I l1 rv1 i1 (j:=m) (List.getElem?_eq_getElem (by omega)) (List.getElem?_eq_getElem hm)
  have hcnt:its.countP (worth X.K ⟨H,g⟩ p qs vs its)=qs.countP fun q=>(eqD 150 q p).getD false:=by
    have e1:its.map (worth X.K ⟨H,g⟩ p qs vs its)=qs.map fun q=>(eqD 150 q p).getD false:=by
      refine List.ext_getElem (by rw [List.length_map,List.length_map,hl]) fun m h1 h2=>?_
      rw [List.getElem_map,List.getElem_map]
      exact hat m (by simpa using h1)
    have e2:∀ {α:Type} (f:α->Bool) (l:List α),l.countP f=(l.map f).countP id:=fun f l=>by rw [List.countP_map]; rfl
    rw [e2,e1,← e2]
  obtain ⟨⟨oc,od,oD,os⟩,ht,hc,n,hd⟩:=t1
  have hc':oc=.type "list" := hc
  have hd':oD=.seq its.toArray n:=hd
  subst hc' hd'
  refine call_meets F.slot_list_count ⟨_,ht,rfl⟩ F.entry_list_count (F.args_list_count_2 _ _) (SeqAt.list_countAt a its.toArray n od os u (worth X.K ⟨H,g⟩ p qs vs its)) ⟨ht,worth_eq I rp ru l1 rv1 i1 hA,?_⟩
  have q':Q (.int (its.countP (worth X.K ⟨H,g⟩ p qs vs its):Nat)) H:=by rw [hcnt]; exact q
  exact ⟨.int _,H,I.tok _,⟨_,rfl⟩,q'⟩
noncomputable def eCount (f g:EF):EF:=fun ρ=>(f ρ).bind fun x=>(g x.2).bind fun y=>match x.1.pv with
  | .lst qs=>if (inDs (eqD 150) y.1.pv qs).isSome=true/\qs.length<=100000 then some (.sh (.int (qs.countP fun q=>(eqD 150 q y.1.pv).getD false:Nat)),y.2) else none
  | _=>none
theorem qcount {o e:Expr} {f g:EF} {apos cpos:Pos} (h:PE X (.Call (.Attribute o "count" apos) [e] [] cpos) (tBM X.K "list" (rCountP X.K) (tP X.K f) (tPA X.K (aCons g aNil)))):PE X (.Call (.Attribute o "count" apos) [e] [] cpos) (tP X.K (eCount f g)):=PE.imp h fun σ H Q q=>by
  obtain ⟨H0,Z0,ρ,pd,r,ρ',s,h,k⟩:=q
  obtain ⟨x,h1,h2⟩:=bind_some h
  obtain ⟨y,h3,h4⟩:=bind_some h2
  refine ⟨H0,Z0,ρ,pd,x.1,x.2,s,h1,fun v H1 s1=>?_⟩
  have s1':=s1.freeze
  cases e:x.1.pv with
  | lst qs=>
    rw [e] at h4 s1'
    have h4':(if (inDs (eqD 150) y.1.pv qs).isSome=true/\qs.length<=100000 then some (Lc.sh (.int (qs.countP fun q=>(eqD 150 q y.1.pv).getD false:Nat)),y.2) else none)=some (r,ρ'):=h4
    split at h4'
    · rename_i hc
      cases h4'
      obtain ⟨_,r1⟩:=s1'.repH
      have r1':=r1
      unfold Rep at r1'
      obtain ⟨a,us,rfl,hq,_⟩:=r1'
      obtain ⟨bb,hbb⟩:=Option.isSome_iff_exists.mp hc.1
      refine ⟨.inl ⟨rfl,us,hq⟩,H0,Z0,x.2,_,[y.1],y.2,s1',?_,fun vs H2 e2 s2=>?_⟩
      · unfold aCons aNil
        rw [h3]
        rfl
      · obtain ⟨w,rfl⟩:=ln1 e2
        have s3:SR X.K H0 Z0 σ H2 y.2 ((w,.sh y.1.pv)::(.ref a,.sh (.lst qs))::pd):=SR.freeze s2
        obtain ⟨g,ra,rb⟩:=s3.rep2H
        exact ⟨g,y.1.pv,qs,w,bb,rfl,rb,ra,hbb,hc.2,k _ _ (s3.pop.pop.scal rep_int)⟩
    · cases h4'
  | _=>rw [e] at h4; cases h4
end
theorem al_suc {a:AF} {n m:Nat} (h:∀ ρ ls ρ1,a ρ=some (ls,ρ1)->ls.length=n) (e:n + 1=m:=by rfl):∀ ρ ls ρ1,a ρ=some (ls,ρ1)->ls.length + 1=m:=fun ρ ls ρ1 g=>by rw [h _ _ _ g,e]
theorem mk_of {P:Program} {w:World} {mg:Str->Option Value} {base:Heap} {c:Addr} {k:Nat} {ps:List Str} {sp:Sp} (h:MOk P w K mg base c "__init__" k ps sp) (mk:PySem.W.makesIn K c=true) (kc:PySem.W.keepIn K (.ref c)=true):MkOk P w K mg base c k ps sp:=by
  obtain ⟨f,fd,F,m,b⟩:=h
  exact ⟨f,fd,F,⟨mk,m.at_,m.fn,kc⟩,b⟩
end PL
namespace L2
open PySem PySem.Spec PyProof.Rows
variable {pins:List (Addr × Obj)} {E:Value->Shared->Prop} {s:Shared} {A:Around} {w:World} {P:Program}
section
variable {X:Cx}
noncomputable def rIns:V->List V->Hp->VK->Prop:=fun x vs H Q=>∃ l xs y j k,x=.ref l/\vs=[.int k,y]/\k=((j:Nat):Int)/\j<=xs.length/\H l=some (.lst xs)/\xs.length < 100001/\Q .non (upd H l (.lst (xs.take j++y::xs.drop j)))
theorem sz:100001 < sizeLine:=by decide
theorem fits {j n:Nat} (h:j<=n) (hz:n < 100001):¬ (!Builtin.List.listFitsIndex ((j:Nat):Int))=true:=by
  unfold Builtin.List.listFitsIndex
  simp only [Bool.not_eq_true',Bool.not_eq_false,Bool.and_eq_true,decide_eq_true_eq]
  omega
theorem mt_ins:MtM X "list.insert" rIns:=by
  intro pins s σ H x vs v us Q I rx rv h
  obtain ⟨l,xs,y,j,k,rfl,rfl,hk,hj,hH,hz,q⟩:=h
  cases rx
  cases rv with
  | cons r0 rv=>
    obtain ⟨u,rfl,ru⟩:=vals1 rv
    obtain ⟨t,rfl⟩:=r0
    obtain ⟨z,its,n,r,hl,e⟩:=I.lstM hH
    have hil:its.length=xs.length:=r.length.symm
    refine call_meets F.slot_list_insert ⟨_,e,rfl⟩ F.entry_list_insert (F.args_list_insert_3 _ _ _) (PySem.AutoSeq1.list_insert_list_int_val_1 l its.toArray n k t u (by rw [hk]; exact fits hj hz) (by rw [List.size_toArray]; have:=sz; omega)) ⟨e,?_⟩
    refine ⟨.non,_,I.lset (its':=its.take j++u::its.drop j) hH e ?_ ?_ ?_,rfl,q⟩
    · have ek:(if k < 0 then (k + ((its.toArray.size:Nat):Int)).toNat else min k.toNat its.toArray.size)=j:=by
        rw [hk,if_neg (by omega),Int.toNat_natCast,List.size_toArray]
        omega
      dsimp only
      rw [ek]
      apply Array.toList_inj.mp
      simp
      rw [List.take_of_length_le (by rw [List.length_drop]; omega)]
    · exact (r.take j).append (.cons ru (r.drop j))
    · rw [List.length_append,List.length_cons,List.length_take,List.length_drop]; have:=sz; omega
end
end L2
namespace PL
open PySem PySem.Spec PyProof.Rows L2
variable {K:FG} {H0 H:Hp} {Z0:ZG} {σ:L2.St} {ρ:Ev} {pd:Pd}
section
variable {X:Cx}
theorem SR.insO {v:V} {l:Lc} {a:Addr} {ws:List PV} {j:Nat} (s:SR K H0 Z0 σ H ρ ((v,l)::(.ref a,.own (.lst ws))::pd)):
    ∃ us,H a=some (.lst us)/\us.length=ws.length/\SR K H0 Z0 σ (upd H a (.lst (us.take j++v::us.drop j))) ρ ((.ref a,.own (.lst (ws.take j++l.pv::ws.drop j)))::pd):=by
  obtain ⟨el,Z,hg,z,r,so⟩:=s.freeze.sh
  have so2:=so.perm sl_cons.symm
  obtain ⟨b,eb,⟨us,hu,hr⟩,_⟩:=so2.1 _ List.mem_cons_self
  cases eb
  refine ⟨us,hu,hr.length,?_⟩
  obtain ⟨z',s'⟩:=so2.write (o:=.lst (us.take j++v::us.drop j)) (q:=.lst (ws.take j++l.pv::ws.drop j)) z ⟨_,upd_same,(hr.take j).append (RepL.cons r (hr.drop j))⟩
  exact .mk el hg z' s'
noncomputable def sIns (i:Nat) (a:AF):SF:=fun ρ=>match ρ.vs[i]? with
  | some (some (.own (.lst _)))=>(a ρ).bind fun y=>match y.1,y.2.vs[i]? with
    | [lk,le],some (some (.own (.lst ws)))=>match lk with
      | .sh (.int k)=>if 0<=k/\k<=ws.length/\ws.length < 100000 then some (.nx (y.2.set i (some (.own (.lst (ws.take k.toNat++le.pv::ws.drop k.toNat)))))) else none
      | _=>none
    | _,_=>none
  | _=>none
theorem qs_ins {i:Nat} {o z e:Expr} {a:AF} {apos cpos pos:Pos} (h:PS X (.Expr (.Call (.Attribute o "insert" apos) [z,e] [] cpos) pos) (tDrop (tBM X.K "list" rIns (tVar i) (tPA X.K a)))):
    PS X (.Expr (.Call (.Attribute o "insert" apos) [z,e] [] cpos) pos) (tPs X.K (sIns i a)):=PS.imp h fun D σ H q=>by
  obtain ⟨H0,Z0,ρ,pd,fl,s,h,k⟩:=q
  unfold sIns at h
  split at h
  · rename_i ws0 e0
    obtain ⟨y,h1,h2⟩:=bind_some h
    obtain ⟨a',ea,⟨us,hu⟩,_⟩:=s.takeO e0
    refine ⟨.ref a',ea,.inl ⟨rfl,us,SqL.of hu⟩,H0,Z0,ρ,pd,y.1,y.2,s,h1,fun vs H2 e2 s2=>?_⟩
    split at h2
    · rename_i lk le ws ey e3
      split at h2
      · rename_i kk
        split at h2
        · rename_i hz
          cases h2
          rw [ey] at e2 s2
          obtain ⟨v0,v1,rfl⟩:=ln2 e2
          have s2':SR X.K H0 Z0 σ H2 y.2 ((v0,.sh (.int kk))::(v1,le)::pd):=s2
          obtain ⟨_,_,_,_,r0,_⟩:=s2'.sh
          unfold Rep at r0
          subst r0
          obtain ⟨b',eb',_,s3⟩:=SR.takeO s2'.pop e3
          rw [ea] at eb'; cases eb'
          have s4:SR X.K H0 Z0 σ H2 (y.2.set i none) ((v1,le)::(.ref a',.own (.lst ws))::pd):=s3.swap
          obtain ⟨us2,hu2,hl,s5⟩:=s4.insO (j:=kk.toNat)
          refine ⟨a',us2,v1,kk.toNat,kk,rfl,rfl,by omega,by omega,hu2,by omega,k σ _ ?_⟩
          have s6:=s5.put ea
          rw [Ev.set_set] at s6
          exact s6
        · cases h2
      · cases h2
    · cases h2
  · cases h
end
section
variable {X:Cx}
theorem RepL.rev {Z:ZG}:∀ {ps:List PV} {vs:List V},RepL K Z ps vs->RepL K Z ps.reverse vs.reverse
  | [],vs,h=>by
    have e:=h.inv0
    subst e
    exact h
  | p::ps,vs,h=>by
    obtain ⟨w,r,rfl,e2,e3⟩:=h.inv
    rw [List.reverse_cons,List.reverse_cons]
    exact (RepL.rev e3).append (RepL.cons e2 RepL.nil)
theorem SR.wrO {a:Addr} {ws ws':List PV} {f:List V->List V} (hf:∀ {Z us},RepL K Z ws us->RepL K Z ws' (f us))
    (s:SR K H0 Z0 σ H ρ ((.ref a,.own (.lst ws))::pd)):∃ us,H a=some (.lst us)/\SR K H0 Z0 σ (upd H a (.lst (f us))) ρ ((.ref a,.own (.lst ws'))::pd):=by
  obtain ⟨el,Z,hg,z,so⟩:=s.top
  obtain ⟨b,eb,⟨us,hu,hr⟩,_⟩:=so.1 _ List.mem_cons_self
  cases eb
  refine ⟨us,hu,?_⟩
  obtain ⟨z',s'⟩:=so.write (o:=.lst (f us)) (q:=.lst ws') z ⟨f us,upd_same,hf hr⟩
  exact .mk (Z:=Z) el hg z' s'
noncomputable def sRev (i:Nat):SF:=fun ρ=>match ρ.vs[i]? with
  | some (some (.own (.lst ws)))=>some (.nx (ρ.set i (some (.own (.lst ws.reverse)))))
  | _=>none
theorem qs_rev {i:Nat} {o:Expr} {apos cpos pos:Pos} (h:PS X (.Expr (.Call (.Attribute o "reverse" apos) [] [] cpos) pos) (tDrop (tBM0 X.K "list" rReverse (tVar i)))):
    PS X (.Expr (.Call (.Attribute o "reverse" apos) [] [] cpos) pos) (tPs X.K (sRev i)):=PS.imp h fun D σ H q=>by
  obtain ⟨H0,Z0,ρ,pd,fl,s,h,k⟩:=q
  unfold sRev at h
  split at h
  · rename_i ws e0
    cases h
    obtain ⟨a,ea,⟨us,hu⟩,s1⟩:=s.takeO e0
    obtain ⟨us2,hu2,s2⟩:=s1.wrO (f:=List.reverse) (ws':=ws.reverse) fun h=>h.rev
    refine ⟨.ref a,ea,.inl ⟨rfl,us,SqL.of hu⟩,a,us2,rfl,rfl,hu2,k σ _ ?_⟩
    have s3:=s2.put ea
    rw [Ev.set_set] at s3
    exact s3
  · cases h
noncomputable def sClr (i:Nat):SF:=fun ρ=>match ρ.vs[i]? with
  | some (some (.own (.lst _)))=>some (.nx (ρ.set i (some (.own (.lst [])))))
  | _=>none
theorem qs_clr {i:Nat} {o:Expr} {apos cpos pos:Pos} (h:PS X (.Expr (.Call (.Attribute o "clear" apos) [] [] cpos) pos) (tDrop (tBM0 X.K "list" rClear (tVar i)))):
    PS X (.Expr (.Call (.Attribute o "clear" apos) [] [] cpos) pos) (tPs X.K (sClr i)):=PS.imp h fun D σ H q=>by
  obtain ⟨H0,Z0,ρ,pd,fl,s,h,k⟩:=q
  unfold sClr at h
  split at h
  · rename_i ws e0
    cases h
    obtain ⟨a,ea,⟨us,hu⟩,s1⟩:=s.takeO e0
    obtain ⟨us2,hu2,s2⟩:=s1.wrO (f:=fun _=>[]) (ws':=[]) fun _=>RepL.nil
    refine ⟨.ref a,ea,.inl ⟨rfl,us,SqL.of hu⟩,a,us2,rfl,rfl,hu2,k σ _ ?_⟩
    have s3:=s2.put ea
    rw [Ev.set_set] at s3
    exact s3
  · cases h
end
end PL
namespace L2
open PySem PySem.Spec PyProof.Rows
variable {pins:List (Addr × Obj)} {E:Value->Shared->Prop} {s:Shared} {A:Around} {w:World} {P:Program}
section
variable {X:Cx}
noncomputable def pk {α:Type} (xs:List α) (lo hi st:Option Int):List α:=
  (sliceRange (sliceBounds lo hi st xs.length).1 (sliceBounds lo hi st xs.length).2.1 (sliceBounds lo hi st xs.length).2.2).filterMap fun i=>xs[i]?
theorem slicePick_pk {its:List Value} {lo hi st:Option Int}:slicePick its.toArray lo hi st=(pk its lo hi st).toArray:=by
  unfold slicePick pk
  simp
theorem Vals.pick {xs:List V} {its:List Value} (r:Vals xs its):∀ {l:List Nat},Vals (l.filterMap fun i=>xs[i]?) (l.filterMap fun i=>its[i]?)
  | []=>.nil
  | i::l=>by
    have hl:=r.length
    cases h:xs[i]? with
    | none=>
      have h':its[i]?=none:=by rw [List.getElem?_eq_none_iff] at h ⊢; omega
      rw [List.filterMap_cons_none h,List.filterMap_cons_none h']
      exact r.pick
    | some x=>
      obtain ⟨u,h',ru⟩:=r.get h
      rw [List.filterMap_cons_some h,List.filterMap_cons_some h']
      exact .cons ru r.pick
theorem Vals.pk {xs:List V} {its:List Value} {lo hi st:Option Int} (r:Vals xs its):Vals (pk xs lo hi st) (L2.pk its lo hi st):=by
  unfold L2.pk
  rw [r.length]
  exact r.pick
theorem pk_range {α:Type}:∀ ys:List α,(List.range ys.length).filterMap (fun i=>ys[i]?)=ys
  | []=>rfl
  | y::t=>by
    rw [List.length_cons,List.range_succ_eq_map,List.filterMap_cons,List.filterMap_map]
    exact congrArg (y::·) (pk_range t)
theorem pk_rev {α:Type} (xs:List α):pk xs none none (some (-1))=xs.reverse:=by
  have hr:sliceRange (sliceBounds none none (some (-1)) xs.length).1 (sliceBounds none none (some (-1)) xs.length).2.1 (sliceBounds none none (some (-1)) xs.length).2.2=(List.range xs.length).map fun k=>xs.length - 1 - k:=by
    show List.map (fun k:Nat=>((xs.length:Int) - 1 + -1 * (k:Int)).toNat) (List.range (if (xs.length:Int) - 1 > -1 then ((xs.length:Int) - 1 - -1 - -1 - 1) / 1 else 0).toNat)=_
    have e:(if (xs.length:Int) - 1 > -1 then ((xs.length:Int) - 1 - -1 - -1 - 1) / 1 else 0).toNat=xs.length:=by split <;> omega
    rw [e]
    exact List.map_congr_left fun k hk=>by have:=List.mem_range.mp hk; omega
  unfold pk
  rw [hr,List.filterMap_map]
  have hc:∀ l:List Nat,(∀ k ∈ l,k < xs.length)->l.filterMap ((fun i=>xs[i]?) ∘ fun k=>xs.length - 1 - k)=l.filterMap fun i=>xs.reverse[i]?:=by
    intro l
    induction l with
    | nil=>exact fun _=>rfl
    | cons k l ih=>
      intro h
      have e:((fun i=>xs[i]?) ∘ fun k=>xs.length - 1 - k) k=xs.reverse[k]?:=(List.getElem?_reverse (h k List.mem_cons_self)).symm
      rw [List.filterMap_cons,List.filterMap_cons,e,ih fun k hk=>h k (List.mem_cons_of_mem _ hk)]
  rw [hc _ fun k hk=>List.mem_range.mp hk]
  have:=pk_range xs.reverse
  rwa [List.length_reverse] at this
noncomputable def tSl3 (K:FG) (te:TE) (tl th tt:TO):TE:=fun σ H Q=>te σ H fun x H1=>tl σ H1 fun l H2=>th σ H2 fun u H3=>tt σ H3 fun k H4=>∃ a xs,x=.ref a/\SqL K H4 a xs/\k ≠ some 0/\∀ p,H4 p=none->Q (.ref p) (upd H4 p (.lst (pk xs l u k)))
theorem pe_slice3 {e:Expr} {lo hi:Option Expr} {st:Expr} {p2 pos:Pos} {te:TE} {tl th tt:TO} (he:PE X e te) (hl:PO X lo tl) (hu:PO X hi th) (ht:PO X (some st) tt):PE X (.Subscript e (.Slice lo hi (some st) p2) pos) (tSl3 X.K te tl th tt):=by
  intro pins s σ H Q I h
  refine Subscript_ (thn (he pins s σ H _ I h) fun v s1 ⟨x,H1,I1,r1,q1⟩=>?_)
  refine wpAny_Slice (thn (hl pins s1 σ H1 _ I1 q1) fun vl s2 ⟨l,H2,I2,pl,q2⟩=>thn (hu pins s2 σ H2 _ I2 q2) fun vu s3 ⟨u,H3,I3,pu,q3⟩=>thn (ht pins s3 σ H3 _ I3 q3) fun vs s4 ⟨k,H4,I4,pk',q4⟩=>?_)
  obtain ⟨a,xs,rfl,hx,hk,q⟩:=q4
  cases r1
  have I5:Inv X pins σ H4 { s4 with heap:=s4.heap.push { cls:=.type "slice",data:=.fields #[vl,vu,vs] } }:=I4.kept (t':=s4.toks) fun b ob q=>Heap.get?_push_of_some _ q
  obtain ⟨its,r,ht,hz⟩:=I5.list hx
  have hlen:=r.length
  have hg:wpAny (model X.prog X.w) X.A (getItem (.ref a) (.ref s4.heap.objs.size)) (EP X pins σ Q) X.xe { s4 with heap:=s4.heap.push { cls:=.type "slice",data:=.fields #[vl,vu,vs] } }:=by
    refine wpAny_getItem_list_slice ht.isList (Heap.IsSliceOf.new ..) pl pu pk' hk ?_ (by rw [List.size_toArray] <;> omega)
    have hsz:=slicePick_size_le its.toArray l u k
    rw [slicePick_pk] at hsz ⊢
    refine ⟨.ref (s4.heap.push { cls:=.type "slice",data:=.fields #[vl,vu,vs] }).objs.size,_,I5.laid (t':=s4.toks) (o:=.lst (pk xs l u k)) (fun b ob q=>Heap.get?_push_of_some _ q) (Nat.le_refl _) ?_,rfl,q _ (I5.hok.fresh (Nat.le_refl _))⟩
    refine ⟨?_,_,0,r.pk,Heap.get?_push_size _ rfl⟩
    have e:=(r.pk (lo:=l) (hi:=u) (st:=k)).length
    rw [List.size_toArray,List.size_toArray] at hsz
    omega
  show wpAny (model X.prog X.w) X.A (subscriptTail e (.Slice lo hi (some st) p2) (.ref a) (.ref s4.heap.objs.size)) (EP X pins σ Q) X.xe { s4 with heap:=s4.heap.push { cls:=.type "slice",data:=.fields #[vl,vu,vs] } }
  exact tail_any (ops:=[.ref a,.ref s4.heap.objs.size]) ht.isList.typeIs slot_list_getitem.lookup hg (by with_unfolding_all rfl)
end
end L2
namespace PL
open PySem PySem.Spec PyProof.Rows L2
variable {K:FG} {H0 H:Hp} {Z0:ZG} {σ:L2.St} {ρ:Ev} {pd:Pd}
section
variable {X:Cx}
theorem RepL.pick {Z:ZG} {ps:List PV} {vs:List V} (r:RepL K Z ps vs):∀ {l:List Nat},RepL K Z (l.filterMap fun i=>ps[i]?) (l.filterMap fun i=>vs[i]?)
  | []=>RepL.nil
  | i::l=>by
    have hl:=r.length
    cases h:ps[i]? with
    | none=>
      have h':vs[i]?=none:=by rw [List.getElem?_eq_none_iff] at h ⊢; omega
      rw [List.filterMap_cons_none h,List.filterMap_cons_none h']
      exact r.pick
    | some x=>
      obtain ⟨u,h',ru⟩:=r.get h
      rw [List.filterMap_cons_some h,List.filterMap_cons_some h']
      exact RepL.cons ru r.pick
theorem RepL.pk {Z:ZG} {ps:List PV} {vs:List V} {lo hi st:Option Int} (r:RepL K Z ps vs):RepL K Z (L2.pk ps lo hi st) (L2.pk vs lo hi st):=by
  unfold L2.pk
  rw [r.length]
  exact r.pick
noncomputable def eSl3 (f:EF) (lo hi st:OF):EF:=fun ρ=>(f ρ).bind fun x=>(lo x.2).bind fun y=>(hi y.2).bind fun z=>(st z.2).bind fun t=>match x.1.pv with
  | .lst ps=>if t.1 ≠ some 0 then some (.own (.lst (pk ps y.1 z.1 t.1)),t.2) else none
  | _=>none
theorem qslice3 {e:Expr} {lo hi:Option Expr} {st:Expr} {p2 pos:Pos} {f:EF} {fl fh fs:OF} (he:PE X e (tP X.K f)) (hl:PO X lo (tPO X.K fl)) (hu:PO X hi (tPO X.K fh)) (ht:PO X (some st) (tPO X.K fs)):
    PE X (.Subscript e (.Slice lo hi (some st) p2) pos) (tP X.K (eSl3 f fl fh fs)):=PE.imp (pe_slice3 he hl hu ht) fun σ H Q q=>by
  obtain ⟨H0,Z0,ρ,pd,r,ρ',s,h,k⟩:=q
  obtain ⟨x,h1,h2⟩:=bind_some h
  obtain ⟨y,h3,h4⟩:=bind_some h2
  obtain ⟨z,h5,h6⟩:=bind_some h4
  obtain ⟨t,h7,h8⟩:=bind_some h6
  refine ⟨H0,Z0,ρ,pd,x.1,x.2,s,h1,fun v H1 s1=>⟨H0,Z0,x.2,_,y.1,y.2,s1.freeze,h3,fun H2 s2=>⟨H0,Z0,y.2,_,z.1,z.2,s2,h5,fun H3 s3=>⟨H0,Z0,z.2,_,t.1,t.2,s3,h7,fun H4 s4=>?_⟩⟩⟩⟩
  split at h8
  · rename_i ps e
    split at h8
    · rename_i hk
      cases h8
      rw [e] at s4
      obtain ⟨el,Z,hg,zz,r1,s5⟩:=s4.sh
      unfold Rep at r1
      obtain ⟨a,vs,rfl,g1,g2⟩:=r1
      refine ⟨a,vs,rfl,SqL.same zz.zh g1,hk,fun p hp=>k _ _ ?_⟩
      obtain ⟨z',s'⟩:=s5.new (o:=.lst (pk vs y.1 z.1 t.1)) (p:=.lst (pk ps y.1 z.1 t.1)) zz hp ⟨_,upd_same,g2.pk⟩
      exact .mk el hg z' s'
    · cases h8
  · cases h8
end
section
variable {X:Cx}
theorem ints_at {ys:List V} {its:List Value} {ns:List Int} (rv:Vals ys its) (e:ys=ns.map V.int):∀ (i:Nat) (v:Value),its.toArray[i]?=some v->∃ t,v=Value.int (ns.getD i 0) t:=fun i v h=>by
  subst e
  have h':its[i]?=some v:=by simpa using h
  have hi:i < ns.length:=by
    have:=rv.length
    rw [List.length_map] at this
    have:=(List.getElem?_eq_some_iff.mp h').1
    omega
  obtain ⟨u,hu,ru⟩:=rv.get (i:=i) (x:=.int ns[i]) (by rw [List.getElem?_map,List.getElem?_eq_getElem hi]; rfl)
  rw [h'] at hu
  cases hu
  obtain ⟨t,rfl⟩:=ru
  exact ⟨t,by rw [List.getD_eq_getElem?_getD,List.getElem?_eq_getElem hi]; rfl⟩
noncomputable def rMin1 (K:FG):List V->Hp->VK->Prop:=fun xs H Q=>∃ (p:Addr) (ns:List Int) (m:Int),xs=[.ref p]/\SqL K H p (ns.map V.int)/\m ∈ ns/\(∀ a ∈ ns,m<=a)/\Q (.int m) H
theorem call_min1 (hc:X.calm=true):CallR X (.builtin "min") (rMin1 X.K):=by
  intro pins s σ H xs us Q I r h
  obtain ⟨p,ns,m,rfl,hq,hm,hlo,q⟩:=h
  obtain ⟨u,rfl,ru⟩:=vals1 r
  cases ru
  obtain ⟨its,rv,pl,_⟩:=I.list hq
  have hlt:p < s.heap.objs.size:=by obtain ⟨o,n,g1,_⟩:=pl; exact Heap.lt_size g1
  refine call_min_walk (wpAny_pyIter_list pl.isList ?_)
  have old:∀ b o,s.heap.get? b=some o->(s.heap.push { cls:=.type "list_iterator",data:=.fields #[.ref p,.int 0 0] }).get? b=some o:=fun b o e=>Heap.get?_push_of_some _ e
  have hl:its.toArray.size=ns.length:=by rw [List.size_toArray,← rv.length,List.length_map]
  have h0:0 < ns.length:=List.length_pos_of_mem hm
  refine ⟨s.heap.objs.size,_,_,_,_,_,_,rfl,Walks.list (A:=X.A.in1) (show X.A.in1.handled=none from I.ok.hd hc) _ p (Nat.ne_of_lt hlt) its.toArray,⟨⟨_,Heap.get?_push_size _ rfl,rfl,rfl⟩,?_⟩,fun b hb=>?_,by omega,CmpOf.ints_lt (fun i=>ns.getD i 0) (ints_at rv rfl),fun v h' tk hv hk=>?_⟩
  · obtain ⟨o,g1,g2⟩:=pl.isList
    exact ⟨o,old _ _ g1,g2⟩
  · rw [Heap.size_push]
    simp only [List.mem_cons,List.not_mem_nil,or_false] at hb
    rcases hb with rfl | rfl
    · exact Nat.lt_succ_self _
    · exact Nat.lt_succ_of_lt hlt
  · obtain ⟨t,rfl⟩:=ints_at rv rfl _ _ hv
    obtain ⟨b1,b2⟩:=argBest_lt (fun i=>ns.getD i 0) (its.toArray.size - 1)
    rw [hl] at b1 b2
    rw [hl]
    generalize hj:argBest (fun i j=>decide (ns.getD i 0 < ns.getD j 0)) (ns.length - 1)=j at b1 b2
    have hj':j < ns.length:=by omega
    have e:ns.getD j 0=m:=by
      obtain ⟨i,hi,e⟩:=List.getElem_of_mem hm
      have h1:=b2 i (by omega)
      have e2:ns.getD i 0=m:=by rw [List.getD_eq_getElem?_getD,List.getElem?_eq_getElem hi]; exact e
      have e3:ns.getD j 0 ∈ ns:=by rw [List.getD_eq_getElem?_getD,List.getElem?_eq_getElem hj']; exact List.getElem_mem hj'
      have h2:=hlo _ e3
      have h3:ns.getD j 0<=ns.getD i 0:=h1
      omega
    refine ⟨.int m,H,I.kept (t':=tk) fun b o e=>hk b o ?_ (old b o e),⟨t,by rw [e]⟩,q⟩
    have:=Heap.lt_size e
    simp
    exact Nat.ne_of_lt this
noncomputable def minP1:PV->Option Lc
  | .lst ps=>(intsP ps).bind fun ns=>ns.min?.map fun m=>.sh (.int m)
  | _=>none
noncomputable abbrev min1:List PV->Option Lc:=fun ps=>match ps with | [p]=>minP1 p | _=>none
theorem cs_min1:CallS K (rMin1 K) min1:=CallS.one fun H0 Z0 σ ρ pd H v p l Q s e k=>by
  have s0:=s.pop
  obtain ⟨el,Z,hg,z,r,s1⟩:=s.sh
  cases p with
  | lst ps=>
    obtain ⟨ns,h1,h2⟩:=bind_some e
    obtain ⟨m,hm,rfl⟩:=map_some h2
    unfold Rep at r
    obtain ⟨a,vs,rfl,h3,h4⟩:=r
    have ev:=intsP_rep h1 h4
    subst ev
    obtain ⟨m1,m2⟩:=List.min?_eq_some_iff.mp hm
    exact ⟨a,ns,m,rfl,SqL.same z.zh h3,m1,m2,k _ _ (s0.scal fun Z=>rep_int _)⟩
  | _=>cases e
end
section
variable {X:Cx}
theorem SR.lstAt {v:V} {n:Nat} {ps:List PV} (s:SR K H0 Z0 σ H ρ ((v,.sh (.ptr n))::pd)) (hm:ρ.mu[n]?=some (some (.lst ps))):
    ∃ a vs,v=.ref a/\H a=some (.lst vs)/\vs.length=ps.length/\∀ (i:Nat) p,ps[i]?=some p->∃ u,vs[i]?=some u/\SR K H0 Z0 σ H ρ ((u,.sh p)::(v,.sh (.ptr n))::pd):=by
  have sdup:SR K H0 Z0 σ H ρ ((v,.sh (.ptr n))::(v,.sh (.ptr n))::pd):=s.part fun Z _ r=>r
  obtain ⟨a,rfl,s5⟩:=sdup.cellO hm
  obtain ⟨el,Z,hg,z,so⟩:=s5.top
  obtain ⟨_,ea,⟨vs,hu,hr⟩,_⟩:=so.1 _ List.mem_cons_self
  cases ea
  refine ⟨a,vs,rfl,hu,hr.length,fun i p hp=>?_⟩
  obtain ⟨u,h1,h2⟩:=hr.get hp
  refine ⟨u,h1,?_⟩
  have s6:SR K H0 Z0 σ H ⟨ρ.vs,ρ.mu.set n none⟩ ((u,.sh p)::(.ref a,.own (.lst ps))::(.ref a,.sh (.ptr n))::(.ref a,.sh (.ptr n))::pd):=.mk (Z:=Z) el hg z ((so.perm sl_cons).consS h2)
  have s7:SR K H0 Z0 σ H ⟨ρ.vs,ρ.mu.set n none⟩ ((.ref a,.own (.lst ps))::(.ref a,.sh (.ptr n))::(u,.sh p)::(.ref a,.sh (.ptr n))::pd):=s6.perm (((List.Perm.swap _ _ _).cons _).trans (List.Perm.swap _ _ _))
  exact SR.cellB (pe:=pd) hm s7
noncomputable def Holds (o:Option Nat) (ps:List PV) (ρ:Ev):Prop:=∀ n,o=some n->ρ.mu[n]?=some (some (.lst ps))
noncomputable def ItC (K:FG) (H0:Hp) (Z0:ZG) (pd:Pd) (J:It) (o:Option Nat) (ps:List PV):Prop:=∀ σ H ρ (i:Nat),SR K H0 Z0 σ H ρ pd->Holds o ps ρ->
  (∀ x,ps[i]?=some x->J.go i H/\∀ v H',J.yld i H v H'->SR K H0 Z0 σ H' ρ ((v,.sh x)::pd))/\(i=ps.length->J.stop i H)
theorem itc_list {H0:Hp} {a:Addr} {n:Nat} {ps:List PV}:ItC K H0 Z0 ((.ref a,.sh (.ptr n))::pd) (Itl K a) (some n) ps:=by
  intro σ H ρ i s hm
  obtain ⟨b,vs,e,hH,hl,hg⟩:=s.lstAt (hm n rfl)
  cases e
  refine ⟨fun x hx=>?_,fun h=>⟨vs,SqL.of hH,by omega⟩⟩
  obtain ⟨u,h1,s2⟩:=hg i x hx
  refine ⟨⟨vs,u,SqL.of hH,h1⟩,fun v' H' y=>?_⟩
  obtain ⟨e',y⟩:=y
  subst e'
  have:=y vs (SqL.of hH)
  rw [h1] at this; cases this
  exact s2
noncomputable abbrev IFC:=Ev->Option (Option Nat × List PV × Ev)
noncomputable def iCell (f:EF):IFC:=fun ρ=>(f ρ).bind fun x=>match x.1.pv with
  | .lst ps=>some (none,ps,x.2)
  | .ptr n=>match x.2.mu[n]? with
    | some (some (.lst ps))=>some (some n,ps,x.2)
    | _=>none
  | _=>none
noncomputable def tPIC (K:FG) (f:IFC):TI:=fun σ H R=>∃ H0 Z0 ρ pd o xs ρ',SR K H0 Z0 σ H ρ pd/\f ρ=some (o,xs,ρ')/\∀ J H' pd',SR K H0 Z0 σ H' ρ' pd'->ItC K H0 Z0 pd' J o xs->List.Sublist pd pd'->R J H'
theorem qi_cell {tg l:Expr} {f:EF} (hl:PE X l (tP X.K f)):PI X tg l (tPIC X.K (iCell f)):=PI.imp (pi_list hl) fun σ H R q=>by
  obtain ⟨H0,Z0,ρ,pd,n,xs,ρ',s,h,k⟩:=q
  obtain ⟨x,h1,h2⟩:=bind_some h
  refine ⟨H0,Z0,ρ,pd,x.1,x.2,s,h1,fun v H1 s1=>?_⟩
  have s2:=s1.freeze
  split at h2
  · rename_i ps en
    cases h2
    rw [en] at s2
    obtain ⟨Z,z,r⟩:=s2.rep
    unfold Rep at r
    obtain ⟨b,vs,rfl,h1',h2'⟩:=r
    exact ⟨b,rfl,⟨vs,SqL.same z h1'⟩,k _ _ _ s2 (fun σ H ρ i s _=>itok_list σ H ρ i s) (List.sublist_cons_self _ _)⟩
  · rename_i m en
    split at h2
    · rename_i ps em
      cases h2
      rw [en] at s2
      obtain ⟨a,vs,rfl,hH,_,_⟩:=s2.lstAt em
      exact ⟨a,rfl,⟨vs,SqL.of hH⟩,k _ _ _ s2 itc_list (List.sublist_cons_self _ _)⟩
    · cases h2
  · cases h2
open Classical in
noncomputable def forC (o:Option Nat) (ps:List PV) (b:BF) (body:SF):List PV->SF
  | [],ρ=>if Holds o ps ρ then some (.nx ρ) else none
  | x::xs,ρ=>if Holds o ps ρ then (b x ρ).bind fun ρ1=>(body ρ1).bind fun fl=>match fl with
    | .nx ρ'=>forC o ps b body xs ρ'
    | .ct ρ'=>forC o ps b body xs ρ'
    | .bk ρ'=>some (.nx ρ')
    | .rt r ρ'=>some (.rt r ρ') else none
noncomputable def sForC (f:IFC) (b:BF) (body:SF):SF:=fun ρ=>(f ρ).bind fun y=>forC y.1 y.2.1 b body y.2.1 y.2.2
theorem ite_of {α:Type} {c:Prop} {_:Decidable c} {o:Option α} {r:α} (h:(if c then o else none)=some r):c/\o=some r:=by
  split at h
  · rename_i hc
    exact ⟨hc,h⟩
  · cases h
theorem qs_forC {tg iter:Expr} {body:List Stmt} {f:IFC} {g:TG} {b:BF} {fb:SF} {pos:Pos} (hp:PassesOwn (model X.prog X.w) X.A X.env X.xe) (hc:X.calm=true) (hi:PI X tg iter (tPIC X.K f)) (hg:PG X tg g) (hb':GS X.K g b) (hb:PSs X body (tPs X.K fb))
    (hs:∀ x,foldedSetIterable iter X.env x=pure x:=by intro _; rfl):PS X (.For tg iter body [] pos) (tPs X.K (sForC f b fb)):=PS.imp (ps_for hp hc hi hg hb hs) fun D σ H q=>by
  obtain ⟨H0,Z0,ρ,pd,fl,s,h,k⟩:=q
  obtain ⟨⟨n,ps,ρ0⟩,h1,h2⟩:=bind_some h
  have h2:forC n ps b fb ps ρ0=some fl:=h2
  refine ⟨H0,Z0,ρ,pd,n,ps,ρ0,s,h1,fun J H1 pd' s1 it sub=>?_⟩
  refine ⟨fun i m σ' H'=>m=ps.length - i/\i<=ps.length/\∃ ρ',SR X.K H0 Z0 σ' H' ρ' pd'/\forC n ps b fb (ps.drop i) ρ'=some fl,⟨_,rfl,Nat.zero_le _,ρ0,s1,h2⟩,?_⟩
  rintro i m σ' H' ⟨rfl,hi,ρ',s',h'⟩
  by_cases hlt:i < ps.length
  · have hx:ps[i]?=some ps[i]:=List.getElem?_eq_getElem hlt
    rw [List.drop_eq_getElem_cons hlt] at h'
    unfold forC at h'
    obtain ⟨hm,h'⟩:=ite_of h'
    obtain ⟨i1,_⟩:=it σ' H' ρ' i s' hm
    obtain ⟨go,yl⟩:=i1 _ hx
    obtain ⟨ρ1,e1,e2⟩:=bind_some h'
    obtain ⟨fl1,e3,e4⟩:=bind_some e2
    refine .inr ⟨go,fun σ'' H''=>∃ ρ'',SR X.K H0 Z0 σ'' H'' ρ'' pd'/\forC n ps b fb (ps.drop (i + 1)) ρ''=some fl,fun σ'' H'' ⟨ρ'',s'',h''⟩=>⟨ps.length - (i + 1),by omega,rfl,hlt,ρ'',s'',h''⟩,fun x H2 hy=>?_⟩
    refine hb' H0 Z0 σ' H2 ρ' pd' x _ ρ1 _ (yl x H2 hy) e1 fun σ2 s2=>?_
    refine ⟨H0,Z0,ρ1,pd',fl1,s2,e3,?_⟩
    cases fl1 with
    | nx ρ2=>exact fun σ3 H3 s3=>⟨ρ2,s3,e4⟩
    | ct ρ2=>exact fun σ3 H3 s3=>⟨ρ2,s3,e4⟩
    | bk ρ2=>cases e4; exact fun σ3 H3 s3=>k σ3 H3 (s3.sub sub)
    | rt r ρ2=>cases e4; exact fun v σ3 H3 s3=>k v σ3 H3 (s3.sub (sub.cons_cons _))
  · have e:i=ps.length:=by omega
    subst e
    rw [List.drop_length] at h'
    unfold forC at h'
    obtain ⟨hm,h'⟩:=ite_of h'
    cases h'
    obtain ⟨_,i2⟩:=it σ' H' ρ' ps.length s' hm
    exact .inl ⟨i2 rfl,k σ' H' (s'.sub sub)⟩
theorem forC_nx {o:Option Nat} {ps:List PV} {b:BF} {body:SF} {x:PV} {xs:List PV} {ρ ρ1 ρ2:Ev} {r:Fl} (hm:Holds o ps ρ) (e1:b x ρ=some ρ1) (e2:body ρ1=some (.nx ρ2)) (e3:forC o ps b body xs ρ2=some r):forC o ps b body (x::xs) ρ=some r:=by
  unfold forC
  rw [if_pos hm,e1]
  show (body ρ1).bind _=_
  rw [e2]
  exact e3
theorem forC_end {o:Option Nat} {ps:List PV} {b:BF} {body:SF} (hm:Holds o ps ρ):forC o ps b body [] ρ=some (.nx ρ):=by
  unfold forC
  rw [if_pos hm]
noncomputable def eFldR (C f:Str) (fo:EF):EF:=fun ρ=>(fo ρ).bind fun x=>match x.1.pv with
  | .obj D ks ps=>if D=C then (lookP (ks.zip ps) f).map fun p=>(.sh p,x.2) else none
  | _=>none
theorem qfldR {C f:Str} {c:Addr} {o:Expr} {fo:EF} {pos:Pos} (T:ClsT X.K X.mg C c) (na:NoAttr X.K c f) (ho:PE X o (tP X.K fo)) (hb:attributeBase o f X.env (eval o X.env)=eval o X.env:=by rfl):PE X (.Attribute o f pos) (tP X.K (eFldR C f fo)):=PE.imp (pe_fld ho hb) fun σ H Q q=>by
  obtain ⟨H0,Z0,ρ,pd,l,ρ',s,h,k⟩:=q
  obtain ⟨x,h1,h2⟩:=bind_some h
  refine ⟨H0,Z0,ρ,pd,x.1,x.2,s,h1,fun v H1 s1=>?_⟩
  split at h2
  · rename_i D ks ps en
    split at h2
    · rename_i eD
      subst eD
      obtain ⟨p,h3,h4⟩:=map_some h2
      cases h4
      have s2:=s1.freeze
      rw [en] at s2
      obtain ⟨el,Z,hg,z,r,s3⟩:=s2.sh
      unfold Rep at r
      obtain ⟨a,c',dx,fs,rfl,cn,hz,hk,hr⟩:=r
      have:=cn_eq T.cn cn
      subst this
      obtain ⟨u,h5,h6⟩:=(repF_mk hk hr).look.1 p h3
      exact ⟨a,c,dx,fs,u,rfl,z.zh a _ hz,T.cl,na,h5,k u H1 (.mk el hg z (s3.consS h6))⟩
    · cases h2
  · cases h2
noncomputable def sealV (i:Nat) (ρ:Ev):Option Ev:=match ρ.vs[i]? with
  | some (some (.own (.lst ws)))=>some ⟨ρ.vs.set i (some (.sh (.ptr ρ.mu.length))),ρ.mu++[some (.lst ws)]⟩
  | _=>none
noncomputable def sSealV (i:Nat) (f:SF):SF:=fun ρ=>(sealV i ρ).bind f
theorem SR.sealV {ρ ρ':Ev} {i:Nat} (s:SR K H0 Z0 σ H ρ pd) (h:PL.sealV i ρ=some ρ'):SR K H0 Z0 σ H ρ' pd:=by
  unfold PL.sealV at h
  split at h
  · rename_i ws e0
    cases h
    obtain ⟨a,ea,_,s1⟩:=s.takeO e0
    have s2:=s1.toCell.put ea
    have e:(ρ.vs.set i none).set i (some (Lc.sh (.ptr ρ.mu.length)))=ρ.vs.set i (some (.sh (.ptr ρ.mu.length))):=List.set_set _
    have s3:SR K H0 Z0 σ H ⟨(ρ.vs.set i none).set i (some (Lc.sh (.ptr ρ.mu.length))),ρ.mu++[some (.lst ws)]⟩ pd:=s2
    rw [e] at s3
    exact s3
  · cases h
theorem qs_seal {i:Nat} {st:Stmt} {f:SF} (h:PS X st (tPs X.K f)):PS X st (tPs X.K (sSealV i f)):=PS.imp h fun D σ H q=>by
  obtain ⟨H0,Z0,ρ,pd,fl,s,h,k⟩:=q
  obtain ⟨ρ1,h1,h2⟩:=bind_some h
  exact ⟨H0,Z0,ρ1,pd,fl,s.sealV h1,h2,k⟩
end
end PL
namespace Law
open PySem PySem.Spec PyProof.Rows L2 PL
noncomputable def top (i:Nat):Stmt:=PySem.Challenge.pw_hushwise_k04_one_under_another.main.body.getD i (.Pass ⟨0,0,0,0⟩)
noncomputable abbrev s_is_name:Stmt:=top 7
noncomputable abbrev s_straight_above:Stmt:=top 8
noncomputable abbrev s_ring_of:Stmt:=top 9
noncomputable abbrev s_ring_within:Stmt:=top 10
noncomputable abbrev s_climbed:Stmt:=top 11
noncomputable abbrev s_all_above:Stmt:=top 12
noncomputable abbrev s_all_beneath:Stmt:=top 13
noncomputable abbrev s_bound:Stmt:=top 14
noncomputable abbrev s_bounds:Stmt:=top 15
noncomputable abbrev s_unbound:Stmt:=top 16
noncomputable abbrev s_lack_of:Stmt:=top 17
noncomputable abbrev s_refuse_names:Stmt:=top 18
noncomputable abbrev s_refuse_order:Stmt:=top 19
noncomputable abbrev s__law_cell_at:Stmt:=top 22
noncomputable abbrev s__law_masks:Stmt:=top 23
noncomputable abbrev s__law_names:Stmt:=top 24
noncomputable abbrev s__law_is_under:Stmt:=top 25
noncomputable abbrev s__law_neighbours:Stmt:=top 26
noncomputable abbrev s__law_pairs:Stmt:=top 27
noncomputable abbrev s__law_order:Stmt:=top 28
noncomputable abbrev s__law_right:Stmt:=top 29
noncomputable abbrev s_law:Stmt:=top 30
noncomputable abbrev s_Order____init__:Stmt:=inClass (top 20) 0
noncomputable abbrev s_Order__refuse_stranger:Stmt:=inClass (top 20) 1
noncomputable abbrev s_Order__ranks:Stmt:=inClass (top 20) 2
noncomputable abbrev s_Order__under:Stmt:=inClass (top 20) 3
noncomputable abbrev s_Order__least:Stmt:=inClass (top 20) 7
noncomputable abbrev s_Order__greatest:Stmt:=inClass (top 20) 8
theorem sc_is_name:FnScope ["text"] ["text"] (defScope s_is_name):=⟨rfl,rfl,rfl,by decide +kernel,rfl,by decide +kernel,by decide +kernel⟩
theorem sc_straight_above:FnScope ["some", "pairs", "name"] ["some", "pairs", "name"] (defScope s_straight_above):=⟨rfl,rfl,rfl,by decide +kernel,rfl,by decide +kernel,by decide +kernel⟩
theorem sc_ring_of:FnScope ["names", "pairs", "rest", "climbing"] ["names", "pairs"] (defScope s_ring_of):=⟨rfl,rfl,rfl,by decide +kernel,rfl,by decide +kernel,by decide +kernel⟩
theorem sc_ring_within:FnScope ["some", "pairs", "walk", "above"] ["some", "pairs"] (defScope s_ring_within):=⟨rfl,rfl,rfl,by decide +kernel,rfl,by decide +kernel,by decide +kernel⟩
theorem sc_climbed:FnScope ["name", "pairs", "met", "grown", "low", "high"] ["name", "pairs"] (defScope s_climbed):=⟨rfl,rfl,rfl,by decide +kernel,rfl,by decide +kernel,by decide +kernel⟩
theorem sc_all_above:FnScope ["names", "pairs", "above", "name"] ["names", "pairs"] (defScope s_all_above):=⟨rfl,rfl,rfl,by decide +kernel,rfl,by decide +kernel,by decide +kernel⟩
theorem sc_all_beneath:FnScope ["names", "pairs"] ["names", "pairs"] (defScope s_all_beneath):=⟨rfl,rfl,rfl,by decide +kernel,rfl,by decide +kernel,by decide +kernel⟩
theorem sc_bound:FnScope ["reach", "one", "other", "shared", "rank"] ["reach", "one", "other"] (defScope s_bound):=⟨rfl,rfl,rfl,by decide +kernel,rfl,by decide +kernel,by decide +kernel⟩
theorem sc_bounds:FnScope ["reach", "told", "one", "other"] ["reach"] (defScope s_bounds):=⟨rfl,rfl,rfl,by decide +kernel,rfl,by decide +kernel,by decide +kernel⟩
theorem sc_unbound:FnScope ["reach", "both", "rank"] ["reach"] (defScope s_unbound):=⟨rfl,rfl,rfl,by decide +kernel,rfl,by decide +kernel,by decide +kernel⟩
theorem sc_lack_of:FnScope ["names", "pairs", "apart"] ["names", "pairs"] (defScope s_lack_of):=⟨rfl,rfl,rfl,by decide +kernel,rfl,by decide +kernel,by decide +kernel⟩
theorem sc_refuse_names:FnScope ["names", "pairs", "name", "low", "high"] ["names", "pairs"] (defScope s_refuse_names):=⟨rfl,rfl,rfl,by decide +kernel,rfl,by decide +kernel,by decide +kernel⟩
theorem sc_refuse_order:FnScope ["names", "pairs", "ring", "lack"] ["names", "pairs"] (defScope s_refuse_order):=⟨rfl,rfl,rfl,by decide +kernel,rfl,by decide +kernel,by decide +kernel⟩
theorem sc__law_cell_at:FnScope ["_law_script", "_law_k"] ["_law_script", "_law_k"] (defScope s__law_cell_at):=⟨rfl,rfl,rfl,by decide +kernel,rfl,by decide +kernel,by decide +kernel⟩
theorem sc__law_masks:FnScope ["_law_cells", "_law_masks_here", "_law_cell", "_law_more", "_law_mask"] ["_law_cells"] (defScope s__law_masks):=⟨rfl,rfl,rfl,by decide +kernel,rfl,by decide +kernel,by decide +kernel⟩
theorem sc__law_names:FnScope ["_law_cell", "_law_count", "_law_letters", "_law_names_here", "_law_text", "_law_k", "_law_size", "_law_at", "_law_signs"] ["_law_cell", "_law_count"] (defScope s__law_names):=⟨rfl,rfl,rfl,by decide +kernel,rfl,by decide +kernel,by decide +kernel⟩
theorem sc__law_is_under:FnScope ["_law_one", "_law_other"] ["_law_one", "_law_other"] (defScope s__law_is_under):=⟨rfl,rfl,rfl,by decide +kernel,rfl,by decide +kernel,by decide +kernel⟩
theorem sc__law_neighbours:FnScope ["_law_masks_here", "_law_pairs_here", "_law_one", "_law_other", "_law_amid"] ["_law_masks_here"] (defScope s__law_neighbours):=⟨rfl,rfl,rfl,by decide +kernel,rfl,by decide +kernel,by decide +kernel⟩
theorem sc__law_pairs:FnScope ["_law_masks_here", "_law_cells", "_law_pairs_here", "_law_cell", "_law_one", "_law_other"] ["_law_masks_here", "_law_cells"] (defScope s__law_pairs):=⟨rfl,rfl,rfl,by decide +kernel,rfl,by decide +kernel,by decide +kernel⟩
theorem sc__law_order:FnScope ["_law_script", "_law_at", "_law_count", "_law_masks_here", "_law_turn", "_law_names_here", "_law_pairs_here", "_law_one", "_law_other"] ["_law_script", "_law_at", "_law_count"] (defScope s__law_order):=⟨rfl,rfl,rfl,by decide +kernel,rfl,by decide +kernel,by decide +kernel⟩
theorem sc__law_right:FnScope ["_law_order_here", "_law_masks_here", "_law_names_here", "_law_told", "_law_again", "_law_one", "_law_name", "_law_other", "_law_twin", "_law_got"] ["_law_order_here", "_law_masks_here", "_law_names_here"] (defScope s__law_right):=⟨rfl,rfl,rfl,by decide +kernel,rfl,by decide +kernel,by decide +kernel⟩
theorem sc_law:FnScope ["_law_script", "_law_masks_here", "_law_names_here", "_law_pairs_here", "_law_others", "_law_twin", "_law_given", "_law_handed", "_law_first", "_law_second"] ["_law_script"] (defScope s_law):=⟨rfl,rfl,rfl,by decide +kernel,rfl,by decide +kernel,by decide +kernel⟩
theorem sc_Order____init__:FnScope ["self", "names", "pairs"] ["self", "names", "pairs"] (defScope s_Order____init__):=⟨rfl,rfl,rfl,by decide +kernel,rfl,by decide +kernel,by decide +kernel⟩
theorem sc_Order__refuse_stranger:FnScope ["self", "rank"] ["self", "rank"] (defScope s_Order__refuse_stranger):=⟨rfl,rfl,rfl,by decide +kernel,rfl,by decide +kernel,by decide +kernel⟩
theorem sc_Order__ranks:FnScope ["self"] ["self"] (defScope s_Order__ranks):=⟨rfl,rfl,rfl,by decide +kernel,rfl,by decide +kernel,by decide +kernel⟩
theorem sc_Order__under:FnScope ["self", "one", "other"] ["self", "one", "other"] (defScope s_Order__under):=⟨rfl,rfl,rfl,by decide +kernel,rfl,by decide +kernel,by decide +kernel⟩
theorem sc_Order__least:FnScope ["self"] ["self"] (defScope s_Order__least):=⟨rfl,rfl,rfl,by decide +kernel,rfl,by decide +kernel,by decide +kernel⟩
theorem sc_Order__greatest:FnScope ["self"] ["self"] (defScope s_Order__greatest):=⟨rfl,rfl,rfl,by decide +kernel,rfl,by decide +kernel,by decide +kernel⟩
noncomputable def k_LETTERS:PV:=(.str "abcdefghijklmnopqrstuvwxyz")
noncomputable def m_is_name:GF:=runP 1 (sRet (eAnd (eChain leP leP (eC (.int 1)) (eB len1 (aCons (eVar 0) aNil)) (eC (.int 8))) (eB all1 (aCons (eComp (iOf (eVar 0) walkP) 1 [] (bName 0) cTrue (eOp inP (eVar 0) (eC k_LETTERS))) aNil))))
noncomputable def m_straight_above:GF:=runP 3 (sRet (eComp (iOf (eVar 1) walkP) 2 [2,0] (bSeq 2 (bCons (bName 0) (bCons (bName 1) bNil))) (tAndF (tT (eOp eqP (eVar 0) (eVar 2)) blP) (tAndF (tT (eOp neP (eVar 1) (eVar 2)) blP) (tT (eOp inP (eVar 1) (eVar 3)) blP))) (eVar 1)))
noncomputable def m_ring_within:GF:=runP 4 (sSeq (sSet 2 (eLst (aCons (eIx (eVar 0) (eC (.int 0))) aNil)))
    (sSeq (sSet 3 (eIx (eCall m_straight_above (aCons (eVar 0) (aCons (eVar 1) (aCons (eIx (eVar 0) (eC (.int 0))) aNil)))) (eC (.int 0))))
    (sSeq (sWhile 20 (tRead (tT (eOp ninP (eVar 3) (eVar 2)) blP))
    (sSeq (sApp 2 (eVar 3))
    (sSet 3 (eIx (eCall m_straight_above (aCons (eVar 0) (aCons (eVar 1) (aCons (eVar 3) aNil)))) (eC (.int 0))))))
    (sRet (eRead (eSlx (eVar 2) (oSome (eIndex (eVar 2) (eVar 3))) oNone))))))
noncomputable def m_ring_of:GF:=runP 4 (sSeq (sSet 2 (eB list1 (aCons (eVar 0) aNil)))
    (sSeq (sSet 3 (eComp (iOf (eVar 2) walkP) 1 [2,1] (bName 0) (tT (eCall m_straight_above (aCons (eVar 1) (aCons (eVar 2) (aCons (eVar 0) aNil)))) truP) (eVar 0)))
    (sSeq (sWhile 20 (tT (eOp ltP (eB len1 (aCons (eVar 3) aNil)) (eB len1 (aCons (eVar 2) aNil))) blP)
    (sSeq (sSet 2 (eVar 3))
    (sSet 3 (eComp (iOf (eVar 2) walkP) 1 [2,1] (bName 0) (tT (eCall m_straight_above (aCons (eVar 1) (aCons (eVar 2) (aCons (eVar 0) aNil)))) truP) (eVar 0)))))
    (sSeq (sIf (tNotF (tT (eVar 2) truP))
    (sRet (eC .non))
    sNil)
    (sRet (eCall m_ring_within (aCons (eVar 2) (aCons (eVar 1) aNil))))))))
noncomputable def m_climbed:GF:=runP 6 (sSeq (sSet 2 (eLst (aCons (eVar 0) aNil)))
    (sSeq (sSet 3 (eC (.bl true)))
    (sSeq (sWhile 70 (tT (eVar 3) truP)
    (sSeq (sSet 3 (eC (.bl false)))
    (sFor (iOf (eVar 1) walkP) (bSeq 2 (bCons (bName 4) (bCons (bName 5) bNil)))
    (sIf (tRead (tAndF (tT (eOp inP (eVar 4) (eVar 2)) blP) (tT (eOp ninP (eVar 5) (eVar 2)) blP)))
    (sSeq (sApp 2 (eVar 5))
    (sSet 3 (eC (.bl true))))
    sNil))))
    (sRetV 2))))
noncomputable def m_all_above:GF:=runP 4 (sSeq (sSet 2 eDict0)
    (sSeq (sForC (iCell (eVar 0)) (bName 3)
    (sSetD 2 (eVar 3) (eReadC (eCall m_climbed (aCons (eVar 3) (aCons (eVar 1) aNil))))))
    (sRetV 2)))
noncomputable def m_all_beneath:GF:=runP 2 (sRet (eCall m_all_above (aCons (eVar 0) (aCons (eReadC (eComp (iOf (eVar 1) walkP) 2 [] (bSeq 2 (bCons (bName 0) (bCons (bName 1) bNil))) cTrue (eTup (aCons (eVar 1) (aCons (eVar 0) aNil))))) aNil))))
noncomputable def m_bound:GF:=runP 5 (sSeq (sSet 3 (eComp (iOf (eIy (eVar 0) (eVar 1)) walkP) 1 [0,2] (bName 0) (tT (eOp inP (eVar 0) (eIy (eVar 1) (eVar 2))) blP) (eVar 0)))
    (sSeq (sFor (iOf (eVar 3) walkP) (bName 4)
    (sIf (tT (eB all1 (aCons (eComp (iOf (eVar 3) walkP) 1 [0,4] (bName 0) cTrue (eOp inP (eVar 0) (eIy (eVar 1) (eVar 2)))) aNil)) truP)
    (sRetV 4)
    sNil))
    (sRet (eC .non))))
noncomputable def m_bounds:GF:=runP 4 (sSeq (sSet 1 eDictT)
    (sSeq (sFor (iDf (eVar 0)) (bName 2)
    (sFor (iDf (eVar 0)) (bName 3)
    (sSetT 1 (aCons (eVar 2) (aCons (eVar 3) aNil)) (eCall m_bound (aCons (eVar 0) (aCons (eVar 2) (aCons (eVar 3) aNil)))))))
    (sRetV 1)))
noncomputable def m_unbound:GF:=runP 3 (sSeq (sFor (iItm (eFzT (eCall m_bounds (aCons (eVar 0) aNil)))) (bSeq 2 (bCons (bName 1) (bCons (bName 2) bNil)))
    (sIf (tT (eOp isNP (eVar 2) (eC .non)) blP)
    (sRetV 1)
    sNil))
    (sRet (eC .non)))
noncomputable def m_lack_of:GF:=runP 3 (sSeq (sSet 2 (eCall m_unbound (aCons (eFz (eCall m_all_above (aCons (eVar 0) (aCons (eVar 1) aNil)))) aNil)))
    (sSeq (sIf (tT (eOp notNP (eVar 2) (eC .non)) blP)
    (sRet (eTup (aCons (eC (.str "join")) (aCons (eIx (eVar 2) (eC (.int 0))) (aCons (eIx (eVar 2) (eC (.int 1))) aNil)))))
    sNil)
    (sSeq (sSet 2 (eCall m_unbound (aCons (eFz (eCall m_all_beneath (aCons (eVar 0) (aCons (eVar 1) aNil)))) aNil)))
    (sSeq (sIf (tT (eOp notNP (eVar 2) (eC .non)) blP)
    (sRet (eTup (aCons (eC (.str "meet")) (aCons (eIx (eVar 2) (eC (.int 0))) (aCons (eIx (eVar 2) (eC (.int 1))) aNil)))))
    sNil)
    (sRet (eC .non))))))
noncomputable def m_refuse_names:GF:=runP 5 (sSeq (sFor (iOf (eVar 0) walkP) (bName 2)
    (sSeq (sIf (tNotF (tT (eCall m_is_name (aCons (eVar 2) aNil)) truP))
    sFail
    sNil)
    (sIf (tT (eOp gtP (eCount (eVar 0) (eVar 2)) (eC (.int 1))) blP)
    sFail
    sNil)))
    (sFor (iOf (eVar 1) walkP) (bSeq 2 (bCons (bName 3) (bCons (bName 4) bNil)))
    (sIf (tOrF (tT (eOp ninP (eVar 3) (eVar 0)) blP) (tT (eOp ninP (eVar 4) (eVar 0)) blP))
    sFail
    sNil)))
noncomputable def m_refuse_order:GF:=runP 4 (sSeq (sIf (tNotF (tT (eVar 0) truP))
    sFail
    sNil)
    (sSeq (sSet 2 (eCall m_ring_of (aCons (eVar 0) (aCons (eVar 1) aNil))))
    (sSeq (sIf (tT (eOp notNP (eVar 2) (eC .non)) blP)
    sFail
    sNil)
    (sSeq (sSet 3 (eCall m_lack_of (aCons (eVar 0) (aCons (eVar 1) aNil))))
    (sIf (tT (eOp notNP (eVar 3) (eC .non)) blP)
    sFail
    sNil)))))
noncomputable def m__law_cell_at:GF:=runP 2 (sSeq (sIf (tT (eOp ltP (eVar 1) (eB len1 (aCons (eVar 0) aNil))) blP)
    (sRet (eOp modP (eIx (eVar 0) (eVar 1)) (eC (.int 1000000007))))
    sNil)
    (sRet (eC (.int 0))))
noncomputable def m__law_masks:GF:=runP 5 (sSeq (sSet 1 (eLst (aCons (eC (.int 127)) aNil)))
    (sSeq (sFor (iOf (eVar 0) walkP) (bName 2)
    (sSeq (sSet 3 (eB list1 (aCons (eVar 1) aNil)))
    (sSeq (sFor (iOf (eVar 1) walkP) (bName 4)
    (sIf (tRead (tT (eOp ninP (eOp andP (eVar 4) (eOp modP (eVar 2) (eC (.int 128)))) (eVar 3)) blP))
    (sApp 3 (eOp andP (eVar 4) (eOp modP (eVar 2) (eC (.int 128)))))
    sNil))
    (sIf (tRead (tT (eOp leP (eB len1 (aCons (eVar 3) aNil)) (eC (.int 8))) blP))
    (sSet 1 (eVar 3))
    sNil))))
    (sRetV 1)))
noncomputable def m__law_names:GF:=runP 9 (sSeq (sSet 2 (eC (.str "abcdefghijklmnopqrstuvwxyz")))
    (sSeq (sSet 3 (eLst aNil))
    (sSeq (sIf (tT (eOp eqP (eOp modP (eVar 0) (eC (.int 2))) (eC (.int 1))) blP)
    (sSeq (sSet 4 (eJoin (eC (.str "")) (aCons (eComp (iRange1 (aCons (eC (.int 10)) aNil)) 1 [2,0] (bName 0) cTrue (eIx (eVar 1) (eOp modP (eOp addP (eOp fdivP (eVar 2) (eC (.int 2))) (eOp mulP (eC (.int 3)) (eVar 0))) (eC (.int 26))))) aNil)))
    (sSeq (sFor (iRange1 (aCons (eVar 1) aNil)) (bName 5)
    (sApp 3 (eSlx (eVar 4) (oSome (eOp modP (eVar 5) (eC (.int 5)))) (oSome (eOp addP (eOp addP (eOp modP (eVar 5) (eC (.int 5))) (eC (.int 1))) (eOp fdivP (eVar 5) (eC (.int 5))))))))
    (sRetV 3)))
    sNil)
    (sSeq (sSet 6 (eIx (eLst (aCons (eC (.int 1)) (aCons (eC (.int 2)) (aCons (eC (.int 3)) (aCons (eC (.int 5)) (aCons (eC (.int 6)) (aCons (eC (.int 7)) (aCons (eC (.int 8)) aNil)))))))) (eOp modP (eOp fdivP (eVar 0) (eC (.int 2))) (eC (.int 7)))))
    (sSeq (sSet 7 (eOp modP (eOp fdivP (eVar 0) (eC (.int 14))) (eVar 6)))
    (sSeq (sFor (iRange1 (aCons (eVar 1) aNil)) (bName 5)
    (sSeq (sSet 8 (eComp (iRange1 (aCons (eVar 6) aNil)) 1 [2,0] (bName 0) cTrue (eIx (eVar 1) (eOp modP (eOp addP (eOp fdivP (eVar 2) (eOp addP (eVar 0) (eC (.int 1)))) (eOp mulP (eVar 0) (eVar 0))) (eC (.int 26))))))
    (sSeq (sSetI 8 (eVar 7) (eIx (eVar 2) (eOp modP (eOp addP (eOp fdivP (eVar 0) (eC (.int 112))) (eVar 5)) (eC (.int 26)))))
    (sApp 3 (eJoin (eC (.str "")) (aCons (eVar 8) aNil))))))
    (sRetV 3)))))))
noncomputable def m__law_is_under:GF:=runP 2 (sRet (eOp eqP (eOp andP (eVar 0) (eVar 1)) (eVar 0)))
noncomputable def m__law_neighbours:GF:=runP 5 (sSeq (sSet 1 (eLst aNil))
    (sSeq (sFor (iOf (eVar 0) walkP) (bName 2)
    (sFor (iOf (eVar 0) walkP) (bName 3)
    (sIf (tAndF (tT (eOp neP (eVar 2) (eVar 3)) blP) (tT (eCall m__law_is_under (aCons (eVar 2) (aCons (eVar 3) aNil))) truP))
    (sSeq (sSet 4 (eComp (iOf (eVar 0) walkP) 1 [2,3] (bName 0) (tAndF (tT (eCall m__law_is_under (aCons (eVar 1) (aCons (eVar 0) aNil))) truP) (tT (eCall m__law_is_under (aCons (eVar 0) (aCons (eVar 2) aNil))) truP)) (eVar 0)))
    (sIf (tT (eOp eqP (eB len1 (aCons (eVar 4) aNil)) (eC (.int 2))) blP)
    (sApp 1 (eTup (aCons (eVar 2) (aCons (eVar 3) aNil))))
    sNil))
    sNil)))
    (sRetV 1)))
noncomputable def m__law_pairs:GF:=runP 6 (sSeq (sSet 2 (eCall m__law_neighbours (aCons (eVar 0) aNil)))
    (sSeq (sFor (iOf (eVar 1) walkP) (bName 3)
    (sSeq (sSet 4 (eIx (eVar 0) (eOp modP (eVar 3) (eB len1 (aCons (eVar 0) aNil)))))
    (sSeq (sSet 5 (eIx (eVar 0) (eOp modP (eOp fdivP (eVar 3) (eC (.int 8))) (eB len1 (aCons (eVar 0) aNil)))))
    (sIf (tRead (tAndF (tT (eCall m__law_is_under (aCons (eVar 4) (aCons (eVar 5) aNil))) truP) (tT (eOp ltP (eB len1 (aCons (eVar 2) aNil)) (eC (.int 64))) blP)))
    (sIns 2 (aCons (eRead (eOp modP (eOp fdivP (eVar 3) (eC (.int 64))) (eOp addP (eB len1 (aCons (eVar 2) aNil)) (eC (.int 1))))) (aCons (eTup (aCons (eVar 4) (aCons (eVar 5) aNil))) aNil)))
    sNil))))
    (sRetV 2)))
noncomputable def m__law_order:GF:=runP 9 (sSeq (sSet 3 (eCall m__law_masks (aCons (eSlx (eVar 0) (oSome (eVar 1)) (oSome (eOp addP (eVar 1) (eVar 2)))) aNil)))
    (sSeq (sSet 4 (eOp modP (eCall m__law_cell_at (aCons (eVar 0) (aCons (eOp addP (eVar 1) (eVar 2)) aNil))) (eB len1 (aCons (eVar 3) aNil))))
    (sSeq (sSet 3 (eOp addP (eSlx (eVar 3) (oSome (eVar 4)) oNone) (eSlx (eVar 3) oNone (oSome (eVar 4)))))
    (sSeq (sSet 5 (eCall m__law_names (aCons (eOp fdivP (eCall m__law_cell_at (aCons (eVar 0) (aCons (eOp addP (eVar 1) (eVar 2)) aNil))) (eC (.int 8))) (aCons (eB len1 (aCons (eVar 3) aNil)) aNil))))
    (sSeq (sSet 6 (eLst aNil))
    (sSeq (sFor (iOf (eCall m__law_pairs (aCons (eVar 3) (aCons (eSlx (eVar 0) (oSome (eVar 1)) (oSome (eOp addP (eVar 1) (eOp mulP (eC (.int 3)) (eVar 2))))) aNil))) walkP) (bSeq 2 (bCons (bName 7) (bCons (bName 8) bNil)))
    (sApp 6 (eTup (aCons (eIx (eVar 5) (eIndex (eVar 3) (eVar 7))) (aCons (eIx (eVar 5) (eIndex (eVar 3) (eVar 8))) aNil)))))
    (sSealV 6 (sRet (eTup (aCons (eVar 3) (aCons (eVar 5) (aCons (eVar 6) aNil))))))))))))
noncomputable def m_Order__greatest:GF:=runP 1 (sRet (eFld "Order" "highest" (eVar 0)))
noncomputable def m_Order__least:GF:=runP 1 (sRet (eFld "Order" "lowest" (eVar 0)))
noncomputable def m_Order__ranks:GF:=runP 1 (sRet (eB list1 (aCons (eFld "Order" "names" (eVar 0)) aNil)))
noncomputable def m_Order__refuse_stranger:GF:=runP 2 (sIf (tT (eOp ninP (eVar 1) (eFld "Order" "names" (eVar 0))) blP)
    sFail
    sNil)
noncomputable def m_Order__under:GF:=runP 3 (sSeq (sExpr (eMeth "Order" "refuse_stranger" m_Order__refuse_stranger (eVar 0) (aCons (eVar 1) aNil)))
    (sSeq (sExpr (eMeth "Order" "refuse_stranger" m_Order__refuse_stranger (eVar 0) (aCons (eVar 2) aNil)))
    (sRet (eOp inP (eVar 2) (eIy (eFld "Order" "above" (eVar 0)) (eVar 1))))))
noncomputable def m__law_right:GF:=runP 10 (sSeq (sSet 3 (eMeth "Order" "ranks" m_Order__ranks (eVar 0) aNil))
    (sSeq (sSet 4 (eMeth "Order" "ranks" m_Order__ranks (eVar 0) aNil))
    (sSeq (sIf (tRead (tOrF (tNotF (tT (eIs "list" (eVar 3)) truP)) (tT (eOp neP (eVar 3) (eVar 2)) blP)))
    (sRet (eC (.bl false)))
    sNil)
    (sSeq (sRev 3)
    (sSeq (sApp 3 (eIx (eVar 2) (eC (.int 0))))
    (sSeq (sIf (tOrF (tT (eOp neP (eVar 4) (eVar 2)) blP) (tOrF (tT (eOp neP (eMeth "Order" "ranks" m_Order__ranks (eVar 0) aNil) (eVar 2)) blP) (tRead (tT (eOp neP (eVar 3) (eOp addP (eSl3 (eVar 2) oNone oNone (oSome (eNeg (eC (.int 1))))) (eSlx (eVar 2) oNone (oSome (eC (.int 1)))))) blP))))
    (sRet (eC (.bl false)))
    sNil)
    (sSeq (sFor (iZipF (eVar 1) (eVar 2)) (bSeq 2 (bCons (bName 5) (bCons (bName 6) bNil)))
    (sFor (iZipF (eVar 1) (eVar 2)) (bSeq 2 (bCons (bName 7) (bCons (bName 8) bNil)))
    (sSeq (sSet 9 (eMeth "Order" "under" m_Order__under (eVar 0) (aCons (eVar 6) (aCons (eVar 8) aNil))))
    (sIf (tOrF (tNotF (tT (eIs "bool" (eVar 9)) truP)) (tT (eOp neP (eVar 9) (eCall m__law_is_under (aCons (eVar 5) (aCons (eVar 7) aNil)))) blP))
    (sRet (eC (.bl false)))
    sNil))))
    (sRet (eAnd (eOp eqP (eMeth "Order" "least" m_Order__least (eVar 0) aNil) (eIx (eVar 2) (eIndex (eVar 1) (eB min1 (aCons (eVar 1) aNil))))) (eOp eqP (eMeth "Order" "greatest" m_Order__greatest (eVar 0) aNil) (eIx (eVar 2) (eIndex (eVar 1) (eC (.int 127))))))))))))))
noncomputable def m_Order____init__:GF:=runP 3 (sSeq (sExpr (eReadC (eCall m_refuse_names (aCons (eVar 1) (aCons (eVar 2) aNil)))))
    (sSeq (sExpr (eReadC (eCall m_refuse_order (aCons (eVar 1) (aCons (eVar 2) aNil)))))
    (sSeq (sFldP "Order" "names" (eVar 0) (eReadC (eB list1 (aCons (eVar 1) aNil))))
    (sSeq (sFldP "Order" "above" (eVar 0) (eFz (eCall m_all_above (aCons (eVar 1) (aCons (eVar 2) aNil)))))
    (sSeq (sFldP "Order" "joins" (eVar 0) (eCall m_bounds (aCons (eFld "Order" "above" (eVar 0)) aNil)))
    (sSeq (sFldP "Order" "meets" (eVar 0) (eCall m_bounds (aCons (eFz (eCall m_all_beneath (aCons (eVar 1) (aCons (eVar 2) aNil)))) aNil)))
    (sSeq (sFldP "Order" "lowest" (eVar 0) (eReadC (eIy (eComp (iOf (eVar 1) walkP) 1 [0,1] (bName 0) (tT (eOp eqY (eLen (eIy (eFldR "Order" "above" (eVar 1)) (eVar 0))) (eLen (eVar 2))) blP) (eVar 0)) (eC (.int 0)))))
    (sFldP "Order" "highest" (eVar 0) (eReadC (eIy (eComp (iOf (eVar 1) walkP) 1 [0] (bName 0) (tT (eOp eqY (eLen (eIy (eFldR "Order" "above" (eVar 1)) (eVar 0))) (eC (.int 1))) blP) (eVar 0)) (eC (.int 0))))))))))))
noncomputable def m_law:GF:=runP 10 (sSeq (sOpen 3 (sAsg (eCall m__law_order (aCons (eVar 0) (aCons (eC (.int 0)) (aCons (eOp addP (eC (.int 1)) (eOp fdivP (eB len1 (aCons (eVar 0) aNil)) (eC (.int 4)))) aNil)))) (bSeq 3 (bCons (bName 1) (bCons (bName 2) (bCons (bName 3) bNil))))))
    (sSeq (sOpen 6 (sAsg (eCall m__law_order (aCons (eSl3 (eVar 0) oNone oNone (oSome (eNeg (eC (.int 1))))) (aCons (eC (.int 0)) (aCons (eOp addP (eC (.int 1)) (eOp fdivP (eB len1 (aCons (eVar 0) aNil)) (eC (.int 5)))) aNil)))) (bSeq 3 (bCons (bName 4) (bCons (bName 5) (bCons (bName 6) bNil))))))
    (sSeq (sSet 7 (eB list1 (aCons (eVar 2) aNil)))
    (sSeq (sOpen 3 (sOpen 7 (sSealV 7 (sSealV 3 (sSet 8 (eMake "Order" m_Order____init__ (aCons (eVar 7) (aCons (eVar 3) aNil))))))))
    (sSeq (sOpen 6 (sSealV 6 (sSet 9 (eMake "Order" m_Order____init__ (aCons (eVar 5) (aCons (eVar 6) aNil))))))
    (sSeq (sClr 6)
    (sSeq (sIf (tOrF (tNotF (tT (eCall m__law_right (aCons (eVar 8) (aCons (eVar 1) (aCons (eVar 2) aNil)))) truP)) (tNotF (tT (eCall m__law_right (aCons (eVar 9) (aCons (eVar 4) (aCons (eVar 5) aNil)))) truP)))
    (sRet (eC (.bl false)))
    sNil)
    (sSeq (sRev 7)
    (sSeq (sApp 7 (eC (.str "more")))
    (sSeq (sClr 3)
    (sSeq (sApp 6 (eTup (aCons (eC (.str "more")) (aCons (eC (.str "less")) aNil))))
    (sRet (eAnd (eCall m__law_right (aCons (eVar 8) (aCons (eVar 1) (aCons (eVar 2) aNil)))) (eCall m__law_right (aCons (eVar 9) (aCons (eVar 4) (aCons (eVar 5) aNil)))))))))))))))))
section
variable {P:Program} {w:World} {K:FG} {mg:Str->Option Value} {base:Heap}
theorem g_LETTERS {X:Cx} {pos:Pos} (h:∃ t,X.mg "LETTERS" = some (.str "abcdefghijklmnopqrstuvwxyz" t)) (hg:Gl X "LETTERS"):PE X (.Name "LETTERS" pos) (tP X.K (eC k_LETTERS)):=by
  obtain ⟨t,h⟩:=h
  exact qc (pe_glob (v:=.str "abcdefghijklmnopqrstuvwxyz") hg h ⟨_,rfl⟩) rep_str
variable (B:Blt mg ["ValueError", "all", "bool", "isinstance", "len", "list", "min", "range", "zip"]) (C_LETTERS:∃ t,mg "LETTERS" = some (.str "abcdefghijklmnopqrstuvwxyz" t)) {c_Order:Addr} (T_Order:ClsT K mg "Order" c_Order) (N_Order:∀ f ∈ (["names", "above", "joins", "meets", "lowest", "highest"]:List Str),NoAttr K c_Order f)
include B C_LETTERS T_Order N_Order
theorem ok_is_name (F:DefAt K mg "is_name" s_is_name ["text"]):DefOk P w K mg base "is_name" 1 ["text"] (spP K 1 m_is_name):=
  F.ok (k:=0) sc_is_name fun f cdv A outer s H E hr=>⟨_,fun _ _=>rfl,(qss_one (qs_ret (qand (qchain op_le op_le ops_le ops_le (qc pe_int rep_int) (qcallB call_len cs_len (pe_callB call_len (by rfl) (B _ (.tail _ (.tail _ (.tail _ (.tail _ (.head _)))))) PySem.boot_len (qa_cons (qv (pv 0)) qa_nil))) (qc pe_int rep_int)) (qone (qcallB (call_all rfl) cs_all (pe_callB (call_all rfl) (by rfl) (B _ (.tail _ (.head _))) (by kernel_rfl) (qa_cons (qcomp ["sign"] [] [] rfl (cs_mk (defScope s_is_name) rfl rfl (by decide +kernel) (by decide +kernel) (by decide +kernel) (by decide +kernel) rfl (by decide +kernel)) (qi_any (qv (pv 0))) (fun _ _ _ _=>(pg_name (i:=0) (show (["sign"]:List Str).Nodup from by decide +kernel) rfl (Or.inl rfl))) gs_name (fun _ _ _ _=>qifs_nil) (fun _ _ _ _=>(qcmp (op_inP hr) ops_inT (qv (pv 0)) (g_LETTERS C_LETTERS rfl) (by with_unfolding_all rfl)))) qa_nil)))))))⟩
theorem ok_straight_above (F:DefAt K mg "straight_above" s_straight_above ["some", "pairs", "name"]):DefOk P w K mg base "straight_above" 1 ["some", "pairs", "name"] (spP K 3 m_straight_above):=
  F.ok (k:=0) sc_straight_above fun f cdv A outer s H E hr=>⟨_,fun _ _=>rfl,(qss_one (qs_ret (qcomp ["low", "high"] ["name", "some"] [2,0] rfl (cs_mk (defScope s_straight_above) rfl rfl (by decide +kernel) (by decide +kernel) (by decide +kernel) (by decide +kernel) rfl (by decide +kernel)) (qi_any (qv (pv 1))) (fun _ _ _ _=>(pg_seq rfl (pgs_cons (pg_name (i:=0) (show (["low", "high", "name", "some"]:List Str).Nodup from by decide +kernel) rfl (Or.inl rfl)) (pgs_cons (pg_name (i:=1) (show (["low", "high", "name", "some"]:List Str).Nodup from by decide +kernel) rfl (Or.inl rfl)) pgs_nil)))) (gs_seq (gs_cons gs_name (gs_cons gs_name gs_nil))) (fun _ _ _ _=>(qifs_one (PW.pt (qw_and (qtcmp (op_eqP hr) ops_eq (qv (pv 0)) (qv (pv 2)) (nomark _)) (qw_and (qtcmp (op_neP hr) ops_ne (qv (pv 1)) (qv (pv 2)) (nomark _)) (qw_and1 (qtcmp (op_inP hr) ops_inT (qv (pv 1)) (qv (pv 3)) (by with_unfolding_all rfl)))))))) (fun _ _ _ _=>(qv (pv 1))))))⟩
theorem ok_ring_within (F:DefAt K mg "ring_within" s_ring_within ["some", "pairs"]) (D_straight_above:DefOk P w K mg base "straight_above" 1 ["some", "pairs", "name"] (spP K 3 m_straight_above)):DefOk P w K mg base "ring_within" 2 ["some", "pairs"] (spP K 2 m_ring_within):=
  F.ok (k:=1) sc_ring_within fun f cdv A outer s H E hr=>⟨_,fun _ _=>rfl,(qss_cons (qs_set (i:=2) sc_ring_within.nd rfl (Or.inl rfl) (qlst (qa_cons (qix' (qv (pv 0)) (qc pe_int rep_int) (fun _ _=>rfl)) qa_nil)))
    (qss_cons (qs_set (i:=3) sc_ring_within.nd rfl (Or.inl rfl) (qix' (qcall D_straight_above (hr.mono (by omega)) rfl (qa_cons (qv (pv 0)) (qa_cons (qv (pv 1)) (qa_cons (qix' (qv (pv 0)) (qc pe_int rep_int) (fun _ _=>rfl)) qa_nil))) (al_cons (al_cons (al_cons al_nil)))) (qc pe_int rep_int) (fun _ _=>rfl)))
    (qss_cons (qs_while 20 PassesOwn.never (qtread (qtcmp (op_notInP hr) ops_inF (qv (pv 3)) (qv (pv 2)) (by with_unfolding_all rfl)))
    (qss_cons (qs_app (ps_expr (pe_bm PySem.F.plainAttrs_list PySem.F.slot_list_append PySem.F.type_list_append mt_append (pv 2) (qa_cons (qv (pv 3)) qa_nil))))
    (qss_one (qs_set (i:=3) sc_ring_within.nd rfl (Or.inl rfl) (qix' (qcall D_straight_above (hr.mono (by omega)) rfl (qa_cons (qv (pv 0)) (qa_cons (qv (pv 1)) (qa_cons (qv (pv 3)) qa_nil))) (al_cons (al_cons (al_cons al_nil)))) (qc pe_int rep_int) (fun _ _=>rfl))))))
    (qss_one (qs_ret (qread (qslicex (qv (pv 2)) (qo_some (qindex (pe_bm PySem.F.plainAttrs_list PySem.F.slot_list_index PySem.F.type_list_index (mt_index hr) (qv (pv 2)) (qa_cons (qv (pv 3)) qa_nil)))) qo_none)))))))⟩
theorem ok_ring_of (F:DefAt K mg "ring_of" s_ring_of ["names", "pairs"]) (D_ring_within:DefOk P w K mg base "ring_within" 2 ["some", "pairs"] (spP K 2 m_ring_within)) (D_straight_above:DefOk P w K mg base "straight_above" 1 ["some", "pairs", "name"] (spP K 3 m_straight_above)):DefOk P w K mg base "ring_of" 3 ["names", "pairs"] (spP K 2 m_ring_of):=
  F.ok (k:=2) sc_ring_of fun f cdv A outer s H E hr=>⟨_,fun _ _=>rfl,(qss_cons (qs_set (i:=2) sc_ring_of.nd rfl (Or.inr rfl) (PE.imp (pe_callTy call_list_of (by rfl) (B _ (.tail _ (.tail _ (.tail _ (.tail _ (.tail _ (.head _))))))) (by kernel_rfl) (qa_cons (qv (pv 0)) qa_nil)) (cb_imp cs_list)))
    (qss_cons (qs_setC (i:=3) ["name"] ["rest", "pairs"] [2,1] sc_ring_of.nd rfl rfl rfl (cs_mk (defScope s_ring_of) rfl rfl (by decide +kernel) (by decide +kernel) (by decide +kernel) (by decide +kernel) rfl (by decide +kernel)) (qi_any (qv (pv 2))) (fun _ _ _ _=>(pg_name (i:=0) (show (["name", "rest", "pairs"]:List Str).Nodup from by decide +kernel) rfl (Or.inl rfl))) gs_name (fun _ _ _ _=>(qifs_one (qtruth (qcall D_straight_above (hr.mono (by omega)) rfl (qa_cons (qv (pv 1)) (qa_cons (qv (pv 2)) (qa_cons (qv (pv 0)) qa_nil))) (al_cons (al_cons (al_cons al_nil)))) (fun _=>rfl)))) (fun _ _ _ _=>(qv (pv 0))))
    (qss_cons (qs_while 20 PassesOwn.never (qtcmp op_lt ops_lt (qcallB call_len cs_len (pe_callB call_len (by rfl) (B _ (.tail _ (.tail _ (.tail _ (.tail _ (.head _)))))) PySem.boot_len (qa_cons (qv (pv 3)) qa_nil))) (qcallB call_len cs_len (pe_callB call_len (by rfl) (B _ (.tail _ (.tail _ (.tail _ (.tail _ (.head _)))))) PySem.boot_len (qa_cons (qv (pv 2)) qa_nil))) (nomark _))
    (qss_cons (qs_set (i:=2) sc_ring_of.nd rfl (Or.inr rfl) (qv (pv 3)))
    (qss_one (qs_setC (i:=3) ["name"] ["rest", "pairs"] [2,1] sc_ring_of.nd rfl rfl rfl (cs_mk (defScope s_ring_of) rfl rfl (by decide +kernel) (by decide +kernel) (by decide +kernel) (by decide +kernel) rfl (by decide +kernel)) (qi_any (qv (pv 2))) (fun _ _ _ _=>(pg_name (i:=0) (show (["name", "rest", "pairs"]:List Str).Nodup from by decide +kernel) rfl (Or.inl rfl))) gs_name (fun _ _ _ _=>(qifs_one (qtruth (qcall D_straight_above (hr.mono (by omega)) rfl (qa_cons (qv (pv 1)) (qa_cons (qv (pv 2)) (qa_cons (qv (pv 0)) qa_nil))) (al_cons (al_cons (al_cons al_nil)))) (fun _=>rfl)))) (fun _ _ _ _=>(qv (pv 0)))))))
    (qss_cons (qs_if (qt_not (qtruth (qv (pv 2)) (fun _=>rfl)))
    (qss_one (qs_ret (qc pe_non rep_non)))
    qss_nil)
    (qss_one (qs_ret (qcall D_ring_within (hr.mono (by omega)) rfl (qa_cons (qv (pv 2)) (qa_cons (qv (pv 1)) qa_nil)) (al_cons (al_cons al_nil)))))))))⟩
theorem ok_climbed (F:DefAt K mg "climbed" s_climbed ["name", "pairs"]):DefOk P w K mg base "climbed" 1 ["name", "pairs"] (spP K 2 m_climbed):=
  F.ok (k:=0) sc_climbed fun f cdv A outer s H E hr=>⟨_,fun _ _=>rfl,(qss_cons (qs_set (i:=2) sc_climbed.nd rfl (Or.inl rfl) (qlst (qa_cons (qv (pv 0)) qa_nil)))
    (qss_cons (qs_set (i:=3) sc_climbed.nd rfl (Or.inl rfl) (qc pe_bl rep_bl))
    (qss_cons (qs_while 70 PassesOwn.never (qtruth (qv (pv 3)) (fun _=>rfl))
    (qss_cons (qs_set (i:=3) sc_climbed.nd rfl (Or.inl rfl) (qc pe_bl rep_bl))
    (qss_one (qs_for PassesOwn.never rfl (qi_any (qv (pv 1))) (pg_seq rfl (pgs_cons (pg_name (i:=4) sc_climbed.nd rfl (Or.inl rfl)) (pgs_cons (pg_name (i:=5) sc_climbed.nd rfl (Or.inl rfl)) pgs_nil))) (gs_seq (gs_cons gs_name (gs_cons gs_name gs_nil)))
    (qss_one (qs_if (qtread (PW.pt (qw_and (qtcmp (op_inP hr) ops_inT (qv (pv 4)) (qv (pv 2)) (by with_unfolding_all rfl)) (qw_and1 (qtcmp (op_notInP hr) ops_inF (qv (pv 5)) (qv (pv 2)) (by with_unfolding_all rfl))))))
    (qss_cons (qs_app (ps_expr (pe_bm PySem.F.plainAttrs_list PySem.F.slot_list_append PySem.F.type_list_append mt_append (pv 2) (qa_cons (qv (pv 5)) qa_nil))))
    (qss_one (qs_set (i:=3) sc_climbed.nd rfl (Or.inl rfl) (qc pe_bl rep_bl))))
    qss_nil))))))
    (qss_one (qs_retV (pv 2))))))⟩
theorem ok_all_above (F:DefAt K mg "all_above" s_all_above ["names", "pairs"]) (D_climbed:DefOk P w K mg base "climbed" 1 ["name", "pairs"] (spP K 2 m_climbed)):DefOk P w K mg base "all_above" 2 ["names", "pairs"] (spP K 2 m_all_above):=
  F.ok (k:=1) sc_all_above fun f cdv A outer s H E hr=>⟨_,fun _ _=>rfl,(qss_cons (qs_set (i:=2) sc_all_above.nd rfl (Or.inl rfl) qdict0)
    (qss_cons (qs_forC PassesOwn.never rfl (qi_cell (qv (pv 0))) (pg_name (i:=3) sc_all_above.nd rfl (Or.inl rfl)) gs_name
    (qss_one (qs_setD (ps_asg (qreadC (qcall D_climbed (hr.mono (by omega)) rfl (qa_cons (qv (pv 3)) (qa_cons (qv (pv 1)) qa_nil)) (al_cons (al_cons al_nil)))) (pg_sub (pv 2) (qv (pv 3)) (set_dict (hu_of hr)))))))
    (qss_one (qs_retV (pv 2)))))⟩
theorem ok_all_beneath (F:DefAt K mg "all_beneath" s_all_beneath ["names", "pairs"]) (D_all_above:DefOk P w K mg base "all_above" 2 ["names", "pairs"] (spP K 2 m_all_above)):DefOk P w K mg base "all_beneath" 3 ["names", "pairs"] (spP K 2 m_all_beneath):=
  F.ok (k:=2) sc_all_beneath fun f cdv A outer s H E hr=>⟨_,fun _ _=>rfl,(qss_one (qs_ret (qcall D_all_above (hr.mono (by omega)) rfl (qa_cons (qv (pv 0)) (qa_cons (qreadC (qcomp ["low", "high"] [] [] rfl (cs_mk (defScope s_all_beneath) rfl rfl (by decide +kernel) (by decide +kernel) (by decide +kernel) (by decide +kernel) rfl (by decide +kernel)) (qi_any (qv (pv 1))) (fun _ _ _ _=>(pg_seq rfl (pgs_cons (pg_name (i:=0) (show (["low", "high"]:List Str).Nodup from by decide +kernel) rfl (Or.inl rfl)) (pgs_cons (pg_name (i:=1) (show (["low", "high"]:List Str).Nodup from by decide +kernel) rfl (Or.inl rfl)) pgs_nil)))) (gs_seq (gs_cons gs_name (gs_cons gs_name gs_nil))) (fun _ _ _ _=>qifs_nil) (fun _ _ _ _=>(qtup (qa_cons (qv (pv 1)) (qa_cons (qv (pv 0)) qa_nil)))))) qa_nil)) (al_cons (al_cons al_nil)))))⟩
theorem ok_bound (F:DefAt K mg "bound" s_bound ["reach", "one", "other"]):DefOk P w K mg base "bound" 1 ["reach", "one", "other"] (spP K 3 m_bound):=
  F.ok (k:=0) sc_bound fun f cdv A outer s H E hr=>⟨_,fun _ _=>rfl,(qss_cons (qs_setC (i:=3) ["rank"] ["reach", "other"] [0,2] sc_bound.nd rfl rfl rfl (cs_mk (defScope s_bound) rfl rfl (by decide +kernel) (by decide +kernel) (by decide +kernel) (by decide +kernel) rfl (by decide +kernel)) (qi_any (qiy (hu_of hr) (qv (pv 0)) (qv (pv 1)) (fun _ _=>rfl))) (fun _ _ _ _=>(pg_name (i:=0) (show (["rank", "reach", "other"]:List Str).Nodup from by decide +kernel) rfl (Or.inl rfl))) gs_name (fun _ _ _ _=>(qifs_one (qtcmp (op_inP hr) ops_inT (qv (pv 0)) (qiy (hu_of hr) (qv (pv 1)) (qv (pv 2)) (fun _ _=>rfl)) (by with_unfolding_all rfl)))) (fun _ _ _ _=>(qv (pv 0))))
    (qss_cons (qs_for PassesOwn.never rfl (qi_any (qv (pv 3))) (pg_name (i:=4) sc_bound.nd rfl (Or.inr rfl)) gs_name
    (qss_one (qs_if (qtruth (qcallB (call_all rfl) cs_all (pe_callB (call_all rfl) (by rfl) (B _ (.tail _ (.head _))) (by kernel_rfl) (qa_cons (qcomp ["beyond"] ["reach", "rank"] [0,4] rfl (cs_mk (defScope s_bound) rfl rfl (by decide +kernel) (by decide +kernel) (by decide +kernel) (by decide +kernel) rfl (by decide +kernel)) (qi_any (qv (pv 3))) (fun _ _ _ _=>(pg_name (i:=0) (show (["beyond", "reach", "rank"]:List Str).Nodup from by decide +kernel) rfl (Or.inl rfl))) gs_name (fun _ _ _ _=>qifs_nil) (fun _ _ _ _=>(qcmp (op_inP hr) ops_inT (qv (pv 0)) (qiy (hu_of hr) (qv (pv 1)) (qv (pv 2)) (fun _ _=>rfl)) (by with_unfolding_all rfl)))) qa_nil))) (fun _=>rfl))
    (qss_one (qs_retV (pv 4)))
    qss_nil)))
    (qss_one (qs_ret (qc pe_non rep_non)))))⟩
theorem ok_bounds (F:DefAt K mg "bounds" s_bounds ["reach"]) (D_bound:DefOk P w K mg base "bound" 1 ["reach", "one", "other"] (spP K 3 m_bound)):DefOk P w K mg base "bounds" 2 ["reach"] (spP K 1 m_bounds):=
  F.ok (k:=1) sc_bounds fun f cdv A outer s H E hr=>⟨_,fun _ _=>rfl,(qss_cons (qs_set (i:=1) sc_bounds.nd rfl (Or.inl rfl) qdictT)
    (qss_cons (qs_forD PassesOwn.never rfl (qv (pv 0)) (pg_name (i:=2) sc_bounds.nd rfl (Or.inl rfl)) gs_name
    (qss_one (qs_forD PassesOwn.never rfl (qv (pv 0)) (pg_name (i:=3) sc_bounds.nd rfl (Or.inl rfl)) gs_name
    (qss_one (qs_setT (ps_asg (qcall D_bound (hr.mono (by omega)) rfl (qa_cons (qv (pv 0)) (qa_cons (qv (pv 2)) (qa_cons (qv (pv 3)) qa_nil))) (al_cons (al_cons (al_cons al_nil)))) (pg_sub (pv 1) (pe_tup (qa_cons (qv (pv 2)) (qa_cons (qv (pv 3)) qa_nil))) (set_dict (hu_of hr)))))))))
    (qss_one (qs_retV (pv 1)))))⟩
theorem ok_unbound (F:DefAt K mg "unbound" s_unbound ["reach"]) (D_bounds:DefOk P w K mg base "bounds" 2 ["reach"] (spP K 1 m_bounds)):DefOk P w K mg base "unbound" 3 ["reach"] (spP K 1 m_unbound):=
  F.ok (k:=2) sc_unbound fun f cdv A outer s H E hr=>⟨_,fun _ _=>rfl,(qss_cons (qs_forItems PassesOwn.never rfl (qfzT (qcall D_bounds (hr.mono (by omega)) rfl (qa_cons (qv (pv 0)) qa_nil) (al_cons al_nil))) (pg_seq rfl (pgs_cons (pg_name (i:=1) sc_unbound.nd rfl (Or.inl rfl)) (pgs_cons (pg_name (i:=2) sc_unbound.nd rfl (Or.inl rfl)) pgs_nil))) (gs_seq (gs_cons gs_name (gs_cons gs_name gs_nil)))
    (qss_one (qs_if (qtcmp op_isN ops_isN (qv (pv 2)) (qc pe_non rep_non) (nomark _))
    (qss_one (qs_retV (pv 1)))
    qss_nil)))
    (qss_one (qs_ret (qc pe_non rep_non))))⟩
theorem ok_lack_of (F:DefAt K mg "lack_of" s_lack_of ["names", "pairs"]) (D_all_above:DefOk P w K mg base "all_above" 2 ["names", "pairs"] (spP K 2 m_all_above)) (D_all_beneath:DefOk P w K mg base "all_beneath" 3 ["names", "pairs"] (spP K 2 m_all_beneath)) (D_unbound:DefOk P w K mg base "unbound" 3 ["reach"] (spP K 1 m_unbound)):DefOk P w K mg base "lack_of" 4 ["names", "pairs"] (spP K 2 m_lack_of):=
  F.ok (k:=3) sc_lack_of fun f cdv A outer s H E hr=>⟨_,fun _ _=>rfl,(qss_cons (qs_set (i:=2) sc_lack_of.nd rfl (Or.inl rfl) (qcall D_unbound (hr.mono (by omega)) rfl (qa_cons (qfz (qcall D_all_above (hr.mono (by omega)) rfl (qa_cons (qv (pv 0)) (qa_cons (qv (pv 1)) qa_nil)) (al_cons (al_cons al_nil)))) qa_nil) (al_cons al_nil)))
    (qss_cons (qs_if (qtcmp op_notN ops_notN (qv (pv 2)) (qc pe_non rep_non) (nomark _))
    (qss_one (qs_ret (qtup (qa_cons (qc pe_str rep_str) (qa_cons (qix' (qv (pv 2)) (qc pe_int rep_int) (fun _ _=>rfl)) (qa_cons (qix' (qv (pv 2)) (qc pe_int rep_int) (fun _ _=>rfl)) qa_nil))))))
    qss_nil)
    (qss_cons (qs_set (i:=2) sc_lack_of.nd rfl (Or.inl rfl) (qcall D_unbound (hr.mono (by omega)) rfl (qa_cons (qfz (qcall D_all_beneath (hr.mono (by omega)) rfl (qa_cons (qv (pv 0)) (qa_cons (qv (pv 1)) qa_nil)) (al_cons (al_cons al_nil)))) qa_nil) (al_cons al_nil)))
    (qss_cons (qs_if (qtcmp op_notN ops_notN (qv (pv 2)) (qc pe_non rep_non) (nomark _))
    (qss_one (qs_ret (qtup (qa_cons (qc pe_str rep_str) (qa_cons (qix' (qv (pv 2)) (qc pe_int rep_int) (fun _ _=>rfl)) (qa_cons (qix' (qv (pv 2)) (qc pe_int rep_int) (fun _ _=>rfl)) qa_nil))))))
    qss_nil)
    (qss_one (qs_ret (qc pe_non rep_non)))))))⟩
theorem ok_refuse_names (F:DefAt K mg "refuse_names" s_refuse_names ["names", "pairs"]) (D_is_name:DefOk P w K mg base "is_name" 1 ["text"] (spP K 1 m_is_name)):DefOk P w K mg base "refuse_names" 2 ["names", "pairs"] (spP K 2 m_refuse_names):=
  F.ok (k:=1) sc_refuse_names fun f cdv A outer s H E hr=>⟨_,fun _ _=>rfl,(qss_cons (qs_for PassesOwn.never rfl (qi_any (qv (pv 0))) (pg_name (i:=2) sc_refuse_names.nd rfl (Or.inl rfl)) gs_name
    (qss_cons (qs_if (qt_not (qtruth (qcall D_is_name (hr.mono (by omega)) rfl (qa_cons (qv (pv 2)) qa_nil) (al_cons al_nil)) (fun _=>rfl)))
    (qss_one qs_fail)
    qss_nil)
    (qss_one (qs_if (qtcmp op_gt ops_gt (qcount (pe_bm PySem.F.plainAttrs_list PySem.F.slot_list_count PySem.F.type_list_count (mt_count hr) (qv (pv 0)) (qa_cons (qv (pv 2)) qa_nil))) (qc pe_int rep_int) (nomark _))
    (qss_one qs_fail)
    qss_nil))))
    (qss_one (qs_for PassesOwn.never rfl (qi_any (qv (pv 1))) (pg_seq rfl (pgs_cons (pg_name (i:=3) sc_refuse_names.nd rfl (Or.inl rfl)) (pgs_cons (pg_name (i:=4) sc_refuse_names.nd rfl (Or.inl rfl)) pgs_nil))) (gs_seq (gs_cons gs_name (gs_cons gs_name gs_nil)))
    (qss_one (qs_if (PW.pt (qw_or (qtcmp (op_notInP hr) ops_inF (qv (pv 3)) (qv (pv 0)) (by with_unfolding_all rfl)) (qw_or1 (qtcmp (op_notInP hr) ops_inF (qv (pv 4)) (qv (pv 0)) (by with_unfolding_all rfl)))))
    (qss_one qs_fail)
    qss_nil)))))⟩
theorem ok_refuse_order (F:DefAt K mg "refuse_order" s_refuse_order ["names", "pairs"]) (D_lack_of:DefOk P w K mg base "lack_of" 4 ["names", "pairs"] (spP K 2 m_lack_of)) (D_ring_of:DefOk P w K mg base "ring_of" 3 ["names", "pairs"] (spP K 2 m_ring_of)):DefOk P w K mg base "refuse_order" 5 ["names", "pairs"] (spP K 2 m_refuse_order):=
  F.ok (k:=4) sc_refuse_order fun f cdv A outer s H E hr=>⟨_,fun _ _=>rfl,(qss_cons (qs_if (qt_not (qtruth (qv (pv 0)) (fun _=>rfl)))
    (qss_one qs_fail)
    qss_nil)
    (qss_cons (qs_set (i:=2) sc_refuse_order.nd rfl (Or.inl rfl) (qcall D_ring_of (hr.mono (by omega)) rfl (qa_cons (qv (pv 0)) (qa_cons (qv (pv 1)) qa_nil)) (al_cons (al_cons al_nil))))
    (qss_cons (qs_if (qtcmp op_notN ops_notN (qv (pv 2)) (qc pe_non rep_non) (nomark _))
    (qss_one qs_fail)
    qss_nil)
    (qss_cons (qs_set (i:=3) sc_refuse_order.nd rfl (Or.inl rfl) (qcall D_lack_of (hr.mono (by omega)) rfl (qa_cons (qv (pv 0)) (qa_cons (qv (pv 1)) qa_nil)) (al_cons (al_cons al_nil))))
    (qss_one (qs_if (qtcmp op_notN ops_notN (qv (pv 3)) (qc pe_non rep_non) (nomark _))
    (qss_one qs_fail)
    qss_nil))))))⟩
theorem ok__law_cell_at (F:DefAt K mg "_law_cell_at" s__law_cell_at ["_law_script", "_law_k"]):DefOk P w K mg base "_law_cell_at" 1 ["_law_script", "_law_k"] (spP K 2 m__law_cell_at):=
  F.ok (k:=0) sc__law_cell_at fun f cdv A outer s H E hr=>⟨_,fun _ _=>rfl,(qss_cons (qs_if (qtcmp op_lt ops_lt (qv (pv 1)) (qcallB call_len cs_len (pe_callB call_len (by rfl) (B _ (.tail _ (.tail _ (.tail _ (.tail _ (.head _)))))) PySem.boot_len (qa_cons (qv (pv 0)) qa_nil))) (nomark _))
    (qss_one (qs_ret (qop op_mod ops_mod (qix' (qv (pv 0)) (qv (pv 1)) (fun _ _=>rfl)) (qc pe_int rep_int))))
    qss_nil)
    (qss_one (qs_ret (qc pe_int rep_int))))⟩
theorem ok__law_masks (F:DefAt K mg "_law_masks" s__law_masks ["_law_cells"]):DefOk P w K mg base "_law_masks" 1 ["_law_cells"] (spP K 1 m__law_masks):=
  F.ok (k:=0) sc__law_masks fun f cdv A outer s H E hr=>⟨_,fun _ _=>rfl,(qss_cons (qs_set (i:=1) sc__law_masks.nd rfl (Or.inl rfl) (qlst (qa_cons (qc pe_int rep_int) qa_nil)))
    (qss_cons (qs_for PassesOwn.never rfl (qi_any (qv (pv 0))) (pg_name (i:=2) sc__law_masks.nd rfl (Or.inl rfl)) gs_name
    (qss_cons (qs_set (i:=3) sc__law_masks.nd rfl (Or.inl rfl) (PE.imp (pe_callTy call_list_of (by rfl) (B _ (.tail _ (.tail _ (.tail _ (.tail _ (.tail _ (.head _))))))) (by kernel_rfl) (qa_cons (qv (pv 1)) qa_nil)) (cb_imp cs_list)))
    (qss_cons (qs_for PassesOwn.never rfl (qi_any (qv (pv 1))) (pg_name (i:=4) sc__law_masks.nd rfl (Or.inl rfl)) gs_name
    (qss_one (qs_if (qtread (qtcmp (op_notInP hr) ops_inF (qop op_and ops_and (qv (pv 4)) (qop op_mod ops_mod (qv (pv 2)) (qc pe_int rep_int))) (qv (pv 3)) (by with_unfolding_all rfl)))
    (qss_one (qs_app (ps_expr (pe_bm PySem.F.plainAttrs_list PySem.F.slot_list_append PySem.F.type_list_append mt_append (pv 3) (qa_cons (qop op_and ops_and (qv (pv 4)) (qop op_mod ops_mod (qv (pv 2)) (qc pe_int rep_int))) qa_nil)))))
    qss_nil)))
    (qss_one (qs_if (qtread (qtcmp op_le ops_le (qcallB call_len cs_len (pe_callB call_len (by rfl) (B _ (.tail _ (.tail _ (.tail _ (.tail _ (.head _)))))) PySem.boot_len (qa_cons (qv (pv 3)) qa_nil))) (qc pe_int rep_int) (nomark _)))
    (qss_one (qs_set (i:=1) sc__law_masks.nd rfl (Or.inl rfl) (qv (pv 3))))
    qss_nil)))))
    (qss_one (qs_retV (pv 1)))))⟩
theorem ok__law_names (F:DefAt K mg "_law_names" s__law_names ["_law_cell", "_law_count"]):DefOk P w K mg base "_law_names" 1 ["_law_cell", "_law_count"] (spP K 2 m__law_names):=
  F.ok (k:=0) sc__law_names fun f cdv A outer s H E hr=>⟨_,fun _ _=>rfl,(qss_cons (qs_set (i:=2) sc__law_names.nd rfl (Or.inr rfl) (qc pe_str rep_str))
    (qss_cons (qs_set (i:=3) sc__law_names.nd rfl (Or.inl rfl) (qlst qa_nil))
    (qss_cons (qs_if (qtcmp (op_eqP hr) ops_eq (qop op_mod ops_mod (qv (pv 0)) (qc pe_int rep_int)) (qc pe_int rep_int) (nomark _))
    (qss_cons (qs_set (i:=4) sc__law_names.nd rfl (Or.inl rfl) (qjoin (pe_bm PySem.F.plainAttrs_str PySem.F.slot_str_join PySem.F.type_str_join mt_join (qc pe_str rep_str) (qa_cons (qcomp ["_law_j"] ["_law_letters", "_law_cell"] [2,0] rfl (cs_mk (defScope s__law_names) rfl rfl (by decide +kernel) (by decide +kernel) (by decide +kernel) (by decide +kernel) rfl (by decide +kernel)) (qi_range1 rfl (B _ (.tail _ (.tail _ (.tail _ (.tail _ (.tail _ (.tail _ (.tail _ (.head _))))))))) (qa_cons (qc pe_int rep_int) qa_nil)) (fun _ _ _ _=>(pg_name (i:=0) (show (["_law_j", "_law_letters", "_law_cell"]:List Str).Nodup from by decide +kernel) rfl (Or.inl rfl))) gs_name (fun _ _ _ _=>qifs_nil) (fun _ _ _ _=>(qix' (qv (pv 1)) (qop op_mod ops_mod (qop op_addP ops_add (qop op_fdiv ops_fdiv (qv (pv 2)) (qc pe_int rep_int)) (qop op_mul ops_mul (qc pe_int rep_int) (qv (pv 0)))) (qc pe_int rep_int)) (fun _ _=>rfl)))) qa_nil))))
    (qss_cons (qs_for PassesOwn.never rfl (qi_range1 rfl (B _ (.tail _ (.tail _ (.tail _ (.tail _ (.tail _ (.tail _ (.tail _ (.head _))))))))) (qa_cons (qv (pv 1)) qa_nil)) (pg_name (i:=5) sc__law_names.nd rfl (Or.inl rfl)) gs_name
    (qss_one (qs_app (ps_expr (pe_bm PySem.F.plainAttrs_list PySem.F.slot_list_append PySem.F.type_list_append mt_append (pv 3) (qa_cons (qslicex (qv (pv 4)) (qo_some (qop op_mod ops_mod (qv (pv 5)) (qc pe_int rep_int))) (qo_some (qop op_addP ops_add (qop op_addP ops_add (qop op_mod ops_mod (qv (pv 5)) (qc pe_int rep_int)) (qc pe_int rep_int)) (qop op_fdiv ops_fdiv (qv (pv 5)) (qc pe_int rep_int))))) qa_nil))))))
    (qss_one (qs_retV (pv 3)))))
    qss_nil)
    (qss_cons (qs_set (i:=6) sc__law_names.nd rfl (Or.inl rfl) (qix' (qlst (qa_cons (qc pe_int rep_int) (qa_cons (qc pe_int rep_int) (qa_cons (qc pe_int rep_int) (qa_cons (qc pe_int rep_int) (qa_cons (qc pe_int rep_int) (qa_cons (qc pe_int rep_int) (qa_cons (qc pe_int rep_int) qa_nil)))))))) (qop op_mod ops_mod (qop op_fdiv ops_fdiv (qv (pv 0)) (qc pe_int rep_int)) (qc pe_int rep_int)) (fun _ _=>rfl)))
    (qss_cons (qs_set (i:=7) sc__law_names.nd rfl (Or.inl rfl) (qop op_mod ops_mod (qop op_fdiv ops_fdiv (qv (pv 0)) (qc pe_int rep_int)) (qv (pv 6))))
    (qss_cons (qs_for PassesOwn.never rfl (qi_range1 rfl (B _ (.tail _ (.tail _ (.tail _ (.tail _ (.tail _ (.tail _ (.tail _ (.head _))))))))) (qa_cons (qv (pv 1)) qa_nil)) (pg_name (i:=5) sc__law_names.nd rfl (Or.inl rfl)) gs_name
    (qss_cons (qs_setC (i:=8) ["_law_j"] ["_law_letters", "_law_cell"] [2,0] sc__law_names.nd rfl rfl rfl (cs_mk (defScope s__law_names) rfl rfl (by decide +kernel) (by decide +kernel) (by decide +kernel) (by decide +kernel) rfl (by decide +kernel)) (qi_range1 rfl (B _ (.tail _ (.tail _ (.tail _ (.tail _ (.tail _ (.tail _ (.tail _ (.head _))))))))) (qa_cons (qv (pv 6)) qa_nil)) (fun _ _ _ _=>(pg_name (i:=0) (show (["_law_j", "_law_letters", "_law_cell"]:List Str).Nodup from by decide +kernel) rfl (Or.inl rfl))) gs_name (fun _ _ _ _=>qifs_nil) (fun _ _ _ _=>(qix' (qv (pv 1)) (qop op_mod ops_mod (qop op_addP ops_add (qop op_fdiv ops_fdiv (qv (pv 2)) (qop op_addP ops_add (qv (pv 0)) (qc pe_int rep_int))) (qop op_mul ops_mul (qv (pv 0)) (qv (pv 0)))) (qc pe_int rep_int)) (fun _ _=>rfl))))
    (qss_cons (qs_setI (ps_asg (qix' (qv (pv 2)) (qop op_mod ops_mod (qop op_addP ops_add (qop op_fdiv ops_fdiv (qv (pv 0)) (qc pe_int rep_int)) (qv (pv 5))) (qc pe_int rep_int)) (fun _ _=>rfl)) (pg_sub (pv 8) (qv (pv 7)) set_list)))
    (qss_one (qs_app (ps_expr (pe_bm PySem.F.plainAttrs_list PySem.F.slot_list_append PySem.F.type_list_append mt_append (pv 3) (qa_cons (qjoin (pe_bm PySem.F.plainAttrs_str PySem.F.slot_str_join PySem.F.type_str_join mt_join (qc pe_str rep_str) (qa_cons (qv (pv 8)) qa_nil))) qa_nil))))))))
    (qss_one (qs_retV (pv 3)))))))))⟩
theorem ok__law_is_under (F:DefAt K mg "_law_is_under" s__law_is_under ["_law_one", "_law_other"]):DefOk P w K mg base "_law_is_under" 1 ["_law_one", "_law_other"] (spP K 2 m__law_is_under):=
  F.ok (k:=0) sc__law_is_under fun f cdv A outer s H E hr=>⟨_,fun _ _=>rfl,(qss_one (qs_ret (qcmp (op_eqP hr) ops_eq (qop op_and ops_and (qv (pv 0)) (qv (pv 1))) (qv (pv 0)) (nomark _))))⟩
theorem ok__law_neighbours (F:DefAt K mg "_law_neighbours" s__law_neighbours ["_law_masks_here"]) (D__law_is_under:DefOk P w K mg base "_law_is_under" 1 ["_law_one", "_law_other"] (spP K 2 m__law_is_under)):DefOk P w K mg base "_law_neighbours" 2 ["_law_masks_here"] (spP K 1 m__law_neighbours):=
  F.ok (k:=1) sc__law_neighbours fun f cdv A outer s H E hr=>⟨_,fun _ _=>rfl,(qss_cons (qs_set (i:=1) sc__law_neighbours.nd rfl (Or.inl rfl) (qlst qa_nil))
    (qss_cons (qs_for PassesOwn.never rfl (qi_any (qv (pv 0))) (pg_name (i:=2) sc__law_neighbours.nd rfl (Or.inr rfl)) gs_name
    (qss_one (qs_for PassesOwn.never rfl (qi_any (qv (pv 0))) (pg_name (i:=3) sc__law_neighbours.nd rfl (Or.inr rfl)) gs_name
    (qss_one (qs_if (PW.pt (qw_and (qtcmp (op_neP hr) ops_ne (qv (pv 2)) (qv (pv 3)) (nomark _)) (qw_and1 (qtruth (qcall D__law_is_under (hr.mono (by omega)) rfl (qa_cons (qv (pv 2)) (qa_cons (qv (pv 3)) qa_nil)) (al_cons (al_cons al_nil))) (fun _=>rfl)))))
    (qss_cons (qs_setC (i:=4) ["_law_m"] ["_law_one", "_law_other"] [2,3] sc__law_neighbours.nd rfl rfl rfl (cs_mk (defScope s__law_neighbours) rfl rfl (by decide +kernel) (by decide +kernel) (by decide +kernel) (by decide +kernel) rfl (by decide +kernel)) (qi_any (qv (pv 0))) (fun _ _ _ _=>(pg_name (i:=0) (show (["_law_m", "_law_one", "_law_other"]:List Str).Nodup from by decide +kernel) rfl (Or.inl rfl))) gs_name (fun _ _ _ _=>(qifs_one (PW.pt (qw_and (qtruth (qcall D__law_is_under (hr.mono (by omega)) rfl (qa_cons (qv (pv 1)) (qa_cons (qv (pv 0)) qa_nil)) (al_cons (al_cons al_nil))) (fun _=>rfl)) (qw_and1 (qtruth (qcall D__law_is_under (hr.mono (by omega)) rfl (qa_cons (qv (pv 0)) (qa_cons (qv (pv 2)) qa_nil)) (al_cons (al_cons al_nil))) (fun _=>rfl))))))) (fun _ _ _ _=>(qv (pv 0))))
    (qss_one (qs_if (qtcmp (op_eqP hr) ops_eq (qcallB call_len cs_len (pe_callB call_len (by rfl) (B _ (.tail _ (.tail _ (.tail _ (.tail _ (.head _)))))) PySem.boot_len (qa_cons (qv (pv 4)) qa_nil))) (qc pe_int rep_int) (nomark _))
    (qss_one (qs_app (ps_expr (pe_bm PySem.F.plainAttrs_list PySem.F.slot_list_append PySem.F.type_list_append mt_append (pv 1) (qa_cons (qtup (qa_cons (qv (pv 2)) (qa_cons (qv (pv 3)) qa_nil))) qa_nil)))))
    qss_nil)))
    qss_nil)))))
    (qss_one (qs_retV (pv 1)))))⟩
theorem ok__law_pairs (F:DefAt K mg "_law_pairs" s__law_pairs ["_law_masks_here", "_law_cells"]) (D__law_is_under:DefOk P w K mg base "_law_is_under" 1 ["_law_one", "_law_other"] (spP K 2 m__law_is_under)) (D__law_neighbours:DefOk P w K mg base "_law_neighbours" 2 ["_law_masks_here"] (spP K 1 m__law_neighbours)):DefOk P w K mg base "_law_pairs" 3 ["_law_masks_here", "_law_cells"] (spP K 2 m__law_pairs):=
  F.ok (k:=2) sc__law_pairs fun f cdv A outer s H E hr=>⟨_,fun _ _=>rfl,(qss_cons (qs_set (i:=2) sc__law_pairs.nd rfl (Or.inl rfl) (qcall D__law_neighbours (hr.mono (by omega)) rfl (qa_cons (qv (pv 0)) qa_nil) (al_cons al_nil)))
    (qss_cons (qs_for PassesOwn.never rfl (qi_any (qv (pv 1))) (pg_name (i:=3) sc__law_pairs.nd rfl (Or.inl rfl)) gs_name
    (qss_cons (qs_set (i:=4) sc__law_pairs.nd rfl (Or.inl rfl) (qix' (qv (pv 0)) (qop op_mod ops_mod (qv (pv 3)) (qcallB call_len cs_len (pe_callB call_len (by rfl) (B _ (.tail _ (.tail _ (.tail _ (.tail _ (.head _)))))) PySem.boot_len (qa_cons (qv (pv 0)) qa_nil)))) (fun _ _=>rfl)))
    (qss_cons (qs_set (i:=5) sc__law_pairs.nd rfl (Or.inl rfl) (qix' (qv (pv 0)) (qop op_mod ops_mod (qop op_fdiv ops_fdiv (qv (pv 3)) (qc pe_int rep_int)) (qcallB call_len cs_len (pe_callB call_len (by rfl) (B _ (.tail _ (.tail _ (.tail _ (.tail _ (.head _)))))) PySem.boot_len (qa_cons (qv (pv 0)) qa_nil)))) (fun _ _=>rfl)))
    (qss_one (qs_if (qtread (PW.pt (qw_and (qtruth (qcall D__law_is_under (hr.mono (by omega)) rfl (qa_cons (qv (pv 4)) (qa_cons (qv (pv 5)) qa_nil)) (al_cons (al_cons al_nil))) (fun _=>rfl)) (qw_and1 (qtcmp op_lt ops_lt (qcallB call_len cs_len (pe_callB call_len (by rfl) (B _ (.tail _ (.tail _ (.tail _ (.tail _ (.head _)))))) PySem.boot_len (qa_cons (qv (pv 2)) qa_nil))) (qc pe_int rep_int) (nomark _))))))
    (qss_one (qs_ins (ps_expr (pe_bm PySem.F.plainAttrs_list PySem.F.slot_list_insert PySem.F.type_list_insert mt_ins (pv 2) (qa_cons (qread (qop op_mod ops_mod (qop op_fdiv ops_fdiv (qv (pv 3)) (qc pe_int rep_int)) (qop op_addP ops_add (qcallB call_len cs_len (pe_callB call_len (by rfl) (B _ (.tail _ (.tail _ (.tail _ (.tail _ (.head _)))))) PySem.boot_len (qa_cons (qv (pv 2)) qa_nil))) (qc pe_int rep_int)))) (qa_cons (qtup (qa_cons (qv (pv 4)) (qa_cons (qv (pv 5)) qa_nil))) qa_nil))))))
    qss_nil)))))
    (qss_one (qs_retV (pv 2)))))⟩
theorem ok__law_order (F:DefAt K mg "_law_order" s__law_order ["_law_script", "_law_at", "_law_count"]) (D__law_cell_at:DefOk P w K mg base "_law_cell_at" 1 ["_law_script", "_law_k"] (spP K 2 m__law_cell_at)) (D__law_masks:DefOk P w K mg base "_law_masks" 1 ["_law_cells"] (spP K 1 m__law_masks)) (D__law_names:DefOk P w K mg base "_law_names" 1 ["_law_cell", "_law_count"] (spP K 2 m__law_names)) (D__law_pairs:DefOk P w K mg base "_law_pairs" 3 ["_law_masks_here", "_law_cells"] (spP K 2 m__law_pairs)):DefOk P w K mg base "_law_order" 4 ["_law_script", "_law_at", "_law_count"] (spP K 3 m__law_order):=
  F.ok (k:=3) sc__law_order fun f cdv A outer s H E hr=>⟨_,fun _ _=>rfl,(qss_cons (qs_set (i:=3) sc__law_order.nd rfl (Or.inl rfl) (qcall D__law_masks (hr.mono (by omega)) rfl (qa_cons (qslicex (qv (pv 0)) (qo_some (qv (pv 1))) (qo_some (qop op_addP ops_add (qv (pv 1)) (qv (pv 2))))) qa_nil) (al_cons al_nil)))
    (qss_cons (qs_set (i:=4) sc__law_order.nd rfl (Or.inl rfl) (qop op_mod ops_mod (qcall D__law_cell_at (hr.mono (by omega)) rfl (qa_cons (qv (pv 0)) (qa_cons (qop op_addP ops_add (qv (pv 1)) (qv (pv 2))) qa_nil)) (al_cons (al_cons al_nil))) (qcallB call_len cs_len (pe_callB call_len (by rfl) (B _ (.tail _ (.tail _ (.tail _ (.tail _ (.head _)))))) PySem.boot_len (qa_cons (qv (pv 3)) qa_nil)))))
    (qss_cons (qs_set (i:=3) sc__law_order.nd rfl (Or.inl rfl) (qop op_addP ops_add (qslicex (qv (pv 3)) (qo_some (qv (pv 4))) qo_none) (qslicex (qv (pv 3)) qo_none (qo_some (qv (pv 4))))))
    (qss_cons (qs_set (i:=5) sc__law_order.nd rfl (Or.inl rfl) (qcall D__law_names (hr.mono (by omega)) rfl (qa_cons (qop op_fdiv ops_fdiv (qcall D__law_cell_at (hr.mono (by omega)) rfl (qa_cons (qv (pv 0)) (qa_cons (qop op_addP ops_add (qv (pv 1)) (qv (pv 2))) qa_nil)) (al_cons (al_cons al_nil))) (qc pe_int rep_int)) (qa_cons (qcallB call_len cs_len (pe_callB call_len (by rfl) (B _ (.tail _ (.tail _ (.tail _ (.tail _ (.head _)))))) PySem.boot_len (qa_cons (qv (pv 3)) qa_nil))) qa_nil)) (al_cons (al_cons al_nil))))
    (qss_cons (qs_set (i:=6) sc__law_order.nd rfl (Or.inl rfl) (qlst qa_nil))
    (qss_cons (qs_for PassesOwn.never rfl (qi_any (qcall D__law_pairs (hr.mono (by omega)) rfl (qa_cons (qv (pv 3)) (qa_cons (qslicex (qv (pv 0)) (qo_some (qv (pv 1))) (qo_some (qop op_addP ops_add (qv (pv 1)) (qop op_mul ops_mul (qc pe_int rep_int) (qv (pv 2)))))) qa_nil)) (al_cons (al_cons al_nil)))) (pg_seq rfl (pgs_cons (pg_name (i:=7) sc__law_order.nd rfl (Or.inl rfl)) (pgs_cons (pg_name (i:=8) sc__law_order.nd rfl (Or.inl rfl)) pgs_nil))) (gs_seq (gs_cons gs_name (gs_cons gs_name gs_nil)))
    (qss_one (qs_app (ps_expr (pe_bm PySem.F.plainAttrs_list PySem.F.slot_list_append PySem.F.type_list_append mt_append (pv 6) (qa_cons (qtup (qa_cons (qix' (qv (pv 5)) (qindex (pe_bm PySem.F.plainAttrs_list PySem.F.slot_list_index PySem.F.type_list_index (mt_index hr) (qv (pv 3)) (qa_cons (qv (pv 7)) qa_nil))) (fun _ _=>rfl)) (qa_cons (qix' (qv (pv 5)) (qindex (pe_bm PySem.F.plainAttrs_list PySem.F.slot_list_index PySem.F.type_list_index (mt_index hr) (qv (pv 3)) (qa_cons (qv (pv 8)) qa_nil))) (fun _ _=>rfl)) qa_nil))) qa_nil))))))
    (qss_one (qs_seal (i:=6) (qs_ret (qtup (qa_cons (qv (pv 3)) (qa_cons (qv (pv 5)) (qa_cons (qv (pv 6)) qa_nil)))))))))))))⟩
theorem ok_Order__greatest (F:MAt K c_Order "greatest" "Order.greatest" s_Order__greatest ["self"]):MOk P w K mg base c_Order "greatest" 1 ["self"] (spP K 1 m_Order__greatest):=
  F.ok (k:=0) sc_Order__greatest fun f cdv A outer s H E hr=>⟨_,fun _ _=>rfl,(qss_one (qs_ret (qfld T_Order (N_Order _ (.tail _ (.tail _ (.tail _ (.tail _ (.tail _ (.head _))))))) (qv (pv 0)))))⟩
theorem ok_Order__least (F:MAt K c_Order "least" "Order.least" s_Order__least ["self"]):MOk P w K mg base c_Order "least" 1 ["self"] (spP K 1 m_Order__least):=
  F.ok (k:=0) sc_Order__least fun f cdv A outer s H E hr=>⟨_,fun _ _=>rfl,(qss_one (qs_ret (qfld T_Order (N_Order _ (.tail _ (.tail _ (.tail _ (.tail _ (.head _)))))) (qv (pv 0)))))⟩
theorem ok_Order__ranks (F:MAt K c_Order "ranks" "Order.ranks" s_Order__ranks ["self"]):MOk P w K mg base c_Order "ranks" 1 ["self"] (spP K 1 m_Order__ranks):=
  F.ok (k:=0) sc_Order__ranks fun f cdv A outer s H E hr=>⟨_,fun _ _=>rfl,(qss_one (qs_ret (PE.imp (pe_callTy call_list_of (by rfl) (B _ (.tail _ (.tail _ (.tail _ (.tail _ (.tail _ (.head _))))))) (by kernel_rfl) (qa_cons (qfld T_Order (N_Order _ (.head _)) (qv (pv 0))) qa_nil)) (cb_imp cs_list))))⟩
theorem ok_Order__refuse_stranger (F:MAt K c_Order "refuse_stranger" "Order.refuse_stranger" s_Order__refuse_stranger ["self", "rank"]):MOk P w K mg base c_Order "refuse_stranger" 1 ["self", "rank"] (spP K 2 m_Order__refuse_stranger):=
  F.ok (k:=0) sc_Order__refuse_stranger fun f cdv A outer s H E hr=>⟨_,fun _ _=>rfl,(qss_one (qs_if (qtcmp (op_notInP hr) ops_inF (qv (pv 1)) (qfld T_Order (N_Order _ (.head _)) (qv (pv 0))) (by with_unfolding_all rfl))
    (qss_one qs_fail)
    qss_nil))⟩
theorem ok_Order__under (F:MAt K c_Order "under" "Order.under" s_Order__under ["self", "one", "other"]) (D_Order__refuse_stranger:MOk P w K mg base c_Order "refuse_stranger" 1 ["self", "rank"] (spP K 2 m_Order__refuse_stranger)):MOk P w K mg base c_Order "under" 2 ["self", "one", "other"] (spP K 3 m_Order__under):=
  F.ok (k:=1) sc_Order__under fun f cdv A outer s H E hr=>⟨_,fun _ _=>rfl,(qss_cons (qs_expr (qmeth T_Order D_Order__refuse_stranger (hr.mono (by omega)) (qv (pv 0)) (qa_cons (qv (pv 1)) qa_nil) (al_suc (al_cons al_nil))))
    (qss_cons (qs_expr (qmeth T_Order D_Order__refuse_stranger (hr.mono (by omega)) (qv (pv 0)) (qa_cons (qv (pv 2)) qa_nil) (al_suc (al_cons al_nil))))
    (qss_one (qs_ret (qcmp (op_inP hr) ops_inT (qv (pv 2)) (qiy (hu_of hr) (qfld T_Order (N_Order _ (.tail _ (.head _))) (qv (pv 0))) (qv (pv 1)) (fun _ _=>rfl)) (by with_unfolding_all rfl))))))⟩
theorem ok__law_right (F:DefAt K mg "_law_right" s__law_right ["_law_order_here", "_law_masks_here", "_law_names_here"]) (D_Order__greatest:MOk P w K mg base c_Order "greatest" 1 ["self"] (spP K 1 m_Order__greatest)) (D_Order__least:MOk P w K mg base c_Order "least" 1 ["self"] (spP K 1 m_Order__least)) (D_Order__ranks:MOk P w K mg base c_Order "ranks" 1 ["self"] (spP K 1 m_Order__ranks)) (D_Order__under:MOk P w K mg base c_Order "under" 2 ["self", "one", "other"] (spP K 3 m_Order__under)) (D__law_is_under:DefOk P w K mg base "_law_is_under" 1 ["_law_one", "_law_other"] (spP K 2 m__law_is_under)):DefOk P w K mg base "_law_right" 3 ["_law_order_here", "_law_masks_here", "_law_names_here"] (spP K 3 m__law_right):=
  F.ok (k:=2) sc__law_right fun f cdv A outer s H E hr=>⟨_,fun _ _=>rfl,(qss_cons (qs_set (i:=3) sc__law_right.nd rfl (Or.inl rfl) (qmeth0 T_Order D_Order__ranks (hr.mono (by omega)) (qv (pv 0)) rfl))
    (qss_cons (qs_set (i:=4) sc__law_right.nd rfl (Or.inl rfl) (qmeth0 T_Order D_Order__ranks (hr.mono (by omega)) (qv (pv 0)) rfl))
    (qss_cons (qs_if (qtread (PW.pt (qw_or (qt_not (qtruth (qis (pe_callB call_isinst (by rfl) (B _ (.tail _ (.tail _ (.tail _ (.head _))))) (by kernel_rfl) (pa_cons (qv (pv 3)) (pa_cons (pe_bltn (v:=.ty "list") (u:=.type "list") rfl (B _ (.tail _ (.tail _ (.tail _ (.tail _ (.tail _ (.head _))))))) (by kernel_rfl) rfl) pa_nil)))) (fun _=>rfl))) (qw_or1 (qtcmp (op_neP hr) ops_ne (qv (pv 3)) (qv (pv 2)) (nomark _))))))
    (qss_one (qs_ret (qc pe_bl rep_bl)))
    qss_nil)
    (qss_cons (qs_rev (ps_expr (pe_bm0 PySem.F.plainAttrs_list PySem.F.slot_list_reverse PySem.F.type_list_reverse mt_reverse (pv 3))))
    (qss_cons (qs_app (ps_expr (pe_bm PySem.F.plainAttrs_list PySem.F.slot_list_append PySem.F.type_list_append mt_append (pv 3) (qa_cons (qix' (qv (pv 2)) (qc pe_int rep_int) (fun _ _=>rfl)) qa_nil))))
    (qss_cons (qs_if (PW.pt (qw_or (qtcmp (op_neP hr) ops_ne (qv (pv 4)) (qv (pv 2)) (nomark _)) (qw_or (qtcmp (op_neP hr) ops_ne (qmeth0 T_Order D_Order__ranks (hr.mono (by omega)) (qv (pv 0)) rfl) (qv (pv 2)) (nomark _)) (qw_or1 (qtread (qtcmp (op_neP hr) ops_ne (qv (pv 3)) (qop op_addP ops_add (qslice3 (qv (pv 2)) qo_none qo_none (qo_some (qneg (qc pe_int rep_int)))) (qslicex (qv (pv 2)) qo_none (qo_some (qc pe_int rep_int)))) (nomark _)))))))
    (qss_one (qs_ret (qc pe_bl rep_bl)))
    qss_nil)
    (qss_cons (qs_for PassesOwn.never rfl (qi_zip rfl (B _ (.tail _ (.tail _ (.tail _ (.tail _ (.tail _ (.tail _ (.tail _ (.tail _ (.head _)))))))))) (qa_cons (qv (pv 1)) (qa_cons (qv (pv 2)) qa_nil))) (pg_seq rfl (pgs_cons (pg_name (i:=5) sc__law_right.nd rfl (Or.inl rfl)) (pgs_cons (pg_name (i:=6) sc__law_right.nd rfl (Or.inl rfl)) pgs_nil))) (gs_seq (gs_cons gs_name (gs_cons gs_name gs_nil)))
    (qss_one (qs_for PassesOwn.never rfl (qi_zip rfl (B _ (.tail _ (.tail _ (.tail _ (.tail _ (.tail _ (.tail _ (.tail _ (.tail _ (.head _)))))))))) (qa_cons (qv (pv 1)) (qa_cons (qv (pv 2)) qa_nil))) (pg_seq rfl (pgs_cons (pg_name (i:=7) sc__law_right.nd rfl (Or.inl rfl)) (pgs_cons (pg_name (i:=8) sc__law_right.nd rfl (Or.inl rfl)) pgs_nil))) (gs_seq (gs_cons gs_name (gs_cons gs_name gs_nil)))
    (qss_cons (qs_set (i:=9) sc__law_right.nd rfl (Or.inl rfl) (qmeth T_Order D_Order__under (hr.mono (by omega)) (qv (pv 0)) (qa_cons (qv (pv 6)) (qa_cons (qv (pv 8)) qa_nil)) (al_suc (al_cons (al_cons al_nil)))))
    (qss_one (qs_if (PW.pt (qw_or (qt_not (qtruth (qis (pe_callB call_isinst (by rfl) (B _ (.tail _ (.tail _ (.tail _ (.head _))))) (by kernel_rfl) (pa_cons (qv (pv 9)) (pa_cons (pe_bltn (v:=.ty "bool") (u:=.type "bool") rfl (B _ (.tail _ (.tail _ (.head _)))) (by kernel_rfl) rfl) pa_nil)))) (fun _=>rfl))) (qw_or1 (qtcmp (op_neP hr) ops_ne (qv (pv 9)) (qcall D__law_is_under (hr.mono (by omega)) rfl (qa_cons (qv (pv 5)) (qa_cons (qv (pv 7)) qa_nil)) (al_cons (al_cons al_nil))) (nomark _)))))
    (qss_one (qs_ret (qc pe_bl rep_bl)))
    qss_nil))))))
    (qss_one (qs_ret (qand (qcmp (op_eqP hr) ops_eq (qmeth0 T_Order D_Order__least (hr.mono (by omega)) (qv (pv 0)) rfl) (qix' (qv (pv 2)) (qindex (pe_bm PySem.F.plainAttrs_list PySem.F.slot_list_index PySem.F.type_list_index (mt_index hr) (qv (pv 1)) (qa_cons (qcallB (call_min1 rfl) cs_min1 (pe_callB (call_min1 rfl) (by rfl) (B _ (.tail _ (.tail _ (.tail _ (.tail _ (.tail _ (.tail _ (.head _)))))))) (by kernel_rfl) (qa_cons (qv (pv 1)) qa_nil))) qa_nil))) (fun _ _=>rfl)) (nomark _)) (qone (qcmp (op_eqP hr) ops_eq (qmeth0 T_Order D_Order__greatest (hr.mono (by omega)) (qv (pv 0)) rfl) (qix' (qv (pv 2)) (qindex (pe_bm PySem.F.plainAttrs_list PySem.F.slot_list_index PySem.F.type_list_index (mt_index hr) (qv (pv 1)) (qa_cons (qc pe_int rep_int) qa_nil))) (fun _ _=>rfl)) (nomark _)))))))))))))⟩
theorem ok_Order____init__ (F:MAt K c_Order "__init__" "Order.__init__" s_Order____init__ ["self", "names", "pairs"]) (D_all_above:DefOk P w K mg base "all_above" 2 ["names", "pairs"] (spP K 2 m_all_above)) (D_all_beneath:DefOk P w K mg base "all_beneath" 3 ["names", "pairs"] (spP K 2 m_all_beneath)) (D_bounds:DefOk P w K mg base "bounds" 2 ["reach"] (spP K 1 m_bounds)) (D_refuse_names:DefOk P w K mg base "refuse_names" 2 ["names", "pairs"] (spP K 2 m_refuse_names)) (D_refuse_order:DefOk P w K mg base "refuse_order" 5 ["names", "pairs"] (spP K 2 m_refuse_order)):MOk P w K mg base c_Order "__init__" 6 ["self", "names", "pairs"] (spP K 3 m_Order____init__):=
  F.ok (k:=5) sc_Order____init__ fun f cdv A outer s H E hr=>⟨_,fun _ _=>rfl,(qss_cons (qs_expr (qreadC (qcall D_refuse_names (hr.mono (by omega)) rfl (qa_cons (qv (pv 1)) (qa_cons (qv (pv 2)) qa_nil)) (al_cons (al_cons al_nil)))))
    (qss_cons (qs_expr (qreadC (qcall D_refuse_order (hr.mono (by omega)) rfl (qa_cons (qv (pv 1)) (qa_cons (qv (pv 2)) qa_nil)) (al_cons (al_cons al_nil)))))
    (qss_cons (qs_fldP T_Order (N_Order _ (.head _)) (qv (pv 0)) (qreadC (PE.imp (pe_callTy call_list_of (by rfl) (B _ (.tail _ (.tail _ (.tail _ (.tail _ (.tail _ (.head _))))))) (by kernel_rfl) (qa_cons (qv (pv 1)) qa_nil)) (cb_imp cs_list))))
    (qss_cons (qs_fldP T_Order (N_Order _ (.tail _ (.head _))) (qv (pv 0)) (qfz (qcall D_all_above (hr.mono (by omega)) rfl (qa_cons (qv (pv 1)) (qa_cons (qv (pv 2)) qa_nil)) (al_cons (al_cons al_nil)))))
    (qss_cons (qs_fldP T_Order (N_Order _ (.tail _ (.tail _ (.head _)))) (qv (pv 0)) (qcall D_bounds (hr.mono (by omega)) rfl (qa_cons (qfld T_Order (N_Order _ (.tail _ (.head _))) (qv (pv 0))) qa_nil) (al_cons al_nil)))
    (qss_cons (qs_fldP T_Order (N_Order _ (.tail _ (.tail _ (.tail _ (.head _))))) (qv (pv 0)) (qcall D_bounds (hr.mono (by omega)) rfl (qa_cons (qfz (qcall D_all_beneath (hr.mono (by omega)) rfl (qa_cons (qv (pv 1)) (qa_cons (qv (pv 2)) qa_nil)) (al_cons (al_cons al_nil)))) qa_nil) (al_cons al_nil)))
    (qss_cons (qs_fldP T_Order (N_Order _ (.tail _ (.tail _ (.tail _ (.tail _ (.head _)))))) (qv (pv 0)) (qreadC (qiy (hu_of hr) (qcomp ["name"] ["self", "names"] [0,1] rfl (cs_mk (defScope s_Order____init__) rfl rfl (by decide +kernel) (by decide +kernel) (by decide +kernel) (by decide +kernel) rfl (by decide +kernel)) (qi_any (qv (pv 1))) (fun _ _ _ _=>(pg_name (i:=0) (show (["name", "self", "names"]:List Str).Nodup from by decide +kernel) rfl (Or.inl rfl))) gs_name (fun _ _ _ _=>(qifs_one (qtcmp (op_eqY hr) ops_eqY (qlen (pe_callB call_len (by rfl) (B _ (.tail _ (.tail _ (.tail _ (.tail _ (.head _)))))) PySem.boot_len (qa_cons (qiy (hu_of hr) (qfldR T_Order (N_Order _ (.tail _ (.head _))) (qv (pv 1))) (qv (pv 0)) (fun _ _=>rfl)) qa_nil))) (qlen (pe_callB call_len (by rfl) (B _ (.tail _ (.tail _ (.tail _ (.tail _ (.head _)))))) PySem.boot_len (qa_cons (qv (pv 2)) qa_nil))) (nomark _)))) (fun _ _ _ _=>(qv (pv 0)))) (qc pe_int rep_int) (fun _ _=>rfl))))
    (qss_one (qs_fldP T_Order (N_Order _ (.tail _ (.tail _ (.tail _ (.tail _ (.tail _ (.head _))))))) (qv (pv 0)) (qreadC (qiy (hu_of hr) (qcomp ["name"] ["self"] [0] rfl (cs_mk (defScope s_Order____init__) rfl rfl (by decide +kernel) (by decide +kernel) (by decide +kernel) (by decide +kernel) rfl (by decide +kernel)) (qi_any (qv (pv 1))) (fun _ _ _ _=>(pg_name (i:=0) (show (["name", "self"]:List Str).Nodup from by decide +kernel) rfl (Or.inl rfl))) gs_name (fun _ _ _ _=>(qifs_one (qtcmp (op_eqY hr) ops_eqY (qlen (pe_callB call_len (by rfl) (B _ (.tail _ (.tail _ (.tail _ (.tail _ (.head _)))))) PySem.boot_len (qa_cons (qiy (hu_of hr) (qfldR T_Order (N_Order _ (.tail _ (.head _))) (qv (pv 1))) (qv (pv 0)) (fun _ _=>rfl)) qa_nil))) (qc pe_int rep_int) (nomark _)))) (fun _ _ _ _=>(qv (pv 0)))) (qc pe_int rep_int) (fun _ _=>rfl))))))))))))⟩
theorem ok_law {f:Addr} {fd:FuncData} (F:Fun K "law" "law" s_law f fd) (D_Order____init__:MkOk P w K mg base c_Order 6 ["self", "names", "pairs"] (spP K 3 m_Order____init__)) (D__law_order:DefOk P w K mg base "_law_order" 4 ["_law_script", "_law_at", "_law_count"] (spP K 3 m__law_order)) (D__law_right:DefOk P w K mg base "_law_right" 3 ["_law_order_here", "_law_masks_here", "_law_names_here"] (spP K 3 m__law_right)):FnOk P w K mg base CX0 8 f fd ["_law_script"] (spP K 1 m_law):=
  Fun.okP (k:=7) F sc_law fun cdv A outer s H E hr=>⟨_,fun _ _=>rfl,(qss_cons (qs_open (i:=3) (qs_asg (qcall D__law_order (hr.mono (by omega)) rfl (qa_cons (qv (pv 0)) (qa_cons (qc pe_int rep_int) (qa_cons (qop op_addP ops_add (qc pe_int rep_int) (qop op_fdiv ops_fdiv (qcallB call_len cs_len (pe_callB call_len (by rfl) (B _ (.tail _ (.tail _ (.tail _ (.tail _ (.head _)))))) PySem.boot_len (qa_cons (qv (pv 0)) qa_nil))) (qc pe_int rep_int))) qa_nil))) (al_cons (al_cons (al_cons al_nil)))) (pg_seq rfl (pgs_cons (pg_name (i:=1) sc_law.nd rfl (Or.inl rfl)) (pgs_cons (pg_name (i:=2) sc_law.nd rfl (Or.inl rfl)) (pgs_cons (pg_name (i:=3) sc_law.nd rfl (Or.inl rfl)) pgs_nil)))) (gs_seq (gs_cons gs_name (gs_cons gs_name (gs_cons gs_name gs_nil))))))
    (qss_cons (qs_open (i:=6) (qs_asg (qcall D__law_order (hr.mono (by omega)) rfl (qa_cons (qslice3 (qv (pv 0)) qo_none qo_none (qo_some (qneg (qc pe_int rep_int)))) (qa_cons (qc pe_int rep_int) (qa_cons (qop op_addP ops_add (qc pe_int rep_int) (qop op_fdiv ops_fdiv (qcallB call_len cs_len (pe_callB call_len (by rfl) (B _ (.tail _ (.tail _ (.tail _ (.tail _ (.head _)))))) PySem.boot_len (qa_cons (qv (pv 0)) qa_nil))) (qc pe_int rep_int))) qa_nil))) (al_cons (al_cons (al_cons al_nil)))) (pg_seq rfl (pgs_cons (pg_name (i:=4) sc_law.nd rfl (Or.inl rfl)) (pgs_cons (pg_name (i:=5) sc_law.nd rfl (Or.inl rfl)) (pgs_cons (pg_name (i:=6) sc_law.nd rfl (Or.inl rfl)) pgs_nil)))) (gs_seq (gs_cons gs_name (gs_cons gs_name (gs_cons gs_name gs_nil))))))
    (qss_cons (qs_set (i:=7) sc_law.nd rfl (Or.inl rfl) (PE.imp (pe_callTy call_list_of (by rfl) (B _ (.tail _ (.tail _ (.tail _ (.tail _ (.tail _ (.head _))))))) (by kernel_rfl) (qa_cons (qv (pv 2)) qa_nil)) (cb_imp cs_list)))
    (qss_cons (qs_open (i:=3) (qs_open (i:=7) (qs_seal (i:=7) (qs_seal (i:=3) (qs_set (i:=8) sc_law.nd rfl (Or.inl rfl) (qmake T_Order D_Order____init__ (hr.mono (by omega)) rfl (qa_cons (qv (pv 7)) (qa_cons (qv (pv 3)) qa_nil)) (al_suc (al_cons (al_cons al_nil)))))))))
    (qss_cons (qs_open (i:=6) (qs_seal (i:=6) (qs_set (i:=9) sc_law.nd rfl (Or.inl rfl) (qmake T_Order D_Order____init__ (hr.mono (by omega)) rfl (qa_cons (qv (pv 5)) (qa_cons (qv (pv 6)) qa_nil)) (al_suc (al_cons (al_cons al_nil)))))))
    (qss_cons (qs_clr (ps_expr (pe_bm0 PySem.F.plainAttrs_list PySem.F.slot_list_clear PySem.F.type_list_clear mt_clear (pv 6))))
    (qss_cons (qs_if (PW.pt (qw_or (qt_not (qtruth (qcall D__law_right (hr.mono (by omega)) rfl (qa_cons (qv (pv 8)) (qa_cons (qv (pv 1)) (qa_cons (qv (pv 2)) qa_nil))) (al_cons (al_cons (al_cons al_nil)))) (fun _=>rfl))) (qw_or1 (qt_not (qtruth (qcall D__law_right (hr.mono (by omega)) rfl (qa_cons (qv (pv 9)) (qa_cons (qv (pv 4)) (qa_cons (qv (pv 5)) qa_nil))) (al_cons (al_cons (al_cons al_nil)))) (fun _=>rfl))))))
    (qss_one (qs_ret (qc pe_bl rep_bl)))
    qss_nil)
    (qss_cons (qs_rev (ps_expr (pe_bm0 PySem.F.plainAttrs_list PySem.F.slot_list_reverse PySem.F.type_list_reverse mt_reverse (pv 7))))
    (qss_cons (qs_app (ps_expr (pe_bm PySem.F.plainAttrs_list PySem.F.slot_list_append PySem.F.type_list_append mt_append (pv 7) (qa_cons (qc pe_str rep_str) qa_nil))))
    (qss_cons (qs_clr (ps_expr (pe_bm0 PySem.F.plainAttrs_list PySem.F.slot_list_clear PySem.F.type_list_clear mt_clear (pv 3))))
    (qss_cons (qs_app (ps_expr (pe_bm PySem.F.plainAttrs_list PySem.F.slot_list_append PySem.F.type_list_append mt_append (pv 6) (qa_cons (qtup (qa_cons (qc pe_str rep_str) (qa_cons (qc pe_str rep_str) qa_nil))) qa_nil))))
    (qss_one (qs_ret (qand (qcall D__law_right (hr.mono (by omega)) rfl (qa_cons (qv (pv 8)) (qa_cons (qv (pv 1)) (qa_cons (qv (pv 2)) qa_nil))) (al_cons (al_cons (al_cons al_nil)))) (qone (qcall D__law_right (hr.mono (by omega)) rfl (qa_cons (qv (pv 9)) (qa_cons (qv (pv 4)) (qa_cons (qv (pv 5)) qa_nil))) (al_cons (al_cons (al_cons al_nil)))))))))))))))))))⟩
end
local macro_rules | `(tactic| walk_at "op")=>`(tactic| first | exact rfl | exact modP_go rfl rfl (by omega) | exact fdivP_go rfl rfl (by omega) (by omega) | exact mulP_gor rfl rfl (by omega) (by omega) | exact mulP_gol rfl rfl (by omega) (by omega) | assumption)
local macro_rules | `(tactic| walk_at "ev")=>`(tactic| first
  | ((with_reducible refine' op_go ?h1 ?h2 ?h3 ?h4 ?h5); (case h1=>walk_at "ev"); (case h2=>exact rfl); (case h3=>walk_at "ev"); (case h4=>exact rfl); (case h5=>walk_at "op"))
  | ((with_reducible refine' seq_go ?h1 ?h2); (case h1=>walk_at "ev"); (case h2=>walk_at "ev"))
  | ((with_reducible refine' set_go ?h1 ?h2 ?h3); (case h1=>walk_at "ev"); (case h2=>exact rfl); (case h3=>exact rfl))
  | ((with_reducible refine' ret_go ?h1); (case h1=>walk_at "ev"))
  | ((with_reducible refine' cons_go ?h1 ?h2); (case h1=>walk_at "ev"); (case h2=>walk_at "ev"))
  | ((with_reducible refine' call_go ?h1 ?h2 ?h3 ?h4 ?h5); (case h1=>walk_at "ev"); (case h2=>exact rfl); (case h3=>exact rfl); (case h4=>exact rfl); (case h5=>walk_at "call"))
  | ((with_reducible refine' b_go ?h1 ?h2 ?h3); (case h1=>walk_at "ev"); (case h2=>exact rfl); (case h3=>walk_at "op"))
  | ((with_reducible refine' tT_go ?h1 ?h2 ?h3); (case h1=>walk_at "ev"); (case h2=>exact rfl); (case h3=>exact rfl))
  | ((with_reducible refine' not_go ?h1); (case h1=>walk_at "ev"))
  | ((with_reducible refine' and_go ?h1 ?h2); (case h1=>walk_at "ev"); (case h2=>walk_at "ev"))
  | ((with_reducible refine' or_go ?h1 ?h2); (case h1=>walk_at "ev"); (case h2=>walk_at "ev"))
  | ((with_reducible refine' tread_go ?h1); (case h1=>walk_at "ev"))
  | ((with_reducible refine' eread_go ?h1 ?h2); (case h1=>walk_at "ev"); (case h2=>exact rfl))
  | ((with_reducible refine' lst_go ?h1 ?h2 ?h3); (case h1=>walk_at "ev"); (case h2=>exact rfl); (case h3=>exact rfl))
  | ((with_reducible refine' tup_go ?h1 ?h2 ?h3); (case h1=>walk_at "ev"); (case h2=>exact rfl); (case h3=>exact rfl))
  | ((with_reducible refine' newc_go ?h1 ?h2 ?h3 ?h4); (case h1=>walk_at "ev"); (case h2=>exact rfl); (case h3=>exact rfl); (case h4=>exact rfl))
  | ((with_reducible refine' is_go ?h1 ?h2 ?h3); (case h1=>walk_at "ev"); (case h2=>exact rfl); (case h3=>exact rfl))
  | ((with_reducible refine' iof_go ?h1 ?h2 ?h3); (case h1=>walk_at "ev"); (case h2=>exact rfl); (case h3=>exact rfl))
  | exact rfl
  | assumption)
local macro_rules | `(tactic| walk_at "call")=>`(tactic| first | assumption | exact rfl)
noncomputable abbrev SS (xs:List Str):List PV:=xs.map .str
noncomputable abbrev PP (ps:List (Str × Str)):List PV:=ps.map fun x=>.tup [.str x.1,.str x.2]
noncomputable abbrev zS (x:List Str):Option Lc:=some (.sh (.lst (SS x)))
noncomputable abbrev zP (x:List (Str × Str)):Option Lc:=some (.sh (.lst (PP x)))
noncomputable abbrev zI (x:Int):Option Lc:=some (.sh (.int x))
noncomputable abbrev zT (x:Str):Option Lc:=some (.sh (.str x))
noncomputable abbrev wS (x:List Str):Lc:=.sh (.lst (SS x))
noncomputable def has (xs:List Str) (x:Str):Bool:=xs.any fun y=>y == x
theorem has_iff {xs:List Str} {x:Str}:has xs x=true ↔ x ∈ xs:=by
  unfold has
  rw [List.any_eq_true]
  constructor
  · rintro ⟨y,hy,e⟩
    rw [← eq_of_beq e]; exact hy
  · intro h; exact ⟨x,h,by simp⟩
theorem has_no {xs:List Str} {x:Str}:has xs x=false ↔ x ∉ xs:=by rw [← has_iff]; simp
theorem in_str {x:Str}:∀ xs:List Str,inDs (eqD 150) (.str x) (SS xs)=some (has xs x)
  | []=>rfl
  | y::ys=>by
    show (some (y == x)).bind (fun b=>(inDs (eqD 150) (.str x) (SS ys)).map fun c=>b || c)=_
    rw [in_str ys]
    rfl
theorem inP_s {xs:List Str} {x:Str}:inP (.str x) (.lst (SS xs))=some (.sh (.bl (has xs x))):=by
  show (inDs (eqD 150) (.str x) (SS xs)).map _=_
  rw [in_str]; rfl
theorem ninP_s {xs:List Str} {x:Str}:ninP (.str x) (.lst (SS xs))=some (.sh (.bl (!has xs x))):=by
  show (inDs (eqD 150) (.str x) (SS xs)).map _=_
  rw [in_str]; rfl
theorem at_int {ns:List Int} {i:Int} (h0:0<=i) (h1:i < ns.length):∃ c ∈ ns,ixP (.lst (ns.map .int)) (.int i)=zI c:=by
  obtain ⟨x,e,e2⟩:=atI_some (l:=ns.map PV.int) (i:=i) h0 (by rw [List.length_map]; exact h1)
  rw [List.getElem?_map] at e2
  obtain ⟨c,hc,rfl⟩:=map_some e2
  exact ⟨c,List.mem_of_getElem? hc,by show (atI (ns.map PV.int) i).map _=_; rw [e]; rfl⟩
noncomputable abbrev LET:Str := "abcdefghijklmnopqrstuvwxyz"
noncomputable def LE (i:Int):Nat:=97 + (i % 26).toNat
noncomputable abbrev one (c:Nat):Str:=⟨#[c]⟩
theorem let_at (i:Int):ixP (.str LET) (.int (i % 26))=zT (one (LE i)):=by
  unfold LE
  have h0:=Int.emod_nonneg i (b:=26) (by decide)
  have h1:=Int.emod_lt_of_pos i (b:=26) (by decide)
  generalize i % 26=r at h0 h1
  obtain ⟨n,rfl⟩:=Int.eq_ofNat_of_zero_le h0
  have h2:n < 26:=by omega
  have:∀ n:Nat,n < 26->(match ixP (.str LET) (.int (n:Int)) with | some (.sh (.str x))=>x.cps.toList == [97 + n] | _=>false)=true:=by decide +kernel
  have h3:=this n h2
  split at h3
  · rename_i x e
    rw [e]
    have h4:x.cps.toList=[97 + n]:=by simpa using h3
    have h5:x=one (97 + n):=by
      cases x with | mk cps=>
      show Str.mk cps=Str.mk #[97 + n]
      congr 1
      exact Array.toList_inj.mp h4
    rw [h5]
    rfl
  · cases h3
theorem join_codes:∀ cs:List Nat,Txt.join "" (cs.map one)=⟨cs.toArray⟩:=by
  intro cs
  unfold Txt.join
  rw [StrLaws.glued_eq_join]
  induction cs with
  | nil=>rfl
  | cons c cs ih=>
    cases cs with
    | nil=>rfl
    | cons d cs=>
      show (one c ++ "" ++ Str.join "" ((d::cs).map one):Str)=_
      rw [ih]
      show Str.mk ((#[c]++#[])++(d::cs).toArray)=_
      simp
theorem strs_map:∀ xs:List Str,strsOf (SS xs)=some xs
  | []=>rfl
  | x::xs=>by
    show (strsOf (SS xs)).map _=_
    rw [strs_map xs]
    rfl
theorem sum_one:∀ cs:List Nat,((cs.map one).map (·.length)).sum=cs.length
  | []=>rfl
  | c::cs=>by rw [List.map_cons,List.map_cons,List.sum_cons,sum_one cs,List.length_cons]; show 1 + _=_; omega
theorem join_eq {fa:EF} {ρ ρ1:Ev} {m:Lc} {cs:List Nat} (h:fa ρ=some (m,ρ1)) (hm:m.pv=.lst (SS (cs.map one))) (hl:cs.length<=100):eJoin (eC (.str "")) (aCons fa aNil) ρ=some (.sh (.str ⟨cs.toArray⟩),ρ1):=by
  rw [← join_codes]
  refine eJoin_eq rfl (cons_go h rfl) rfl hm (strs_map _) ?_
  rw [sum_one,List.length_map,show ("" : Str).length=0 from rfl]
  omega
theorem letters {elt:EF} {c k:Int} {mu:Mu} {g:Nat->Nat} (hk0:0<=k) (hk:k < 100) (he:∀ i:Nat,(i:Int) < k->elt ⟨[zI (0 + i),zT LET,zI c],mu⟩=some (.sh (.str (one (g i))),⟨[zI (0 + i),zT LET,zI c],mu⟩)):
    compP (bName 0) cTrue elt (rngP 0 k.toNat) ⟨[none,zT LET,zI c],mu⟩ []=some (SS (((List.range k.toNat).map g).map one),mu):=by
  have:=compP_map (b:=bName 0) (te:=elt) (mu:=mu) (fun ρ=>∃ o,ρ=⟨[o,zT LET,zI c],mu⟩) (fun ρ ⟨o,e⟩=>by rw [e]) (fun p=>match p with | .int i=>.str (one (g i.toNat)) | _=>.non)
    (xs:=rngP 0 k.toNat) (ρ:=⟨[none,zT LET,zI c],mu⟩) ⟨none,rfl⟩ (by rw [len_rng]; omega) (by
      rintro x hx ρ ⟨o,rfl⟩
      obtain ⟨i,hi,rfl⟩:=mem_rng hx
      refine ⟨_,rfl,_,_,he i (by omega),?_,_,rfl⟩
      show PV.str _=PV.str (one (g (0 + (i:Int)).toNat))
      rw [Int.zero_add,Int.toNat_natCast]) (by
      rintro x hx ρ ρ1 ⟨o,rfl⟩ e
      cases e
      exact ⟨_,rfl⟩)
  rw [this]
  congr 2
  unfold rngP SS
  rw [List.map_map,List.map_map,List.map_map]
  refine List.map_congr_left fun i _=>?_
  show PV.str (one (g (0 + (i:Int)).toNat))=PV.str (one (g i))
  rw [Int.zero_add,Int.toNat_natCast]
theorem seven {c:Int}:∃ m:Int,0 < m/\m<=8/\ixP (.lst [.int 1,.int 2,.int 3,.int 5,.int 6,.int 7,.int 8]) (.int (c % 7))=zI m:=by
  have h0:=Int.emod_nonneg c (b:=7) (by decide)
  have h1:=Int.emod_lt_of_pos c (b:=7) (by decide)
  generalize c % 7=r at h0 h1
  rcases (by omega:r=0\/r=1\/r=2\/r=3\/r=4\/r=5\/r=6) with rfl | rfl | rfl | rfl | rfl | rfl | rfl
  · exact ⟨1,by decide,by decide,rfl⟩
  · exact ⟨2,by decide,by decide,rfl⟩
  · exact ⟨3,by decide,by decide,rfl⟩
  · exact ⟨5,by decide,by decide,rfl⟩
  · exact ⟨6,by decide,by decide,rfl⟩
  · exact ⟨7,by decide,by decide,rfl⟩
  · exact ⟨8,by decide,by decide,rfl⟩
theorem snocSS {xs:List Str} {x:Str}:SS xs++[.str x]=SS (xs++[x]):=by show _=List.map PV.str (xs++[x]); rw [List.map_append]; rfl
noncomputable abbrev NE (c n:Int) (l3 o4 o5 o6 o7 o8:Option Lc) (mu:Mu):Ev:=⟨[zI c,zI n,zT LET,l3,o4,o5,o6,o7,o8],mu⟩
theorem nodup_range {nm:Nat->Str}:∀ {n:Nat},(∀ i j,i < n->j < n->nm i=nm j->i=j)->((List.range n).map nm).Nodup
  | 0,_=>by simp
  | n + 1,h=>by
    rw [List.range_succ,List.map_append,List.map_singleton]
    refine List.nodup_append.mpr ⟨nodup_range fun i j hi hj=>h i j (by omega) (by omega),by simp,?_⟩
    rintro a ha b hb e
    obtain ⟨i,hi,rfl⟩:=List.mem_map.mp ha
    have hb':b=nm n:=by simpa using hb
    rw [hb'] at e
    have h1:=List.mem_range.mp hi
    have:=h i n (by omega) (by omega) e
    omega
noncomputable def cO (d:Int):List Nat:=(List.range 10).map fun i:Nat=>LE (d / 2 + 3 * (0 + i))
noncomputable def nmO (d:Int) (k:Nat):Str:=txtCut ⟨(cO d).toArray⟩ (some ((0 + k:Int) % 5)) (some ((0 + k:Int) % 5 + 1 + (0 + k:Int) / 5))
theorem nmO_inj {d:Int}:∀ i j,i < 8->j < 8->nmO d i=nmO d j->i=j:=by
  have key:∀ k,k < 8->(nmO d k).cps.toList=((cO d).drop (k % 5)).take (1 + k / 5):=by
    intro k hk
    rcases (by omega:k=0\/k=1\/k=2\/k=3\/k=4\/k=5\/k=6\/k=7) with rfl | rfl | rfl | rfl | rfl | rfl | rfl | rfl <;> rfl
  have hl:(cO d).length=10:=by unfold cO; rw [List.length_map,List.length_range]
  have hh:∀ k,k < 8->(nmO d k).cps.toList.length=1 + k / 5/\(nmO d k).cps.toList[0]?=some (LE (d / 2 + 3 * (0 + ((k % 5:Nat):Int)))):=fun k hk=>by
    rw [key k hk]
    refine ⟨by rw [List.length_take,List.length_drop,hl]; omega,?_⟩
    rw [List.getElem?_take,if_pos (by omega),List.getElem?_drop,cO,List.getElem?_map,List.getElem?_range (by omega)]
    rfl
  intro i j hi hj h
  obtain ⟨a1,a2⟩:=hh i hi
  obtain ⟨b1,b2⟩:=hh j hj
  rw [h,b1] at a1
  rw [h,b2] at a2
  have:=Option.some.inj a2
  unfold LE at this
  omega
noncomputable def nmE (l:List Nat) (d:Int) (a:Nat) (k:Nat):Str:=⟨(l.set a (LE (d / 112 + (0 + k)))).toArray⟩
theorem nmE_inj {l:List Nat} {d:Int} {a:Nat} (ha:a < l.length):∀ i j,i < 8->j < 8->nmE l d a i=nmE l d a j->i=j:=by
  intro i j hi hj h
  have h':=congrArg (fun z:Str=>z.cps.toList[a]?) h
  have e:∀ k,(nmE l d a k).cps.toList[a]?=some (LE (d / 112 + (0 + k))):=fun k=>by
    show (l.set a (LE (d / 112 + (0 + k)))).toArray.toList[a]?=_
    simp [ha]
  rw [e,e] at h'
  have h2:=Option.some.inj h'
  unfold LE at h2
  omega
theorem set_one {l:List Nat} {a c:Nat}:(SS (l.map one)).set a (.str (one c))=SS ((l.set a c).map one):=by
  show (List.map PV.str (l.map one)).set a _=List.map PV.str (List.map one (l.set a c))
  rw [List.map_set,List.map_set]
noncomputable def isL (c:Nat):Bool:=!(Builtin.Str.occurrences ("abcdefghijklmnopqrstuvwxyz" : Str) ⟨#[c]⟩ 0 ("abcdefghijklmnopqrstuvwxyz" : Str).length 1).isEmpty
noncomputable def lenB (x:Str):Bool:=decide ((1:Int)<=x.length) && decide ((x.length:Int)<=8)
noncomputable def nameB (x:Str):Bool:=lenB x && x.cps.toList.all isL
theorem chain_eq {x:Str} {o:List (Option Lc)} {mu:Mu} (hx:x.length<=100000):eChain leP leP (eC (PV.int 1)) (eB len1 (aCons (eVar 0) aNil)) (eC (PV.int 8)) ⟨zT x::o,mu⟩=some (.sh (.bl (lenB x)),⟨zT x::o,mu⟩):=by
  simp [eChain,eC,eB,len1,lenP,aCons,aNil,eVar,Ev.set,Lc.pv,leP,iOp,hx,lenB]
  by_cases h:(1:Int)<=x.length
  · simp [h]
  · simp [h]
theorem bools_mapN (f:Nat->Bool):∀ cs:List Nat,boolsOf (cs.map fun c=>.bl (f c))=some (cs.map f)
  | []=>rfl
  | c::cs=>by
    show (boolsOf (cs.map fun c=>.bl (f c))).map _=_
    rw [bools_mapN f cs]
    rfl
theorem all_mapN (f:Nat->Bool) (cs:List Nat):(cs.map f).all id=cs.all f:=by simp [List.all_map]
theorem name_eq {x:Str} {mu:Mu} (hx:x.length<=100000):m_is_name [.str x] mu=some (.sh (.bl (nameB x)),mu):=by
  have comp:compP (bName 0) cTrue (eOp inP (eVar 0) (eC k_LETTERS)) (x.cps.toList.map fun c=>.str ⟨#[c]⟩) ⟨[none],mu⟩ []=some (x.cps.toList.map fun c=>.bl (isL c),mu):=by
    have:=compP_map (b:=bName 0) (te:=eOp inP (eVar 0) (eC k_LETTERS)) (mu:=mu) (fun ρ=>∃ o,ρ=⟨[o],mu⟩) (fun ρ ⟨o,e⟩=>by rw [e]) (fun p=>match p with | .str y=>.bl (isL (y.cps.toList.getD 0 0)) | _=>.non)
      (xs:=x.cps.toList.map fun c=>.str ⟨#[c]⟩) (ρ:=⟨[none],mu⟩) ⟨none,rfl⟩ (by rw [List.length_map,Array.length_toList]; exact hx) ?_ ?_
    · rw [this,List.map_map]
      rfl
    · rintro y hy ρ ⟨o,rfl⟩
      obtain ⟨c,_,rfl⟩:=List.mem_map.mp hy
      exact ⟨_,rfl,_,_,rfl,rfl,_,rfl⟩
    · rintro y hy ρ ρ1 ⟨o,rfl⟩ h
      cases h
      exact ⟨_,rfl⟩
  have e:m_is_name [.str x] mu=((eAnd (eChain leP leP (eC (.int 1)) (eB len1 (aCons (eVar 0) aNil)) (eC (.int 8))) (eB all1 (aCons (eComp (iOf (eVar 0) walkP) 1 [] (bName 0) cTrue (eOp inP (eVar 0) (eC k_LETTERS))) aNil)) ⟨[zT x],mu⟩).map fun x=>Fl.rt x.1 x.2).bind fun x=>match x with
      | .rt r ρ=>some (r,ρ.mu)
      | .nx ρ=>some (.sh .non,ρ.mu)
      | _=>none:=rfl
  have e2:eB all1 (aCons (eComp (iOf (eVar 0) walkP) 1 [] (bName 0) cTrue (eOp inP (eVar 0) (eC k_LETTERS))) aNil) ⟨[zT x],mu⟩=some (.sh (.bl (x.cps.toList.all isL)),⟨[zT x],mu⟩):=by
    have e3:eComp (iOf (eVar 0) walkP) 1 [] (bName 0) cTrue (eOp inP (eVar 0) (eC k_LETTERS)) ⟨[zT x],mu⟩=some (.own (.lst (x.cps.toList.map fun c=>.bl (isL c))),⟨[zT x],mu⟩):=by
      show (compP (bName 0) cTrue (eOp inP (eVar 0) (eC k_LETTERS)) (x.cps.toList.map fun c=>.str ⟨#[c]⟩) ⟨[none],mu⟩ []).map _=_
      rw [comp]
      rfl
    unfold eB aCons
    rw [e3]
    show (all1 [.lst _]).map _=_
    show ((boolsOf (x.cps.toList.map fun c=>.bl (isL c))).map _).map _=_
    rw [bools_mapN,Option.map_some,Option.map_some,all_mapN]
  rw [e]
  unfold eAnd
  rw [chain_eq hx,Option.bind_some]
  cases hl:lenB x with
  | true=>
    show ((eB all1 _ _).map _).bind _=_
    rw [e2]
    simp [nameB,hl]
  | false=>simp [nameB,hl,Lc.pv]
theorem isL_LE (i:Int):isL (LE i)=true:=by
  unfold LE
  have h0:=Int.emod_nonneg i (b:=26) (by decide)
  have h1:=Int.emod_lt_of_pos i (b:=26) (by decide)
  have:∀ n:Nat,n < 26->isL (97 + n)=true:=by decide +kernel
  exact this _ (by omega)
theorem nameB_of {x:Str} (h1:1<=x.cps.toList.length) (h2:x.cps.toList.length<=8) (h:∀ c ∈ x.cps.toList,isL c=true):nameB x=true:=by
  unfold nameB lenB
  have e:x.length=x.cps.toList.length:=by rw [Array.length_toList]; rfl
  rw [Bool.and_eq_true,Bool.and_eq_true]
  exact ⟨⟨decide_eq_true (by omega),decide_eq_true (by omega)⟩,List.all_eq_true.mpr h⟩
theorem nmO_name {d:Int}:∀ k,k < 8->nameB (nmO d k)=true:=by
  have hc:cO d=[LE (d / 2 + 3 * (0 + 0)),LE (d / 2 + 3 * (0 + 1)),LE (d / 2 + 3 * (0 + 2)),LE (d / 2 + 3 * (0 + 3)),LE (d / 2 + 3 * (0 + 4)),LE (d / 2 + 3 * (0 + 5)),LE (d / 2 + 3 * (0 + 6)),LE (d / 2 + 3 * (0 + 7)),LE (d / 2 + 3 * (0 + 8)),LE (d / 2 + 3 * (0 + 9))]:=rfl
  have key:∀ k,k < 8->(nmO d k).cps.toList=((cO d).drop (k % 5)).take (1 + k / 5):=by
    intro k hk
    unfold nmO txtCut
    rw [hc]
    rcases (by omega:k=0\/k=1\/k=2\/k=3\/k=4\/k=5\/k=6\/k=7) with rfl | rfl | rfl | rfl | rfl | rfl | rfl | rfl <;> rfl
  intro k hk
  have hl:(cO d).length=10:=by rw [hc]; rfl
  refine nameB_of ?_ ?_ fun c h=>?_
  · rw [key k hk,List.length_take,List.length_drop,hl]; omega
  · rw [key k hk,List.length_take,List.length_drop,hl]; omega
  · rw [key k hk] at h
    have:=List.mem_of_mem_drop (List.mem_of_mem_take h)
    unfold cO at this
    obtain ⟨i,_,rfl⟩:=List.mem_map.mp this
    exact isL_LE _
theorem nmE_name {l:List Nat} {d:Int} {a:Nat} (h1:1<=l.length) (h8:l.length<=8) (h:∀ c ∈ l,isL c=true) (k:Nat):nameB (nmE l d a k)=true:=by
  have e:(nmE l d a k).cps.toList=l.set a (LE (d / 112 + (0 + k))):=by unfold nmE; simp
  refine nameB_of ?_ ?_ fun c hc=>?_
  · rw [e,List.length_set]; exact h1
  · rw [e,List.length_set]; exact h8
  · rw [e] at hc
    rcases List.mem_or_eq_of_mem_set hc with h' | h'
    · exact h c h'
    · rw [h']; exact isL_LE _
theorem names_eq {c n:Int} {mu:Mu} (hn0:0<=n) (hn:n<=8):∃ xs:List Str,m__law_names [.int c,.int n] mu=some (.own (.lst (SS xs)),mu)/\xs.length=n.toNat/\xs.Nodup/\∀ x ∈ xs,nameB x=true:=by
  obtain ⟨d,hcc⟩:∃ d,c=d:=⟨c,rfl⟩
  have head:∀ (g:SF) R,g (NE d n (some (.own (.lst (SS [])))) none none none none none mu)=R->(sSeq (sSet 2 (eC (.str "abcdefghijklmnopqrstuvwxyz"))) (sSeq (sSet 3 (eLst aNil)) g)) (env0 9 [.int c,.int n] mu)=R:=fun g R hg=>by
    subst hcc
    exact seq_go rfl (seq_go rfl hg)
  have t1:tT (eOp eqP (eOp modP (eVar 0) (eC (.int 2))) (eC (.int 1))) blP (NE d n (some (.own (.lst (SS [])))) none none none none none mu)=some (d % 2 == 1,NE d n (some (.own (.lst (SS [])))) none none none none none mu):=rfl
  have rg:∀ l3 o4 o6 o7 o8,iRange1 (aCons (eVar 1) aNil) (NE d n l3 o4 none o6 o7 o8 mu)=some (rngP 0 n.toNat,NE d n l3 o4 none o6 o7 o8 mu):=fun l3 o4 o6 o7 o8=>iRange1_eq (l:=.sh (.int n)) rfl rfl (by omega) (by omega)
  cases h2:(d % 2 == 1) with
  | true=>
    have ec:=letters (elt:=eIx (eVar 1) (eOp modP (eOp addP (eOp fdivP (eVar 2) (eC (.int 2))) (eOp mulP (eC (.int 3)) (eVar 0))) (eC (.int 26)))) (c:=d) (k:=10) (mu:=mu) (g:=fun i:Nat=>LE (d / 2 + 3 * (0 + i))) (by decide) (by decide) (fun i _=>ix_go (q:=.int ((d / 2 + 3 * (0 + i)) % 26)) rfl rfl (by walk_at "ev") rfl (fun n h=>by cases h) (let_at (d / 2 + 3 * (0 + i))))
    obtain ⟨t,rt,lt⟩:∃ t:Str,t=⟨(cO d).toArray⟩/\t.length<=100000:=⟨_,rfl,by show (cO d).toArray.size<=_; unfold cO; simp⟩
    have ej:∀ (fa:EF) (ρ ρ1:Ev) (m:Lc),fa ρ=some (m,ρ1)->m.pv=.lst (SS ((cO d).map one))->eJoin (eC (.str "")) (aCons fa aNil) ρ=some (.sh (.str t),ρ1):=fun fa ρ ρ1 m h hm=>by rw [rt]; exact join_eq h hm (by unfold cO; simp)
    have hnm:∀ j:Nat,txtCut t (some ((0 + j:Int) % 5)) (some ((0 + j:Int) % 5 + 1 + (0 + j:Int) / 5))=nmO d j:=fun j=>by rw [rt]; rfl
    clear rt
    have s4:sSet 4 (eJoin (eC (.str "")) (aCons (eComp (iRange1 (aCons (eC (.int 10)) aNil)) 1 [2,0] (bName 0) cTrue (eIx (eVar 1) (eOp modP (eOp addP (eOp fdivP (eVar 2) (eC (.int 2))) (eOp mulP (eC (.int 3)) (eVar 0))) (eC (.int 26))))) aNil)) (NE d n (some (.own (.lst (SS [])))) none none none none none mu)=some (.nx (NE d n (some (.own (.lst (SS [])))) (zT t) none none none none mu)):=
      set_go (ej _ _ (NE d n (some (.own (.lst (SS [])))) none none none none none mu) (.own (.lst (SS ((cO d).map one)))) ((eComp_eq (ρ1:=NE d n (some (.own (.lst (SS [])))) none none none none none mu) (iRange1_eq (l:=.sh (.int 10)) (n:=10) rfl rfl (by decide) (by decide)) ec).trans rfl) rfl) rfl rfl
    obtain ⟨ρ',ef,xs,o5,rfl,hx⟩:=forP_nx (b:=bName 5) (body:=sApp 3 (eSlx (eVar 4) (oSome (eOp modP (eVar 5) (eC (.int 5)))) (oSome (eOp addP (eOp addP (eOp modP (eVar 5) (eC (.int 5))) (eC (.int 1))) (eOp fdivP (eVar 5) (eC (.int 5))))))) (xs:=rngP 0 n.toNat) (ρ:=NE d n (some (.own (.lst (SS [])))) (zT t) none none none none mu)
      (fun i ρ=>∃ xs o5,ρ=NE d n (some (.own (.lst (SS xs)))) (zT t) o5 none none none mu/\xs=(List.range i).map (nmO d)) ⟨[],none,rfl,rfl⟩ (by
        rintro i x ρ hx ⟨xs,o5,rfl,hl⟩
        have hi:i < n.toNat:=by have:=(List.getElem?_eq_some_iff.mp hx).1; rw [len_rng] at this; exact this
        obtain ⟨j,rfl,rfl⟩:∃ j:Nat,j=i/\x=.int (0 + (j:Int)):=⟨i,rfl,by unfold rngP at hx; rw [List.getElem?_map,List.getElem?_range hi] at hx; cases hx; rfl⟩
        have hlx:xs.length=j:=by rw [hl]; simp
        have es:eSlx (eVar 4) (oSome (eOp modP (eVar 5) (eC (.int 5)))) (oSome (eOp addP (eOp addP (eOp modP (eVar 5) (eC (.int 5))) (eC (.int 1))) (eOp fdivP (eVar 5) (eC (.int 5))))) (NE d n (some (.own (.lst (SS xs)))) (zT t) (zI (0 + j)) none none none mu)=some (.sh (.str (txtCut t (some ((0 + j:Int) % 5)) (some ((0 + j:Int) % 5 + 1 + (0 + j:Int) / 5)))),NE d n (some (.own (.lst (SS xs)))) (zT t) (zI (0 + j)) none none none mu):=by
          show (if t.length<=100000 then _ else none)=_
          rw [if_pos lt]
          rfl
        refine ⟨_,rfl,NE d n (some (.own (.lst (SS (xs++[txtCut t (some ((0 + j:Int) % 5)) (some ((0 + j:Int) % 5 + 1 + (0 + j:Int) / 5))]))))) (zT t) (zI (0 + j)) none none none mu,.inl ((app_go rfl es rfl rfl (by rw [List.length_map]; omega) rfl).trans ?_),_,_,rfl,by rw [hnm,hl,List.range_succ,List.map_append]; rfl⟩
        rw [← snocSS]
        rfl)
    rw [len_rng] at hx
    have hnd:xs.Nodup:=by rw [hx]; exact nodup_range fun i j hi hj=>nmO_inj i j (by omega) (by omega)
    have hnm2:∀ x ∈ xs,nameB x=true:=fun x h=>by
      rw [hx] at h
      obtain ⟨k,hk,rfl⟩:=List.mem_map.mp h
      exact nmO_name k (by have:=List.mem_range.mp hk; omega)
    have hx:xs.length=n.toNat:=by rw [hx]; simp
    refine ⟨xs,runP_rt (ρ:=NE d n none (zT t) o5 none none none mu) (head _ _ (sSeq_rt ((sIf_t (t1.trans (by rw [h2]))).trans (seq_go s4 (seq_go (for_go (rg _ _ _ _ _) ef) rfl))))),hx,hnd,hnm2⟩
  | false=>
    obtain ⟨m,hm0,hm8,em⟩:=seven (c:=d / 2)
    have s6:sSet 6 (eIx (eLst (aCons (eC (.int 1)) (aCons (eC (.int 2)) (aCons (eC (.int 3)) (aCons (eC (.int 5)) (aCons (eC (.int 6)) (aCons (eC (.int 7)) (aCons (eC (.int 8)) aNil)))))))) (eOp modP (eOp fdivP (eVar 0) (eC (.int 2))) (eC (.int 7)))) (NE d n (some (.own (.lst (SS [])))) none none none none none mu)=some (.nx (NE d n (some (.own (.lst (SS [])))) none none (zI m) none none mu)):=
      set_go (ix_go (l:=.own (.lst [.int 1,.int 2,.int 3,.int 5,.int 6,.int 7,.int 8])) (q:=.int (d / 2 % 7)) rfl rfl rfl rfl (fun n h=>by cases h) em) rfl rfl
    have s7:sSet 7 (eOp modP (eOp fdivP (eVar 0) (eC (.int 14))) (eVar 6)) (NE d n (some (.own (.lst (SS [])))) none none (zI m) none none mu)=some (.nx (NE d n (some (.own (.lst (SS [])))) none none (zI m) (zI (d / 14 % m)) none mu)):=
      set_go (op_go rfl rfl rfl rfl (modP_int hm0)) rfl rfl
    have ha0:=Int.emod_nonneg (d / 14) (b:=m) (by omega)
    have ha1:=Int.emod_lt_of_pos (d / 14) (b:=m) hm0
    generalize d / 14 % m=at_ at s7 ha0 ha1
    have ec0:=letters (elt:=eIx (eVar 1) (eOp modP (eOp addP (eOp fdivP (eVar 2) (eOp addP (eVar 0) (eC (.int 1)))) (eOp mulP (eVar 0) (eVar 0))) (eC (.int 26)))) (c:=d) (k:=m) (mu:=mu) (g:=fun i:Nat=>LE (d / ((0 + i:Int) + 1) + (0 + i) * (0 + i))) (by omega) (by omega) (fun i hi=>ix_go (q:=.int ((d / ((0 + i:Int) + 1) + (0 + i) * (0 + i)) % 26)) rfl rfl (eOp_eq (eOp_eq (eOp_eq rfl rfl (fdivP_int (by omega) (by omega))) (eOp_eq rfl rfl (mulP_l (by omega) (by omega))) rfl) rfl (modP_int (by decide))) rfl (fun n h=>by cases h) (let_at (d / ((0 + i:Int) + 1) + (0 + i) * (0 + i))))
    obtain ⟨l,rl⟩:∃ l,l=(List.range m.toNat).map fun i:Nat=>LE (d / ((0 + i:Int) + 1) + (0 + i) * (0 + i)):=⟨_,rfl⟩
    rw [← rl] at ec0
    have l1:l.length=m.toNat:=by rw [rl]; simp
    obtain ⟨ps,hps⟩:∃ ps,ps=SS (l.map one):=⟨_,rfl⟩
    have ec:=ec0
    rw [← hps] at ec
    have lps:ps.length=m.toNat:=by rw [hps,List.length_map,List.length_map,l1]
    obtain ⟨ρ',ef,xs,o5,o8,rfl,hx⟩:=forP_nx (b:=bName 5) (body:=sSeq (sSet 8 (eComp (iRange1 (aCons (eVar 6) aNil)) 1 [2,0] (bName 0) cTrue (eIx (eVar 1) (eOp modP (eOp addP (eOp fdivP (eVar 2) (eOp addP (eVar 0) (eC (.int 1)))) (eOp mulP (eVar 0) (eVar 0))) (eC (.int 26))))))
      (sSeq (sSetI 8 (eVar 7) (eIx (eVar 2) (eOp modP (eOp addP (eOp fdivP (eVar 0) (eC (.int 112))) (eVar 5)) (eC (.int 26)))))
      (sApp 3 (eJoin (eC (.str "")) (aCons (eVar 8) aNil))))) (xs:=rngP 0 n.toNat) (ρ:=NE d n (some (.own (.lst (SS [])))) none none (zI m) (zI at_) none mu)
      (fun i ρ=>∃ xs o5 o8,ρ=NE d n (some (.own (.lst (SS xs)))) none o5 (zI m) (zI at_) o8 mu/\xs=(List.range i).map (nmE l d at_.toNat)) ⟨[],none,none,rfl,rfl⟩ (by
        rintro i x ρ hx ⟨xs,o5,o8,rfl,hl⟩
        have hi:i < n.toNat:=by have:=(List.getElem?_eq_some_iff.mp hx).1; rw [len_rng] at this; exact this
        obtain ⟨j,rfl,rfl⟩:∃ j:Nat,j=i/\x=.int (0 + (j:Int)):=⟨i,rfl,by unfold rngP at hx; rw [List.getElem?_map,List.getElem?_range hi] at hx; cases hx; rfl⟩
        have hlx:xs.length=j:=by rw [hl]; simp
        obtain ⟨ch,hch,e⟩:∃ ch,ch=LE (d / 112 + (0 + j))/\ixP (.str LET) (.int ((d / 112 + (0 + j)) % 26))=some (.sh (.str ⟨#[ch]⟩)):=⟨_,rfl,let_at _⟩
        obtain ⟨t,rt⟩:∃ t:Str,t=nmE l d at_.toNat j:=⟨_,rfl⟩
        have ej:∀ (fa:EF) (ρ ρ1:Ev) (m:Lc),fa ρ=some (m,ρ1)->m.pv=.lst (ps.set at_.toNat (.str ⟨#[ch]⟩))->eJoin (eC (.str "")) (aCons fa aNil) ρ=some (.sh (.str t),ρ1):=fun fa ρ ρ1 m h hm=>by
          rw [rt]
          rw [hps,set_one,hch] at hm
          exact join_eq h hm (by rw [List.length_set,l1]; omega)
        have g1:sSet 8 (eComp (iRange1 (aCons (eVar 6) aNil)) 1 [2,0] (bName 0) cTrue (eIx (eVar 1) (eOp modP (eOp addP (eOp fdivP (eVar 2) (eOp addP (eVar 0) (eC (.int 1)))) (eOp mulP (eVar 0) (eVar 0))) (eC (.int 26))))) (NE d n (some (.own (.lst (SS xs)))) none (zI (0 + j)) (zI m) (zI at_) o8 mu)=some (.nx (NE d n (some (.own (.lst (SS xs)))) none (zI (0 + j)) (zI m) (zI at_) (some (.own (.lst ps))) mu)):=
          set_go ((eComp_eq (ρ1:=NE d n (some (.own (.lst (SS xs)))) none (zI (0 + j)) (zI m) (zI at_) o8 mu) (iRange1_eq (l:=.sh (.int m)) (n:=m) rfl rfl (by omega) (by omega)) ec).trans rfl) rfl rfl
        have g2:sSetI 8 (eVar 7) (eIx (eVar 2) (eOp modP (eOp addP (eOp fdivP (eVar 0) (eC (.int 112))) (eVar 5)) (eC (.int 26)))) (NE d n (some (.own (.lst (SS xs)))) none (zI (0 + j)) (zI m) (zI at_) (some (.own (.lst ps))) mu)=some (.nx (NE d n (some (.own (.lst (SS xs)))) none (zI (0 + j)) (zI m) (zI at_) (some (.own (.lst (ps.set at_.toNat (.str ⟨#[ch]⟩))))) mu)):=by
          refine seti_go (k:=at_) (j:=at_.toNat) (ix_go (q:=.int ((d / 112 + (0 + j)) % 26)) rfl rfl rfl rfl (fun n h=>by cases h) e) rfl rfl rfl rfl rfl ?_ rfl
          unfold ixN
          rw [if_pos ha0,if_pos (by omega)]
        refine ⟨_,rfl,NE d n (some (.own (.lst (SS (xs++[t]))))) none (zI (0 + j)) (zI m) (zI at_) (some (.sh (.lst (ps.set at_.toNat (.str ⟨#[ch]⟩))))) mu,.inl (seq_go g1 (seq_go g2 ((app_go rfl (ej (eVar 8) _ (NE d n (some (.own (.lst (SS xs)))) none (zI (0 + j)) (zI m) (zI at_) (some (.sh (.lst (ps.set at_.toNat (.str ⟨#[ch]⟩))))) mu) (.sh (.lst (ps.set at_.toNat (.str ⟨#[ch]⟩)))) rfl rfl) rfl rfl (by rw [List.length_map]; omega) rfl).trans ?_))),_,_,_,rfl,by rw [rt,hl,List.range_succ,List.map_append]; rfl⟩
        rw [← snocSS]
        rfl)
    rw [len_rng] at hx
    have hnd:xs.Nodup:=by rw [hx]; exact nodup_range fun i j hi hj=>nmE_inj (by omega) i j (by omega) (by omega)
    have hnm2:∀ x ∈ xs,nameB x=true:=fun x h=>by
      rw [hx] at h
      obtain ⟨k,hk,rfl⟩:=List.mem_map.mp h
      exact nmE_name (by omega) (by omega) (fun c hc=>by rw [rl] at hc; obtain ⟨i,_,rfl⟩:=List.mem_map.mp hc; exact isL_LE _) k
    have hx:xs.length=n.toNat:=by rw [hx]; simp
    exact ⟨xs,runP_rt (ρ:=NE d n none none o5 (zI m) (zI at_) o8 mu) (head _ _ (seq_go ((sIf_f (t1.trans (by rw [h2]))).trans rfl) (seq_go s6 (seq_go s7 (seq_go (for_go (rg _ _ _ _ _) ef) rfl))))),hx,hnd,hnm2⟩
theorem for_step {b:BF} {body:SF} {x:PV} {xs:List PV} {ρ ρ1 ρ2:Ev} {R:Option Fl} (h1:b x ρ=some ρ1) (h2:body ρ1=some (.nx ρ2)) (h3:forP b body xs ρ2=R):forP b body (x::xs) ρ=R:=by
  show (b x ρ).bind _=R
  rw [h1,Option.bind_some,h2,Option.bind_some]
  exact h3
theorem at0 {p:PV} {t:List PV}:atI (p::t) 0=some p:=by
  obtain ⟨x,h,h2⟩:=atI_some (l:=p::t) (i:=0) (by decide) (by simp only [List.length_cons]; omega)
  rw [h,← h2]; rfl
theorem filter_lt {α:Type} {l:List α} {p q:α->Bool} (h:∀ x,q x=true->p x=true) {x:α} (hx:x ∈ l) (h1:p x=true) (h2:q x=false):(l.filter q).length < (l.filter p).length:=by
  induction l with
  | nil=>cases hx
  | cons y ys ih=>
    have hle:∀ ys:List α,(ys.filter q).length<=(ys.filter p).length:=fun ys=>by
      induction ys with
      | nil=>exact Nat.le_refl _
      | cons z zs ihz=>
        rw [List.filter_cons,List.filter_cons]
        cases hq:q z with
        | true=>rw [h z hq]; simp only [if_true,List.length_cons]; omega
        | false=>cases hpz:p z <;> simp only [if_true,Bool.false_eq_true,if_false,List.length_cons] <;> omega
    rw [List.filter_cons,List.filter_cons]
    rcases List.mem_cons.mp hx with rfl | hx
    · rw [h1,h2]
      simp only [if_true,Bool.false_eq_true,if_false,List.length_cons]
      have:=hle ys
      omega
    · have:=ih hx
      cases hq:q y with
      | true=>rw [h y hq]; simp only [if_true,List.length_cons]; omega
      | false=>cases hpy:p y <;> simp only [if_true,Bool.false_eq_true,if_false,List.length_cons] <;> omega
noncomputable def hit (met:List Str) (q:Str × Str):Bool:=has met q.1 && !has met q.2
noncomputable def pass:List (Str × Str)->List Str->Bool->List Str × Bool
  | [],met,g=>(met,g)
  | q::r,met,g=>if hit met q then pass r (met++[q.2]) true else pass r met g
noncomputable def clN (ps:List (Str × Str)):Nat->List Str->List Str
  | 0,met=>met
  | n + 1,met=>if (pass ps met false).2 then clN ps n (pass ps met false).1 else (pass ps met false).1
noncomputable def clm (ps:List (Str × Str)) (x:Str):List Str:=clN ps 69 [x]
noncomputable abbrev CE (N P:PV) (l2 l3 o4 o5:Option Lc) (mu:Mu):Ev:=⟨[some (.sh N),some (.sh P),l2,l3,o4,o5],mu⟩
noncomputable abbrev clB:SF:=sIf (tRead (tAndF (tT (eOp inP (eVar 4) (eVar 2)) blP) (tT (eOp ninP (eVar 5) (eVar 2)) blP))) (sSeq (sApp 2 (eVar 5)) (sSet 3 (eC (.bl true)))) sNil
theorem pass_len:∀ (ps:List (Str × Str)) (met:List Str) (g:Bool),(pass ps met g).1.length<=met.length + ps.length
  | [],met,g=>by simp [pass]
  | q::r,met,g=>by
    unfold pass
    split
    · have:=pass_len r (met++[q.2]) true
      simp at this ⊢; omega
    · have:=pass_len r met g
      simp at this ⊢; omega
theorem pass_eq {N P:PV} {mu:Mu}:∀ (ps:List (Str × Str)) (met:List Str) (g:Bool) (o4 o5:Option Lc),met.length + ps.length<=10000->
    ∃ o4' o5',forP (bSeq 2 (bCons (bName 4) (bCons (bName 5) bNil))) clB (PP ps) (CE N P (some (.own (.lst (SS met)))) (some (.sh (.bl g))) o4 o5 mu)=some (.nx (CE N P (some (.own (.lst (SS (pass ps met g).1)))) (some (.sh (.bl (pass ps met g).2))) o4' o5' mu))
  | [],met,g,o4,o5,_=>⟨o4,o5,rfl⟩
  | q::r,met,g,o4,o5,hz=>by
    rw [List.length_cons] at hz
    have t1:tRead (tAndF (tT (eOp inP (eVar 4) (eVar 2)) blP) (tT (eOp ninP (eVar 5) (eVar 2)) blP)) (CE N P (some (.own (.lst (SS met)))) (some (.sh (.bl g))) (some (.sh (.str q.1))) (some (.sh (.str q.2))) mu)=some (hit met q,CE N P (some (.own (.lst (SS met)))) (some (.sh (.bl g))) (some (.sh (.str q.1))) (some (.sh (.str q.2))) mu):=
      tread_go (and_go (tT_go (op_go rfl rfl rfl rfl inP_s) rfl rfl) (tT_go (op_go rfl rfl rfl rfl ninP_s) rfl rfl))
    unfold pass
    cases hh:hit met q with
    | true=>
      obtain ⟨a,b,e⟩:=pass_eq r (met++[q.2]) true (some (.sh (.str q.1))) (some (.sh (.str q.2))) (by simp; omega)
      refine ⟨a,b,?_⟩
      rw [if_pos rfl]
      refine for_step rfl ((sIf_t (t1.trans (by rw [hh]))).trans (seq_go (app_go (l:=.sh (.str q.2)) rfl rfl rfl rfl (by rw [List.length_map]; omega) rfl) (set_go rfl rfl rfl))) ?_
      show forP _ _ _ (CE N P (some (.own (.lst (SS met++[.str q.2])))) (some (.sh (.bl true))) (some (.sh (.str q.1))) (some (.sh (.str q.2))) mu)=_
      rw [snocSS]
      exact e
    | false=>
      obtain ⟨a,b,e⟩:=pass_eq r met g (some (.sh (.str q.1))) (some (.sh (.str q.2))) (by omega)
      refine ⟨a,b,?_⟩
      rw [if_neg Bool.false_ne_true]
      exact for_step rfl ((sIf_f (t1.trans (by rw [hh]))).trans rfl) e
theorem pass_mono:∀ (ps:List (Str × Str)) (met:List Str) (g:Bool) (x:Str),x ∈ met->x ∈ (pass ps met g).1
  | [],met,g,x,h=>h
  | q::r,met,g,x,h=>by
    unfold pass
    split
    · exact pass_mono r _ _ x (List.mem_append_left _ h)
    · exact pass_mono r _ _ x h
theorem pass_all {P:Str->Prop}:∀ (ps:List (Str × Str)) (met:List Str) (g:Bool),(∀ q ∈ ps,P q.1->P q.2)->(∀ x ∈ met,P x)->∀ x ∈ (pass ps met g).1,P x
  | [],met,g,_,h=>h
  | q::r,met,g,hq,h=>by
    unfold pass
    split
    · rename_i hh
      refine pass_all r _ _ (fun q' h'=>hq q' (List.mem_cons_of_mem _ h')) fun x hx=>?_
      rcases List.mem_append.mp hx with hx | hx
      · exact h x hx
      · have e:x=q.2:=by simpa using hx
        subst e
        unfold hit at hh
        rw [Bool.and_eq_true] at hh
        exact hq q List.mem_cons_self (h _ (has_iff.mp hh.1))
    · exact pass_all r _ _ (fun q' h'=>hq q' (List.mem_cons_of_mem _ h')) h
theorem pass_nodup:∀ (ps:List (Str × Str)) (met:List Str) (g:Bool),met.Nodup->(pass ps met g).1.Nodup
  | [],met,g,h=>h
  | q::r,met,g,h=>by
    unfold pass
    split
    · rename_i hh
      unfold hit at hh
      rw [Bool.and_eq_true] at hh
      have hn:q.2 ∉ met:=has_no.mp (by simpa using hh.2)
      refine pass_nodup r _ _ (List.nodup_append.mpr ⟨h,by simp,?_⟩)
      rintro a ha b hb e
      have:b=q.2:=by simpa using hb
      subst this e
      exact hn ha
    · exact pass_nodup r _ _ h
theorem pass_tt:∀ (ps:List (Str × Str)) (met:List Str),(pass ps met true).2=true
  | [],met=>rfl
  | q::r,met=>by
    unfold pass
    split
    · exact pass_tt r _
    · exact pass_tt r _
theorem pass_no:∀ (ps:List (Str × Str)) (met:List Str),(pass ps met false).2=false->(pass ps met false).1=met/\∀ q ∈ ps,q.1 ∈ met->q.2 ∈ met
  | [],met,_=>⟨rfl,fun q h=>by cases h⟩
  | q::r,met,h=>by
    unfold pass at h ⊢
    split at h
    · rw [pass_tt] at h; cases h
    · rename_i hh
      obtain ⟨h1,h2⟩:=pass_no r met h
      rw [if_neg hh]
      refine ⟨h1,fun q' hq' h3=>?_⟩
      rcases List.mem_cons.mp hq' with rfl | hq'
      · refine Decidable.byContradiction fun h4=>hh ?_
        unfold hit
        rw [has_iff.mpr h3,has_no.mpr h4]
        rfl
      · exact h2 q' hq' h3
theorem pass_yes:∀ (ps:List (Str × Str)) (met:List Str),(pass ps met false).2=true->∃ q ∈ ps,q.2 ∉ met/\q.2 ∈ (pass ps met false).1
  | [],met,h=>by cases h
  | q::r,met,h=>by
    unfold pass at h ⊢
    split at h
    · rename_i hh
      rw [if_pos hh]
      have hh':=hh
      unfold hit at hh'
      rw [Bool.and_eq_true] at hh'
      exact ⟨q,List.mem_cons_self,has_no.mp (by simpa using hh'.2),pass_mono _ _ _ _ (List.mem_append_right _ (by simp))⟩
    · rename_i hh
      rw [if_neg hh]
      obtain ⟨q',h1,h2⟩:=pass_yes r met h
      exact ⟨q',List.mem_cons_of_mem _ h1,h2⟩
theorem clN_mono {ps:List (Str × Str)}:∀ (n:Nat) (met:List Str) (x:Str),x ∈ met->x ∈ clN ps n met
  | 0,met,x,h=>h
  | n + 1,met,x,h=>by
    unfold clN
    split
    · exact clN_mono n _ x (pass_mono _ _ _ x h)
    · exact pass_mono _ _ _ x h
theorem clN_all {P:Str->Prop} {ps:List (Str × Str)} (hq:∀ q ∈ ps,P q.1->P q.2):∀ (n:Nat) (met:List Str),(∀ x ∈ met,P x)->∀ x ∈ clN ps n met,P x
  | 0,met,h=>h
  | n + 1,met,h=>by
    unfold clN
    split
    · exact clN_all hq n _ (pass_all _ _ _ hq h)
    · exact pass_all _ _ _ hq h
theorem clN_nodup {ps:List (Str × Str)}:∀ (n:Nat) (met:List Str),met.Nodup->(clN ps n met).Nodup
  | 0,met,h=>h
  | n + 1,met,h=>by
    unfold clN
    split
    · exact clN_nodup n _ (pass_nodup _ _ _ h)
    · exact pass_nodup _ _ _ h
noncomputable abbrev left (ps:List (Str × Str)) (met:List Str):Nat:=(ps.filter fun q=>!has met q.2).length
theorem left_lt {ps:List (Str × Str)} {met:List Str} (h:(pass ps met false).2=true):left ps (pass ps met false).1 < left ps met:=by
  obtain ⟨q,h1,h2,h3⟩:=pass_yes ps met h
  refine filter_lt (fun x hx=>?_) h1 (by rw [has_no.mpr h2]; rfl) (by rw [has_iff.mpr h3]; rfl)
  have h4:has (pass ps met false).1 x.2=false:=by simpa using hx
  rw [has_no.mpr fun z=>has_no.mp h4 (pass_mono _ _ _ _ z)]
  rfl
theorem clN_closed {ps:List (Str × Str)}:∀ (n:Nat) (met:List Str),left ps met < n->∀ q ∈ ps,q.1 ∈ clN ps n met->q.2 ∈ clN ps n met
  | n + 1,met,h=>by
    unfold clN
    split
    · rename_i hh
      exact clN_closed n _ (by have:=left_lt hh; omega)
    · rename_i hh
      have hh':(pass ps met false).2=false:=by simpa using hh
      obtain ⟨h1,h2⟩:=pass_no ps met hh'
      rw [h1]
      exact h2
noncomputable abbrev whB:SF:=sSeq (sSet 3 (eC (.bl false))) (sFor (iOf (eVar 1) walkP) (bSeq 2 (bCons (bName 4) (bCons (bName 5) bNil))) clB)
theorem while_eq {N:PV} {ps:List (Str × Str)} {mu:Mu}:∀ (n:Nat) (met:List Str) (o4 o5:Option Lc),left ps met < n->met.length + n * ps.length<=10000->
    ∃ o4' o5',whileP (tT (eVar 3) truP) whB (n + 1) (CE N (.lst (PP ps)) (some (.own (.lst (SS met)))) (some (.sh (.bl true))) o4 o5 mu)=some (.nx (CE N (.lst (PP ps)) (some (.own (.lst (SS (clN ps n met))))) (some (.sh (.bl false))) o4' o5' mu))
  | n + 1,met,o4,o5,hn,hl=>by
    have hp:=pass_len ps met false
    have e0:(n + 1) * ps.length=n * ps.length + ps.length:=Nat.succ_mul _ _
    obtain ⟨a,b,e⟩:=pass_eq (N:=N) (P:=.lst (PP ps)) (mu:=mu) ps met false o4 o5 (by omega)
    have hb:whB (CE N (.lst (PP ps)) (some (.own (.lst (SS met)))) (some (.sh (.bl true))) o4 o5 mu)=some (.nx (CE N (.lst (PP ps)) (some (.own (.lst (SS (pass ps met false).1)))) (some (.sh (.bl (pass ps met false).2))) a b mu)):=
      seq_go (ρ':=CE N (.lst (PP ps)) (some (.own (.lst (SS met)))) (some (.sh (.bl false))) o4 o5 mu) (set_go rfl rfl rfl) (for_go (ρ1:=CE N (.lst (PP ps)) (some (.own (.lst (SS met)))) (some (.sh (.bl false))) o4 o5 mu) (iof_go (l:=.sh (.lst (PP ps))) rfl rfl rfl) e)
    have hw:∀ (k:Nat),whileP (tT (eVar 3) truP) whB (k + 1) (CE N (.lst (PP ps)) (some (.own (.lst (SS met)))) (some (.sh (.bl true))) o4 o5 mu)=whileP (tT (eVar 3) truP) whB k (CE N (.lst (PP ps)) (some (.own (.lst (SS (pass ps met false).1)))) (some (.sh (.bl (pass ps met false).2))) a b mu):=fun k=>by
      show ((tT (eVar 3) truP _).bind _)=_
      rw [show tT (eVar 3) truP (CE N (.lst (PP ps)) (some (.own (.lst (SS met)))) (some (.sh (.bl true))) o4 o5 mu)=some (true,CE N (.lst (PP ps)) (some (.own (.lst (SS met)))) (some (.sh (.bl true))) o4 o5 mu) from rfl,Option.bind_some,if_pos rfl,hb,Option.bind_some]
    unfold clN
    rw [hw]
    split
    · rename_i hh
      rw [hh]
      exact while_eq n _ a b (by have:=left_lt hh; omega) (by omega)
    · rename_i hh
      have hh':(pass ps met false).2=false:=by simpa using hh
      rw [hh']
      exact ⟨a,b,rfl⟩
theorem climbed_eq {x:Str} {ps:List (Str × Str)} {mu:Mu} (hl:ps.length<=68):m_climbed [.str x,.lst (PP ps)] mu=some (.own (.lst (SS (clm ps x))),mu):=by
  obtain ⟨a,b,e⟩:=while_eq (N:=.str x) (ps:=ps) (mu:=mu) 69 [x] none none (by have:=List.length_filter_le (fun q:Str × Str=>!has [x] q.2) ps; show (ps.filter _).length < 69; omega) (by simp; omega)
  exact runP_rt (ρ:=CE (.str x) (.lst (PP ps)) none (some (.sh (.bl false))) a b mu) (seq_go (ρ':=CE (.str x) (.lst (PP ps)) (some (.own (.lst (SS [x])))) none none none mu) (set_go (lst_go (ls:=[.sh (.str x)]) rfl rfl rfl) rfl rfl) (seq_go (ρ':=CE (.str x) (.lst (PP ps)) (some (.own (.lst (SS [x])))) (some (.sh (.bl true))) none none mu) (set_go rfl rfl rfl) (seq_go e rfl)))
inductive Rt {α:Type} (E:α->α->Prop):α->α->Prop
  | refl (a:α):Rt E a a
  | step {a b c:α}:Rt E a b->E b c->Rt E a c
theorem Rt.trans {α:Type} {E:α->α->Prop} {a b c:α} (h:Rt E a b) (g:Rt E b c):Rt E a c:=by
  induction g with
  | refl=>exact h
  | step _ e ih=>exact ih.step e
theorem Rt.head {α:Type} {E:α->α->Prop} {a b c:α} (e:E a b) (g:Rt E b c):Rt E a c:=Rt.trans (.step (.refl a) e) g
theorem Rt.back {α:Type} {E:α->α->Prop} {a b:α} (h:Rt E a b):Rt (fun x y=>E y x) b a:=by
  induction h with
  | refl=>exact .refl _
  | step _ e ih=>exact .head e ih
theorem clm_mem {ps:List (Str × Str)} {x y:Str} (hl:ps.length<=68):y ∈ clm ps x ↔ Rt (fun a b=>(a,b) ∈ ps) x y:=by
  constructor
  · refine clN_all (P:=fun y=>Rt (fun a b=>(a,b) ∈ ps) x y) (fun q hq h=>h.step hq) 69 [x] (fun z hz=>?_) y
    have:z=x:=by simpa using hz
    subst this
    exact .refl _
  · intro h
    induction h with
    | refl=>exact clN_mono 69 [x] x (by simp)
    | step _ e ih=>exact clN_closed 69 [x] (by have:=List.length_filter_le (fun q:Str × Str=>!has [x] q.2) ps; show (ps.filter _).length < 69; omega) _ e ih
theorem clm_nodup {ps:List (Str × Str)} {x:Str}:(clm ps x).Nodup:=clN_nodup 69 [x] (by simp)
theorem clm_len {ps:List (Str × Str)} {x:Str} (hl:ps.length<=68):(clm ps x).length<=10000:=by
  have:∀ (n:Nat) (met:List Str),(clN ps n met).length<=met.length + n * ps.length:=by
    intro n
    induction n with
    | zero=>intro met; simp [clN]
    | succ n ih=>
      intro met
      have e0:(n + 1) * ps.length=n * ps.length + ps.length:=Nat.succ_mul _ _
      have hp:=pass_len ps met false
      unfold clN
      split
      · have:=ih (pass ps met false).1
        omega
      · omega
  have:=this 69 [x]
  simp only [List.length_singleton] at this
  unfold clm
  omega
theorem unz {α β:Type}:∀ l:List (α × β),(l.map (·.1)).zip (l.map (·.2))=l
  | []=>rfl
  | x::l=>by rw [List.map_cons,List.map_cons,List.zip_cons_cons,unz l]
theorem setd_go {i:Nat} {fi fv:EF} {ρ ρ1 ρ2 ρ':Ev} {x y:Lc} {p:PV} {k:Key} {l0 l:PD} (h:fv ρ=some (x,ρ1)) (hxp:x.pv=p) (h0:ρ1.vs[i]?=some (some (.own (dkP l0)))) (h2:fi ρ1=some (y,ρ2)) (hy:keyP y.pv=some k) (h1:ρ2.vs[i]?=some (some (.own (dkP l)))) (hl:l.length < 100000) (e:ρ2.set i (some (.own (dkP (putP l k p))))=ρ'):sSetD i fi fv ρ=some (.nx ρ'):=by
  unfold sSetD
  rw [h,Option.bind_some]
  dsimp only
  rw [h0]
  unfold dkP at *
  dsimp only
  rw [h2,Option.bind_some]
  dsimp only
  rw [hy,h1]
  dsimp only
  rw [List.length_map,if_pos hl,unz,hxp]
  rw [← e]
theorem sett_go {i:Nat} {fi:AF} {fv:EF} {ρ ρ1 ρ2 ρ':Ev} {x:Lc} {ys:List Lc} {p:PV} {k:List Key} {l0 l:PDT} (h:fv ρ=some (x,ρ1)) (hxp:x.pv=p) (h0:ρ1.vs[i]?=some (some (.own (dtP l0)))) (h2:fi ρ1=some (ys,ρ2)) (hy:keysP (ys.map Lc.pv)=some k) (h1:ρ2.vs[i]?=some (some (.own (dtP l)))) (hl:l.length < 100000) (hk:k.length<=1000) (e:ρ2.set i (some (.own (dtP (putT l k p))))=ρ'):sSetT i fi fv ρ=some (.nx ρ'):=by
  unfold sSetT
  rw [h,Option.bind_some]
  dsimp only
  rw [h0]
  unfold dtP at *
  dsimp only
  rw [h2,Option.bind_some]
  dsimp only
  rw [hy,h1]
  dsimp only
  rw [List.length_map,if_pos ⟨hl,hk⟩,unz,hxp]
  rw [← e]
theorem iyd_go {fa fb:EF} {ρ ρ1 ρ2:Ev} {l m:Lc} {d:PD} {x:Str} {p:PV} (h1:fa ρ=some (l,ρ1)) (hx:l.pv=.df (d.map (·.1)) (d.map (·.2))) (h2:fb ρ1=some (m,ρ2)) (hy:m.pv=.str x) (h3:valP d (.inr x)=some p):eIy fa fb ρ=some (.sh p,ρ2):=by
  unfold eIy
  rw [h1,Option.bind_some,h2,Option.bind_some]
  dsimp only
  rw [hx,hy]
  show (some (Sum.inr x:Key)).bind _=_
  rw [Option.bind_some,unz,h3]
  rfl
noncomputable abbrev ab (ps:List (Str × Str)) (x:Str):Key × PV:=(.inr x,.lst (SS (clm ps x)))
noncomputable abbrev abD (ps:List (Str × Str)) (l:List Str):PD:=l.map (ab ps)
theorem abD_no {ps:List (Str × Str)} {x:Str}:∀ {l:List Str},x ∉ l->valP (abD ps l) (.inr x)=none
  | [],_=>rfl
  | y::l,h=>by
    show (if (Sum.inr y:Key)=.inr x then _ else _)=_
    rw [if_neg (fun e=>h (by cases e; exact List.mem_cons_self))]
    exact abD_no fun z=>h (List.mem_cons_of_mem _ z)
theorem abD_yes {ps:List (Str × Str)} {x:Str}:∀ {l:List Str},x ∈ l->valP (abD ps l) (.inr x)=some (.lst (SS (clm ps x)))
  | y::l,h=>by
    show (if (Sum.inr y:Key)=.inr x then _ else _)=_
    by_cases e:y=x
    · subst e
      rw [if_pos rfl]
    · rw [if_neg (fun e'=>e (by cases e'; rfl))]
      rcases List.mem_cons.mp h with h | h
      · exact absurd h.symm e
      · exact abD_yes h
noncomputable abbrev AE (N P:PV) (l2 o3:Option Lc) (mu:Mu):Ev:=⟨[some (.sh N),some (.sh P),l2,o3],mu⟩
noncomputable abbrev nn (mu:Mu):Mu:=mu.map fun _=>none
theorem flat_SS:∀ xs:List Str,flatPs (SS xs)=true
  | []=>rfl
  | x::xs=>by
    show (flatP (.str x) && flatPs (SS xs))=true
    rw [flat_SS xs]
    rfl
theorem flat_PP:∀ ps:List (Str × Str),flatPs (PP ps)=true
  | []=>rfl
  | x::xs=>by
    show (flatP (.tup [.str x.1,.str x.2]) && flatPs (PP xs))=true
    rw [flat_PP xs]
    rfl
theorem readc_go {f:EF} {ρ ρ1:Ev} {r:Lc} (h:f ρ.peekC=some (r,ρ1)) (hf:flatL r=true):eReadC f ρ=some (r,ρ):=by
  unfold eReadC
  rw [h,Option.bind_some,if_pos hf]
theorem forc_go {F:IFC} {B:BF} {body:SF} {o:Option Nat} {xs:List PV} {ρ ρ1:Ev} {R:Option Fl} (h:F ρ=some (o,xs,ρ1)) (h2:forC o xs B body xs ρ1=R):sForC F B body ρ=R:=by
  unfold sForC
  rw [h]
  exact h2
theorem icell_go {f:EF} {ρ ρ1:Ev} {l:Lc} {N:PV} {ns:List PV} (h:f ρ=some (l,ρ1)) (hl:l.pv=N) (hN:resP ρ1.mu N=.lst ns):∃ o,iCell f ρ=some (o,ns,ρ1)/\∀ vs,Holds o ns ⟨vs,ρ1.mu⟩:=by
  unfold resP at hN
  split at hN
  · rename_i n
    split at hN
    · rename_i q hq
      subst hN
      refine ⟨some n,?_,fun vs m e=>by cases e; exact hq⟩
      unfold iCell
      rw [h,Option.bind_some]
      dsimp only
      rw [hl]
      dsimp only
      rw [hq]
    · cases hN
  · subst hN
    refine ⟨none,?_,fun vs m e=>by cases e⟩
    unfold iCell
    rw [h,Option.bind_some]
    dsimp only
    rw [hl]
theorem above_loop {N P:PV} {ps:List (Str × Str)} {mu:Mu} {o:Option Nat} {ns:List PV} (hP:resP mu P=.lst (PP ps)) (ho:∀ vs,Holds o ns ⟨vs,mu⟩) (hp:ps.length<=68):∀ (xs dn:List Str) (o3:Option Lc),(dn++xs).Nodup->dn.length + xs.length<=1000->
    ∃ o3',forC o ns (bName 3) (sSetD 2 (eVar 3) (eReadC (eCall m_climbed (aCons (eVar 3) (aCons (eVar 1) aNil))))) (SS xs) (AE N P (some (.own (dkP (abD ps dn)))) o3 mu)=some (.nx (AE N P (some (.own (dkP (abD ps (dn++xs))))) o3' mu))
  | [],dn,o3,_,_=>⟨o3,by rw [List.append_nil]; exact forC_end (ho _)⟩
  | x::xs,dn,o3,hd,hl=>by
    rw [List.length_cons] at hl
    have hx:x ∉ dn:=fun h=>(List.nodup_append.mp hd).2.2 x h x List.mem_cons_self rfl
    obtain ⟨a,e⟩:=above_loop hP ho hp (N:=N) xs (dn++[x]) (zT x) (by rw [List.append_assoc]; exact hd) (by simp; omega)
    refine ⟨a,?_⟩
    rw [List.append_assoc] at e
    have e2:putP (abD ps dn) (.inr x) (.lst (SS (clm ps x)))=abD ps (dn++[x]):=by
      unfold putP
      rw [abD_no hx]
      show abD ps dn++[ab ps x]=List.map (ab ps) (dn++[x])
      rw [List.map_append]
      rfl
    rw [← e2] at e
    have r:eReadC (eCall m_climbed (aCons (eVar 3) (aCons (eVar 1) aNil))) (AE N P (some (.own (dkP (abD ps dn)))) (zT x) mu)=some (.own (.lst (SS (clm ps x))),AE N P (some (.own (dkP (abD ps dn)))) (zT x) mu):=
      readc_go (call_go (r:=.own (.lst (SS (clm ps x)))) (ls:=[.sh (.str x),.sh (resP mu P)]) (ps:=[.str x,.lst (PP ps)]) (mu:=nn mu) (cons_go rfl (cons_go rfl rfl)) (by show [PV.str x,resP mu P]=_; rw [hP]) rfl rfl (climbed_eq hp)) (flat_SS _)
    exact forC_nx (ρ1:=AE N P (some (.own (dkP (abD ps dn)))) (zT x) mu) (ho _) rfl (setd_go (k:=.inr x) (l0:=abD ps dn) (l:=abD ps dn) r rfl rfl rfl rfl rfl (by rw [List.length_map]; omega) rfl) e
theorem all_above_eqC {N P:PV} {names:List Str} {ps:List (Str × Str)} {mu:Mu} (hN:resP mu N=.lst (SS names)) (hP:resP mu P=.lst (PP ps)) (hp:ps.length<=68) (hd:names.Nodup) (hl:names.length<=1000):m_all_above [N,P] mu=some (.own (dkP (abD ps names)),mu):=by
  obtain ⟨o,e0,ho⟩:=icell_go (f:=eVar 0) (ρ:=AE N P (some (.own (dkP (abD ps [])))) none mu) (ρ1:=AE N P (some (.own (dkP (abD ps [])))) none mu) (l:=.sh N) rfl rfl hN
  obtain ⟨a,e⟩:=above_loop hP ho hp (N:=N) names [] none hd (by simpa using hl)
  exact runP_rt (ρ:=AE N P none a mu) (seq_go (ρ':=AE N P (some (.own (dkP (abD ps [])))) none mu) (set_go rfl rfl rfl) (seq_go (forc_go e0 e) rfl))
theorem all_above_eq {names:List Str} {ps:List (Str × Str)} {mu:Mu} (hp:ps.length<=68) (hd:names.Nodup) (hl:names.length<=1000):m_all_above [.lst (SS names),.lst (PP ps)] mu=some (.own (dkP (abD ps names)),mu):=all_above_eqC rfl rfl hp hd hl
noncomputable abbrev swp (ps:List (Str × Str)):List (Str × Str):=ps.map fun q=>(q.2,q.1)
theorem all_beneath_eqC {N P:PV} {names:List Str} {ps:List (Str × Str)} {mu0:Mu} (hN:resP mu0 N=.lst (SS names)) (hP:resP mu0 P=.lst (PP ps)) (hp:ps.length<=68) (hd:names.Nodup) (hl:names.length<=1000):m_all_beneath [N,P] mu0=some (.own (dkP (abD (swp ps) names)),mu0):=by
  let mu:=nn mu0
  have c:compP (bSeq 2 (bCons (bName 0) (bCons (bName 1) bNil))) cTrue (eTup (aCons (eVar 1) (aCons (eVar 0) aNil))) (PP ps) ⟨[none,none],mu⟩ []=some (PP (swp ps),mu):=by
    have:=compP_map (b:=bSeq 2 (bCons (bName 0) (bCons (bName 1) bNil))) (te:=eTup (aCons (eVar 1) (aCons (eVar 0) aNil))) (mu:=mu) (fun ρ=>∃ o p,ρ=⟨[o,p],mu⟩) (fun ρ ⟨o,p,e⟩=>by rw [e]) (fun p=>match p with | .tup [a,b]=>.tup [b,a] | _=>.non) (xs:=PP ps) (ρ:=⟨[none,none],mu⟩) ⟨none,none,rfl⟩ (by rw [List.length_map]; omega) (by
        rintro x hx ρ ⟨o,p,rfl⟩
        obtain ⟨⟨a,b⟩,_,rfl⟩:=List.mem_map.mp hx
        exact ⟨⟨[zT a,zT b],mu⟩,rfl,.sh (.tup [.str b,.str a]),⟨[zT a,zT b],mu⟩,tup_go (ls:=[.sh (.str b),.sh (.str a)]) rfl rfl rfl,rfl,_,_,rfl⟩) (by
        rintro x hx ρ ρ1 ⟨o,p,rfl⟩ e
        obtain ⟨⟨a,b⟩,_,rfl⟩:=List.mem_map.mp hx
        cases e
        exact ⟨_,_,rfl⟩)
    rw [this]
    unfold PP swp
    rw [List.map_map,List.map_map]
    rfl
  have r:eReadC (eComp (iOf (eVar 1) walkP) 2 [] (bSeq 2 (bCons (bName 0) (bCons (bName 1) bNil))) cTrue (eTup (aCons (eVar 1) (aCons (eVar 0) aNil)))) ⟨[some (.sh N),some (.sh P)],mu0⟩=some (.own (.lst (PP (swp ps))),⟨[some (.sh N),some (.sh P)],mu0⟩):=
    readc_go ((eComp_eq (ρ1:=⟨[some (.sh (resP mu0 N)),some (.sh (resP mu0 P))],mu⟩) (iof_go (l:=.sh (resP mu0 P)) rfl hP rfl) c).trans rfl) (flat_PP _)
  exact runP_rt (ρ:=⟨[some (.sh N),some (.sh P)],mu0⟩) (ret_go (call_go (ls:=[.sh N,.own (.lst (PP (swp ps)))]) (ps:=[N,.lst (PP (swp ps))]) (mu:=mu0) (cons_go (ρ1:=⟨[some (.sh N),some (.sh P)],mu0⟩) rfl (cons_go (l:=.own (.lst (PP (swp ps)))) (ls:=[]) r rfl)) rfl rfl rfl (all_above_eqC hN rfl (by rw [List.length_map]; exact hp) hd hl)))
theorem all_beneath_eq {names:List Str} {ps:List (Str × Str)} {mu:Mu} (hp:ps.length<=68) (hd:names.Nodup) (hl:names.length<=1000):m_all_beneath [.lst (SS names),.lst (PP ps)] mu=some (.own (dkP (abD (swp ps) names)),mu):=all_beneath_eqC rfl rfl hp hd hl
theorem bools_map {α:Type} {f:α->Bool}:∀ l:List α,allP (.lst (l.map fun x=>.bl (f x)))=some (.sh (.bl (l.all f))):=by
  intro l
  have h:∀ l:List α,boolsOf (l.map fun x=>PV.bl (f x))=some (l.map f):=by
    intro l
    induction l with
    | nil=>rfl
    | cons x l ih=>
      show (boolsOf (l.map fun x=>PV.bl (f x))).map _=_
      rw [ih]
      rfl
  show (boolsOf (l.map fun x=>PV.bl (f x))).map _=_
  rw [h,Option.map_some,List.all_map]
  rfl
noncomputable abbrev DF (ps:List (Str × Str)) (names:List Str):PV:=.df ((abD ps names).map (·.1)) ((abD ps names).map (·.2))
noncomputable def shd (ps:List (Str × Str)) (a b:Str):List Str:=(clm ps a).filter (has (clm ps b))
noncomputable def good (ps:List (Str × Str)) (a b r:Str):Bool:=(shd ps a b).all (has (clm ps r))
noncomputable def bnd (ps:List (Str × Str)) (a b:Str):PV:=match (shd ps a b).find? (good ps a b) with
  | some r=>.str r
  | none=>.non
noncomputable abbrev BE (D A B:PV) (l3 o4:Option Lc) (mu:Mu):Ev:=⟨[some (.sh D),some (.sh A),some (.sh B),l3,o4],mu⟩
theorem clm_names {ps:List (Str × Str)} {names:List Str} (hc:∀ q ∈ ps,q.2 ∈ names) {a x:Str} (ha:a ∈ names):x ∈ clm ps a->x ∈ names:=by
  refine clN_all (P:=fun y=>y ∈ names) (fun q hq _=>hc q hq) 69 [a] (fun z hz=>?_) x
  have:z=a:=by simpa using hz
  subst this
  exact ha
noncomputable abbrev bdB:SF:=sIf (tT (eB all1 (aCons (eComp (iOf (eVar 3) walkP) 1 [0,4] (bName 0) cTrue (eOp inP (eVar 0) (eIy (eVar 1) (eVar 2)))) aNil)) truP) (sRetV 4) sNil
theorem for_rt {b:BF} {body:SF} {x:PV} {xs:List PV} {ρ ρ1 ρ2:Ev} {r:Lc} (h1:b x ρ=some ρ1) (h2:body ρ1=some (.rt r ρ2)):forP b body (x::xs) ρ=some (.rt r ρ2):=by
  show (b x ρ).bind _=_
  rw [h1,Option.bind_some,h2,Option.bind_some]
theorem bound_loop {ps:List (Str × Str)} {names:List Str} {a b:Str} {mu:Mu} (hl:(shd ps a b).length<=10000):∀ (xs:List Str) (o4:Option Lc),(∀ x ∈ xs,x ∈ names)->
    (match xs.find? (good ps a b) with
      | some r=>∃ ρ',forP (bName 4) bdB (SS xs) (BE (DF ps names) (.str a) (.str b) (zS (shd ps a b)) o4 mu)=some (.rt (.sh (.str r)) ρ')/\ρ'.mu=mu
      | none=>∃ o4',forP (bName 4) bdB (SS xs) (BE (DF ps names) (.str a) (.str b) (zS (shd ps a b)) o4 mu)=some (.nx (BE (DF ps names) (.str a) (.str b) (zS (shd ps a b)) o4' mu)))
  | [],o4,_=>⟨o4,rfl⟩
  | x::xs,o4,hx=>by
    have c:compP (bName 0) cTrue (eOp inP (eVar 0) (eIy (eVar 1) (eVar 2))) (SS (shd ps a b)) ⟨[none,some (.sh (DF ps names)),zT x],mu⟩ []=some ((shd ps a b).map fun y=>.bl (has (clm ps x) y),mu):=by
      have:=compP_map (b:=bName 0) (te:=eOp inP (eVar 0) (eIy (eVar 1) (eVar 2))) (mu:=mu) (fun ρ=>∃ o,ρ=⟨[o,some (.sh (DF ps names)),zT x],mu⟩) (fun ρ ⟨o,e⟩=>by rw [e]) (fun p=>match p with | .str y=>.bl (has (clm ps x) y) | _=>.non) (xs:=SS (shd ps a b)) (ρ:=⟨[none,some (.sh (DF ps names)),zT x],mu⟩) ⟨none,rfl⟩ (by rw [List.length_map]; omega) (by
          rintro z hz ρ ⟨o,rfl⟩
          obtain ⟨y,_,rfl⟩:=List.mem_map.mp hz
          exact ⟨⟨[zT y,some (.sh (DF ps names)),zT x],mu⟩,rfl,_,_,op_go rfl rfl (iyd_go (d:=abD ps names) rfl rfl rfl rfl (abD_yes (hx x List.mem_cons_self))) rfl inP_s,rfl,_,rfl⟩) (by
          rintro z hz ρ ρ1 ⟨o,rfl⟩ e
          cases e
          exact ⟨_,rfl⟩)
      rw [this,List.map_map]
      rfl
    have t1:tT (eB all1 (aCons (eComp (iOf (eVar 3) walkP) 1 [0,4] (bName 0) cTrue (eOp inP (eVar 0) (eIy (eVar 1) (eVar 2)))) aNil)) truP (BE (DF ps names) (.str a) (.str b) (zS (shd ps a b)) (zT x) mu)=some (good ps a b x,BE (DF ps names) (.str a) (.str b) (zS (shd ps a b)) (zT x) mu):=
      tT_go (b_go (ls:=[.own (.lst ((shd ps a b).map fun y=>.bl (has (clm ps x) y)))]) (cons_go ((eComp_eq (ρ1:=BE (DF ps names) (.str a) (.str b) (zS (shd ps a b)) (zT x) mu) (iof_go (l:=wS (shd ps a b)) rfl rfl rfl) c).trans rfl) rfl) rfl (bools_map (f:=has (clm ps x)) (shd ps a b))) rfl rfl
    rw [List.find?_cons]
    cases hg:good ps a b x with
    | true=>
      obtain ⟨ρ',e1,e2⟩:∃ ρ',sRetV 4 (BE (DF ps names) (.str a) (.str b) (zS (shd ps a b)) (zT x) mu)=some (.rt (.sh (.str x)) ρ')/\ρ'.mu=mu:=⟨_,rfl,rfl⟩
      exact ⟨ρ',for_rt rfl ((sIf_t (t1.trans (by rw [hg]))).trans e1),e2⟩
    | false=>
      have ih:=bound_loop (ps:=ps) (names:=names) (a:=a) (b:=b) (mu:=mu) hl xs (zT x) fun y hy=>hx y (List.mem_cons_of_mem _ hy)
      dsimp only
      have e:forP (bName 4) bdB (SS (x::xs)) (BE (DF ps names) (.str a) (.str b) (zS (shd ps a b)) o4 mu)=forP (bName 4) bdB (SS xs) (BE (DF ps names) (.str a) (.str b) (zS (shd ps a b)) (zT x) mu):=for_step rfl ((sIf_f (t1.trans (by rw [hg]))).trans rfl) rfl
      rw [e]
      exact ih
theorem bound_eq {ps:List (Str × Str)} {names:List Str} {a b:Str} {mu:Mu} (hp:ps.length<=68) (hc:∀ q ∈ ps,q.2 ∈ names) (ha:a ∈ names) (hb:b ∈ names):m_bound [DF ps names,.str a,.str b] mu=some (.sh (bnd ps a b),mu):=by
  have hl:(shd ps a b).length<=10000:=Nat.le_trans (List.length_filter_le _ _) (clm_len hp)
  have c:compP (bName 0) (tT (eOp inP (eVar 0) (eIy (eVar 1) (eVar 2))) blP) (eVar 0) (SS (clm ps a)) ⟨[none,some (.sh (DF ps names)),zT b],mu⟩ []=some (SS (shd ps a b),mu):=by
    have:=compP_eq (b:=bName 0) (tc:=tT (eOp inP (eVar 0) (eIy (eVar 1) (eVar 2))) blP) (te:=eVar 0) (mu:=mu) (fun ρ=>∃ o,ρ=⟨[o,some (.sh (DF ps names)),zT b],mu⟩) (fun ρ ⟨o,e⟩=>by rw [e]) (fun p=>match p with | .str y=>has (clm ps b) y | _=>false) (fun p=>p) (xs:=SS (clm ps a)) (ρ:=⟨[none,some (.sh (DF ps names)),zT b],mu⟩) (acc:=[]) ⟨none,rfl⟩ (by have:=clm_len (x:=a) hp; simp; omega) (by
        rintro z hz ρ ⟨o,rfl⟩
        obtain ⟨y,_,rfl⟩:=List.mem_map.mp hz
        exact ⟨⟨[zT y,some (.sh (DF ps names)),zT b],mu⟩,rfl,_,tT_go (op_go rfl rfl (iyd_go (d:=abD ps names) rfl rfl rfl rfl (abD_yes hb)) rfl inP_s) rfl rfl,⟨_,rfl⟩,fun _=>⟨_,_,rfl,rfl,_,rfl⟩⟩)
    rw [this,List.nil_append,List.filter_map,List.map_map]
    rfl
  have s3:sSet 3 (eComp (iOf (eIy (eVar 0) (eVar 1)) walkP) 1 [0,2] (bName 0) (tT (eOp inP (eVar 0) (eIy (eVar 1) (eVar 2))) blP) (eVar 0)) (BE (DF ps names) (.str a) (.str b) none none mu)=some (.nx (BE (DF ps names) (.str a) (.str b) (some (.own (.lst (SS (shd ps a b))))) none mu)):=
    set_go ((eComp_eq (ρ1:=BE (DF ps names) (.str a) (.str b) none none mu) (iof_go (l:=wS (clm ps a)) (iyd_go (d:=abD ps names) rfl rfl rfl rfl (abD_yes ha)) rfl rfl) c).trans rfl) rfl rfl
  have lp:=bound_loop (ps:=ps) (names:=names) (a:=a) (b:=b) (mu:=mu) hl (shd ps a b) none fun x hx=>clm_names hc ha (List.mem_filter.mp hx).1
  have it:iOf (eVar 3) walkP (BE (DF ps names) (.str a) (.str b) (some (.own (.lst (SS (shd ps a b))))) none mu)=some (SS (shd ps a b),BE (DF ps names) (.str a) (.str b) (zS (shd ps a b)) none mu):=iof_go (l:=wS (shd ps a b)) rfl rfl rfl
  unfold bnd
  cases hf:(shd ps a b).find? (good ps a b) with
  | some r=>
    rw [hf] at lp
    obtain ⟨ρ',e,hm⟩:=lp
    have:m_bound [DF ps names,.str a,.str b] mu=some (.sh (.str r),ρ'.mu):=runP_rt (ρ:=ρ') (seq_go s3 (sSeq_rt (for_go it e)))
    rw [hm] at this
    exact this
  | none=>
    rw [hf] at lp
    obtain ⟨o4,e⟩:=lp
    exact runP_rt (ρ:=BE (DF ps names) (.str a) (.str b) (zS (shd ps a b)) o4 mu) (seq_go s3 (seq_go (for_go it e) rfl))
noncomputable abbrev en (ps:List (Str × Str)) (a b:Str):List Key × PV:=([.inr a,.inr b],bnd ps a b)
noncomputable def Tb (ps:List (Str × Str)) (names:List Str) (l:PDT):Prop:=∀ e ∈ l,∃ a ∈ names,∃ b ∈ names,e=en ps a b
theorem valT_mem {k:List Key} {p:PV}:∀ {l:PDT},valT l k=some p->(k,p) ∈ l
  | kv::r,h=>by
    unfold valT at h
    split at h
    · rename_i e
      cases h
      subst e
      exact List.mem_cons_self
    · exact List.mem_cons_of_mem _ (valT_mem h)
theorem replT_id {k:List Key} {p:PV}:∀ {l:PDT},(∀ e ∈ l,e.1=k->e.2=p)->replT k p l=l
  | [],_=>rfl
  | kv::r,h=>by
    unfold replT
    rw [replT_id fun e he=>h e (List.mem_cons_of_mem _ he)]
    by_cases e:kv.1=k
    · rw [if_pos e]
      have:=h kv List.mem_cons_self e
      rw [← this]
    · rw [if_neg e]
theorem putT_ok {ps:List (Str × Str)} {names:List Str} {l:PDT} {a b:Str} (h:Tb ps names l) (ha:a ∈ names) (hb:b ∈ names):Tb ps names (putT l [.inr a,.inr b] (bnd ps a b))/\en ps a b ∈ putT l [.inr a,.inr b] (bnd ps a b)/\(∀ e ∈ l,e ∈ putT l [.inr a,.inr b] (bnd ps a b))/\(putT l [.inr a,.inr b] (bnd ps a b)).length<=l.length + 1:=by
  have hv:∀ e ∈ l,e.1=[.inr a,.inr b]->e.2=bnd ps a b:=by
    intro e he e1
    obtain ⟨a',_,b',_,rfl⟩:=h e he
    cases e1
    rfl
  unfold putT
  cases hh:valT l [.inr a,.inr b] with
  | some p=>
    have hm:=valT_mem hh
    have hp:=hv _ hm rfl
    dsimp only at hp ⊢
    subst hp
    rw [replT_id hv]
    exact ⟨h,hm,fun e he=>he,by omega⟩
  | none=>
    dsimp only
    refine ⟨fun e he=>?_,List.mem_append_right _ (by simp),fun e he=>List.mem_append_left _ he,by simp⟩
    rcases List.mem_append.mp he with he | he
    · exact h e he
    · have:e=en ps a b:=by simpa using he
      exact ⟨a,ha,b,hb,this⟩
noncomputable abbrev BB (D:PV) (l1 o2 o3:Option Lc) (mu:Mu):Ev:=⟨[some (.sh D),l1,o2,o3],mu⟩
noncomputable abbrev bbB:SF:=sSetT 1 (aCons (eVar 2) (aCons (eVar 3) aNil)) (eCall m_bound (aCons (eVar 0) (aCons (eVar 2) (aCons (eVar 3) aNil))))
theorem bounds_in {ps:List (Str × Str)} {names:List Str} {a:Str} {mu:Mu} (hp:ps.length<=68) (hc:∀ q ∈ ps,q.2 ∈ names) (ha:a ∈ names):∀ (xs:List Str) (l:PDT) (o3:Option Lc),(∀ x ∈ xs,x ∈ names)->Tb ps names l->l.length + xs.length<=10000->
    ∃ l' o3',forP (bName 3) bbB (SS xs) (BB (DF ps names) (some (.own (dtP l))) (zT a) o3 mu)=some (.nx (BB (DF ps names) (some (.own (dtP l'))) (zT a) o3' mu))/\Tb ps names l'/\(∀ e ∈ l,e ∈ l')/\(∀ x ∈ xs,en ps a x ∈ l')/\l'.length<=l.length + xs.length
  | [],l,o3,_,h,_=>⟨l,o3,rfl,h,fun e he=>he,fun x hx=>(by cases hx),by simp⟩
  | x::xs,l,o3,hx,h,hl=>by
    rw [List.length_cons] at hl
    obtain ⟨h1,h2,h3,h4⟩:=putT_ok h ha (hx x List.mem_cons_self)
    obtain ⟨l',o',e,h5,h6,h7,h8⟩:=bounds_in hp hc ha (mu:=mu) xs _ (zT x) (fun y hy=>hx y (List.mem_cons_of_mem _ hy)) h1 (by omega)
    refine ⟨l',o',?_,h5,fun e he=>h6 e (h3 e he),fun y hy=>?_,by rw [List.length_cons]; omega⟩
    · refine for_step (ρ1:=BB (DF ps names) (some (.own (dtP l))) (zT a) (zT x) mu) rfl (sett_go (k:=[.inr a,.inr x]) (l0:=l) (l:=l) (call_go (r:=.sh (bnd ps a x)) (mu:=mu) (cons_go rfl (cons_go rfl (cons_go rfl rfl))) rfl rfl rfl (bound_eq hp hc ha (hx x List.mem_cons_self))) rfl rfl (cons_go rfl (cons_go rfl rfl)) rfl rfl (by omega) (by show 2<=1000; decide) rfl) ?_
      exact e
    · rcases List.mem_cons.mp hy with rfl | hy
      · exact h6 _ h2
      · exact h7 y hy
theorem df_walk {ps:List (Str × Str)} {names:List Str} {l1 o2 o3:Option Lc} {mu:Mu}:iDf (eVar 0) (BB (DF ps names) l1 o2 o3 mu)=some (SS names,BB (DF ps names) l1 o2 o3 mu):=by
  have e:(((abD ps names).map (·.1)).map pvK)=SS names:=by
    unfold abD
    rw [List.map_map,List.map_map]
    rfl
  show some (((abD ps names).map (·.1)).map pvK,BB (DF ps names) l1 o2 o3 mu)=_
  rw [e]
theorem bounds_out {ps:List (Str × Str)} {names:List Str} {mu:Mu} (hp:ps.length<=68) (hc:∀ q ∈ ps,q.2 ∈ names) (hn:names.length<=50):∀ (xs:List Str) (l:PDT) (o2 o3:Option Lc),(∀ x ∈ xs,x ∈ names)->Tb ps names l->l.length + xs.length * names.length<=10000->
    ∃ l' o2' o3',forP (bName 2) (sFor (iDf (eVar 0)) (bName 3) bbB) (SS xs) (BB (DF ps names) (some (.own (dtP l))) o2 o3 mu)=some (.nx (BB (DF ps names) (some (.own (dtP l'))) o2' o3' mu))/\Tb ps names l'/\(∀ e ∈ l,e ∈ l')/\(∀ x ∈ xs,∀ y ∈ names,en ps x y ∈ l')/\l'.length<=l.length + xs.length * names.length
  | [],l,o2,o3,_,h,_=>⟨l,o2,o3,rfl,h,fun e he=>he,fun x hx=>(by cases hx),by simp⟩
  | x::xs,l,o2,o3,hx,h,hl=>by
    have e0:(xs.length + 1) * names.length=xs.length * names.length + names.length:=Nat.succ_mul _ _
    rw [List.length_cons,e0] at hl
    obtain ⟨l1,o1,e1,h1,h2,h3,h4⟩:=bounds_in hp hc (hx x List.mem_cons_self) (mu:=mu) names l o3 (fun y hy=>hy) h (by omega)
    obtain ⟨l',o',o'',e,h5,h6,h7,h8⟩:=bounds_out hp hc hn (mu:=mu) xs l1 (zT x) o1 (fun y hy=>hx y (List.mem_cons_of_mem _ hy)) h1 (by omega)
    refine ⟨l',o',o'',?_,h5,fun e he=>h6 e (h2 e he),fun y hy z hz=>?_,by rw [List.length_cons,e0]; omega⟩
    · exact for_step (ρ1:=BB (DF ps names) (some (.own (dtP l))) (zT x) o3 mu) rfl (for_go df_walk e1) e
    · rcases List.mem_cons.mp hy with rfl | hy
      · exact h6 _ (h3 z hz)
      · exact h7 y hy z hz
theorem bounds_eq {ps:List (Str × Str)} {names:List Str} {mu:Mu} (hp:ps.length<=68) (hc:∀ q ∈ ps,q.2 ∈ names) (hn:names.length<=50):∃ l,m_bounds [DF ps names] mu=some (.own (dtP l),mu)/\Tb ps names l/\∀ x ∈ names,∀ y ∈ names,en ps x y ∈ l:=by
  have hh:names.length * names.length<=50 * 50:=Nat.mul_le_mul hn hn
  obtain ⟨l,o2,o3,e,h1,h2,h3,h4⟩:=bounds_out hp hc hn (mu:=mu) names [] none none (fun y hy=>hy) (fun e he=>(by cases he)) (by simp; omega)
  refine ⟨l,?_,h1,h3⟩
  exact runP_rt (ρ:=BB (DF ps names) none o2 o3 mu) (seq_go (ρ':=BB (DF ps names) (some (.own (dtP []))) none none mu) (set_go rfl rfl rfl) (seq_go (for_go df_walk e) rfl))
noncomputable abbrev itm (e:List Key × PV):PV:=.tup [.tup (e.1.map pvK),e.2]
theorem items_map:∀ l:PDT,itemsP (l.map (·.1)) (l.map (·.2))=l.map itm
  | []=>rfl
  | x::l=>by
    show PV.tup [.tup (x.1.map pvK),x.2]::itemsP (l.map (·.1)) (l.map (·.2))=_
    rw [items_map l]
    rfl
theorem isNon_bnd {ps:List (Str × Str)} {a b:Str}:(isNon (bnd ps a b)=true/\bnd ps a b=.non)\/(isNon (bnd ps a b)=false/\bnd ps a b ≠ .non):=by
  unfold bnd
  split
  · exact .inr ⟨rfl,fun h=>by cases h⟩
  · exact .inl ⟨rfl,rfl⟩
noncomputable abbrev UE (D:PV) (o1 o2:Option Lc) (mu:Mu):Ev:=⟨[some (.sh D),o1,o2],mu⟩
noncomputable abbrev ubB:SF:=sIf (tT (eOp isNP (eVar 2) (eC .non)) blP) (sRetV 1) sNil
theorem unbound_loop {ps:List (Str × Str)} {names:List Str} {D:PV} {mu:Mu}:∀ (l:PDT) (o1 o2:Option Lc),Tb ps names l->
    (∃ o1' o2',forP (bSeq 2 (bCons (bName 1) (bCons (bName 2) bNil))) ubB (l.map itm) (UE D o1 o2 mu)=some (.nx (UE D o1' o2' mu))/\∀ e ∈ l,e.2 ≠ .non)\/
    (∃ ρ' a b,forP (bSeq 2 (bCons (bName 1) (bCons (bName 2) bNil))) ubB (l.map itm) (UE D o1 o2 mu)=some (.rt (.sh (.tup [.str a,.str b])) ρ')/\ρ'.mu=mu/\a ∈ names/\b ∈ names/\bnd ps a b=.non)
  | [],o1,o2,_=>.inl ⟨o1,o2,rfl,fun e he=>(by cases he)⟩
  | e::l,o1,o2,h=>by
    obtain ⟨a,ha,b,hb,rfl⟩:=h e List.mem_cons_self
    have t1:tT (eOp isNP (eVar 2) (eC .non)) blP (UE D (some (.sh (.tup [.str a,.str b]))) (some (.sh (bnd ps a b))) mu)=some (isNon (bnd ps a b),UE D (some (.sh (.tup [.str a,.str b]))) (some (.sh (bnd ps a b))) mu):=tT_go (l:=.sh (.bl (isNon (bnd ps a b)))) (op_go rfl rfl rfl rfl rfl) rfl rfl
    rcases isNon_bnd (ps:=ps) (a:=a) (b:=b) with ⟨hb1,hz⟩ | ⟨hb1,hz⟩
    · rw [hb1] at t1
      obtain ⟨ρ',e1,e2⟩:∃ ρ',sRetV 1 (UE D (some (.sh (.tup [.str a,.str b]))) (some (.sh (bnd ps a b))) mu)=some (.rt (.sh (.tup [.str a,.str b])) ρ')/\ρ'.mu=mu:=⟨_,rfl,rfl⟩
      exact .inr ⟨ρ',a,b,for_rt rfl ((sIf_t t1).trans e1),e2,ha,hb,hz⟩
    · rw [hb1] at t1
      have e1:forP (bSeq 2 (bCons (bName 1) (bCons (bName 2) bNil))) ubB ((en ps a b::l).map itm) (UE D o1 o2 mu)=forP (bSeq 2 (bCons (bName 1) (bCons (bName 2) bNil))) ubB (l.map itm) (UE D (some (.sh (.tup [.str a,.str b]))) (some (.sh (bnd ps a b))) mu):=for_step rfl ((sIf_f t1).trans rfl) rfl
      rw [e1]
      rcases unbound_loop (D:=D) (mu:=mu) l (some (.sh (.tup [.str a,.str b]))) (some (.sh (bnd ps a b))) (fun e he=>h e (List.mem_cons_of_mem _ he)) with ⟨p,q,h1,h2⟩ | r
      · refine .inl ⟨p,q,h1,fun e he=>?_⟩
        rcases List.mem_cons.mp he with rfl | he
        · exact hz
        · exact h2 e he
      · exact .inr r
theorem unbound_eq {ps:List (Str × Str)} {names:List Str} {mu:Mu} (hp:ps.length<=68) (hc:∀ q ∈ ps,q.2 ∈ names) (hn:names.length<=50):
    (m_unbound [DF ps names] mu=some (.sh .non,mu)/\∀ a ∈ names,∀ b ∈ names,bnd ps a b ≠ .non)\/∃ a ∈ names,∃ b ∈ names,m_unbound [DF ps names] mu=some (.sh (.tup [.str a,.str b]),mu)/\bnd ps a b=.non:=by
  obtain ⟨l,e,h1,h2⟩:=bounds_eq (mu:=mu) hp hc hn
  have it:iItm (eFzT (eCall m_bounds (aCons (eVar 0) aNil))) (UE (DF ps names) none none mu)=some (l.map itm,UE (DF ps names) none none mu):=by
    have e1:eCall m_bounds (aCons (eVar 0) aNil) (UE (DF ps names) none none mu)=some (.own (dtP l),UE (DF ps names) none none mu):=call_go (cons_go rfl rfl) rfl rfl rfl e
    unfold iItm eFzT
    rw [e1]
    show (if (l.map (·.2)).length=(l.map (·.1)).length then some (itemsP (l.map (·.1)) (l.map (·.2)),UE (DF ps names) none none mu) else none)=_
    rw [if_pos (by simp),items_map]
  rcases unbound_loop (D:=DF ps names) (mu:=mu) l none none h1 with ⟨o1,o2,h3,h4⟩ | ⟨ρ',a,b,h3,h4,ha,hb,h5⟩
  · exact .inl ⟨runP_rt (ρ:=UE (DF ps names) o1 o2 mu) (seq_go (for_go it h3) rfl),fun a ha b hb=>h4 _ (h2 a ha b hb)⟩
  · refine .inr ⟨a,ha,b,hb,?_,h5⟩
    have:m_unbound [DF ps names] mu=some (.sh (.tup [.str a,.str b]),ρ'.mu):=runP_rt (sSeq_rt (for_go it h3))
    rw [h4] at this
    exact this
noncomputable def LackOk (names:List Str) (ps:List (Str × Str)) (l:PV):Prop:=
  (l=.non/\(∀ a ∈ names,∀ b ∈ names,bnd ps a b ≠ .non)/\∀ a ∈ names,∀ b ∈ names,bnd (swp ps) a b ≠ .non)\/
  (∃ a ∈ names,∃ b ∈ names,l=.tup [.str "join",.str a,.str b]/\bnd ps a b=.non)\/
  (∃ a ∈ names,∃ b ∈ names,l=.tup [.str "meet",.str a,.str b]/\bnd (swp ps) a b=.non)
noncomputable abbrev LE3 (N P:PV) (o2:Option Lc) (mu:Mu):Ev:=⟨[some (.sh N),some (.sh P),o2],mu⟩
theorem lack_of_eq {ps:List (Str × Str)} {names:List Str} {mu:Mu} (hp:ps.length<=68) (hc:∀ q ∈ ps,q.1 ∈ names/\q.2 ∈ names) (hd:names.Nodup) (hn:names.length<=50):∃ l,m_lack_of [.lst (SS names),.lst (PP ps)] mu=some (.sh l,mu)/\LackOk names ps l:=by
  have hp':(swp ps).length<=68:=by rw [List.length_map]; exact hp
  have hc':∀ q ∈ swp ps,q.2 ∈ names:=fun q hq=>by
    obtain ⟨q',hq',rfl⟩:=List.mem_map.mp hq
    exact (hc q' hq').1
  have fz1:∀ o2,eFz (eCall m_all_above (aCons (eVar 0) (aCons (eVar 1) aNil))) (LE3 (.lst (SS names)) (.lst (PP ps)) o2 mu)=some (.sh (DF ps names),LE3 (.lst (SS names)) (.lst (PP ps)) o2 mu):=fun o2=>by
    have e1:eCall m_all_above (aCons (eVar 0) (aCons (eVar 1) aNil)) (LE3 (.lst (SS names)) (.lst (PP ps)) o2 mu)=some (.own (dkP (abD ps names)),LE3 (.lst (SS names)) (.lst (PP ps)) o2 mu):=call_go (cons_go rfl (cons_go rfl rfl)) rfl rfl rfl (all_above_eq hp hd (by omega))
    unfold eFz
    rw [e1]
    rfl
  have fz2:∀ o2,eFz (eCall m_all_beneath (aCons (eVar 0) (aCons (eVar 1) aNil))) (LE3 (.lst (SS names)) (.lst (PP ps)) o2 mu)=some (.sh (DF (swp ps) names),LE3 (.lst (SS names)) (.lst (PP ps)) o2 mu):=fun o2=>by
    have e1:eCall m_all_beneath (aCons (eVar 0) (aCons (eVar 1) aNil)) (LE3 (.lst (SS names)) (.lst (PP ps)) o2 mu)=some (.own (dkP (abD (swp ps) names)),LE3 (.lst (SS names)) (.lst (PP ps)) o2 mu):=call_go (cons_go rfl (cons_go rfl rfl)) rfl rfl rfl (all_beneath_eq hp hd (by omega))
    unfold eFz
    rw [e1]
    rfl
  rcases unbound_eq (mu:=mu) hp (fun q hq=>(hc q hq).2) hn with ⟨u1,h1⟩ | ⟨a,ha,b,hb,u1,h1⟩
  · have s1:sSet 2 (eCall m_unbound (aCons (eFz (eCall m_all_above (aCons (eVar 0) (aCons (eVar 1) aNil)))) aNil)) (LE3 (.lst (SS names)) (.lst (PP ps)) none mu)=some (.nx (LE3 (.lst (SS names)) (.lst (PP ps)) (some (.sh .non)) mu)):=set_go (call_go (cons_go (fz1 _) rfl) rfl rfl rfl u1) rfl rfl
    rcases unbound_eq (mu:=mu) hp' hc' hn with ⟨u2,h2⟩ | ⟨a,ha,b,hb,u2,h2⟩
    · have s2:sSet 2 (eCall m_unbound (aCons (eFz (eCall m_all_beneath (aCons (eVar 0) (aCons (eVar 1) aNil)))) aNil)) (LE3 (.lst (SS names)) (.lst (PP ps)) (some (.sh .non)) mu)=some (.nx (LE3 (.lst (SS names)) (.lst (PP ps)) (some (.sh .non)) mu)):=set_go (call_go (cons_go (fz2 _) rfl) rfl rfl rfl u2) rfl rfl
      exact ⟨.non,runP_rt (ρ:=LE3 (.lst (SS names)) (.lst (PP ps)) (some (.sh .non)) mu) (seq_go s1 (seq_go ((sIf_f (ρ1:=LE3 (.lst (SS names)) (.lst (PP ps)) (some (.sh .non)) mu) rfl).trans rfl) (seq_go s2 (seq_go ((sIf_f (ρ1:=LE3 (.lst (SS names)) (.lst (PP ps)) (some (.sh .non)) mu) rfl).trans rfl) rfl)))),.inl ⟨rfl,h1,h2⟩⟩
    · have s2:sSet 2 (eCall m_unbound (aCons (eFz (eCall m_all_beneath (aCons (eVar 0) (aCons (eVar 1) aNil)))) aNil)) (LE3 (.lst (SS names)) (.lst (PP ps)) (some (.sh .non)) mu)=some (.nx (LE3 (.lst (SS names)) (.lst (PP ps)) (some (.sh (.tup [.str a,.str b]))) mu)):=set_go (call_go (cons_go (fz2 _) rfl) rfl rfl rfl u2) rfl rfl
      exact ⟨.tup [.str "meet",.str a,.str b],runP_rt (ρ:=LE3 (.lst (SS names)) (.lst (PP ps)) (some (.sh (.tup [.str a,.str b]))) mu) (seq_go s1 (seq_go ((sIf_f (ρ1:=LE3 (.lst (SS names)) (.lst (PP ps)) (some (.sh .non)) mu) rfl).trans rfl) (seq_go s2 (sSeq_rt ((sIf_t (ρ1:=LE3 (.lst (SS names)) (.lst (PP ps)) (some (.sh (.tup [.str a,.str b]))) mu) rfl).trans (ret_go (tup_go (ls:=[.sh (.str "meet"),.sh (.str a),.sh (.str b)]) rfl rfl rfl))))))),.inr (.inr ⟨a,ha,b,hb,rfl,h2⟩)⟩
  · have s1:sSet 2 (eCall m_unbound (aCons (eFz (eCall m_all_above (aCons (eVar 0) (aCons (eVar 1) aNil)))) aNil)) (LE3 (.lst (SS names)) (.lst (PP ps)) none mu)=some (.nx (LE3 (.lst (SS names)) (.lst (PP ps)) (some (.sh (.tup [.str a,.str b]))) mu)):=set_go (call_go (cons_go (fz1 _) rfl) rfl rfl rfl u1) rfl rfl
    exact ⟨.tup [.str "join",.str a,.str b],runP_rt (ρ:=LE3 (.lst (SS names)) (.lst (PP ps)) (some (.sh (.tup [.str a,.str b]))) mu) (seq_go s1 (sSeq_rt ((sIf_t (ρ1:=LE3 (.lst (SS names)) (.lst (PP ps)) (some (.sh (.tup [.str a,.str b]))) mu) rfl).trans (ret_go (tup_go (ls:=[.sh (.str "join"),.sh (.str a),.sh (.str b)]) rfl rfl rfl))))),.inr (.inl ⟨a,ha,b,hb,rfl,h1⟩)⟩
namespace Rg
noncomputable def edge (sm:List Str) (nm:Str) (q:Str × Str):Bool:=q.1 == nm && (!(q.2 == nm) && has sm q.2)
noncomputable def abv (sm:List Str) (ps:List (Str × Str)) (nm:Str):List Str:=(ps.filter (edge sm nm)).map (·.2)
theorem abv_mem {sm:List Str} {ps:List (Str × Str)} {nm b:Str}:b ∈ abv sm ps nm ↔ (nm,b) ∈ ps/\b ≠ nm/\b ∈ sm:=by
  unfold abv
  constructor
  · intro h
    obtain ⟨q,hq,rfl⟩:=List.mem_map.mp h
    obtain ⟨h1,h2⟩:=List.mem_filter.mp hq
    unfold edge at h2
    rw [Bool.and_eq_true,Bool.and_eq_true] at h2
    have e:q.1=nm:=eq_of_beq h2.1
    refine ⟨by rw [← e]; exact h1,fun z=>?_,has_iff.mp h2.2.2⟩
    have:=h2.2.1
    rw [z] at this
    simp at this
  · rintro ⟨h1,h2,h3⟩
    refine List.mem_map.mpr ⟨(nm,b),List.mem_filter.mpr ⟨h1,?_⟩,rfl⟩
    unfold edge
    rw [Bool.and_eq_true,Bool.and_eq_true]
    exact ⟨by simp,by simpa using h2,has_iff.mpr h3⟩
theorem above_eq {sm:List Str} {ps:List (Str × Str)} {nm:Str} {mu:Mu} (hl:ps.length<=1000):m_straight_above [.lst (SS sm),.lst (PP ps),.str nm] mu=some (.own (.lst (SS (abv sm ps nm))),mu):=by
  have c:compP (bSeq 2 (bCons (bName 0) (bCons (bName 1) bNil))) (tAndF (tT (eOp eqP (eVar 0) (eVar 2)) blP) (tAndF (tT (eOp neP (eVar 1) (eVar 2)) blP) (tT (eOp inP (eVar 1) (eVar 3)) blP))) (eVar 1) (PP ps) ⟨[none,none,zT nm,zS sm],mu⟩ []=some (SS (abv sm ps nm),mu):=by
    have:=compP_eq (b:=bSeq 2 (bCons (bName 0) (bCons (bName 1) bNil))) (tc:=tAndF (tT (eOp eqP (eVar 0) (eVar 2)) blP) (tAndF (tT (eOp neP (eVar 1) (eVar 2)) blP) (tT (eOp inP (eVar 1) (eVar 3)) blP))) (te:=eVar 1) (mu:=mu)
      (fun ρ=>∃ o0 o1,ρ=⟨[o0,o1,zT nm,zS sm],mu⟩) (fun ρ ⟨_,_,e⟩=>by rw [e]) (fun p=>match p with | .tup [.str a,.str b]=>edge sm nm (a,b) | _=>false) (fun p=>match p with | .tup [_,b]=>b | _=>.non)
      (xs:=PP ps) (ρ:=⟨[none,none,zT nm,zS sm],mu⟩) (acc:=[]) ⟨none,none,rfl⟩ (by simp; omega) (by
        rintro x hx ρ ⟨o0,o1,rfl⟩
        obtain ⟨⟨a,b⟩,_,rfl⟩:=List.mem_map.mp hx
        refine ⟨_,rfl,⟨[zT a,zT b,zT nm,zS sm],mu⟩,?_,⟨_,_,rfl⟩,fun _=>⟨_,_,rfl,rfl,_,_,rfl⟩⟩
        exact and_go (tT_go (l:=.sh (.bl (a == nm))) rfl rfl rfl) (and_go (tT_go (l:=.sh (.bl (!(b == nm)))) rfl rfl rfl) (tT_go (op_go rfl rfl rfl rfl inP_s) rfl rfl)))
    rw [this,List.nil_append,List.filter_map,List.map_map]
    unfold SS abv
    rw [List.map_map]
    rfl
  refine runP_rt (ρ:=⟨[zS sm,zP ps,zT nm],mu⟩) (ret_go ?_)
  exact (eComp_eq (ρ1:=⟨[zS sm,zP ps,zT nm],mu⟩) (iof_go (l:=.sh (.lst (PP ps))) rfl rfl rfl) c).trans rfl
noncomputable def climb (ps:List (Str × Str)) (rest:List Str):List Str:=rest.filter fun n=>!(abv rest ps n).isEmpty
theorem truL {l:List Str}:truP (.lst (SS l))=some (!l.isEmpty):=by cases l <;> rfl
noncomputable abbrev climbE:EF:=eComp (iOf (eVar 2) walkP) 1 [2,1] (bName 0) (tT (eCall m_straight_above (aCons (eVar 1) (aCons (eVar 2) (aCons (eVar 0) aNil)))) truP) (eVar 0)
theorem climb_eq {N:Option Lc} {ps:List (Str × Str)} {rest:List Str} {o3:Option Lc} {l:Lc} {mu:Mu} (hp:ps.length<=1000) (hr:rest.length<=1000) (hl:l.pv=.lst (SS rest)):climbE ⟨[N,zP ps,some l,o3],mu⟩=some (.own (.lst (SS (climb ps rest))),⟨[N,zP ps,zS rest,o3],mu⟩):=by
  have c:compP (bName 0) (tT (eCall m_straight_above (aCons (eVar 1) (aCons (eVar 2) (aCons (eVar 0) aNil)))) truP) (eVar 0) (SS rest) ⟨[none,zS rest,zP ps],mu⟩ []=some (SS (climb ps rest),mu):=by
    have:=compP_eq (b:=bName 0) (tc:=tT (eCall m_straight_above (aCons (eVar 1) (aCons (eVar 2) (aCons (eVar 0) aNil)))) truP) (te:=eVar 0) (mu:=mu)
      (fun ρ=>∃ o0,ρ=⟨[o0,zS rest,zP ps],mu⟩) (fun ρ ⟨_,e⟩=>by rw [e]) (fun p=>match p with | .str a=>!(abv rest ps a).isEmpty | _=>false) (fun p=>p)
      (xs:=SS rest) (ρ:=⟨[none,zS rest,zP ps],mu⟩) (acc:=[]) ⟨none,rfl⟩ (by simp; omega) (by
        rintro x hx ρ ⟨o0,rfl⟩
        obtain ⟨a,_,rfl⟩:=List.mem_map.mp hx
        refine ⟨_,rfl,⟨[zT a,zS rest,zP ps],mu⟩,?_,⟨_,rfl⟩,fun _=>⟨_,_,rfl,rfl,_,rfl⟩⟩
        exact tT_go (l:=.own (.lst (SS (abv rest ps a)))) (call_go (cons_go rfl (cons_go rfl (cons_go rfl rfl))) rfl rfl rfl (above_eq hp)) rfl truL)
    rw [this,List.nil_append,List.filter_map,List.map_map]
    rfl
  refine (eComp_eq (ρ1:=⟨[N,zP ps,zS rest,o3],mu⟩) (iof_go (l:=wS rest) ?_ rfl rfl) c).trans rfl
  show some (Lc.sh l.pv,_)=_
  rw [hl]
  rfl
structure Inv0 (names:List Str) (ps:List (Str × Str)) (rest:List Str):Prop where
  sub:∀ x ∈ rest,x ∈ names
  hgt:∃ (h:Str->Nat) (k:Nat),(∀ a ∈ names,a ∉ rest->h a < k)/\∀ a ∈ names,a ∉ rest->∀ b ∈ names,(a,b) ∈ ps->b ≠ a->b ∉ rest/\h b < h a
theorem Inv0.step {names:List Str} {ps:List (Str × Str)} {rest:List Str} (I:Inv0 names ps rest):Inv0 names ps (climb ps rest):=by
  obtain ⟨sub,h,k,h1,h2⟩:=I
  have sb:∀ x ∈ climb ps rest,x ∈ rest:=fun x hx=>(List.mem_filter.mp hx).1
  refine ⟨fun x hx=>sub x (sb x hx),fun a=>if a ∈ rest then k else h a,k + 1,fun a ha hn=>?_,fun a ha hn b hb he hne=>?_⟩
  · by_cases hr:a ∈ rest
    · simp only [hr,if_true]; omega
    · simp only [hr,if_false]; have:=h1 a ha hr; omega
  · by_cases hr:a ∈ rest
    · have hbr:b ∉ rest:=fun hbr=>by
        apply hn
        refine List.mem_filter.mpr ⟨hr,?_⟩
        have:b ∈ abv rest ps a:=abv_mem.mpr ⟨he,hne,hbr⟩
        cases hc:abv rest ps a with
        | nil=>rw [hc] at this; cases this
        | cons _ _=>rfl
      refine ⟨fun z=>hbr (sb b z),?_⟩
      simp only [hr,if_true,hbr,if_false]
      exact h1 b hb hbr
    · obtain ⟨q1,q2⟩:=h2 a ha hr b hb he hne
      refine ⟨fun z=>q1 (sb b z),?_⟩
      simp only [hr,if_false,q1]
      exact q2
noncomputable abbrev whC:TF:=tT (eOp ltP (eB len1 (aCons (eVar 3) aNil)) (eB len1 (aCons (eVar 2) aNil))) blP
noncomputable abbrev whB:SF:=sSeq (sSet 2 (eVar 3)) (sSet 3 climbE)
theorem while_eq {names:List Str} {N:Option Lc} {ps:List (Str × Str)} {mu:Mu} (hp:ps.length<=1000):∀ (n:Nat) (rest:List Str),rest.length < n->rest.length<=1000->Inv0 names ps rest->
    ∃ rest',whileP whC whB n ⟨[N,zP ps,zS rest,some (.own (.lst (SS (climb ps rest))))],mu⟩=some (.nx ⟨[N,zP ps,some (.sh (.lst (SS rest'))),zS (climb ps rest')],mu⟩)/\Inv0 names ps rest'/\climb ps rest'=rest'/\rest'.length<=rest.length
  | n + 1,rest,hn,hr,I=>by
    have hc:whC ⟨[N,zP ps,zS rest,some (.own (.lst (SS (climb ps rest))))],mu⟩=some (decide (((SS (climb ps rest)).length:Int) < (SS rest).length),⟨[N,zP ps,zS rest,zS (climb ps rest)],mu⟩):=rfl
    have hle:(climb ps rest).length<=rest.length:=List.length_filter_le _ _
    show ∃ rest',((whC _).bind _)=_/\_
    rw [hc,Option.bind_some]
    by_cases hlt:(climb ps rest).length < rest.length
    · rw [decide_eq_true (by rw [List.length_map,List.length_map]; omega)]
      obtain ⟨r',e,I',c',l'⟩:=while_eq hp n (climb ps rest) (by omega) (by omega) I.step
      refine ⟨r',?_,I',c',by omega⟩
      have hb:whB ⟨[N,zP ps,zS rest,zS (climb ps rest)],mu⟩=some (.nx ⟨[N,zP ps,zS (climb ps rest),some (.own (.lst (SS (climb ps (climb ps rest)))))],mu⟩):=
        seq_go (set_go rfl rfl rfl) (set_go (climb_eq (l:=wS (climb ps rest)) hp (by omega) rfl) rfl rfl)
      rw [if_pos rfl,hb,Option.bind_some]
      exact e
    · rw [decide_eq_false (by rw [List.length_map,List.length_map]; omega)]
      refine ⟨rest,?_,I,?_,Nat.le_refl _⟩
      · rw [if_neg Bool.false_ne_true]
      · exact (List.filter_sublist).eq_of_length (by show (climb ps rest).length=rest.length; omega)
theorem for_step {b:BF} {body:SF} {x:PV} {xs:List PV} {ρ ρ1 ρ2:Ev} {R:Option Fl} (h1:b x ρ=some ρ1) (h2:body ρ1=some (.nx ρ2)) (h3:forP b body xs ρ2=R):forP b body (x::xs) ρ=R:=by
  show (b x ρ).bind _=R
  rw [h1,Option.bind_some,h2,Option.bind_some]
  exact h3
theorem at0 {p:PV} {t:List PV}:atI (p::t) 0=some p:=by
  obtain ⟨x,h,h2⟩:=atI_some (l:=p::t) (i:=0) (by decide) (by simp only [List.length_cons]; omega)
  rw [h,← h2]; rfl
noncomputable def nx (sm:List Str) (ps:List (Str × Str)) (x:Str):Str:=(abv sm ps x).headD ""
noncomputable def wk (sm:List Str) (ps:List (Str × Str)) (s0:Str):Nat->Str
  | 0=>s0
  | n + 1=>nx sm ps (wk sm ps s0 n)
theorem nx_ok {sm:List Str} {ps:List (Str × Str)} (hc:climb ps sm=sm) {x:Str} (hx:x ∈ sm):abv sm ps x=nx sm ps x::(abv sm ps x).tail/\(x,nx sm ps x) ∈ ps/\nx sm ps x ≠ x/\nx sm ps x ∈ sm:=by
  have h:x ∈ climb ps sm:=by rw [hc]; exact hx
  have h2:=(List.mem_filter.mp h).2
  unfold nx
  cases e:abv sm ps x with
  | nil=>rw [e] at h2; cases h2
  | cons y ys=>
    have:y ∈ abv sm ps x:=by rw [e]; exact List.mem_cons_self
    exact ⟨rfl,abv_mem.mp this⟩
theorem wk_mem {sm:List Str} {ps:List (Str × Str)} {s0:Str} (hc:climb ps sm=sm) (h0:s0 ∈ sm):∀ n,wk sm ps s0 n ∈ sm
  | 0=>h0
  | n + 1=>(nx_ok hc (wk_mem hc h0 n)).2.2.2
theorem nextE {sm:List Str} {ps:List (Str × Str)} {x:Str} {mu:Mu} {fa:EF} {w o3:Option Lc} {w' o3':Option Lc} (hp:ps.length<=1000) (hc:climb ps sm=sm) (hx:x ∈ sm)
    (hf:fa ⟨[zS sm,zP ps,w,o3],mu⟩=some (.sh (.str x),⟨[zS sm,zP ps,w',o3'],mu⟩)):
    eIx (eCall m_straight_above (aCons (eVar 0) (aCons (eVar 1) (aCons fa aNil)))) (eC (.int 0)) ⟨[zS sm,zP ps,w,o3],mu⟩=some (.sh (.str (nx sm ps x)),⟨[zS sm,zP ps,w',o3'],mu⟩):=by
  refine ix_go (l:=.own (.lst (SS (abv sm ps x)))) (call_go (ps:=[.lst (SS sm),.lst (PP ps),.str x]) (cons_go rfl (cons_go rfl (cons_go hf rfl))) rfl rfl rfl (above_eq hp)) rfl rfl rfl (fun n h=>by cases h) ?_
  show (atI (SS (abv sm ps x)) 0).map _=_
  rw [(nx_ok hc hx).1]
  show (atI (PV.str (nx sm ps x)::SS _) 0).map _=_
  rw [at0]; rfl
theorem filter_lt {l:List Str} {p q:Str->Bool} (h:∀ x,q x=true->p x=true) {x:Str} (hx:x ∈ l) (h1:p x=true) (h2:q x=false):(l.filter q).length < (l.filter p).length:=by
  induction l with
  | nil=>cases hx
  | cons y ys ih=>
    have hle:∀ ys:List Str,(ys.filter q).length<=(ys.filter p).length:=fun ys=>by
      induction ys with
      | nil=>exact Nat.le_refl _
      | cons z zs ihz=>
        rw [List.filter_cons,List.filter_cons]
        cases hq:q z with
        | true=>rw [h z hq]; simp only [if_true,List.length_cons]; omega
        | false=>cases hpz:p z <;> simp only [if_true,Bool.false_eq_true,if_false,List.length_cons] <;> omega
    rw [List.filter_cons,List.filter_cons]
    rcases List.mem_cons.mp hx with rfl | hx
    · rw [h1,h2]
      simp only [if_true,Bool.false_eq_true,if_false,List.length_cons]
      have:=hle ys
      omega
    · have:=ih hx
      cases hq:q y with
      | true=>rw [h y hq]; simp only [if_true,List.length_cons]; omega
      | false=>cases hpy:p y <;> simp only [if_true,Bool.false_eq_true,if_false,List.length_cons] <;> omega
noncomputable abbrev WK (sm:List Str) (ps:List (Str × Str)) (s0:Str) (k:Nat):List Str:=(List.range (k + 1)).map (wk sm ps s0)
theorem WK_succ {sm:List Str} {ps:List (Str × Str)} {s0:Str} {k:Nat}:WK sm ps s0 (k + 1)=WK sm ps s0 k++[wk sm ps s0 (k + 1)]:=by
  unfold WK
  rw [List.range_succ (n:=k + 1),List.map_append]
  rfl
noncomputable abbrev rwC:TF:=tRead (tT (eOp ninP (eVar 3) (eVar 2)) blP)
noncomputable abbrev rwB:SF:=sSeq (sApp 2 (eVar 3)) (sSet 3 (eIx (eCall m_straight_above (aCons (eVar 0) (aCons (eVar 1) (aCons (eVar 3) aNil)))) (eC (.int 0))))
theorem walk_loop {sm:List Str} {ps:List (Str × Str)} {s0:Str} {mu:Mu} (hp:ps.length<=1000) (hc:climb ps sm=sm) (h0:s0 ∈ sm):∀ (n k:Nat),(sm.filter fun x=>!has (WK sm ps s0 k) x).length < n->n + k<=1000->(∀ i j,i < j->j<=k->wk sm ps s0 i ≠ wk sm ps s0 j)->
    ∃ m,whileP rwC rwB n ⟨[zS sm,zP ps,some (.own (.lst (SS (WK sm ps s0 k)))),zT (wk sm ps s0 (k + 1))],mu⟩=some (.nx ⟨[zS sm,zP ps,some (.own (.lst (SS (WK sm ps s0 m)))),zT (wk sm ps s0 (m + 1))],mu⟩)/\
      (∀ i j,i < j->j<=m->wk sm ps s0 i ≠ wk sm ps s0 j)/\wk sm ps s0 (m + 1) ∈ WK sm ps s0 m/\m<=1000
  | n + 1,k,hn,hk,hd=>by
    have hc1:rwC ⟨[zS sm,zP ps,some (.own (.lst (SS (WK sm ps s0 k)))),zT (wk sm ps s0 (k + 1))],mu⟩=some (!has (WK sm ps s0 k) (wk sm ps s0 (k + 1)),⟨[zS sm,zP ps,some (.own (.lst (SS (WK sm ps s0 k)))),zT (wk sm ps s0 (k + 1))],mu⟩):=
      tread_go (tT_go (op_go rfl rfl rfl rfl ninP_s) rfl rfl)
    show ∃ m,((rwC _).bind _)=_/\_
    rw [hc1,Option.bind_some]
    cases hh:has (WK sm ps s0 k) (wk sm ps s0 (k + 1)) with
    | true=>
      refine ⟨k,?_,hd,has_iff.mp hh,by omega⟩
      show (if (!true)=true then _ else _)=_
      rw [if_neg (by decide)]
    | false=>
      have hmem:=wk_mem hc h0 (k + 1)
      have hnot:=has_no.mp hh
      have hd':∀ i j,i < j->j<=k + 1->wk sm ps s0 i ≠ wk sm ps s0 j:=fun i j hij hj=>by
        by_cases hjk:j<=k
        · exact hd i j hij hjk
        · have:j=k + 1:=by omega
          subst this
          intro e
          exact hnot (List.mem_map.mpr ⟨i,List.mem_range.mpr (by omega),e⟩)
      have hlt:(sm.filter fun x=>!has (WK sm ps s0 (k + 1)) x).length < (sm.filter fun x=>!has (WK sm ps s0 k) x).length:=by
        refine filter_lt (fun x hx=>?_) hmem (by simp [hh]) ?_
        · have h1:has (WK sm ps s0 (k + 1)) x=false:=by simpa using hx
          have h2:=has_no.mp h1
          have:has (WK sm ps s0 k) x=false:=has_no.mpr fun z=>h2 (by rw [WK_succ]; exact List.mem_append_left _ z)
          simp [this]
        · have:has (WK sm ps s0 (k + 1)) (wk sm ps s0 (k + 1))=true:=has_iff.mpr (by rw [WK_succ]; exact List.mem_append_right _ (by simp))
          simp [this]
      obtain ⟨m,e,r⟩:=walk_loop hp hc h0 n (k + 1) (by omega) (by omega) hd'
      refine ⟨m,?_,r⟩
      show (if (!false)=true then _ else _)=_
      rw [if_pos (by decide)]
      have hb:rwB ⟨[zS sm,zP ps,some (.own (.lst (SS (WK sm ps s0 k)))),zT (wk sm ps s0 (k + 1))],mu⟩=some (.nx ⟨[zS sm,zP ps,some (.own (.lst (SS (WK sm ps s0 (k + 1))))),zT (wk sm ps s0 (k + 2))],mu⟩):=by
        refine seq_go (ρ':=⟨[zS sm,zP ps,some (.own (.lst (SS (WK sm ps s0 (k + 1))))),zT (wk sm ps s0 (k + 1))],mu⟩) ?_ ?_
        · refine (app_go (l:=.sh (.str (wk sm ps s0 (k + 1)))) rfl rfl rfl rfl (by rw [List.length_map,List.length_map,List.length_range]; omega) rfl).trans ?_
          have e1:SS (WK sm ps s0 (k + 1))=SS (WK sm ps s0 k)++[.str (wk sm ps s0 (k + 1))]:=by rw [WK_succ]; exact List.map_append
          rw [e1]
          rfl
        · exact set_go (nextE (x:=wk sm ps s0 (k + 1)) hp hc hmem rfl) rfl rfl
      rw [hb,Option.bind_some]
      exact e
structure RingOk (names:List Str) (ps:List (Str × Str)) (r:List Str):Prop where
  two:2<=r.length
  sub:∀ x ∈ r,x ∈ names
  dis:∀ (k:Nat) x,r[k]?=some x->x ∉ r.take k
  nxt:∀ (k:Nat) x,r[k]?=some x->∃ y,r[(k + 1) % r.length]?=some y/\(x,y) ∈ ps
  few:r.length<=2000
theorem flat_SS:∀ l:List Str,flatPs (SS l)=true
  | []=>rfl
  | x::l=>by
    show (true && flatPs (SS l))=true
    rw [flat_SS l]; rfl
theorem within_eq {sm:List Str} {ps:List (Str × Str)} {mu:Mu} (hp:ps.length<=1000) (hc:climb ps sm=sm) (hne:sm ≠ []) (hl:sm.length < 20):∃ r,m_ring_within [.lst (SS sm),.lst (PP ps)] mu=some (.own (.lst (SS r)),mu)/\RingOk sm ps r:=by
  obtain ⟨s0,t,rfl⟩:∃ s0 t,sm=s0::t:=by cases sm with | nil=>exact absurd rfl hne | cons a b=>exact ⟨a,b,rfl⟩
  generalize hsm:s0::t=sm at hc hl
  have h0:s0 ∈ sm:=by rw [← hsm]; exact List.mem_cons_self
  have hix:∀ w o3,eIx (eVar 0) (eC (.int 0)) ⟨[zS sm,zP ps,w,o3],mu⟩=some (.sh (.str s0),⟨[zS sm,zP ps,w,o3],mu⟩):=fun w o3=>by
    refine ix_go (l:=wS sm) rfl rfl rfl rfl (fun n h=>by cases h) ?_
    show (atI (SS sm) 0).map _=_
    rw [← hsm]
    show (atI (PV.str s0::SS t) 0).map _=_
    rw [at0]; rfl
  have s1:sSet 2 (eLst (aCons (eIx (eVar 0) (eC (.int 0))) aNil)) (env0 4 [.lst (SS sm),.lst (PP ps)] mu)=some (.nx ⟨[zS sm,zP ps,some (.own (.lst (SS (WK sm ps s0 0)))),none],mu⟩):=
    set_go (lst_go (ls:=[.sh (.str s0)]) (cons_go (hix none none) rfl) rfl rfl) rfl rfl
  have s2:sSet 3 (eIx (eCall m_straight_above (aCons (eVar 0) (aCons (eVar 1) (aCons (eIx (eVar 0) (eC (.int 0))) aNil)))) (eC (.int 0))) ⟨[zS sm,zP ps,some (.own (.lst (SS (WK sm ps s0 0)))),none],mu⟩=some (.nx ⟨[zS sm,zP ps,some (.own (.lst (SS (WK sm ps s0 0)))),zT (wk sm ps s0 1)],mu⟩):=
    set_go (nextE (x:=s0) hp hc h0 (hix _ _)) rfl rfl
  obtain ⟨m,e,hd,hin,hm⟩:=walk_loop (mu:=mu) hp hc h0 20 0 (Nat.lt_of_le_of_lt (List.length_filter_le _ _) hl) (by omega) (fun i j hij hj=>by omega)
  have hfi:inDs (eqD 150) (.str (wk sm ps s0 (m + 1))) (SS (WK sm ps s0 m))=some true:=by rw [in_str,has_iff.mpr hin]
  have hlen:(WK sm ps s0 m).length=m + 1:=by rw [List.length_map,List.length_range]
  generalize hj:(SS (WK sm ps s0 m)).findIdx (fun q=>(eqD 150 q (.str (wk sm ps s0 (m + 1)))).getD false)=j
  have hex:∃ q ∈ SS (WK sm ps s0 m),(fun q=>(eqD 150 q (.str (wk sm ps s0 (m + 1)))).getD false) q=true:=by
    refine ⟨.str (wk sm ps s0 (m + 1)),List.mem_map.mpr ⟨_,hin,rfl⟩,?_⟩
    show (wk sm ps s0 (m + 1) == wk sm ps s0 (m + 1))=true
    simp
  have hjl:j < m + 1:=by
    have w:(SS (WK sm ps s0 m)).findIdx (fun q=>(eqD 150 q (.str (wk sm ps s0 (m + 1)))).getD false) < (SS (WK sm ps s0 m)).length:=List.findIdx_lt_length.mpr hex
    rw [hj,List.length_map,hlen] at w
    exact w
  have hjw:wk sm ps s0 j=wk sm ps s0 (m + 1):=by
    have w:(SS (WK sm ps s0 m)).findIdx (fun q=>(eqD 150 q (.str (wk sm ps s0 (m + 1)))).getD false) < (SS (WK sm ps s0 m)).length:=List.findIdx_lt_length.mpr hex
    have:=List.findIdx_getElem (w:=w)
    simp only [hj] at this
    have e2:(SS (WK sm ps s0 m))[j]'(by rw [hj] at w; exact w)=.str (wk sm ps s0 j):=by simp
    rw [e2] at this
    exact eq_of_beq (show (wk sm ps s0 j == wk sm ps s0 (m + 1))=true from this)
  have cut:cutP (SS (WK sm ps s0 m)) (some (j:Int)) none=SS ((WK sm ps s0 m).drop j):=by
    unfold cutP
    rw [HT.sIx_none,HT.sIx_nat,List.length_map,hlen,show min j (m + 1)=j from by omega,← List.map_drop]
    exact List.take_of_length_le (by rw [List.length_map,List.length_drop,hlen]; omega)
  refine ⟨(WK sm ps s0 m).drop j,?_,?_⟩
  · refine runP_rt (ρ:=⟨[zS sm,zP ps,some (.own (.lst (SS (WK sm ps s0 m)))),zT (wk sm ps s0 (m + 1))],mu⟩) (seq_go s1 (seq_go s2 (seq_go e (ret_go (eread_go (ρ1:=Ev.peek ⟨[zS sm,zP ps,some (.own (.lst (SS (WK sm ps s0 m)))),zT (wk sm ps s0 (m + 1))],mu⟩) ?_ (flat_SS _))))))
    have hI:eIndex (eVar 2) (eVar 3) (Ev.peek ⟨[zS sm,zP ps,some (.own (.lst (SS (WK sm ps s0 m)))),zT (wk sm ps s0 (m + 1))],mu⟩)=some (.sh (.int (j:Int)),Ev.peek ⟨[zS sm,zP ps,some (.own (.lst (SS (WK sm ps s0 m)))),zT (wk sm ps s0 (m + 1))],mu⟩):=by
      show (if inDs (eqD 150) (.str (wk sm ps s0 (m + 1))) (SS (WK sm ps s0 m))=some true/\(SS (WK sm ps s0 m)).length<=100000 then _ else _)=_
      rw [if_pos ⟨hfi,by rw [List.length_map,hlen]; omega⟩]
      show some (Lc.sh (.int (((SS (WK sm ps s0 m)).findIdx (fun q=>(eqD 150 q (.str (wk sm ps s0 (m + 1)))).getD false):Nat):Int)),_)=_
      rw [hj]
      rfl
    have hO:oSome (eIndex (eVar 2) (eVar 3)) (Ev.peek ⟨[zS sm,zP ps,some (.own (.lst (SS (WK sm ps s0 m)))),zT (wk sm ps s0 (m + 1))],mu⟩)=some (some (j:Int),Ev.peek ⟨[zS sm,zP ps,some (.own (.lst (SS (WK sm ps s0 m)))),zT (wk sm ps s0 (m + 1))],mu⟩):=by
      unfold oSome
      rw [hI]
      rfl
    rw [← cut]
    show (((oSome (eIndex (eVar 2) (eVar 3)) (Ev.peek ⟨[zS sm,zP ps,some (.own (.lst (SS (WK sm ps s0 m)))),zT (wk sm ps s0 (m + 1))],mu⟩))).bind _)=_
    rw [hO]
    rfl
  · have hnx:∀ i,(wk sm ps s0 i,wk sm ps s0 (i + 1)) ∈ ps/\wk sm ps s0 (i + 1) ≠ wk sm ps s0 i:=fun i=>⟨(nx_ok hc (wk_mem hc h0 i)).2.1,(nx_ok hc (wk_mem hc h0 i)).2.2.1⟩
    have hjm:j < m:=by
      by_cases h:j=m
      · exfalso; rw [h] at hjw; exact (hnx m).2 hjw.symm
      · omega
    have hL:((WK sm ps s0 m).drop j).length=m + 1 - j:=by rw [List.length_drop,hlen]
    have hget:∀ k,k < m + 1 - j->((WK sm ps s0 m).drop j)[k]?=some (wk sm ps s0 (j + k)):=fun k hk=>by
      rw [List.getElem?_drop,List.getElem?_map,List.getElem?_range (by omega)]; rfl
    have hgi:∀ k x,((WK sm ps s0 m).drop j)[k]?=some x->k < m + 1 - j/\x=wk sm ps s0 (j + k):=fun k x hx=>by
      have hk:=(List.getElem?_eq_some_iff.mp hx).1
      rw [hL] at hk
      rw [hget k hk] at hx
      exact ⟨hk,(Option.some.inj hx).symm⟩
    refine ⟨by omega,fun x hx=>?_,fun k x hx hm'=>?_,fun k x hx=>?_,by omega⟩
    · obtain ⟨i,hi,rfl⟩:=List.mem_map.mp (List.mem_of_mem_drop hx)
      exact wk_mem hc h0 i
    · obtain ⟨hk,rfl⟩:=hgi k x hx
      obtain ⟨i,hi,e3⟩:=List.getElem_of_mem hm'
      rw [List.length_take,hL] at hi
      have e4:((WK sm ps s0 m).drop j)[i]?=some (wk sm ps s0 (j + k)):=by
        rw [List.getElem_take] at e3
        rw [← e3]
        exact List.getElem?_eq_getElem _
      obtain ⟨_,e5⟩:=hgi i _ e4
      exact hd (j + i) (j + k) (by omega) (by omega) e5.symm
    · obtain ⟨hk,rfl⟩:=hgi k x hx
      refine ⟨wk sm ps s0 (j + k + 1),?_,(hnx (j + k)).1⟩
      rw [hL]
      by_cases hlast:k + 1=m + 1 - j
      · rw [hlast,Nat.mod_self,hget 0 (by omega),Nat.add_zero,hjw,show j + k + 1=m + 1 from by omega]
      · rw [Nat.mod_eq_of_lt (by omega),hget (k + 1) (by omega)]
        rfl
theorem ringof_eq {names:List Str} {ps:List (Str × Str)} {mu:Mu} (hp:ps.length<=1000) (hl:names.length < 19):(m_ring_of [.lst (SS names),.lst (PP ps)] mu=some (.sh .non,mu)/\∃ h:Str->Nat,∀ a ∈ names,∀ b ∈ names,(a,b) ∈ ps->b ≠ a->h b < h a)\/
    ∃ r,m_ring_of [.lst (SS names),.lst (PP ps)] mu=some (.own (.lst (SS r)),mu)/\RingOk names ps r:=by
  have I0:Inv0 names ps names:=⟨fun x h=>h,fun _=>0,0,fun a ha hn=>absurd ha hn,fun a ha hn=>absurd ha hn⟩
  have s1:sSet 2 (eB list1 (aCons (eVar 0) aNil)) (env0 4 [.lst (SS names),.lst (PP ps)] mu)=some (.nx ⟨[zS names,zP ps,some (.own (.lst (SS names))),none],mu⟩):=rfl
  have s2:sSet 3 climbE ⟨[zS names,zP ps,some (.own (.lst (SS names))),none],mu⟩=some (.nx ⟨[zS names,zP ps,zS names,some (.own (.lst (SS (climb ps names))))],mu⟩):=
    set_go (climb_eq (l:=.own (.lst (SS names))) hp (by omega) rfl) rfl rfl
  obtain ⟨rest,e,I,hc,hlr⟩:=while_eq (N:=zS names) (mu:=mu) hp 20 names (by omega) (by omega) I0
  have t:tNotF (tT (eVar 2) truP) ⟨[zS names,zP ps,zS rest,zS (climb ps rest)],mu⟩=some (!!rest.isEmpty,⟨[zS names,zP ps,zS rest,zS (climb ps rest)],mu⟩):=
    not_go (tT_go (l:=wS rest) rfl rfl truL)
  cases hr:rest with
  | nil=>
    subst hr
    obtain ⟨_,h,k,h1,h2⟩:=I
    refine .inl ⟨runP_rt (ρ:=⟨[zS names,zP ps,zS [],zS (climb ps [])],mu⟩) (seq_go s1 (seq_go s2 (seq_go e (sSeq_rt ((sIf_t t).trans rfl))))),h,fun a ha b hb he hne=>(h2 a ha (by simp) b hb he hne).2⟩
  | cons x xs=>
    have hne:rest ≠ []:=by rw [hr]; simp
    obtain ⟨r,er,ok⟩:=within_eq (mu:=mu) hp hc hne (by omega)
    refine .inr ⟨r,?_,ok.two,fun x hx=>I.sub x (ok.sub x hx),ok.dis,ok.nxt,ok.few⟩
    refine runP_rt (ρ:=⟨[zS names,zP ps,zS rest,zS (climb ps rest)],mu⟩) (seq_go s1 (seq_go s2 (seq_go e (seq_go ((sIf_f (ρ1:=⟨[zS names,zP ps,zS rest,zS (climb ps rest)],mu⟩) (t.trans (by rw [hr]; rfl))).trans rfl) ?_))))
    exact ret_go (call_go (ps:=[.lst (SS rest),.lst (PP ps)]) (cons_go rfl (cons_go rfl rfl)) rfl rfl rfl er)
theorem ring_no {names r:List Str} {ps:List (Str × Str)} (ok:RingOk names ps r) {h:Str->Nat} (hh:∀ q ∈ ps,q.1 ≠ q.2->h q.1 < h q.2):False:=by
  have two:=ok.two
  have up:∀ k (hk:k < r.length),k + 1 < r.length->∃ hk1:k + 1 < r.length,h r[k] < h r[k + 1]:=fun k hk hk1=>by
    obtain ⟨y,h1,h2⟩:=ok.nxt k r[k] (List.getElem?_eq_getElem hk)
    rw [Nat.mod_eq_of_lt hk1,List.getElem?_eq_getElem hk1] at h1
    cases h1
    refine ⟨hk1,hh _ h2 fun e=>?_⟩
    have e':r[k]=r[k + 1]:=e
    refine ok.dis (k + 1) r[k + 1] (List.getElem?_eq_getElem hk1) ?_
    rw [← e']
    exact List.mem_take_iff_getElem.mpr ⟨k,by omega,rfl⟩
  have all:∀ k (hk:k < r.length),h (r[0]'(by omega))<=h r[k]:=fun k=>by
    induction k with
    | zero=>exact fun hk=>Nat.le_refl _
    | succ k ih=>
      intro hk
      obtain ⟨_,h1⟩:=up k (by omega) hk
      have:=ih (by omega)
      omega
  obtain ⟨y,h1,h2⟩:=ok.nxt (r.length - 1) (r[r.length - 1]'(by omega)) (List.getElem?_eq_getElem (by omega))
  rw [show r.length - 1 + 1=r.length by omega,Nat.mod_self,List.getElem?_eq_getElem (by omega)] at h1
  cases h1
  have h3:=hh _ h2 fun e=>by
    have e':r[r.length - 1]'(by omega)=r[0]'(by omega):=e
    refine ok.dis (r.length - 1) (r[r.length - 1]'(by omega)) (List.getElem?_eq_getElem (by omega)) ?_
    rw [e']
    exact List.mem_take_iff_getElem.mpr ⟨0,by omega,rfl⟩
  have h4:=all (r.length - 1) (by omega)
  have h5:h (r[r.length - 1]'(by omega)) < h (r[0]'(by omega)):=h3
  omega
end Rg
structure OrdOk (xs:List Str) (ps:List (Str × Str)):Prop where
  nd:xs.Nodup
  ne:xs ≠ []
  l8:xs.length<=8
  lp:ps.length<=68
  nm:∀ x ∈ xs,nameB x=true
  mem:∀ q ∈ ps,q.1 ∈ xs/\q.2 ∈ xs
  acyc:∃ h:Str->Nat,∀ q ∈ ps,q.1 ≠ q.2->h q.1 < h q.2
  up:∀ a ∈ xs,∀ b ∈ xs,bnd ps a b ≠ .non
  dn:∀ a ∈ xs,∀ b ∈ xs,bnd (swp ps) a b ≠ .non
  lo:∃ x ∈ xs,(clm ps x).length=xs.length
  hi:∃ x ∈ xs,(clm ps x).length=1
theorem fail_loop {b:BF} {body:SF} {xs:List PV} {ρ:Ev} (J:Ev->Prop) (h0:J ρ) (hs:∀ x ∈ xs,∀ ρ,J ρ->∃ ρ1,b x ρ=some ρ1/\∃ ρ2,body ρ1=some (.nx ρ2)/\J ρ2):∃ ρ',forP b body xs ρ=some (.nx ρ')/\J ρ':=by
  induction xs generalizing ρ with
  | nil=>exact ⟨ρ,rfl,h0⟩
  | cons x xs ih=>
    obtain ⟨ρ1,e1,ρ2,e2,h2⟩:=hs x List.mem_cons_self ρ h0
    obtain ⟨ρ',e3,h3⟩:=ih h2 fun y hy=>hs y (List.mem_cons_of_mem _ hy)
    exact ⟨ρ',for_step e1 e2 e3,h3⟩
theorem count_SS {xs:List Str} (hd:xs.Nodup) (x:Str):((SS xs).countP fun q=>(eqD 150 q (.str x)).getD false)<=1:=by
  unfold SS
  rw [List.countP_map]
  have e:(fun q:PV=>(eqD 150 q (.str x)).getD false) ∘ PV.str=fun y=>y == x:=rfl
  rw [e]
  have:=List.Nodup.count (a:=x) hd
  show List.count x xs<=1
  rw [this]
  split <;> omega
theorem refuse_names_eq {xs:List Str} {ps:List (Str × Str)} {mu:Mu} (ok:OrdOk xs ps):m_refuse_names [.lst (SS xs),.lst (PP ps)] mu=some (.sh .non,mu):=by
  obtain ⟨ρ1,e1,o2,rfl⟩:=fail_loop (b:=bName 2) (body:=sSeq (sIf (tNotF (tT (eCall m_is_name (aCons (eVar 2) aNil)) truP)) sFail sNil) (sIf (tT (eOp gtP (eCount (eVar 0) (eVar 2)) (eC (.int 1))) blP) sFail sNil)) (xs:=SS xs) (ρ:=⟨[zS xs,zP ps,none,none,none],mu⟩) (fun ρ=>∃ o2,ρ=⟨[zS xs,zP ps,o2,none,none],mu⟩) ⟨none,rfl⟩ (by
    rintro p hp ρ ⟨o2,rfl⟩
    obtain ⟨x,hx,rfl⟩:=List.mem_map.mp hp
    refine ⟨⟨[zS xs,zP ps,zT x,none,none],mu⟩,rfl,⟨[zS xs,zP ps,zT x,none,none],mu⟩,seq_go (ρ':=⟨[zS xs,zP ps,zT x,none,none],mu⟩) ?_ ?_,_,rfl⟩
    · have hl:x.length<=100000:=by
        have h:=ok.nm x hx
        unfold nameB lenB at h
        rw [Bool.and_eq_true,Bool.and_eq_true] at h
        have:=of_decide_eq_true h.1.2
        omega
      refine (sIf_f (ρ1:=⟨[zS xs,zP ps,zT x,none,none],mu⟩) (not_go (b:=true) (tT_go (l:=.sh (.bl true)) ((call_go (cons_go rfl rfl) rfl rfl rfl (name_eq hl)).trans (by rw [ok.nm x hx]; rfl)) rfl rfl))).trans rfl
    · have hc:=count_SS ok.nd x
      have ec:eCount (eVar 0) (eVar 2) ⟨[zS xs,zP ps,zT x,none,none],mu⟩=some (.sh (.int (((SS xs).countP fun q=>(eqD 150 q (.str x)).getD false:Nat))),⟨[zS xs,zP ps,zT x,none,none],mu⟩):=by
        show (if (inDs (eqD 150) (.str x) (SS xs)).isSome=true/\(SS xs).length<=100000 then _ else none)=_
        rw [if_pos ⟨by rw [in_str]; rfl,by rw [List.length_map]; have:=ok.l8; omega⟩]
        rfl
      generalize ((SS xs).countP fun q=>(eqD 150 q (.str x)).getD false)=c at hc ec
      refine (sIf_f (ρ1:=⟨[zS xs,zP ps,zT x,none,none],mu⟩) ((tT_go (l:=.sh (.bl (decide ((1:Int) < (c:Nat))))) (op_go ec rfl rfl rfl rfl) rfl rfl).trans (by rw [decide_eq_false (by omega)]))).trans rfl)
  obtain ⟨ρ2,e2,o3,o4,rfl⟩:=fail_loop (b:=bSeq 2 (bCons (bName 3) (bCons (bName 4) bNil))) (body:=sIf (tOrF (tT (eOp ninP (eVar 3) (eVar 0)) blP) (tT (eOp ninP (eVar 4) (eVar 0)) blP)) sFail sNil) (xs:=PP ps) (ρ:=⟨[zS xs,zP ps,o2,none,none],mu⟩) (fun ρ=>∃ o3 o4,ρ=⟨[zS xs,zP ps,o2,o3,o4],mu⟩) ⟨none,none,rfl⟩ (by
    rintro p hp ρ ⟨o3,o4,rfl⟩
    obtain ⟨q,hq,rfl⟩:=List.mem_map.mp hp
    obtain ⟨h1,h2⟩:=ok.mem q hq
    refine ⟨⟨[zS xs,zP ps,o2,some (.sh (.str q.1)),some (.sh (.str q.2))],mu⟩,rfl,⟨[zS xs,zP ps,o2,some (.sh (.str q.1)),some (.sh (.str q.2))],mu⟩,?_,_,_,rfl⟩
    exact (sIf_f (ρ1:=⟨[zS xs,zP ps,o2,some (.sh (.str q.1)),some (.sh (.str q.2))],mu⟩) (or_go (b:=false) (b2:=false) ((tT_go (op_go rfl rfl rfl rfl ninP_s) rfl rfl).trans (by rw [has_iff.mpr h1]; rfl)) ((tT_go (op_go rfl rfl rfl rfl ninP_s) rfl rfl).trans (by rw [has_iff.mpr h2]; rfl)))).trans rfl)
  exact runP_nx (ρ:=⟨[zS xs,zP ps,o2,o3,o4],mu⟩) (seq_go (for_go (ρ1:=⟨[zS xs,zP ps,none,none,none],mu⟩) (iof_go (l:=wS xs) rfl rfl rfl) e1) (for_go (ρ1:=⟨[zS xs,zP ps,o2,none,none],mu⟩) (iof_go (l:=.sh (.lst (PP ps))) rfl rfl rfl) e2))
theorem refuse_order_eq {xs:List Str} {ps:List (Str × Str)} {mu:Mu} (ok:OrdOk xs ps):m_refuse_order [.lst (SS xs),.lst (PP ps)] mu=some (.sh .non,mu):=by
  have lp:=ok.lp
  have l8:=ok.l8
  have er:m_ring_of [.lst (SS xs),.lst (PP ps)] mu=some (.sh .non,mu):=by
    rcases Rg.ringof_eq (names:=xs) (ps:=ps) (mu:=mu) (by omega) (by omega) with ⟨e,_⟩ | ⟨r,e,rk⟩
    · exact e
    · obtain ⟨h,hh⟩:=ok.acyc
      exact (Rg.ring_no rk hh).elim
  have el:m_lack_of [.lst (SS xs),.lst (PP ps)] mu=some (.sh .non,mu):=by
    obtain ⟨l,e,h⟩:=lack_of_eq (mu:=mu) ok.lp ok.mem ok.nd (by omega)
    rcases h with ⟨rfl,_⟩ | ⟨a,ha,b,hb,_,h⟩ | ⟨a,ha,b,hb,_,h⟩
    · exact e
    · exact (ok.up a ha b hb h).elim
    · exact (ok.dn a ha b hb h).elim
  have hne:xs.isEmpty=false:=by
    have:=ok.ne
    cases xs with
    | nil=>exact absurd rfl this
    | cons _ _=>rfl
  have t0:tNotF (tT (eVar 0) truP) (env0 4 [.lst (SS xs),.lst (PP ps)] mu)=some (false,⟨[zS xs,zP ps,none,none],mu⟩):=(not_go (b:=!xs.isEmpty) (tT_go (l:=wS xs) rfl rfl Rg.truL)).trans (by rw [hne]; rfl)
  exact runP_nx (ρ:=⟨[zS xs,zP ps,some (.sh .non),some (.sh .non)],mu⟩) (seq_go ((sIf_f t0).trans rfl) (seq_go (set_go (call_go (cons_go rfl (cons_go rfl rfl)) rfl rfl rfl er) rfl rfl) (seq_go ((sIf_f (ρ1:=⟨[zS xs,zP ps,some (.sh .non),none],mu⟩) rfl).trans rfl) (seq_go (set_go (call_go (cons_go rfl (cons_go rfl rfl)) rfl rfl rfl el) rfl rfl) ((sIf_f (ρ1:=⟨[zS xs,zP ps,some (.sh .non),some (.sh .non)],mu⟩) rfl).trans rfl)))))
theorem fldp_go {C f:Str} {fo fv:EF} {ρ ρ1 ρ2:Ev} {y x:Lc} {p:PV} {n:Nat} {l:FD} (h1:fv ρ=some (y,ρ1)) (hy:y.pv=p) (h2:fo ρ1=some (x,ρ2)) (hx:x.pv=.ptr n) (hm:ρ2.mu[n]?=some (some (objP C l))) (hl:l.length < 1000):sFldP C f fo fv ρ=some (.nx ⟨ρ2.vs,ρ2.mu.set n (some (objP C (putFP f p l)))⟩):=by
  unfold sFldP
  rw [h1,Option.bind_some,h2,Option.bind_some,hx]
  dsimp only
  rw [hm]
  unfold objP
  dsimp only
  rw [if_pos ⟨rfl,by rw [List.length_map]; exact hl⟩,unz,hy]
theorem fld_go {C f:Str} {fo:EF} {ρ ρ1:Ev} {x:Lc} {p:PV} {n:Nat} {l:FD} (h2:fo ρ=some (x,ρ1)) (hx:x.pv=.ptr n) (hm:ρ1.mu[n]?=some (some (objP C l))) (hp:lookP l f=some p):eFld C f fo ρ=some (.sh p,ρ1):=by
  unfold eFld
  rw [h2,Option.bind_some,hx]
  dsimp only
  rw [hm]
  unfold objP
  dsimp only
  rw [if_pos rfl,unz,hp]
  rfl
theorem meth_go {C m:Str} {g:GF} {fo:EF} {a:AF} {ρ ρ1 ρ2:Ev} {x:Lc} {ls:List Lc} {n:Nat} {l:FD} {r:Lc} {mu2:Mu} {ps:List PV} (h1:fo ρ=some (x,ρ1)) (hx:x.pv=.ptr n) (hm:ρ1.mu[n]?=some (some (objP C l))) (hc:(l.map (·.1)).contains m=false) (h2:a ρ1=some (ls,ρ2)) (hps:ls.map Lc.pv=ps) (h3:g (.ptr n::ps) ρ2.mu=some (r,mu2)):eMeth C m g fo a ρ=some (r,⟨ρ2.vs,mu2⟩):=by
  unfold eMeth
  rw [h1,Option.bind_some,hx]
  dsimp only
  rw [hm]
  unfold objP
  dsimp only
  rw [if_pos ⟨rfl,hc⟩,h2,Option.bind_some,hps,h3]
  rfl
theorem make_go {C:Str} {g:GF} {a:AF} {ρ ρ1:Ev} {ls:List Lc} {ps:List PV} {mu2:Mu} (h:a ρ=some (ls,ρ1)) (hps:ls.map Lc.pv=ps) (h2:g (.ptr ρ1.mu.length::ps) (ρ1.mu++[some (objP C [])])=some (.sh .non,mu2)):eMake C g a ρ=some (.sh (.ptr ρ1.mu.length),⟨ρ1.vs,mu2⟩):=by
  unfold eMake
  rw [h,Option.bind_some,hps]
  rw [show g (.ptr ρ1.mu.length::ps) (ρ1.mu++[some (.obj C [] [])])=_ from h2]
  rfl
noncomputable abbrev oF (xs:List Str) (ps:List (Str × Str)) (lj lm:PDT) (lo hi:Str):FD:=[("names",.lst (SS xs)),("above",DF ps xs),("joins",dtP lj),("meets",dtP lm),("lowest",.str lo),("highest",.str hi)]
structure OrdAt (xs:List Str) (ps:List (Str × Str)) (l:FD):Prop where
  ex:∃ lj lm lo hi,l=oF xs ps lj lm lo hi/\Tb ps xs lj/\(∀ x ∈ xs,∀ y ∈ xs,en ps x y ∈ lj)/\Tb (swp ps) xs lm/\(∀ x ∈ xs,∀ y ∈ xs,en (swp ps) x y ∈ lm)/\(lo ∈ xs/\(clm ps lo).length=xs.length)/\hi ∈ xs/\(clm ps hi).length=1
theorem head_comp {xs:List Str} {ps:List (Str × Str)} {mu:Mu} {n:Nat} {l:FD} {c:Nat} {tc:TF} {vs:List (Option Lc)} (hl:xs.length<=1000) (ht:∀ x ∈ xs,tc ⟨zT x::vs,mu⟩=some (decide ((clm ps x).length=c),⟨zT x::vs,mu⟩)):compP (bName 0) tc (eVar 0) (SS xs) ⟨none::vs,mu⟩ []=some (SS (xs.filter fun x=>decide ((clm ps x).length=c)),mu):=by
  have:=compP_eq (b:=bName 0) (tc:=tc) (te:=eVar 0) (mu:=mu) (fun ρ=>∃ o,ρ=⟨o::vs,mu⟩) (fun ρ ⟨o,e⟩=>by rw [e]) (fun p=>match p with | .str y=>decide ((clm ps y).length=c) | _=>false) (fun p=>p) (xs:=SS xs) (ρ:=⟨none::vs,mu⟩) (acc:=[]) ⟨none,rfl⟩ (by simp; omega) (by
    rintro z hz ρ ⟨o,rfl⟩
    obtain ⟨y,hy,rfl⟩:=List.mem_map.mp hz
    exact ⟨⟨zT y::vs,mu⟩,rfl,_,ht y hy,⟨_,rfl⟩,fun _=>⟨_,_,rfl,rfl,_,rfl⟩⟩)
  rw [this,List.nil_append,List.filter_map,List.map_map]
  rfl
theorem at0S {ys:List Str} (h:ys ≠ []):∃ y ∈ ys,ixP (.lst (SS ys)) (.int 0)=zT y:=by
  cases ys with
  | nil=>exact absurd rfl h
  | cons y t=>exact ⟨y,List.mem_cons_self,by show (atI (SS (y::t)) 0).map _=_; rw [show SS (y::t)=.str y::SS t from rfl,at0]; rfl⟩
theorem iy_lst {fa fb:EF} {ρ ρ1 ρ2:Ev} {l m r:Lc} {qs:List PV} {q:PV} (h1:fa ρ=some (l,ρ1)) (hx:l.pv=.lst qs) (h2:fb ρ1=some (m,ρ2)) (hy:m.pv=q) (h3:ixP (.lst qs) q=some r):eIy fa fb ρ=some (r,ρ2):=by
  unfold eIy
  rw [h1,Option.bind_some,h2,Option.bind_some]
  dsimp only
  rw [hx]
  dsimp only
  exact ix_go (fa:=fun _=>some (l,ρ1)) (fb:=fun _=>some (m,ρ2)) rfl hx rfl hy (fun n h=>by cases h) h3
theorem len_lst {f:EF} {ρ ρ1:Ev} {l:Lc} {qs:List PV} (h:f ρ=some (l,ρ1)) (hl:l.pv=.lst qs):eLen f ρ=some (.sh (.int (qs.length:Nat)),ρ1):=by
  unfold eLen
  rw [h,Option.bind_some,hl]
  rfl
theorem eqY_int {a b:Int}:eqY (.int a) (.int b)=some (.sh (.bl (a == b))):=rfl
noncomputable abbrev oF1 (xs:List Str):FD:=[("names",.lst (SS xs))]
noncomputable abbrev oF2 (xs:List Str) (ps:List (Str × Str)):FD:=[("names",.lst (SS xs)),("above",DF ps xs)]
noncomputable abbrev oF3 (xs:List Str) (ps:List (Str × Str)) (lj:PDT):FD:=[("names",.lst (SS xs)),("above",DF ps xs),("joins",dtP lj)]
noncomputable abbrev oF4 (xs:List Str) (ps:List (Str × Str)) (lj lm:PDT):FD:=[("names",.lst (SS xs)),("above",DF ps xs),("joins",dtP lj),("meets",dtP lm)]
noncomputable abbrev oF5 (xs:List Str) (ps:List (Str × Str)) (lj lm:PDT) (lo:Str):FD:=[("names",.lst (SS xs)),("above",DF ps xs),("joins",dtP lj),("meets",dtP lm),("lowest",.str lo)]
theorem put_no {f g:Str} {p q:PV} {r:FD} (h:¬ g=f):putFP f p ((g,q)::r)=(g,q)::putFP f p r:=by
  show (if g=f then _ else _)=_
  rw [if_neg h]
theorem res_app {mu t:Mu} {N:PV} {qs:List PV} (h:resP mu N=.lst qs):resP (mu++t) N=.lst qs:=by
  unfold resP at h
  split at h
  · rename_i n
    split at h
    · rename_i q hq
      subst h
      unfold resP
      dsimp only
      rw [List.getElem?_append_left (List.getElem?_eq_some_iff.mp hq).1,hq]
    · cases h
  · subst h
    rfl
theorem fldr_go {C f:Str} {fo:EF} {ρ ρ1:Ev} {x:Lc} {p:PV} {l:FD} (h2:fo ρ=some (x,ρ1)) (hx:x.pv=objP C l) (hp:lookP l f=some p):eFldR C f fo ρ=some (.sh p,ρ1):=by
  unfold eFldR
  rw [h2,Option.bind_some,hx]
  unfold objP
  dsimp only
  rw [if_pos rfl,unz,hp]
  rfl
theorem init_eq {N P:PV} {xs:List Str} {ps:List (Str × Str)} {mu:Mu} (ok:OrdOk xs ps) (hN:resP mu N=.lst (SS xs)) (hP:resP mu P=.lst (PP ps)):∃ l,OrdAt xs ps l/\m_Order____init__ [.ptr mu.length,N,P] (mu++[some (objP "Order" [])])=some (.sh .non,mu++[some (objP "Order" l)]):=by
  have l8:=ok.l8
  have hset:∀ (p q:Option PV),(mu++[p]).set mu.length q=mu++[q]:=fun p q=>by rw [List.set_append_right _ _ (Nat.le_refl _)]; simp
  have hget:∀ (p:Option PV),(mu++[p])[mu.length]?=some p:=fun p=>by rw [List.getElem?_append_right (Nat.le_refl _)]; simp
  obtain ⟨lj,ej,t1,t2⟩:=bounds_eq (ps:=ps) (names:=xs) (mu:=mu++[some (objP "Order" (oF2 xs ps))]) ok.lp (fun q hq=>(ok.mem q hq).2) (by omega)
  have hsw:∀ q ∈ swp ps,q.2 ∈ xs:=fun q hq=>by
    obtain ⟨q',hq',rfl⟩:=List.mem_map.mp hq
    exact (ok.mem q' hq').1
  obtain ⟨lm,em,t3,t4⟩:=bounds_eq (ps:=swp ps) (names:=xs) (mu:=mu++[some (objP "Order" (oF3 xs ps lj))]) (by rw [List.length_map]; exact ok.lp) hsw (by omega)
  let E:FD->Ev:=fun l=>⟨[some (.sh (.ptr mu.length)),some (.sh N),some (.sh P)],mu++[some (objP "Order" l)]⟩
  let F:FD->Ev:=fun l=>⟨[some (.sh (objP "Order" l)),zS xs,zP ps],nn (mu++[some (objP "Order" l)])⟩
  have pk:∀ l,(E l).peekC=F l:=fun l=>by
    have e0:resP (mu++[some (objP "Order" l)]) (.ptr mu.length)=objP "Order" l:=by
      unfold resP
      dsimp only
      rw [hget]
    show (⟨[some (.sh (resP (mu++[some (objP "Order" l)]) (.ptr mu.length))),some (.sh (resP (mu++[some (objP "Order" l)]) N)),some (.sh (resP (mu++[some (objP "Order" l)]) P))],nn (mu++[some (objP "Order" l)])⟩:Ev)=_
    rw [e0,res_app hN,res_app hP]
  have rd:∀ {f:EF} {l:FD} {r:Lc} {ρ1:Ev},f (F l)=some (r,ρ1)->flatL r=true->eReadC f (E l)=some (r,E l):=fun h hf=>readc_go (by rw [pk]; exact h) hf
  have sf:∀ (f:Str) (fv:EF) (l:FD) (y:Lc),fv (E l)=some (y,E l)->l.length < 1000->sFldP "Order" f (eVar 0) fv (E l)=some (.nx (E (putFP f y.pv l))):=fun f fv l y h hl=>by
    rw [fldp_go h rfl (x:=.sh (.ptr mu.length)) (ρ2:=E l) rfl rfl (hget _) hl,show (E l).mu=mu++[some (objP "Order" l)] from rfl,hset]
  have s1:sFldP "Order" "names" (eVar 0) (eReadC (eB list1 (aCons (eVar 1) aNil))) (E [])=some (.nx (E (oF1 xs))):=sf _ _ [] (.own (.lst (SS xs))) (rd (ρ1:=F []) rfl (flat_SS xs)) (by decide)
  have p2:putFP "above" (DF ps xs) (oF1 xs)=(oF2 xs ps):=by
    rw [put_no (show ¬ (("names" : Str) = "above") from by decide +kernel)]
    rfl
  have s2:sFldP "Order" "above" (eVar 0) (eFz (eCall m_all_above (aCons (eVar 1) (aCons (eVar 2) aNil)))) (E (oF1 xs))=some (.nx (E (oF2 xs ps))):=by
    rw [← p2]
    refine sf _ _ _ (.sh (DF ps xs)) ?_ (by show 1 < 1000; decide)
    have e1:eCall m_all_above (aCons (eVar 1) (aCons (eVar 2) aNil)) (E (oF1 xs))=some (.own (dkP (abD ps xs)),E (oF1 xs)):=call_go (cons_go rfl (cons_go rfl rfl)) rfl rfl rfl (all_above_eqC (res_app hN) (res_app hP) ok.lp ok.nd (by omega))
    unfold eFz
    rw [e1]
    rfl
  have fab:∀ (fo:EF) (ρ:Ev) (l:FD),fo ρ=some (.sh (.ptr mu.length),ρ)->ρ.mu=mu++[some (objP "Order" (("names",.lst (SS xs))::("above",DF ps xs)::l))]->eFld "Order" "above" fo ρ=some (.sh (DF ps xs),ρ):=fun fo ρ l h hm=>by
    refine fld_go h rfl (by rw [hm]; exact hget _) ?_
    show (if ("names" : Str) = "above" then _ else _)=_
    rw [if_neg (show ¬ (("names" : Str) = "above") from by decide +kernel)]
    show (if ("above" : Str) = "above" then _ else _)=_
    rw [if_pos rfl]
  have p3:putFP "joins" (dtP lj) (oF2 xs ps)=(oF3 xs ps lj):=by
    rw [put_no (show ¬ (("names" : Str) = "joins") from by decide +kernel),put_no (show ¬ (("above" : Str) = "joins") from by decide +kernel)]
    rfl
  have s3:sFldP "Order" "joins" (eVar 0) (eCall m_bounds (aCons (eFld "Order" "above" (eVar 0)) aNil)) (E (oF2 xs ps))=some (.nx (E (oF3 xs ps lj))):=by
    rw [← p3]
    refine sf _ _ _ (.own (dtP lj)) ?_ (by show 2 < 1000; decide)
    exact call_go (cons_go (fab _ _ [] rfl rfl) rfl) rfl rfl rfl ej
  have p4:putFP "meets" (dtP lm) (oF3 xs ps lj)=(oF4 xs ps lj lm):=by
    rw [put_no (show ¬ (("names" : Str) = "meets") from by decide +kernel),put_no (show ¬ (("above" : Str) = "meets") from by decide +kernel),put_no (show ¬ (("joins" : Str) = "meets") from by decide +kernel)]
    rfl
  have s4:sFldP "Order" "meets" (eVar 0) (eCall m_bounds (aCons (eFz (eCall m_all_beneath (aCons (eVar 1) (aCons (eVar 2) aNil)))) aNil)) (E (oF3 xs ps lj))=some (.nx (E (oF4 xs ps lj lm))):=by
    rw [← p4]
    refine sf _ _ _ (.own (dtP lm)) ?_ (by show 3 < 1000; decide)
    have e1:eCall m_all_beneath (aCons (eVar 1) (aCons (eVar 2) aNil)) (E (oF3 xs ps lj))=some (.own (dkP (abD (swp ps) xs)),E (oF3 xs ps lj)):=call_go (cons_go rfl (cons_go rfl rfl)) rfl rfl rfl (all_beneath_eqC (res_app hN) (res_app hP) ok.lp ok.nd (by omega))
    refine call_go (cons_go (l:=.sh (DF (swp ps) xs)) (ls:=[]) (ρ1:=E (oF3 xs ps lj)) ?_ rfl) rfl rfl rfl em
    unfold eFz
    rw [e1]
    rfl
  have lenA:∀ (ρ:Ev) (l:FD) (x:Str),x ∈ xs->ρ.vs[0]?=some (zT x)->ρ.vs[1]?=some (some (.sh (objP "Order" (("names",.lst (SS xs))::("above",DF ps xs)::l))))->ρ.set 0 (zT x)=ρ->ρ.set 1 (some (.sh (objP "Order" (("names",.lst (SS xs))::("above",DF ps xs)::l))))=ρ->eLen (eIy (eFldR "Order" "above" (eVar 1)) (eVar 0)) ρ=some (.sh (.int ((clm ps x).length:Nat)),ρ):=fun ρ l x hx h0 h1 hs0 hs1=>by
    have v0:eVar 0 ρ=some (.sh (.str x),ρ):=by unfold eVar; rw [h0]; show some (Lc.sh (PV.str x),ρ.set 0 (zT x))=_; rw [hs0]
    have v1:eVar 1 ρ=some (.sh (objP "Order" (("names",.lst (SS xs))::("above",DF ps xs)::l)),ρ):=by unfold eVar; rw [h1]; show some (Lc.sh (objP "Order" (("names",.lst (SS xs))::("above",DF ps xs)::l)),ρ.set 1 (some (.sh (objP "Order" (("names",.lst (SS xs))::("above",DF ps xs)::l)))))=_; rw [hs1]
    have fr:eFldR "Order" "above" (eVar 1) ρ=some (.sh (DF ps xs),ρ):=by
      refine fldr_go v1 rfl ?_
      show (if ("names" : Str) = "above" then _ else _)=_
      rw [if_neg (show ¬ (("names" : Str) = "above") from by decide +kernel)]
      show (if ("above" : Str) = "above" then _ else _)=_
      rw [if_pos rfl]
    have:=len_lst (iyd_go (d:=abD ps xs) fr rfl v0 rfl (abD_yes hx)) rfl
    rw [this,List.length_map]
  have lo_ne:(xs.filter fun x=>decide ((clm ps x).length=xs.length)) ≠ []:=by
    obtain ⟨x,hx,h⟩:=ok.lo
    exact List.ne_nil_of_mem (List.mem_filter.mpr ⟨hx,decide_eq_true h⟩)
  have hi_ne:(xs.filter fun x=>decide ((clm ps x).length=1)) ≠ []:=by
    obtain ⟨x,hx,h⟩:=ok.hi
    exact List.ne_nil_of_mem (List.mem_filter.mpr ⟨hx,decide_eq_true h⟩)
  obtain ⟨lo,hlo,alo⟩:=at0S lo_ne
  obtain ⟨hi,hhi,ahi⟩:=at0S hi_ne
  have p5:putFP "lowest" (.str lo) (oF4 xs ps lj lm)=(oF5 xs ps lj lm lo):=by
    rw [put_no (show ¬ (("names" : Str) = "lowest") from by decide +kernel),put_no (show ¬ (("above" : Str) = "lowest") from by decide +kernel),put_no (show ¬ (("joins" : Str) = "lowest") from by decide +kernel),put_no (show ¬ (("meets" : Str) = "lowest") from by decide +kernel)]
    rfl
  have s5:sFldP "Order" "lowest" (eVar 0) (eReadC (eIy (eComp (iOf (eVar 1) walkP) 1 [0,1] (bName 0) (tT (eOp eqY (eLen (eIy (eFldR "Order" "above" (eVar 1)) (eVar 0))) (eLen (eVar 2))) blP) (eVar 0)) (eC (.int 0)))) (E (oF4 xs ps lj lm))=some (.nx (E (oF5 xs ps lj lm lo))):=by
    rw [← p5]
    refine sf _ _ _ (.sh (.str lo)) (rd (ρ1:=F (oF4 xs ps lj lm)) ?_ rfl) (by show 4 < 1000; decide)
    refine iy_lst (l:=.own (.lst (SS (xs.filter fun x=>decide ((clm ps x).length=xs.length))))) ((eComp_eq (ρ1:=F (oF4 xs ps lj lm)) (iof_go (l:=wS xs) rfl rfl rfl) (head_comp (ps:=ps) (n:=0) (l:=[]) (c:=xs.length) (vs:=[some (.sh (objP "Order" (oF4 xs ps lj lm))),zS xs]) (mu:=nn (mu++[some (objP "Order" (oF4 xs ps lj lm))])) (by omega) fun x hx=>?_)).trans rfl) rfl rfl rfl alo
    refine (tT_go (l:=.sh (.bl ((((clm ps x).length:Nat):Int) == ((SS xs).length:Nat)))) (op_go (lenA _ _ x hx rfl rfl rfl rfl) rfl (len_lst (l:=wS xs) rfl rfl) rfl eqY_int) rfl rfl).trans ?_
    rw [List.length_map]
    congr 2
    rw [Bool.eq_iff_iff,beq_iff_eq,decide_eq_true_eq]
    omega
  have p6:putFP "highest" (.str hi) (oF5 xs ps lj lm lo)=oF xs ps lj lm lo hi:=by
    rw [put_no (show ¬ (("names" : Str) = "highest") from by decide +kernel),put_no (show ¬ (("above" : Str) = "highest") from by decide +kernel),put_no (show ¬ (("joins" : Str) = "highest") from by decide +kernel),put_no (show ¬ (("meets" : Str) = "highest") from by decide +kernel),put_no (show ¬ (("lowest" : Str) = "highest") from by decide +kernel)]
    rfl
  have s6:sFldP "Order" "highest" (eVar 0) (eReadC (eIy (eComp (iOf (eVar 1) walkP) 1 [0] (bName 0) (tT (eOp eqY (eLen (eIy (eFldR "Order" "above" (eVar 1)) (eVar 0))) (eC (.int 1))) blP) (eVar 0)) (eC (.int 0)))) (E (oF5 xs ps lj lm lo))=some (.nx (E (oF xs ps lj lm lo hi))):=by
    rw [← p6]
    refine sf _ _ _ (.sh (.str hi)) (rd (ρ1:=F (oF5 xs ps lj lm lo)) ?_ rfl) (by show 5 < 1000; decide)
    refine iy_lst (l:=.own (.lst (SS (xs.filter fun x=>decide ((clm ps x).length=1))))) ((eComp_eq (ρ1:=F (oF5 xs ps lj lm lo)) (iof_go (l:=wS xs) rfl rfl rfl) (head_comp (ps:=ps) (n:=0) (l:=[]) (c:=1) (vs:=[some (.sh (objP "Order" (oF5 xs ps lj lm lo)))]) (mu:=nn (mu++[some (objP "Order" (oF5 xs ps lj lm lo))])) (by omega) fun x hx=>?_)).trans rfl) rfl rfl rfl ahi
    refine (tT_go (l:=.sh (.bl ((((clm ps x).length:Nat):Int) == 1))) (op_go (lenA _ _ x hx rfl rfl rfl rfl) rfl rfl rfl eqY_int) rfl rfl).trans ?_
    congr 2
    rw [Bool.eq_iff_iff,beq_iff_eq,decide_eq_true_eq]
    omega
  refine ⟨oF xs ps lj lm lo hi,⟨⟨lj,lm,lo,hi,rfl,t1,t2,t3,t4,⟨(List.mem_filter.mp hlo).1,of_decide_eq_true (List.mem_filter.mp hlo).2⟩,(List.mem_filter.mp hhi).1,of_decide_eq_true (List.mem_filter.mp hhi).2⟩⟩,?_⟩
  exact runP_nx (ρ:=E (oF xs ps lj lm lo hi)) (seq_go (ρ':=E []) (expr_go (rd (call_go (cons_go rfl (cons_go rfl rfl)) rfl rfl rfl (refuse_names_eq ok)) rfl)) (seq_go (ρ':=E []) (expr_go (rd (call_go (cons_go rfl (cons_go rfl rfl)) rfl rfl rfl (refuse_order_eq ok)) rfl)) (seq_go s1 (seq_go s2 (seq_go s3 (seq_go s4 (seq_go s5 s6)))))))
theorem look_no {f g:Str} {q:PV} {r:FD} (h:¬ g=f):lookP ((g,q)::r) f=lookP r f:=by
  show (if g=f then _ else _)=_
  rw [if_neg h]
theorem look_yes {f:Str} {q:PV} {r:FD}:lookP ((f,q)::r) f=some q:=by
  show (if f=f then _ else _)=_
  rw [if_pos rfl]
section
variable {xs:List Str} {ps:List (Str × Str)} {lj lm:PDT} {lo hi:Str}
theorem lk_names:lookP (oF xs ps lj lm lo hi) "names" = some (.lst (SS xs)):=by
  exact look_yes
theorem lk_above:lookP (oF xs ps lj lm lo hi) "above" = some (DF ps xs):=by
  rw [look_no (show ¬ (("names" : Str) = "above") from by decide +kernel)]
  exact look_yes
theorem lk_lowest:lookP (oF xs ps lj lm lo hi) "lowest" = some (.str lo):=by
  rw [look_no (show ¬ (("names" : Str) = "lowest") from by decide +kernel)]
  rw [look_no (show ¬ (("above" : Str) = "lowest") from by decide +kernel)]
  rw [look_no (show ¬ (("joins" : Str) = "lowest") from by decide +kernel)]
  rw [look_no (show ¬ (("meets" : Str) = "lowest") from by decide +kernel)]
  exact look_yes
theorem lk_highest:lookP (oF xs ps lj lm lo hi) "highest" = some (.str hi):=by
  rw [look_no (show ¬ (("names" : Str) = "highest") from by decide +kernel)]
  rw [look_no (show ¬ (("above" : Str) = "highest") from by decide +kernel)]
  rw [look_no (show ¬ (("joins" : Str) = "highest") from by decide +kernel)]
  rw [look_no (show ¬ (("meets" : Str) = "highest") from by decide +kernel)]
  rw [look_no (show ¬ (("lowest" : Str) = "highest") from by decide +kernel)]
  exact look_yes
end
noncomputable def Ord (n:Nat) (mu:Mu) (xs:List Str) (ps:List (Str × Str)):Prop:=OrdOk xs ps/\∃ l,OrdAt xs ps l/\mu[n]?=some (some (objP "Order" l))
noncomputable def U (ps:List (Str × Str)) (a b:Str):Bool:=has (clm ps a) b
section
variable {n:Nat} {mu:Mu} {xs:List Str} {ps:List (Str × Str)} {a b:Str}
theorem refuse_eq (O:Ord n mu xs ps) (ha:a ∈ xs):m_Order__refuse_stranger [.ptr n,.str a] mu=some (.sh .non,mu):=by
  obtain ⟨ok,l,⟨lj,lm,lo,hi,rfl,_⟩,hm⟩:=O
  exact runP_nx (ρ:=⟨[some (.sh (.ptr n)),zT a],mu⟩) ((sIf_f (ρ1:=⟨[some (.sh (.ptr n)),zT a],mu⟩) ((tT_go (op_go rfl rfl (fld_go (x:=.sh (.ptr n)) (ρ1:=⟨[some (.sh (.ptr n)),zT a],mu⟩) rfl rfl hm lk_names) rfl ninP_s) rfl rfl).trans (by rw [has_iff.mpr ha]; rfl))).trans rfl)
theorem two_ok (O:Ord n mu xs ps) (ha:a ∈ xs) (hb:b ∈ xs) (f:SF) (R:Option Fl) (h:f ⟨[some (.sh (.ptr n)),zT a,zT b],mu⟩=R):(sSeq (sExpr (eMeth "Order" "refuse_stranger" m_Order__refuse_stranger (eVar 0) (aCons (eVar 1) aNil))) (sSeq (sExpr (eMeth "Order" "refuse_stranger" m_Order__refuse_stranger (eVar 0) (aCons (eVar 2) aNil))) f)) ⟨[some (.sh (.ptr n)),zT a,zT b],mu⟩=R:=by
  have O':=O
  obtain ⟨ok,l,⟨lj,lm,lo,hi,rfl,_⟩,hm⟩:=O
  have hc:((oF xs ps lj lm lo hi).map (·.1)).contains ("refuse_stranger" : Str)=false:=by
    show (["names", "above", "joins", "meets", "lowest", "highest"]:List Str).contains "refuse_stranger" = false
    decide +kernel
  exact seq_go (ρ':=⟨[some (.sh (.ptr n)),zT a,zT b],mu⟩) (expr_go (meth_go (x:=.sh (.ptr n)) (ρ1:=⟨[some (.sh (.ptr n)),zT a,zT b],mu⟩) (ρ2:=⟨[some (.sh (.ptr n)),zT a,zT b],mu⟩) rfl rfl hm hc (cons_go rfl rfl) rfl (refuse_eq O' ha))) (seq_go (ρ':=⟨[some (.sh (.ptr n)),zT a,zT b],mu⟩) (expr_go (meth_go (x:=.sh (.ptr n)) (ρ1:=⟨[some (.sh (.ptr n)),zT a,zT b],mu⟩) (ρ2:=⟨[some (.sh (.ptr n)),zT a,zT b],mu⟩) rfl rfl hm hc (cons_go rfl rfl) rfl (refuse_eq O' hb))) h)
theorem under_eq (O:Ord n mu xs ps) (ha:a ∈ xs) (hb:b ∈ xs):m_Order__under [.ptr n,.str a,.str b] mu=some (.sh (.bl (U ps a b)),mu):=by
  have O':=O
  obtain ⟨ok,l,⟨lj,lm,lo,hi,rfl,_⟩,hm⟩:=O
  exact runP_rt (ρ:=⟨[some (.sh (.ptr n)),zT a,zT b],mu⟩) (two_ok O' ha hb _ _ (ret_go (op_go rfl rfl (iyd_go (d:=abD ps xs) (fld_go (x:=.sh (.ptr n)) (ρ1:=⟨[some (.sh (.ptr n)),zT a,zT b],mu⟩) rfl rfl hm lk_above) rfl rfl rfl (abD_yes ha)) rfl inP_s)))
theorem lk_low {lj lm:PDT} {lo hi:Str}:lookP (oF xs ps lj lm lo hi) "lowest" = some (.str lo):=by
  rw [look_no (show ¬ (("names" : Str) = "lowest") from by decide +kernel)]
  rw [look_no (show ¬ (("above" : Str) = "lowest") from by decide +kernel)]
  rw [look_no (show ¬ (("joins" : Str) = "lowest") from by decide +kernel)]
  rw [look_no (show ¬ (("meets" : Str) = "lowest") from by decide +kernel)]
  exact look_yes
theorem lk_high {lj lm:PDT} {lo hi:Str}:lookP (oF xs ps lj lm lo hi) "highest" = some (.str hi):=by
  rw [look_no (show ¬ (("names" : Str) = "highest") from by decide +kernel)]
  rw [look_no (show ¬ (("above" : Str) = "highest") from by decide +kernel)]
  rw [look_no (show ¬ (("joins" : Str) = "highest") from by decide +kernel)]
  rw [look_no (show ¬ (("meets" : Str) = "highest") from by decide +kernel)]
  rw [look_no (show ¬ (("lowest" : Str) = "highest") from by decide +kernel)]
  exact look_yes
theorem ranks_eq (O:Ord n mu xs ps):m_Order__ranks [.ptr n] mu=some (.own (.lst (SS xs)),mu):=by
  obtain ⟨ok,l,⟨lj,lm,lo,hi,rfl,_⟩,hm⟩:=O
  exact runP_rt (ρ:=⟨[some (.sh (.ptr n))],mu⟩) (ret_go (b_go (ls:=[wS xs]) (ps:=[.lst (SS xs)]) (cons_go (fld_go (x:=.sh (.ptr n)) (ρ1:=⟨[some (.sh (.ptr n))],mu⟩) rfl rfl hm lk_names) rfl) rfl rfl))
theorem ends_eq (O:Ord n mu xs ps):∃ lo hi,(lo ∈ xs/\(clm ps lo).length=xs.length)/\(hi ∈ xs/\(clm ps hi).length=1)/\m_Order__least [.ptr n] mu=some (.sh (.str lo),mu)/\m_Order__greatest [.ptr n] mu=some (.sh (.str hi),mu):=by
  obtain ⟨ok,l,⟨lj,lm,lo,hi,rfl,_,_,_,_,h1,h2,h3⟩,hm⟩:=O
  exact ⟨lo,hi,h1,⟨h2,h3⟩,runP_rt (ρ:=⟨[some (.sh (.ptr n))],mu⟩) (ret_go (fld_go (x:=.sh (.ptr n)) (ρ1:=⟨[some (.sh (.ptr n))],mu⟩) rfl rfl hm lk_low)),runP_rt (ρ:=⟨[some (.sh (.ptr n))],mu⟩) (ret_go (fld_go (x:=.sh (.ptr n)) (ρ1:=⟨[some (.sh (.ptr n))],mu⟩) rfl rfl hm lk_high))⟩
theorem me {m:Str} {g:GF} {fo fa fb:EF} {ρ:Ev} {r:PV} (O:Ord n mu xs ps) (hρ:ρ.mu=mu) (ho:fo ρ=some (.sh (.ptr n),ρ)) (ha:fa ρ=some (.sh (.str a),ρ)) (hb:fb ρ=some (.sh (.str b),ρ)) (hc:(["names", "above", "joins", "meets", "lowest", "highest"]:List Str).contains m=false) (hg:g [.ptr n,.str a,.str b] mu=some (.sh r,mu)):eMeth "Order" m g fo (aCons fa (aCons fb aNil)) ρ=some (.sh r,ρ):=by
  obtain ⟨ok,l,⟨lj,lm,lo,hi,rfl,_⟩,hm⟩:=O
  have:=meth_go (C := "Order") (m:=m) (g:=g) (fo:=fo) (a:=aCons fa (aCons fb aNil)) (l:=oF xs ps lj lm lo hi) (n:=n) (ps:=[.str a,.str b]) ho rfl (by rw [hρ]; exact hm) hc (cons_go ha (cons_go hb rfl)) rfl (by rw [hρ]; exact hg)
  rw [this,← hρ]
theorem mu_ (O:Ord n mu xs ps) {fo fa fb:EF} {ρ:Ev} (ina:a ∈ xs) (inb:b ∈ xs) (hρ:ρ.mu=mu) (ho:fo ρ=some (.sh (.ptr n),ρ)) (ha:fa ρ=some (.sh (.str a),ρ)) (hb:fb ρ=some (.sh (.str b),ρ)):eMeth "Order" "under" m_Order__under fo (aCons fa (aCons fb aNil)) ρ=some (.sh (.bl (U ps a b)),ρ):=me O hρ ho ha hb (by decide +kernel) (under_eq O ina inb)
theorem U_iff (ok:OrdOk xs ps):U ps a b=true ↔ Rt (fun a b=>(a,b) ∈ ps) a b:=by
  unfold U
  rw [has_iff,clm_mem ok.lp]
theorem U_anti (ok:OrdOk xs ps) (h:U ps a b=true) (g:U ps b a=true):a=b:=by
  obtain ⟨ht,hh⟩:=ok.acyc
  have key:∀ {x y:Str},Rt (fun a b=>(a,b) ∈ ps) x y->x=y\/ht x < ht y:=by
    intro x y r
    induction r with
    | refl=>exact .inl rfl
    | @step y z _ e ih=>
      by_cases hyz:y=z
      · rw [← hyz]; exact ih
      · have:=hh (y,z) e hyz
        rcases ih with rfl | ih
        · exact .inr this
        · exact .inr (Nat.lt_trans ih this)
  rcases key ((U_iff ok).mp h) with e | h1
  · exact e
  · rcases key ((U_iff ok).mp g) with e | h2
    · exact e.symm
    · omega
end
noncomputable abbrev MM (ms:List Nat):List PV:=ms.map fun m=>.int (m:Nat)
noncomputable abbrev zM (x:List Nat):Option Lc:=some (.sh (.lst (MM x)))
noncomputable abbrev wM (x:List Nat):Lc:=.sh (.lst (MM x))
noncomputable abbrev NP (qs:List (Nat × Nat)):List PV:=qs.map fun q=>.tup [.int (q.1:Nat),.int (q.2:Nat)]
theorem bitAnd_nat {a b:Nat}:Builtin.bitAnd (a:Int) (b:Int)=((a &&& b:Nat):Int):=by
  unfold Builtin.bitAnd
  rw [decide_eq_true (by omega:(0:Int)<=a),decide_eq_true (by omega:(0:Int)<=b)]
  rfl
theorem at_mm {ms:List Nat} {i:Nat} (h:i < ms.length):ixP (.lst (MM ms)) (.int (i:Nat))=zI (ms[i]:Nat):=by
  obtain ⟨x,e,e2⟩:=atI_some (l:=MM ms) (i:=(i:Int)) (by omega) (by rw [List.length_map]; omega)
  show (atI (MM ms) i).map _=_
  rw [e]
  rw [Int.toNat_natCast,List.getElem?_map,List.getElem?_eq_getElem h] at e2
  cases e2
  rfl
theorem nodup_at {xs:List Str} (hd:xs.Nodup) {i j:Nat} (hi:i < xs.length) (hj:j < xs.length) (e:xs[i]=xs[j]):i=j:=by
  rcases Nat.lt_trichotomy i j with h | h | h
  · exact absurd e (List.pairwise_iff_getElem.mp hd i j hi hj h)
  · exact h
  · exact absurd e.symm (List.pairwise_iff_getElem.mp hd j i hj hi h)
theorem getD_at {xs:List Str} {i:Nat} (h:i < xs.length):xs.getD i "" = xs[i]:=by rw [List.getD_eq_getElem?_getD,List.getElem?_eq_getElem h]; rfl
theorem in_mm {a:Nat}:∀ ms:List Nat,inDs (eqD 150) (.int (a:Nat)) (MM ms)=some (decide (a ∈ ms))
  | []=>rfl
  | m::ms=>by
    show (some (((m:Nat):Int) == ((a:Nat):Int))).bind (fun b=>(inDs (eqD 150) (.int (a:Nat)) (MM ms)).map fun c=>b || c)=_
    rw [in_mm ms]
    show some ((((m:Nat):Int) == ((a:Nat):Int)) || decide (a ∈ ms))=_
    congr 1
    rw [Bool.eq_iff_iff,Bool.or_eq_true,beq_iff_eq,decide_eq_true_eq,decide_eq_true_eq,List.mem_cons]
    constructor
    · rintro (h | h)
      · exact .inl (by omega)
      · exact .inr h
    · rintro (h | h)
      · exact .inl (by omega)
      · exact .inr h
theorem nin_mm {a:Nat} {ms:List Nat}:ninP (.int (a:Nat)) (.lst (MM ms))=some (.sh (.bl (!decide (a ∈ ms)))):=by
  show (inDs (eqD 150) (.int (a:Nat)) (MM ms)).map _=_
  rw [in_mm]
  rfl
theorem and_mm {a b:Nat}:andP (.int (a:Nat)) (.int (b:Nat))=zI ((a &&& b:Nat)):=by
  show some (Lc.sh (.int (Builtin.bitAnd (a:Int) (b:Int))))=_
  rw [bitAnd_nat]
theorem find_S {xs:List Str} (hd:xs.Nodup) {i:Nat} (h:i < xs.length):xs.findIdx (fun y=>y == xs[i])=i:=by
  rw [List.findIdx_eq h]
  refine ⟨by simp,fun j hj=>?_⟩
  have hj':j < xs.length:=by omega
  show (xs[j] == xs[i])=false
  rw [beq_eq_false_iff_ne]
  intro e
  have:=nodup_at hd hj' h e
  omega
theorem min_ex:∀ {l:List Nat},l ≠ []->∃ m ∈ l,∀ x ∈ l,m<=x
  | [],h=>absurd rfl h
  | [y],_=>⟨y,by simp,fun x hx=>by simp at hx; omega⟩
  | y::z::l,_=>by
    obtain ⟨m,h1,h2⟩:=min_ex (l:=z::l) (by simp)
    by_cases h:y<=m
    · refine ⟨y,List.mem_cons_self,fun x hx=>?_⟩
      rcases List.mem_cons.mp hx with rfl | hx
      · exact Nat.le_refl _
      · have:=h2 x hx; omega
    · refine ⟨m,List.mem_cons_of_mem _ h1,fun x hx=>?_⟩
      rcases List.mem_cons.mp hx with rfl | hx
      · omega
      · exact h2 x hx
theorem bnd_some {ps:List (Str × Str)} {a b r:Str} (h1:r ∈ clm ps a) (h2:r ∈ clm ps b) (h:∀ y,y ∈ clm ps a->y ∈ clm ps b->y ∈ clm ps r):bnd ps a b ≠ .non:=by
  intro e
  unfold bnd at e
  cases hf:(shd ps a b).find? (good ps a b) with
  | some x=>rw [hf] at e; cases e
  | none=>
    refine List.find?_eq_none.mp hf r (List.mem_filter.mpr ⟨h1,has_iff.mpr h2⟩) ?_
    unfold good
    refine List.all_eq_true.mpr fun y hy=>has_iff.mpr ?_
    obtain ⟨g1,g2⟩:=List.mem_filter.mp hy
    exact h y g1 (has_iff.mp g2)
theorem clm_swp {ps:List (Str × Str)} {a b:Str} (lp:ps.length<=68):b ∈ clm (swp ps) a ↔ a ∈ clm ps b:=by
  rw [clm_mem lp,clm_mem (by rw [List.length_map]; exact lp)]
  have e1:∀ x y:Str,(x,y) ∈ swp ps ↔ (y,x) ∈ ps:=fun x y=>by
    constructor
    · intro h
      obtain ⟨q,hq,e⟩:=List.mem_map.mp h
      cases e
      exact hq
    · intro h
      exact List.mem_map.mpr ⟨(y,x),h,rfl⟩
  constructor
  · intro h
    have h':=h.back
    clear h
    induction h' with
    | refl=>exact .refl _
    | step _ e ih=>exact ih.step ((e1 _ _).mp e)
  · intro h
    have h':=h.back
    clear h
    induction h' with
    | refl=>exact .refl _
    | step _ e ih=>exact ih.step ((e1 _ _).mpr e)
structure Msk (xs:List Str) (ms:List Nat) (ps:List (Str × Str)):Prop where
  nd:xs.Nodup
  md:ms.Nodup
  len:ms.length=xs.length
  l8:xs.length<=8
  lp:ps.length<=68
  nm:∀ x ∈ xs,nameB x=true
  cl:∀ a ∈ ms,∀ b ∈ ms,(a &&& b) ∈ ms
  top:∃ t ∈ ms,∀ m ∈ ms,m &&& t=m
  pr:∀ q ∈ ps,∃ i k,∃ (hi:i < xs.length) (hk:k < xs.length) (hi':i < ms.length) (hk':k < ms.length),q=(xs[i],xs[k])/\ms[i] &&& ms[k]=ms[i]
  cov:∀ i k (hi:i < xs.length) (hk:k < xs.length) (hi':i < ms.length) (hk':k < ms.length),ms[i] &&& ms[k]=ms[i]->xs[k] ∈ clm ps xs[i]
section
variable {xs:List Str} {ms:List Nat} {ps:List (Str × Str)}
theorem and_tr {a b c:Nat} (h:a &&& b=a) (g:b &&& c=b):a &&& c=a:=by rw [← h,Nat.and_assoc,g]
theorem Msk.reach (M:Msk xs ms ps) {i:Nat} (hi:i < xs.length) (hi':i < ms.length) {y:Str}:y ∈ clm ps xs[i] ↔ ∃ k,∃ (hk:k < xs.length) (hk':k < ms.length),y=xs[k]/\ms[i] &&& ms[k]=ms[i]:=by
  constructor
  · intro h
    rw [clm_mem M.lp] at h
    generalize hx:xs[i]=x at h
    induction h with
    | refl=>exact ⟨i,hi,hi',hx.symm,Nat.and_self _⟩
    | @step b c _ e ih=>
      obtain ⟨j,hj,hj',e1,e2⟩:=ih
      obtain ⟨i2,k2,g1,g2,g3,g4,e3,e4⟩:=M.pr _ e
      have e5:b=xs[i2]:=congrArg Prod.fst e3
      have e6:c=xs[k2]:=congrArg Prod.snd e3
      have:=nodup_at M.nd hj g1 (by rw [← e1,e5])
      subst this
      exact ⟨k2,g2,g4,e6,and_tr e2 e4⟩
  · rintro ⟨k,hk,hk',rfl,h⟩
    exact M.cov i k hi hk hi' hk' h
theorem Msk.least (M:Msk xs ms ps) {S:List Nat} (hS:S ≠ []) (hsub:∀ m ∈ S,m ∈ ms) (hcl:∀ a ∈ S,∀ b ∈ S,(a &&& b) ∈ S):∃ m ∈ S,∀ x ∈ S,m &&& x=m:=by
  obtain ⟨m,h1,h2⟩:=min_ex hS
  refine ⟨m,h1,fun x hx=>?_⟩
  have:=h2 _ (hcl m h1 x hx)
  have:=Nat.and_le_left (n:=m) (m:=x)
  omega
theorem Msk.ok (M:Msk xs ms ps):OrdOk xs ps:=by
  have hl:=M.len
  obtain ⟨t,ht,htop⟩:=M.top
  have hne:ms ≠ []:=List.ne_nil_of_mem ht
  have at_:∀ m ∈ ms,∃ k,∃ (hk:k < xs.length) (hk':k < ms.length),ms[k]=m:=fun m hm=>by
    obtain ⟨k,hk,e⟩:=List.getElem_of_mem hm
    exact ⟨k,by omega,hk,e⟩
  refine ⟨M.nd,fun e=>?_,M.l8,M.lp,M.nm,fun q hq=>?_,?_,fun a ha b hb=>?_,fun a ha b hb=>?_,?_,?_⟩
  · rw [e] at hl
    exact hne (List.length_eq_zero_iff.mp hl)
  · obtain ⟨i,k,hi,hk,_,_,rfl,_⟩:=M.pr q hq
    exact ⟨List.getElem_mem hi,List.getElem_mem hk⟩
  · refine ⟨fun s=>ms.getD (xs.findIdx (fun y=>y == s)) 0,fun q hq hne'=>?_⟩
    obtain ⟨i,k,hi,hk,hi',hk',rfl,h⟩:=M.pr q hq
    show ms.getD (xs.findIdx fun y=>y == xs[i]) 0 < ms.getD (xs.findIdx fun y=>y == xs[k]) 0
    rw [find_S M.nd hi,find_S M.nd hk,List.getD_eq_getElem?_getD,List.getD_eq_getElem?_getD,List.getElem?_eq_getElem hi',List.getElem?_eq_getElem hk']
    show ms[i] < ms[k]
    have h1:ms[i]<=ms[k]:=by rw [← h]; exact Nat.and_le_right
    have h2:ms[i] ≠ ms[k]:=fun e=>by
      have:i=k:=by
        rcases Nat.lt_trichotomy i k with z | z | z
        · exact absurd e (List.pairwise_iff_getElem.mp M.md i k hi' hk' z)
        · exact z
        · exact absurd e.symm (List.pairwise_iff_getElem.mp M.md k i hk' hi' z)
      subst this
      exact hne' rfl
    omega
  · obtain ⟨i,hi,rfl⟩:=List.getElem_of_mem ha
    obtain ⟨j,hj,rfl⟩:=List.getElem_of_mem hb
    have hi':i < ms.length:=by omega
    have hj':j < ms.length:=by omega
    obtain ⟨m,h1,h2⟩:=M.least (S:=ms.filter fun m=>decide (ms[i] &&& m=ms[i]/\ms[j] &&& m=ms[j])) (List.ne_nil_of_mem (List.mem_filter.mpr ⟨ht,decide_eq_true ⟨htop _ (List.getElem_mem hi'),htop _ (List.getElem_mem hj')⟩⟩)) (fun m hm=>(List.mem_filter.mp hm).1) (fun a ha b hb=>by
      obtain ⟨a1,a2⟩:=List.mem_filter.mp ha
      obtain ⟨b1,b2⟩:=List.mem_filter.mp hb
      obtain ⟨a3,a4⟩:=of_decide_eq_true a2
      obtain ⟨b3,b4⟩:=of_decide_eq_true b2
      exact List.mem_filter.mpr ⟨M.cl a a1 b b1,decide_eq_true ⟨by rw [← Nat.and_assoc,a3,b3],by rw [← Nat.and_assoc,a4,b4]⟩⟩)
    obtain ⟨m1,m2⟩:=List.mem_filter.mp h1
    obtain ⟨m3,m4⟩:=of_decide_eq_true m2
    obtain ⟨k,hk,hk',rfl⟩:=at_ m m1
    refine bnd_some (r:=xs[k]) ((M.reach hi hi').mpr ⟨k,hk,hk',rfl,m3⟩) ((M.reach hj hj').mpr ⟨k,hk,hk',rfl,m4⟩) fun y hy hy'=>?_
    obtain ⟨p,hp,hp',rfl,e1⟩:=(M.reach hi hi').mp hy
    obtain ⟨q,hq,hq',e,e2⟩:=(M.reach hj hj').mp hy'
    have:=nodup_at M.nd hp hq e
    subst this
    exact (M.reach hk hk').mpr ⟨p,hp,hp',rfl,h2 _ (List.mem_filter.mpr ⟨List.getElem_mem hp',decide_eq_true ⟨e1,e2⟩⟩)⟩
  · obtain ⟨i,hi,rfl⟩:=List.getElem_of_mem ha
    obtain ⟨j,hj,rfl⟩:=List.getElem_of_mem hb
    have hi':i < ms.length:=by omega
    have hj':j < ms.length:=by omega
    obtain ⟨k,hk,hk',e⟩:=at_ _ (M.cl _ (List.getElem_mem hi') _ (List.getElem_mem hj'))
    have k1:ms[k] &&& ms[i]=ms[k]:=by rw [e,Nat.and_comm ms[i] ms[j],Nat.and_assoc,Nat.and_self]
    have k2:ms[k] &&& ms[j]=ms[k]:=by rw [e,Nat.and_assoc,Nat.and_self]
    refine bnd_some (r:=xs[k]) ((clm_swp M.lp).mpr ((M.reach hk hk').mpr ⟨i,hi,hi',rfl,k1⟩)) ((clm_swp M.lp).mpr ((M.reach hk hk').mpr ⟨j,hj,hj',rfl,k2⟩)) fun y hy hy'=>?_
    have g1:=(clm_swp M.lp).mp hy
    have g2:=(clm_swp M.lp).mp hy'
    have hyx:y ∈ xs:=clm_names (fun q hq=>by
      obtain ⟨q',hq',rfl⟩:=List.mem_map.mp hq
      obtain ⟨i,k,hi,hk,_,_,rfl,_⟩:=M.pr q' hq'
      exact List.getElem_mem hi) (List.getElem_mem hi) hy
    obtain ⟨p,hp,rfl⟩:=List.getElem_of_mem hyx
    have hp':p < ms.length:=by omega
    obtain ⟨i2,_,hi2',e3,e4⟩:=(M.reach hp hp').mp g1
    obtain ⟨j2,_,hj2',e5,e6⟩:=(M.reach hp hp').mp g2
    have:=nodup_at M.nd hi (by omega) e3
    subst this
    have:=nodup_at M.nd hj (by omega) e5
    subst this
    refine (clm_swp M.lp).mpr ((M.reach hp hp').mpr ⟨k,hk,hk',rfl,?_⟩)
    rw [e,← Nat.and_assoc,e4,e6]
  · obtain ⟨m,h1,h2⟩:=M.least hne (fun m hm=>hm) M.cl
    obtain ⟨k,hk,hk',rfl⟩:=at_ m h1
    refine ⟨xs[k],List.getElem_mem hk,Nat.le_antisymm ?_ ?_⟩
    · refine List.Nodup.length_le_of_subset clm_nodup fun y hy=>?_
      obtain ⟨p,hp,_,rfl,_⟩:=(M.reach hk hk').mp hy
      exact List.getElem_mem hp
    · refine List.Nodup.length_le_of_subset M.nd fun y hy=>?_
      obtain ⟨p,hp,rfl⟩:=List.getElem_of_mem hy
      exact (M.reach hk hk').mpr ⟨p,hp,by omega,rfl,h2 _ (List.getElem_mem _)⟩
  · obtain ⟨k,hk,hk',rfl⟩:=at_ t ht
    refine ⟨xs[k],List.getElem_mem hk,Nat.le_antisymm ?_ ?_⟩
    · refine List.Nodup.length_le_of_subset (l₂:=[xs[k]]) clm_nodup fun y hy=>?_
      obtain ⟨p,hp,hp',rfl,e⟩:=(M.reach hk hk').mp hy
      have e2:=htop _ (List.getElem_mem hp')
      have e3:ms[p]=ms[k]:=by rw [← e2,Nat.and_comm,e]
      have:p=k:=by
        rcases Nat.lt_trichotomy p k with z | z | z
        · exact absurd e3 (List.pairwise_iff_getElem.mp M.md p k hp' hk' z)
        · exact z
        · exact absurd e3.symm (List.pairwise_iff_getElem.mp M.md k p hk' hp' z)
      subst this
      exact List.mem_singleton.mpr rfl
    · exact List.length_pos_of_mem ((M.reach hk hk').mpr ⟨k,hk,hk',rfl,Nat.and_self _⟩)
end
theorem cut_a {ps:List PV} {a:Int} (h0:0<=a) (h1:a<=ps.length):cutP ps none (some a)=ps.take a.toNat:=by
  have e:HT.sIx ps.length ps.length (some a)=a.toNat:=by
    show (if a < 0 then _ else min a.toNat ps.length)=_
    rw [if_neg (by omega)]
    omega
  unfold cutP
  rw [e]
  rfl
theorem cut_b {ps:List PV} {a:Int} (h0:0<=a) (h1:a<=ps.length):cutP ps (some a) none=ps.drop a.toNat:=by
  have e:HT.sIx ps.length 0 (some a)=a.toNat:=by
    show (if a < 0 then _ else min a.toNat ps.length)=_
    rw [if_neg (by omega)]
    omega
  unfold cutP
  rw [e]
  show (ps.drop a.toNat).take (ps.length - a.toNat)=_
  rw [List.take_of_length_le (by rw [List.length_drop]; omega)]
structure MOK (t:Nat) (ms:List Nat):Prop where
  nd:ms.Nodup
  l8:ms.length<=8
  tm:t ∈ ms
  top:∀ m ∈ ms,m &&& t=m
  cl:∀ a ∈ ms,∀ b ∈ ms,(a &&& b) ∈ ms
noncomputable def insM (acc:List Nat) (x:Nat):List Nat:=if x ∈ acc then acc else acc++[x]
noncomputable def addM (c:Nat):List Nat->List Nat->List Nat
  | [],acc=>acc
  | m::r,acc=>addM c r (insM acc (m &&& c))
theorem insM_mem {acc:List Nat} {x y:Nat}:y ∈ insM acc x ↔ y ∈ acc\/y=x:=by
  unfold insM
  split
  · rename_i h
    exact ⟨.inl,fun z=>z.elim id fun e=>by rw [e]; exact h⟩
  · simp
theorem insM_nd {acc:List Nat} {x:Nat} (h:acc.Nodup):(insM acc x).Nodup:=by
  unfold insM
  split
  · exact h
  · rename_i hx
    refine List.nodup_append.mpr ⟨h,by simp,?_⟩
    rintro a ha b hb e
    have:b=x:=by simpa using hb
    subst this e
    exact hx ha
theorem addM_mem {c y:Nat}:∀ {r acc:List Nat},y ∈ addM c r acc ↔ y ∈ acc\/∃ m ∈ r,y=m &&& c
  | [],acc=>by simp [addM]
  | m::r,acc=>by
    unfold addM
    rw [addM_mem,insM_mem]
    constructor
    · rintro ((h | h) | ⟨m',h1,h2⟩)
      · exact .inl h
      · exact .inr ⟨m,List.mem_cons_self,h⟩
      · exact .inr ⟨m',List.mem_cons_of_mem _ h1,h2⟩
    · rintro (h | ⟨m',h1,h2⟩)
      · exact .inl (.inl h)
      · rcases List.mem_cons.mp h1 with rfl | h1
        · exact .inl (.inr h2)
        · exact .inr ⟨m',h1,h2⟩
theorem addM_nd {c:Nat}:∀ {r acc:List Nat},acc.Nodup->(addM c r acc).Nodup
  | [],_,h=>h
  | m::r,acc,h=>by
    unfold addM
    exact addM_nd (insM_nd h)
theorem MOK.add {t c:Nat} {ms:List Nat} (M:MOK t ms) (hl:(addM c ms ms).length<=8):MOK t (addM c ms ms):=by
  refine ⟨addM_nd M.nd,hl,addM_mem.mpr (.inl M.tm),fun m hm=>?_,fun a ha b hb=>?_⟩
  · rcases addM_mem.mp hm with h | ⟨m',h1,rfl⟩
    · exact M.top m h
    · rw [Nat.and_assoc,Nat.and_comm c t,← Nat.and_assoc,M.top m' h1]
  · rcases addM_mem.mp ha with h | ⟨a',h1,rfl⟩
    · rcases addM_mem.mp hb with g | ⟨b',g1,rfl⟩
      · exact addM_mem.mpr (.inl (M.cl a h b g))
      · exact addM_mem.mpr (.inr ⟨a &&& b',M.cl a h b' g1,by rw [Nat.and_assoc]⟩)
    · rcases addM_mem.mp hb with g | ⟨b',g1,rfl⟩
      · exact addM_mem.mpr (.inr ⟨a' &&& b,M.cl a' h1 b g,by rw [Nat.and_assoc,Nat.and_comm c b,← Nat.and_assoc]⟩)
      · refine addM_mem.mpr (.inr ⟨a' &&& b',M.cl a' h1 b' g1,?_⟩)
        rw [Nat.and_assoc,Nat.and_assoc,← Nat.and_assoc c b' c,Nat.and_comm c b',Nat.and_assoc b' c c,Nat.and_self]
theorem MOK.same {t:Nat} {ms ms':List Nat} (M:MOK t ms) (hd:ms'.Nodup) (hl:ms'.length<=8) (h:∀ m,m ∈ ms' ↔ m ∈ ms):MOK t ms':=
  ⟨hd,hl,(h t).mpr M.tm,fun m hm=>M.top m ((h m).mp hm),fun a ha b hb=>(h _).mpr (M.cl a ((h a).mp ha) b ((h b).mp hb))⟩
noncomputable abbrev KE (S:PV) (l1 o2 o3 o4:Option Lc) (mu:Mu):Ev:=⟨[some (.sh S),l1,o2,o3,o4],mu⟩
noncomputable abbrev kB:SF:=sIf (tRead (tT (eOp ninP (eOp andP (eVar 4) (eOp modP (eVar 2) (eC (.int 128)))) (eVar 3)) blP)) (sApp 3 (eOp andP (eVar 4) (eOp modP (eVar 2) (eC (.int 128))))) sNil
theorem masks_in {S l1:PV} {c:Int} {mu:Mu}:∀ (rest acc:List Nat) (o4:Option Lc),acc.length + rest.length<=1000->
    ∃ o4',forP (bName 4) kB (MM rest) (KE S (some (.sh l1)) (zI c) (some (.own (.lst (MM acc)))) o4 mu)=some (.nx (KE S (some (.sh l1)) (zI c) (some (.own (.lst (MM (addM (c % 128).toNat rest acc))))) o4' mu))
  | [],acc,o4,_=>⟨o4,rfl⟩
  | m::rest,acc,o4,hl=>by
    rw [List.length_cons] at hl
    have hm:c % 128=(((c % 128).toNat:Nat):Int):=by have:=Int.emod_nonneg c (b:=128) (by decide); omega
    have ea:∀ l3,eOp andP (eVar 4) (eOp modP (eVar 2) (eC (.int 128))) (KE S (some (.sh l1)) (zI c) l3 (zI (m:Nat)) mu)=some (.sh (.int ((m &&& (c % 128).toNat:Nat))),KE S (some (.sh l1)) (zI c) l3 (zI (m:Nat)) mu):=fun l3=>by
      refine op_go rfl rfl (op_go rfl rfl rfl rfl (modP_int (by decide))) rfl ?_
      rw [hm]
      exact and_mm
    have t:tRead (tT (eOp ninP (eOp andP (eVar 4) (eOp modP (eVar 2) (eC (.int 128)))) (eVar 3)) blP) (KE S (some (.sh l1)) (zI c) (some (.own (.lst (MM acc)))) (zI (m:Nat)) mu)=some (!decide ((m &&& (c % 128).toNat) ∈ acc),KE S (some (.sh l1)) (zI c) (some (.own (.lst (MM acc)))) (zI (m:Nat)) mu):=by
      refine tread_go (ρ1:=⟨[some (.sh S),some (.sh l1),zI c,zM acc,zI (m:Nat)],mu.map fun _=>none⟩) ?_
      refine tT_go (l:=.sh (.bl (!decide ((m &&& (c % 128).toNat) ∈ acc)))) (op_go (op_go rfl rfl (op_go rfl rfl rfl rfl (modP_int (by decide))) rfl (r:=.sh (.int ((m &&& (c % 128).toNat:Nat)))) ?_) rfl rfl rfl nin_mm) rfl rfl
      rw [hm]
      exact and_mm
    unfold addM insM
    by_cases hin:(m &&& (c % 128).toNat) ∈ acc
    · rw [if_pos hin]
      obtain ⟨o,e⟩:=masks_in (S:=S) (l1:=l1) (mu:=mu) rest acc (zI (m:Nat)) (by omega)
      exact ⟨o,for_step rfl ((sIf_f (t.trans (by rw [decide_eq_true hin]; rfl))).trans rfl) e⟩
    · rw [if_neg hin]
      obtain ⟨o,e⟩:=masks_in (S:=S) (l1:=l1) (mu:=mu) rest (acc++[m &&& (c % 128).toNat]) (zI (m:Nat)) (by simp; omega)
      refine ⟨o,for_step (ρ2:=KE S (some (.sh l1)) (zI c) (some (.own (.lst (MM (acc++[m &&& (c % 128).toNat]))))) (zI (m:Nat)) mu) rfl ((sIf_t (t.trans (by rw [decide_eq_false hin]; rfl))).trans ?_) e⟩
      refine (app_go rfl (ea _) rfl rfl (by rw [List.length_map]; omega) rfl).trans ?_
      rw [show MM (acc++[m &&& (c % 128).toNat])=MM acc++[.int ((m &&& (c % 128).toNat:Nat))] from List.map_append]
      rfl
theorem masks_eq {cs:List Int} {mu:Mu}:∃ (l:Lc) (ms:List Nat),m__law_masks [.lst (cs.map .int)] mu=some (l,mu)/\l.pv=.lst (MM ms)/\MOK 127 ms:=by
  have s1:sSet 1 (eLst (aCons (eC (.int 127)) aNil)) (env0 5 [.lst (cs.map .int)] mu)=some (.nx (KE (.lst (cs.map .int)) (some (.own (.lst (MM [127])))) none none none mu)):=set_go (lst_go (ls:=[.sh (.int 127)]) rfl rfl rfl) rfl rfl
  obtain ⟨ρ',ef,l1,ms,o2,o3,o4,rfl,hl1,hM⟩:=fail_loop (b:=bName 2) (body:=sSeq (sSet 3 (eB list1 (aCons (eVar 1) aNil))) (sSeq (sFor (iOf (eVar 1) walkP) (bName 4) kB) (sIf (tRead (tT (eOp leP (eB len1 (aCons (eVar 3) aNil)) (eC (.int 8))) blP)) (sSet 1 (eVar 3)) sNil))) (xs:=cs.map .int) (ρ:=KE (.lst (cs.map .int)) (some (.own (.lst (MM [127])))) none none none mu) (fun ρ=>∃ l1 ms o2 o3 o4,ρ=KE (.lst (cs.map .int)) (some l1) o2 o3 o4 mu/\l1.pv=.lst (MM ms)/\MOK 127 ms) ⟨.own (.lst (MM [127])),[127],none,none,none,rfl,rfl,⟨by simp,by decide,by simp,by decide,by decide⟩⟩ (by
    rintro p hp ρ ⟨l1,ms,o2,o3,o4,rfl,hl1,hM⟩
    obtain ⟨c,hcm,rfl⟩:=List.mem_map.mp hp
    have h8:=hM.l8
    have g1:sSet 3 (eB list1 (aCons (eVar 1) aNil)) (KE (.lst (cs.map .int)) (some l1) (zI c) o3 o4 mu)=some (.nx (KE (.lst (cs.map .int)) (zM ms) (zI c) (some (.own (.lst (MM ms)))) o4 mu)):=by
      cases l1 with
      | sh p=>have hp:p=.lst (MM ms):=hl1; subst hp; rfl
      | own p=>have hp:p=.lst (MM ms):=hl1; subst hp; rfl
    obtain ⟨o4',e2⟩:=masks_in (S:=.lst (cs.map .int)) (l1:=.lst (MM ms)) (c:=c) (mu:=mu) ms ms o4 (by omega)
    have g2:sFor (iOf (eVar 1) walkP) (bName 4) kB (KE (.lst (cs.map .int)) (zM ms) (zI c) (some (.own (.lst (MM ms)))) o4 mu)=some (.nx (KE (.lst (cs.map .int)) (zM ms) (zI c) (some (.own (.lst (MM (addM (c % 128).toNat ms ms))))) o4' mu)):=for_go (iof_go (l:=wM ms) rfl rfl rfl) e2
    have t3:tRead (tT (eOp leP (eB len1 (aCons (eVar 3) aNil)) (eC (.int 8))) blP) (KE (.lst (cs.map .int)) (zM ms) (zI c) (some (.own (.lst (MM (addM (c % 128).toNat ms ms))))) o4' mu)=some (decide (((MM (addM (c % 128).toNat ms ms)).length:Int)<=8),KE (.lst (cs.map .int)) (zM ms) (zI c) (some (.own (.lst (MM (addM (c % 128).toNat ms ms))))) o4' mu):=tread_go (tT_go (l:=.sh (.bl (decide (((MM (addM (c % 128).toNat ms ms)).length:Int)<=8)))) rfl rfl rfl)
    refine ⟨KE (.lst (cs.map .int)) (some l1) (zI c) o3 o4 mu,rfl,?_⟩
    by_cases h9:(addM (c % 128).toNat ms ms).length<=8
    · exact ⟨KE (.lst (cs.map .int)) (zM (addM (c % 128).toNat ms ms)) (zI c) (zM (addM (c % 128).toNat ms ms)) o4' mu,seq_go g1 (seq_go g2 ((sIf_t (t3.trans (by rw [decide_eq_true (by rw [List.length_map]; omega)]))).trans rfl)),_,_,_,_,_,rfl,rfl,hM.add h9⟩
    · exact ⟨KE (.lst (cs.map .int)) (zM ms) (zI c) (some (.own (.lst (MM (addM (c % 128).toNat ms ms))))) o4' mu,seq_go g1 (seq_go g2 ((sIf_f (t3.trans (by rw [decide_eq_false (by rw [List.length_map]; omega)]))).trans rfl)),_,_,_,_,_,rfl,rfl,hM⟩)
  obtain ⟨ρ2,e2,e3⟩:∃ ρ2,sRetV 1 (KE (.lst (cs.map .int)) (some l1) o2 o3 o4 mu)=some (.rt l1 ρ2)/\ρ2.mu=mu:=⟨_,rfl,rfl⟩
  refine ⟨l1,ms,?_,hl1,hM⟩
  have:m__law_masks [.lst (cs.map .int)] mu=some (l1,ρ2.mu):=runP_rt (seq_go s1 (seq_go (for_go (ρ1:=KE (.lst (cs.map .int)) (some (.own (.lst (MM [127])))) none none none mu) (iof_go (l:=.sh (.lst (cs.map .int))) rfl rfl rfl) ef) e2))
  rw [e3] at this
  exact this
theorem int_beq {a b:Nat}:(((a:Nat):Int) == ((b:Nat):Int))=decide (a=b):=by
  rw [Bool.eq_iff_iff,beq_iff_eq,decide_eq_true_eq]
  omega
noncomputable abbrev Sa (a b:Nat):Prop:=a &&& b=a
theorem is_under_eq {a b:Nat} {mu:Mu}:m__law_is_under [.int (a:Nat),.int (b:Nat)] mu=some (.sh (.bl (decide (Sa a b))),mu):=by
  refine runP_rt (ρ:=⟨[zI (a:Nat),zI (b:Nat)],mu⟩) (ret_go ((op_go (r:=.sh (.bl (((a &&& b:Nat):Int) == ((a:Nat):Int)))) (op_go rfl rfl rfl rfl and_mm) rfl rfl rfl rfl).trans ?_))
  rw [int_beq]
  rfl
theorem comp_mm {ms:List Nat} {mu:Mu} {tc:TF} {vs:List (Option Lc)} {g:Nat->Bool} (hl:ms.length<=1000) (ht:∀ x ∈ ms,tc ⟨zI (x:Nat)::vs,mu⟩=some (g x,⟨zI (x:Nat)::vs,mu⟩)):compP (bName 0) tc (eVar 0) (MM ms) ⟨none::vs,mu⟩ []=some (MM (ms.filter g),mu):=by
  have:=compP_eq (b:=bName 0) (tc:=tc) (te:=eVar 0) (mu:=mu) (fun ρ=>∃ o,ρ=⟨o::vs,mu⟩) (fun ρ ⟨o,e⟩=>by rw [e]) (fun p=>match p with | .int y=>g y.toNat | _=>false) (fun p=>p) (xs:=MM ms) (ρ:=⟨none::vs,mu⟩) (acc:=[]) ⟨none,rfl⟩ (by simp; omega) (by
    rintro z hz ρ ⟨o,rfl⟩
    obtain ⟨y,hy,rfl⟩:=List.mem_map.mp hz
    exact ⟨⟨zI (y:Nat)::vs,mu⟩,rfl,_,ht y hy,⟨_,rfl⟩,fun _=>⟨_,_,rfl,rfl,_,rfl⟩⟩)
  rw [this,List.nil_append,List.filter_map,List.map_map]
  rfl
noncomputable def amid (ms:List Nat) (a b:Nat):List Nat:=ms.filter fun m=>decide (Sa a m) && decide (Sa m b)
noncomputable def nbB (ms:List Nat) (a b:Nat):Bool:=(!decide (a=b) && decide (Sa a b)) && decide ((amid ms a b).length=2)
noncomputable abbrev NE5 (M:PV) (l1 o2 o3 o4:Option Lc) (mu:Mu):Ev:=⟨[some (.sh M),l1,o2,o3,o4],mu⟩
noncomputable abbrev nC:EF:=eComp (iOf (eVar 0) walkP) 1 [2,3] (bName 0) (tAndF (tT (eCall m__law_is_under (aCons (eVar 1) (aCons (eVar 0) aNil))) truP) (tT (eCall m__law_is_under (aCons (eVar 0) (aCons (eVar 2) aNil))) truP)) (eVar 0)
noncomputable abbrev nB:SF:=sIf (tAndF (tT (eOp neP (eVar 2) (eVar 3)) blP) (tT (eCall m__law_is_under (aCons (eVar 2) (aCons (eVar 3) aNil))) truP))
    (sSeq (sSet 4 nC)
    (sIf (tT (eOp eqP (eB len1 (aCons (eVar 4) aNil)) (eC (.int 2))) blP)
    (sApp 1 (eTup (aCons (eVar 2) (aCons (eVar 3) aNil))))
    sNil))
    sNil
theorem nC_eq {ms:List Nat} {l1 o4:Option Lc} {a b:Nat} {mu:Mu} (hm:ms.length<=8):nC (NE5 (.lst (MM ms)) l1 (zI (a:Nat)) (zI (b:Nat)) o4 mu)=some (.own (.lst (MM (amid ms a b))),NE5 (.lst (MM ms)) l1 (zI (a:Nat)) (zI (b:Nat)) o4 mu):=
  (eComp_eq (ρ1:=NE5 (.lst (MM ms)) l1 (zI (a:Nat)) (zI (b:Nat)) o4 mu) (iof_go (l:=wM ms) rfl rfl rfl) (comp_mm (g:=fun m=>decide (Sa a m) && decide (Sa m b)) (vs:=[zI (a:Nat),zI (b:Nat)]) (mu:=mu) (by omega) fun x hx=>and_go (tT_go (call_go (cons_go rfl (cons_go rfl rfl)) rfl rfl rfl is_under_eq) rfl rfl) (tT_go (call_go (cons_go rfl (cons_go rfl rfl)) rfl rfl rfl is_under_eq) rfl rfl))).trans rfl
theorem nb_in {ms:List Nat} {a:Nat} {mu:Mu} (hm:ms.length<=8):∀ (rest:List Nat) (qs:List (Nat × Nat)) (o3 o4:Option Lc),qs.length + rest.length<=1000->
    ∃ o3' o4',forP (bName 3) nB (MM rest) (NE5 (.lst (MM ms)) (some (.own (.lst (NP qs)))) (zI (a:Nat)) o3 o4 mu)=some (.nx (NE5 (.lst (MM ms)) (some (.own (.lst (NP (qs++(rest.filter (nbB ms a)).map fun b=>(a,b)))))) (zI (a:Nat)) o3' o4' mu))
  | [],qs,o3,o4,_=>⟨o3,o4,by rw [show qs++(([]:List Nat).filter (nbB ms a)).map (fun b=>(a,b))=qs from List.append_nil _]; rfl⟩
  | b::rest,qs,o3,o4,hl=>by
    rw [List.length_cons] at hl
    have t1:tAndF (tT (eOp neP (eVar 2) (eVar 3)) blP) (tT (eCall m__law_is_under (aCons (eVar 2) (aCons (eVar 3) aNil))) truP) (NE5 (.lst (MM ms)) (some (.own (.lst (NP qs)))) (zI (a:Nat)) (zI (b:Nat)) o4 mu)=some (!decide (a=b) && decide (Sa a b),NE5 (.lst (MM ms)) (some (.own (.lst (NP qs)))) (zI (a:Nat)) (zI (b:Nat)) o4 mu):=by
      rw [← int_beq]
      exact and_go (tT_go (l:=.sh (.bl (!(((a:Nat):Int) == ((b:Nat):Int))))) rfl rfl rfl) (tT_go (call_go (cons_go rfl (cons_go rfl rfl)) rfl rfl rfl is_under_eq) rfl rfl)
    cases h1:(!decide (a=b) && decide (Sa a b)) with
    | false=>
      have hn:nbB ms a b=false:=by unfold nbB; rw [h1]; rfl
      obtain ⟨p3,p4,e⟩:=nb_in (a:=a) (mu:=mu) hm rest qs (zI (b:Nat)) o4 (by omega)
      refine ⟨p3,p4,?_⟩
      rw [List.filter_cons_of_neg (by rw [hn]; simp)]
      exact for_step rfl ((sIf_f (t1.trans (by rw [h1]))).trans rfl) e
    | true=>
      have t2:tT (eOp eqP (eB len1 (aCons (eVar 4) aNil)) (eC (.int 2))) blP (NE5 (.lst (MM ms)) (some (.own (.lst (NP qs)))) (zI (a:Nat)) (zI (b:Nat)) (some (.own (.lst (MM (amid ms a b))))) mu)=some (decide ((amid ms a b).length=2),NE5 (.lst (MM ms)) (some (.own (.lst (NP qs)))) (zI (a:Nat)) (zI (b:Nat)) (zM (amid ms a b)) mu):=by
        refine (tT_go (l:=.sh (.bl ((((MM (amid ms a b)).length:Nat):Int) == 2))) (op_go (b_go (ls:=[wM (amid ms a b)]) (ps:=[.lst (MM (amid ms a b))]) (r:=.sh (.int ((MM (amid ms a b)).length:Nat))) rfl rfl rfl) rfl rfl rfl rfl) rfl rfl).trans ?_
        rw [List.length_map]
        congr 2
        rw [Bool.eq_iff_iff,beq_iff_eq,decide_eq_true_eq]
        omega
      have s4:sSet 4 nC (NE5 (.lst (MM ms)) (some (.own (.lst (NP qs)))) (zI (a:Nat)) (zI (b:Nat)) o4 mu)=some (.nx (NE5 (.lst (MM ms)) (some (.own (.lst (NP qs)))) (zI (a:Nat)) (zI (b:Nat)) (some (.own (.lst (MM (amid ms a b))))) mu)):=set_go (nC_eq hm) rfl rfl
      cases h2:decide ((amid ms a b).length=2) with
      | false=>
        have hn:nbB ms a b=false:=by unfold nbB; rw [h1,h2]; rfl
        obtain ⟨p3,p4,e⟩:=nb_in (a:=a) (mu:=mu) hm rest qs (zI (b:Nat)) (zM (amid ms a b)) (by omega)
        refine ⟨p3,p4,?_⟩
        rw [List.filter_cons_of_neg (by rw [hn]; simp)]
        exact for_step rfl ((sIf_t (t1.trans (by rw [h1]))).trans (seq_go s4 ((sIf_f (t2.trans (by rw [h2]))).trans rfl))) e
      | true=>
        have hn:nbB ms a b=true:=by unfold nbB; rw [h1,h2]; rfl
        obtain ⟨p3,p4,e⟩:=nb_in (a:=a) (mu:=mu) hm rest (qs++[(a,b)]) (zI (b:Nat)) (zM (amid ms a b)) (by simp; omega)
        refine ⟨p3,p4,?_⟩
        rw [List.filter_cons_of_pos hn,List.map_cons,List.append_cons]
        have hNP:NP qs++[.tup [.int (a:Nat),.int (b:Nat)]]=NP (qs++[(a,b)]):=by show _=List.map _ (qs++[(a,b)]); rw [List.map_append]; rfl
        refine for_step rfl ((sIf_t (t1.trans (by rw [h1]))).trans (seq_go s4 ((sIf_t (t2.trans (by rw [h2]))).trans (app_go (ws0:=NP qs) (ws:=NP qs) (p:=.tup [.int (a:Nat),.int (b:Nat)]) rfl (tup_go (ls:=[.sh (.int (a:Nat)),.sh (.int (b:Nat))]) rfl rfl rfl) rfl rfl (by rw [List.length_map]; omega) rfl)))) ?_
        show forP _ _ _ (NE5 _ (some (.own (.lst (NP qs++[.tup [.int (a:Nat),.int (b:Nat)]])))) _ _ _ _)=_
        rw [hNP]
        exact e
theorem nb_out {ms:List Nat} {mu:Mu} (hm:ms.length<=8):∀ (rest:List Nat) (qs:List (Nat × Nat)) (o2 o3 o4:Option Lc),qs.length + rest.length * 8<=900->
    ∃ qs' o2' o3' o4',forP (bName 2) (sFor (iOf (eVar 0) walkP) (bName 3) nB) (MM rest) (NE5 (.lst (MM ms)) (some (.own (.lst (NP qs)))) o2 o3 o4 mu)=some (.nx (NE5 (.lst (MM ms)) (some (.own (.lst (NP qs')))) o2' o3' o4' mu))/\qs'.length<=qs.length + rest.length * ms.length/\∀ q,q ∈ qs' ↔ q ∈ qs\/∃ a ∈ rest,∃ b ∈ ms,q=(a,b)/\nbB ms a b=true
  | [],qs,o2,o3,o4,_=>⟨qs,o2,o3,o4,rfl,by simp,fun q=>by simp⟩
  | a::rest,qs,o2,o3,o4,hl=>by
    have e0:(rest.length + 1) * ms.length=rest.length * ms.length + ms.length:=Nat.succ_mul _ _
    rw [List.length_cons] at hl
    obtain ⟨p3,p4,e1⟩:=nb_in (a:=a) (mu:=mu) hm ms qs o3 o4 (by omega)
    have hf:(ms.filter (nbB ms a)).length<=ms.length:=List.length_filter_le _ _
    obtain ⟨q2,r2,r3,r4,e2,g3,g4⟩:=nb_out (mu:=mu) hm rest (qs++(ms.filter (nbB ms a)).map fun b=>(a,b)) (zI (a:Nat)) p3 p4 (by rw [List.length_append,List.length_map]; omega)
    refine ⟨q2,r2,r3,r4,for_step (ρ1:=NE5 (.lst (MM ms)) (some (.own (.lst (NP qs)))) (zI (a:Nat)) o3 o4 mu) rfl (for_go (iof_go (l:=wM ms) rfl rfl rfl) e1) e2,?_,fun q=>?_⟩
    · rw [List.length_append,List.length_map] at g3
      rw [List.length_cons,e0]
      omega
    rw [g4,List.mem_append]
    constructor
    · rintro ((h | h) | ⟨a',h1,h2⟩)
      · exact .inl h
      · obtain ⟨b,hb,rfl⟩:=List.mem_map.mp h
        obtain ⟨h1,h2⟩:=List.mem_filter.mp hb
        exact .inr ⟨a,List.mem_cons_self,b,h1,rfl,h2⟩
      · exact .inr ⟨a',List.mem_cons_of_mem _ h1,h2⟩
    · rintro (h | ⟨a',h1,b,h2,rfl,h3⟩)
      · exact .inl (.inl h)
      · rcases List.mem_cons.mp h1 with rfl | h1
        · exact .inl (.inr (List.mem_map.mpr ⟨b,List.mem_filter.mpr ⟨h2,h3⟩,rfl⟩))
        · exact .inr ⟨a',h1,b,h2,rfl,h3⟩
theorem neighbours_eq {ms:List Nat} {mu:Mu} (hm:ms.length<=8):∃ qs,m__law_neighbours [.lst (MM ms)] mu=some (.own (.lst (NP qs)),mu)/\qs.length<=64/\∀ q,q ∈ qs ↔ ∃ a ∈ ms,∃ b ∈ ms,q=(a,b)/\nbB ms a b=true:=by
  have hh:ms.length * ms.length<=8 * 8:=Nat.mul_le_mul hm hm
  obtain ⟨qs,o2,o3,o4,e,g1,g2⟩:=nb_out (mu:=mu) hm ms [] none none none (by simp; omega)
  refine ⟨qs,runP_rt (ρ:=NE5 (.lst (MM ms)) none o2 o3 o4 mu) (seq_go (ρ':=NE5 (.lst (MM ms)) (some (.own (.lst (NP [])))) none none none mu) rfl (seq_go (for_go (iof_go (l:=wM ms) rfl rfl rfl) e) rfl)),by simp at g1; omega,fun q=>?_⟩
  rw [g2]
  simp
theorem ins_go {i:Nat} {a:AF} {ρ ρ1 ρ':Ev} {ws0 ws:List PV} {k:Int} {le:Lc} {p:PV} (h0:ρ.vs[i]?=some (some (.own (.lst ws0)))) (h:a ρ=some ([.sh (.int k),le],ρ1)) (hp:le.pv=p) (h1:ρ1.vs[i]?=some (some (.own (.lst ws)))) (hk:0<=k/\k<=ws.length/\ws.length < 100000) (e:ρ1.set i (some (.own (.lst (ws.take k.toNat++p::ws.drop k.toNat))))=ρ'):sIns i a ρ=some (.nx ρ'):=by
  unfold sIns
  rw [h0]
  dsimp only
  rw [h,Option.bind_some]
  dsimp only
  rw [h1]
  dsimp only
  rw [if_pos hk,hp,e]
theorem ixm {ms:List Nat} {k:Int} (h0:0<=k) (h1:k < ms.length):∃ m ∈ ms,ixP (.lst (MM ms)) (.int k)=zI (m:Nat):=by
  obtain ⟨i,rfl⟩:∃ i:Nat,k=(i:Nat):=⟨k.toNat,by omega⟩
  have hi:i < ms.length:=by omega
  exact ⟨ms[i],List.getElem_mem hi,at_mm hi⟩
noncomputable abbrev PE6 (M C:PV) (l2 o3 o4 o5:Option Lc) (mu:Mu):Ev:=⟨[some (.sh M),some (.sh C),l2,o3,o4,o5],mu⟩
noncomputable abbrev qB:SF:=sSeq (sSet 4 (eIx (eVar 0) (eOp modP (eVar 3) (eB len1 (aCons (eVar 0) aNil)))))
    (sSeq (sSet 5 (eIx (eVar 0) (eOp modP (eOp fdivP (eVar 3) (eC (.int 8))) (eB len1 (aCons (eVar 0) aNil)))))
    (sIf (tRead (tAndF (tT (eCall m__law_is_under (aCons (eVar 4) (aCons (eVar 5) aNil))) truP) (tT (eOp ltP (eB len1 (aCons (eVar 2) aNil)) (eC (.int 64))) blP)))
    (sIns 2 (aCons (eRead (eOp modP (eOp fdivP (eVar 3) (eC (.int 64))) (eOp addP (eB len1 (aCons (eVar 2) aNil)) (eC (.int 1))))) (aCons (eTup (aCons (eVar 4) (aCons (eVar 5) aNil))) aNil)))
    sNil))
theorem pairs_loop {ms:List Nat} {C:PV} {mu:Mu} (hm:ms.length<=8) (h0:0 < ms.length):∀ (rest:List Int) (qs:List (Nat × Nat)) (o3 o4 o5:Option Lc),qs.length<=64->
    ∃ qs' o3' o4' o5',forP (bName 3) qB (rest.map PV.int) (PE6 (.lst (MM ms)) C (some (.own (.lst (NP qs)))) o3 o4 o5 mu)=some (.nx (PE6 (.lst (MM ms)) C (some (.own (.lst (NP qs')))) o3' o4' o5' mu))/\qs'.length<=64/\(∀ q ∈ qs,q ∈ qs')/\∀ q ∈ qs',q ∈ qs\/∃ a ∈ ms,∃ b ∈ ms,q=(a,b)/\Sa a b
  | [],qs,o3,o4,o5,hl=>⟨qs,o3,o4,o5,rfl,hl,fun q h=>h,fun q h=>.inl h⟩
  | c::rest,qs,o3,o4,o5,hl=>by
    have hM:((MM ms).length:Int)=ms.length:=by rw [List.length_map]
    obtain ⟨a,ha,ea⟩:=ixm (ms:=ms) (k:=c % ((MM ms).length:Nat)) (Int.emod_nonneg _ (by omega)) (by rw [hM]; exact Int.emod_lt_of_pos _ (by omega))
    obtain ⟨b,hb,eb⟩:=ixm (ms:=ms) (k:=c / 8 % ((MM ms).length:Nat)) (Int.emod_nonneg _ (by omega)) (by rw [hM]; exact Int.emod_lt_of_pos _ (by omega))
    have s4:sSet 4 (eIx (eVar 0) (eOp modP (eVar 3) (eB len1 (aCons (eVar 0) aNil)))) (PE6 (.lst (MM ms)) C (some (.own (.lst (NP qs)))) (zI c) o4 o5 mu)=some (.nx (PE6 (.lst (MM ms)) C (some (.own (.lst (NP qs)))) (zI c) (zI (a:Nat)) o5 mu)):=
      set_go (ix_go (p:=.lst (MM ms)) (q:=.int (c % ((MM ms).length:Nat))) (l:=wM ms) (m:=.sh (.int (c % ((MM ms).length:Nat)))) rfl rfl (op_go (p:=.int c) (q:=.int ((MM ms).length:Nat)) (l:=.sh (.int c)) (m:=.sh (.int ((MM ms).length:Nat))) rfl rfl rfl rfl (modP_int (by omega))) rfl (fun n h=>by cases h) ea) rfl rfl
    have s5:sSet 5 (eIx (eVar 0) (eOp modP (eOp fdivP (eVar 3) (eC (.int 8))) (eB len1 (aCons (eVar 0) aNil)))) (PE6 (.lst (MM ms)) C (some (.own (.lst (NP qs)))) (zI c) (zI (a:Nat)) o5 mu)=some (.nx (PE6 (.lst (MM ms)) C (some (.own (.lst (NP qs)))) (zI c) (zI (a:Nat)) (zI (b:Nat)) mu)):=
      set_go (ix_go (p:=.lst (MM ms)) (q:=.int (c / 8 % ((MM ms).length:Nat))) (l:=wM ms) (m:=.sh (.int (c / 8 % ((MM ms).length:Nat)))) rfl rfl (op_go (p:=.int (c / 8)) (q:=.int ((MM ms).length:Nat)) (l:=.sh (.int (c / 8))) (m:=.sh (.int ((MM ms).length:Nat))) (op_go rfl rfl rfl rfl (fdivP_int (by decide) (by decide))) rfl rfl rfl (modP_int (by omega))) rfl (fun n h=>by cases h) eb) rfl rfl
    have t:tRead (tAndF (tT (eCall m__law_is_under (aCons (eVar 4) (aCons (eVar 5) aNil))) truP) (tT (eOp ltP (eB len1 (aCons (eVar 2) aNil)) (eC (.int 64))) blP)) (PE6 (.lst (MM ms)) C (some (.own (.lst (NP qs)))) (zI c) (zI (a:Nat)) (zI (b:Nat)) mu)=some (decide (Sa a b) && decide (((NP qs).length:Int) < 64),PE6 (.lst (MM ms)) C (some (.own (.lst (NP qs)))) (zI c) (zI (a:Nat)) (zI (b:Nat)) mu):=
      tread_go (and_go (tT_go (call_go (cons_go rfl (cons_go rfl rfl)) rfl rfl rfl is_under_eq) rfl rfl) (tT_go (l:=.sh (.bl (decide (((NP qs).length:Int) < 64)))) rfl rfl rfl))
    have hlen:(NP qs).length=qs.length:=by rw [List.length_map]
    cases h:(decide (Sa a b) && decide (((NP qs).length:Int) < 64)) with
    | false=>
      obtain ⟨qs',p3,p4,p5,e,g1,g2,g3⟩:=pairs_loop (C:=C) (mu:=mu) hm h0 rest qs (zI c) (zI (a:Nat)) (zI (b:Nat)) hl
      exact ⟨qs',p3,p4,p5,for_step rfl (seq_go s4 (seq_go s5 ((sIf_f (t.trans (by rw [h]))).trans rfl))) e,g1,g2,g3⟩
    | true=>
      have hh:=h
      rw [Bool.and_eq_true,decide_eq_true_eq,decide_eq_true_eq] at hh
      have k0:=Int.emod_nonneg (c / 64) (b:=(NP qs).length + 1) (by omega)
      have k1:=Int.emod_lt_of_pos (c / 64) (b:=(NP qs).length + 1) (by omega)
      have er:eRead (eOp modP (eOp fdivP (eVar 3) (eC (.int 64))) (eOp addP (eB len1 (aCons (eVar 2) aNil)) (eC (.int 1)))) (PE6 (.lst (MM ms)) C (some (.own (.lst (NP qs)))) (zI c) (zI (a:Nat)) (zI (b:Nat)) mu)=some (.sh (.int (c / 64 % ((NP qs).length + 1))),PE6 (.lst (MM ms)) C (some (.own (.lst (NP qs)))) (zI c) (zI (a:Nat)) (zI (b:Nat)) mu):=
        eread_go (ρ1:=⟨[zM ms,some (.sh C),some (.sh (.lst (NP qs))),zI c,zI (a:Nat),zI (b:Nat)],mu.map fun _=>none⟩) (op_go (p:=.int (c / 64)) (q:=.int ((NP qs).length + 1)) (op_go rfl rfl rfl rfl (fdivP_int (by decide) (by decide))) rfl (l:=.sh (.int (c / 64))) (m:=.sh (.int ((NP qs).length + 1))) rfl rfl (modP_int (by omega))) rfl
      generalize c / 64 % (((NP qs).length:Int) + 1)=k at k0 k1 er
      have hq:∀ q,q ∈ qs ↔ q ∈ qs.take k.toNat\/q ∈ qs.drop k.toNat:=fun q=>by rw [← List.mem_append,List.take_append_drop]
      obtain ⟨qs',p3,p4,p5,e,g1,g2,g3⟩:=pairs_loop (C:=C) (mu:=mu) hm h0 rest (qs.take k.toNat++(a,b)::qs.drop k.toNat) (zI c) (zI (a:Nat)) (zI (b:Nat)) (by rw [List.length_append,List.length_cons,List.length_take,List.length_drop]; omega)
      refine ⟨qs',p3,p4,p5,for_step (ρ2:=PE6 (.lst (MM ms)) C (some (.own (.lst (NP (qs.take k.toNat++(a,b)::qs.drop k.toNat))))) (zI c) (zI (a:Nat)) (zI (b:Nat)) mu) rfl (seq_go s4 (seq_go s5 ((sIf_t (t.trans (by rw [h]))).trans ?_))) e,g1,fun q h=>g2 q ?_,fun q h=>?_⟩
      · refine ins_go (k:=k) (le:=.sh (.tup [.int (a:Nat),.int (b:Nat)])) (ws0:=NP qs) (ws:=NP qs) rfl (cons_go er (cons_go (tup_go (ls:=[.sh (.int (a:Nat)),.sh (.int (b:Nat))]) rfl rfl rfl) rfl)) rfl rfl ⟨k0,by omega,by omega⟩ ?_
        rw [show NP (qs.take k.toNat++(a,b)::qs.drop k.toNat)=(NP qs).take k.toNat++.tup [.int (a:Nat),.int (b:Nat)]::(NP qs).drop k.toNat from by
          show List.map _ (_++_::_)=_
          rw [List.map_append,List.map_cons,List.map_take,List.map_drop]]
        rfl
      · rcases (hq q).mp h with h | h
        · exact List.mem_append_left _ h
        · exact List.mem_append_right _ (List.mem_cons_of_mem _ h)
      · rcases g3 q h with h | h
        · rcases List.mem_append.mp h with h | h
          · exact .inl ((hq q).mpr (.inl h))
          · rcases List.mem_cons.mp h with h | h
            · exact .inr ⟨a,ha,b,hb,h,hh.1⟩
            · exact .inl ((hq q).mpr (.inr h))
        · exact .inr h
theorem pairs_eq {ms:List Nat} {cs:List Int} {mu:Mu} (hm:ms.length<=8) (h0:0 < ms.length):∃ qs,m__law_pairs [.lst (MM ms),.lst (cs.map PV.int)] mu=some (.own (.lst (NP qs)),mu)/\qs.length<=64/\(∀ a ∈ ms,∀ b ∈ ms,nbB ms a b=true->(a,b) ∈ qs)/\∀ q ∈ qs,∃ a ∈ ms,∃ b ∈ ms,q=(a,b)/\Sa a b:=by
  obtain ⟨q0,e0,l0,m0⟩:=neighbours_eq (ms:=ms) (mu:=mu) hm
  obtain ⟨qs,o3,o4,o5,e,g1,g2,g3⟩:=pairs_loop (C:=.lst (cs.map PV.int)) (mu:=mu) hm h0 cs q0 none none none l0
  refine ⟨qs,runP_rt (ρ:=PE6 (.lst (MM ms)) (.lst (cs.map PV.int)) none o3 o4 o5 mu) (seq_go (ρ':=PE6 (.lst (MM ms)) (.lst (cs.map PV.int)) (some (.own (.lst (NP q0)))) none none none mu) (set_go (call_go (cons_go rfl rfl) rfl rfl rfl e0) rfl rfl) (seq_go (for_go (iof_go (l:=.sh (.lst (cs.map PV.int))) rfl rfl rfl) e) rfl)),g1,fun a ha b hb h=>g2 _ ((m0 _).mpr ⟨a,ha,b,hb,rfl,h⟩),fun q h=>?_⟩
  rcases g3 q h with h | h
  · obtain ⟨a,ha,b,hb,e,h⟩:=(m0 q).mp h
    unfold nbB at h
    simp only [Bool.and_eq_true,decide_eq_true_eq] at h
    exact ⟨a,ha,b,hb,e,h.1.2⟩
  · exact h
theorem Sa.le {a b:Nat} (h:Sa a b):a<=b:=by rw [← show a &&& b=a from h]; exact Nat.and_le_right
theorem two_le {a b:Nat}:∀ {l:List Nat},a ∈ l->b ∈ l->a ≠ b->2<=l.length
  | [],h,_,_=>absurd h List.not_mem_nil
  | [x],h,g,n=>absurd ((List.mem_singleton.mp h).trans (List.mem_singleton.mp g).symm) n
  | _::_::_,_,_,_=>by simp
theorem le_two {a b:Nat}:∀ {l:List Nat},l.Nodup->(∀ m ∈ l,m=a\/m=b)->l.length<=2
  | [],_,_=>by simp
  | [_],_,_=>by simp
  | [_,_],_,_=>by simp
  | x::y::z::t,hd,h=>by
    have h1:=h x (by simp)
    have h2:=h y (by simp)
    have h3:=h z (by simp)
    simp only [List.nodup_cons,List.mem_cons,not_or] at hd
    omega
theorem chain_to {ms:List Nat} {qs:List (Nat × Nat)} (md:ms.Nodup) (hq:∀ a ∈ ms,∀ b ∈ ms,nbB ms a b=true->(a,b) ∈ qs):∀ (n a b:Nat),b - a<=n->a ∈ ms->b ∈ ms->Sa a b->Rt (fun x y=>(x,y) ∈ qs) a b:=by
  intro n
  induction n with
  | zero=>
    intro a b h ha hb hs
    have:=hs.le
    have:a=b:=by omega
    subst this
    exact .refl _
  | succ n ih=>
    intro a b h ha hb hs
    by_cases e:a=b
    · subst e; exact .refl _
    · have i1:a ∈ amid ms a b:=List.mem_filter.mpr ⟨ha,by rw [decide_eq_true (show Sa a a from Nat.and_self a),decide_eq_true hs]; rfl⟩
      have i2:b ∈ amid ms a b:=List.mem_filter.mpr ⟨hb,by rw [decide_eq_true (show Sa b b from Nat.and_self b),decide_eq_true hs]; rfl⟩
      by_cases hx:∃ m ∈ amid ms a b,m ≠ a/\m ≠ b
      · obtain ⟨m,hm,n1,n2⟩:=hx
        obtain ⟨h1,h2⟩:=List.mem_filter.mp hm
        rw [Bool.and_eq_true,decide_eq_true_eq,decide_eq_true_eq] at h2
        have l1:=h2.1.le
        have l2:=h2.2.le
        exact (ih a m (by omega) ha h1 h2.1).trans (ih m b (by omega) h1 hb h2.2)
      · have hl:(amid ms a b).length<=2:=le_two (a:=a) (b:=b) (md.filter _) fun m hm=>by
          by_cases n1:m=a
          · exact .inl n1
          · by_cases n2:m=b
            · exact .inr n2
            · exact absurd ⟨m,hm,n1,n2⟩ hx
        have hg:=two_le i1 i2 e
        refine .step (.refl _) (hq a ha b hb ?_)
        unfold nbB
        rw [decide_eq_false e,decide_eq_true hs,decide_eq_true (by omega)]
        rfl
section
variable {xs:List Str} {ms:List Nat}
theorem md_at {ms:List Nat} (hd:ms.Nodup) {i j:Nat} (hi:i < ms.length) (hj:j < ms.length) (e:ms[i]=ms[j]):i=j:=by
  rcases Nat.lt_trichotomy i j with h | h | h
  · exact absurd e (List.pairwise_iff_getElem.mp hd i j hi hj h)
  · exact h
  · exact absurd e.symm (List.pairwise_iff_getElem.mp hd j i hj hi h)
noncomputable def nam (xs:List Str) (ms:List Nat) (v:Nat):Str:=xs.getD (ms.findIdx fun y=>y == v) ""
theorem find_N {ms:List Nat} (hd:ms.Nodup) {i:Nat} (h:i < ms.length):ms.findIdx (fun y=>y == ms[i])=i:=by
  rw [List.findIdx_eq h]
  refine ⟨by simp,fun j hj=>?_⟩
  have hj':j < ms.length:=by omega
  show (ms[j] == ms[i])=false
  rw [beq_eq_false_iff_ne]
  intro e
  have:=md_at hd hj' h e
  omega
theorem nam_at (md:ms.Nodup) {i:Nat} (hi:i < xs.length) (hi':i < ms.length):nam xs ms ms[i]=xs[i]:=by
  unfold nam
  rw [find_N md hi',getD_at hi]
end
theorem atS {xs:List Str} {i:Nat} (h:i < xs.length):ixP (.lst (SS xs)) (.int (i:Nat))=some (.sh (.str xs[i])):=by
  obtain ⟨x,e,e2⟩:=atI_some (l:=SS xs) (i:=(i:Int)) (by omega) (by rw [List.length_map]; omega)
  show (atI (SS xs) i).map _=_
  rw [e]
  rw [Int.toNat_natCast,List.getElem?_map,List.getElem?_eq_getElem h] at e2
  cases e2
  rfl
theorem rot_mem {ms:List Nat} {t:Nat} {m:Nat}:m ∈ ms.drop t++ms.take t ↔ m ∈ ms:=by
  rw [List.mem_append]
  constructor
  · rintro (h | h)
    · exact List.mem_of_mem_drop h
    · exact List.mem_of_mem_take h
  · intro h
    rw [← List.take_append_drop t ms,List.mem_append] at h
    exact h.symm
theorem rot_nd {ms:List Nat} {t:Nat} (h:ms.Nodup):(ms.drop t++ms.take t).Nodup:=by
  refine (List.perm_append_comm.nodup_iff).mpr ?_
  rw [List.take_append_drop]
  exact h
theorem find_mm {ms:List Nat} {v:Nat}:∀ l:List Nat,(MM l).findIdx (fun q=>(eqD 150 q (.int (v:Nat))).getD false)=l.findIdx fun y=>y == v
  | []=>rfl
  | m::l=>by
    have e:((eqD 150 (.int (m:Nat)) (.int (v:Nat))).getD false)=(m == v):=by
      show (((m:Nat):Int) == ((v:Nat):Int))=(m == v)
      rw [int_beq,Bool.eq_iff_iff,decide_eq_true_eq,beq_iff_eq]
    show List.findIdx _ (PV.int (m:Nat)::MM l)=_
    rw [List.findIdx_cons,List.findIdx_cons,e,find_mm (ms:=ms) l]
theorem nix_go {xs:List Str} {ms:List Nat} (hl:ms.length=xs.length) (h8:xs.length<=8) {v:Nat} (hv:v ∈ ms) {fn fm f:EF} {ρ ρ1 ρ2 ρ3:Ev} {l m n:Lc} (h1:fn ρ=some (l,ρ1)) (e1:l.pv=.lst (SS xs)) (h2:fm ρ1=some (m,ρ2)) (e2:m.pv=.lst (MM ms)) (h3:f ρ2=some (n,ρ3)) (e3:n.pv=.int (v:Nat)):eIx fn (eIndex fm f) ρ=some (.sh (.str (nam xs ms v)),ρ3):=by
  have hlt:ms.findIdx (fun y=>y == v) < ms.length:=List.findIdx_lt_length.mpr ⟨v,hv,by simp⟩
  have ei:eIndex fm f ρ1=some (.sh (.int (ms.findIdx (fun y=>y == v):Nat)),ρ3):=by
    unfold eIndex
    rw [h2,Option.bind_some,h3,Option.bind_some,e2]
    dsimp only
    rw [e3,if_pos ⟨by rw [in_mm,decide_eq_true hv],by rw [List.length_map]; omega⟩,find_mm (ms:=ms)]
  have:=ix_go (q:=.int (ms.findIdx (fun y=>y == v):Nat)) h1 e1 ei rfl (fun n h=>by cases h) (atS (xs:=xs) (i:=ms.findIdx fun y=>y == v) (by omega))
  rw [this]
  unfold nam
  rw [getD_at (by omega)]
noncomputable abbrev OE (S A C:PV) (l3 o4 l5 l6 o7 o8:Option Lc) (mu:Mu):Ev:=⟨[some (.sh S),some (.sh A),some (.sh C),l3,o4,l5,l6,o7,o8],mu⟩
theorem told_loop {S A C T:PV} {mu:Mu} {xs:List Str} {ms:List Nat} (hl:ms.length=xs.length) (h8:xs.length<=8):∀ (rest qs:List (Nat × Nat)) (o5 o6:Option Lc),(∀ q ∈ rest,q.1 ∈ ms/\q.2 ∈ ms)->qs.length + rest.length<=1000->
    ∃ o5' o6',forP (bSeq 2 (bCons (bName 7) (bCons (bName 8) bNil))) (sApp 6 (eTup (aCons (eIx (eVar 5) (eIndex (eVar 3) (eVar 7))) (aCons (eIx (eVar 5) (eIndex (eVar 3) (eVar 8))) aNil)))) (NP rest) (OE S A C (zM ms) (some (.sh T)) (zS xs) (some (.own (.lst (PP (qs.map fun q=>(nam xs ms q.1,nam xs ms q.2)))))) o5 o6 mu)=some (.nx (OE S A C (zM ms) (some (.sh T)) (zS xs) (some (.own (.lst (PP ((qs++rest).map fun q=>(nam xs ms q.1,nam xs ms q.2)))))) o5' o6' mu))
  | [],qs,o5,o6,_,_=>⟨o5,o6,by rw [List.append_nil]; rfl⟩
  | q::rest,qs,o5,o6,hq,hz=>by
    rw [List.length_cons] at hz
    obtain ⟨h1,h2⟩:=hq q List.mem_cons_self
    obtain ⟨a,b,e⟩:=told_loop (S:=S) (A:=A) (C:=C) (T:=T) (mu:=mu) hl h8 rest (qs++[q]) (zI (q.1:Nat)) (zI (q.2:Nat)) (fun x hx=>hq x (List.mem_cons_of_mem _ hx)) (by simp; omega)
    refine ⟨a,b,?_⟩
    rw [List.append_assoc] at e
    refine for_step (ρ1:=OE S A C (zM ms) (some (.sh T)) (zS xs) (some (.own (.lst (PP (qs.map fun q=>(nam xs ms q.1,nam xs ms q.2)))))) (zI (q.1:Nat)) (zI (q.2:Nat)) mu) (ρ2:=OE S A C (zM ms) (some (.sh T)) (zS xs) (some (.own (.lst (PP ((qs++[q]).map fun q=>(nam xs ms q.1,nam xs ms q.2)))))) (zI (q.1:Nat)) (zI (q.2:Nat)) mu) rfl ?_ e
    refine (app_go (l:=.sh (.tup [.str (nam xs ms q.1),.str (nam xs ms q.2)])) rfl (tup_go (ls:=[.sh (.str (nam xs ms q.1)),.sh (.str (nam xs ms q.2))]) (cons_go (nix_go hl h8 h1 (l:=wS xs) rfl rfl (m:=wM ms) rfl rfl (n:=.sh (.int (q.1:Nat))) rfl rfl) (cons_go (nix_go hl h8 h2 (l:=wS xs) rfl rfl (m:=wM ms) rfl rfl (n:=.sh (.int (q.2:Nat))) rfl rfl) rfl)) rfl rfl) rfl rfl (by rw [List.length_map,List.length_map]; omega) rfl).trans ?_
    rw [show PP ((qs++[q]).map fun q=>(nam xs ms q.1,nam xs ms q.2))=PP (qs.map fun q=>(nam xs ms q.1,nam xs ms q.2))++[.tup [.str (nam xs ms q.1),.str (nam xs ms q.2)]] from by
      show List.map _ (List.map _ (qs++[q]))=_
      rw [List.map_append,List.map_append]
      rfl]
    rfl
theorem cell_eq {ns:List Int} {k:Int} {mu:Mu} (h0:0<=k):∃ c,0<=c/\m__law_cell_at [.lst (ns.map .int),.int k] mu=some (.sh (.int c),mu):=by
  have t:tT (eOp ltP (eVar 1) (eB len1 (aCons (eVar 0) aNil))) blP (env0 2 [.lst (ns.map .int),.int k] mu)=some (decide (k < (ns.map PV.int).length),⟨[some (.sh (.lst (ns.map .int))),zI k],mu⟩):=rfl
  by_cases h:k < (ns.map PV.int).length
  · obtain ⟨c,_,e⟩:=at_int (ns:=ns) h0 (by rw [List.length_map] at h; exact h)
    exact ⟨c % 1000000007,Int.emod_nonneg _ (by decide),runP_rt (ρ:=⟨[some (.sh (.lst (ns.map .int))),zI k],mu⟩) (sSeq_rt ((sIf_t (t.trans (by rw [decide_eq_true h]))).trans (ret_go (op_go (ix_go (l:=.sh (.lst (ns.map .int))) (m:=.sh (.int k)) rfl rfl rfl rfl (fun n h=>by cases h) e) rfl rfl rfl (modP_int (by decide))))))⟩
  · exact ⟨0,by decide,runP_rt (ρ:=⟨[some (.sh (.lst (ns.map .int))),zI k],mu⟩) (seq_go ((sIf_f (t.trans (by rw [decide_eq_false h]))).trans rfl) rfl)⟩
theorem cut_ints {ns:List Int} {lo hi:Option Int}:∃ cs:List Int,cutP (ns.map PV.int) lo hi=cs.map PV.int:=by
  unfold cutP
  rw [← List.map_drop,← List.map_take]
  exact ⟨_,rfl⟩
theorem order_eq {ns:List Int} {n:Int} {mu:Mu} (hn0:0<=n):∃ ms xs ps,m__law_order [.lst (ns.map .int),.int 0,.int n] mu=some (.sh (.tup [.lst (MM ms),.lst (SS xs),.ptr mu.length]),mu++[some (.lst (PP ps))])/\Msk xs ms ps/\MOK 127 ms:=by
  obtain ⟨c0,hc0,e0⟩:=cell_eq (ns:=ns) (k:=0 + n) (mu:=mu) (by omega)
  obtain ⟨cs,ecs⟩:=cut_ints (ns:=ns) (lo:=some 0) (hi:=some (0 + n))
  obtain ⟨ds,eds⟩:=cut_ints (ns:=ns) (lo:=some 0) (hi:=some (0 + 3 * n))
  obtain ⟨l,ms0,em,hl,hM0⟩:=masks_eq (cs:=cs) (mu:=mu)
  let S:PV:=.lst (ns.map .int)
  have s1:sSet 3 (eCall m__law_masks (aCons (eSlx (eVar 0) (oSome (eVar 1)) (oSome (eOp addP (eVar 1) (eVar 2)))) aNil)) (OE S (.int 0) (.int n) none none none none none none mu)=some (.nx (OE S (.int 0) (.int n) (some l) none none none none none mu)):=by
    refine set_go (call_go (ls:=[.own (.lst (cs.map .int))]) (ρ1:=OE S (.int 0) (.int n) none none none none none none mu) (cons_go (l:=.own (.lst (cs.map .int))) (ls:=[]) ?_ rfl) rfl rfl rfl em) rfl rfl
    rw [← ecs]
    rfl
  have hmpos:0 < ms0.length:=List.length_pos_of_mem hM0.tm
  have h8:=hM0.l8
  have t0:=Int.emod_nonneg c0 (b:=((MM ms0).length:Nat)) (by rw [List.length_map]; omega)
  have t1:=Int.emod_lt_of_pos c0 (b:=((MM ms0).length:Nat)) (by rw [List.length_map]; omega)
  have s2:sSet 4 (eOp modP (eCall m__law_cell_at (aCons (eVar 0) (aCons (eOp addP (eVar 1) (eVar 2)) aNil))) (eB len1 (aCons (eVar 3) aNil))) (OE S (.int 0) (.int n) (some l) none none none none none mu)=some (.nx (OE S (.int 0) (.int n) (zM ms0) (some (.sh (.int (c0 % ((MM ms0).length:Nat))))) none none none none mu)):=by
    refine set_go (l:=.sh (.int (c0 % ((MM ms0).length:Nat)))) (ρ1:=OE S (.int 0) (.int n) (zM ms0) none none none none none mu) (op_go (p:=.int c0) (q:=.int ((MM ms0).length:Nat)) (m:=.sh (.int ((MM ms0).length:Nat))) (call_go (ls:=[.sh S,.sh (.int (0 + n))]) (cons_go rfl (cons_go rfl rfl)) rfl rfl rfl e0) rfl ?_ rfl (modP_int (by rw [List.length_map]; omega))) rfl rfl
    cases l with
    | sh p=>have hp:p=.lst (MM ms0):=hl; subst hp; rfl
    | own p=>have hp:p=.lst (MM ms0):=hl; subst hp; rfl
  generalize c0 % ((MM ms0).length:Nat)=tn at t0 t1 s2
  rw [List.length_map] at t1
  have s3:sSet 3 (eOp addP (eSlx (eVar 3) (oSome (eVar 4)) oNone) (eSlx (eVar 3) oNone (oSome (eVar 4)))) (OE S (.int 0) (.int n) (zM ms0) (zI tn) none none none none mu)=some (.nx (OE S (.int 0) (.int n) (some (.own (.lst (MM (ms0.drop tn.toNat++ms0.take tn.toNat))))) (zI tn) none none none none mu)):=by
    have c1:cutP (MM ms0) none (some tn)=MM (ms0.take tn.toNat):=by rw [cut_a t0 (by rw [List.length_map]; omega)]; exact List.map_take.symm
    have c2:cutP (MM ms0) (some tn) none=MM (ms0.drop tn.toNat):=by rw [cut_b t0 (by rw [List.length_map]; omega)]; exact List.map_drop.symm
    have g1:eSlx (eVar 3) (oSome (eVar 4)) oNone (OE S (.int 0) (.int n) (zM ms0) (zI tn) none none none none mu)=some (.own (.lst (MM (ms0.drop tn.toNat))),OE S (.int 0) (.int n) (zM ms0) (zI tn) none none none none mu):=by rw [← c2]; rfl
    have g2:eSlx (eVar 3) oNone (oSome (eVar 4)) (OE S (.int 0) (.int n) (zM ms0) (zI tn) none none none none mu)=some (.own (.lst (MM (ms0.take tn.toNat))),OE S (.int 0) (.int n) (zM ms0) (zI tn) none none none none mu):=by rw [← c1]; rfl
    refine set_go (l:=.own (.lst (MM (ms0.drop tn.toNat++ms0.take tn.toNat)))) (op_go g1 rfl g2 rfl ?_) rfl rfl
    show (if (MM (ms0.drop tn.toNat)).length + (MM (ms0.take tn.toNat)).length<=100000 then some (Lc.own (.lst (MM (ms0.drop tn.toNat)++MM (ms0.take tn.toNat)))) else none)=_
    rw [if_pos (by rw [List.length_map,List.length_map,List.length_take,List.length_drop]; omega),show MM (ms0.drop tn.toNat++ms0.take tn.toNat)=MM (ms0.drop tn.toNat)++MM (ms0.take tn.toNat) from List.map_append]
  have K:MOK 127 (ms0.drop tn.toNat++ms0.take tn.toNat):=⟨rot_nd hM0.nd,by rw [List.length_append,List.length_drop,List.length_take]; omega,rot_mem.mpr hM0.tm,fun m h=>hM0.top m (rot_mem.mp h),fun a ha b hb=>rot_mem.mpr (hM0.cl a (rot_mem.mp ha) b (rot_mem.mp hb))⟩
  generalize ms0.drop tn.toNat++ms0.take tn.toNat=ms at s3 K
  have k8:=K.l8
  have hkpos:0 < ms.length:=List.length_pos_of_mem K.tm
  obtain ⟨xs,en,lx,hd,hnm⟩:=names_eq (c:=c0 / 8) (n:=((MM ms).length:Nat)) (mu:=mu) (by omega) (by rw [List.length_map]; omega)
  rw [Int.toNat_natCast,List.length_map] at lx
  have s4:sSet 5 (eCall m__law_names (aCons (eOp fdivP (eCall m__law_cell_at (aCons (eVar 0) (aCons (eOp addP (eVar 1) (eVar 2)) aNil))) (eC (.int 8))) (aCons (eB len1 (aCons (eVar 3) aNil)) aNil))) (OE S (.int 0) (.int n) (some (.own (.lst (MM ms)))) (zI tn) none none none none mu)=some (.nx (OE S (.int 0) (.int n) (zM ms) (zI tn) (some (.own (.lst (SS xs)))) none none none mu)):=
    set_go (call_go (ls:=[.sh (.int (c0 / 8)),.sh (.int ((MM ms).length:Nat))]) (cons_go (op_go (call_go (ls:=[.sh S,.sh (.int (0 + n))]) (cons_go rfl (cons_go rfl rfl)) rfl rfl rfl e0) rfl rfl rfl (fdivP_int (by decide) (by decide))) (cons_go rfl rfl)) rfl rfl rfl en) rfl rfl
  obtain ⟨qs,ep,hql,hnb,hq⟩:=pairs_eq (ms:=ms) (cs:=ds) (mu:=mu) k8 hkpos
  obtain ⟨o7,o8,et⟩:=told_loop (S:=S) (A:=.int 0) (C:=.int n) (T:=.int tn) (mu:=mu) (xs:=xs) (ms:=ms) lx.symm (by omega) qs [] none none (fun q h=>by
    obtain ⟨a,ha,b,hb,rfl,_⟩:=hq q h
    exact ⟨ha,hb⟩) (by simp; omega)
  rw [List.nil_append] at et
  let E6:Lc->Ev:=fun l5=>OE S (.int 0) (.int n) (zM ms) (zI tn) (some l5) (some (.own (.lst (PP [])))) none none mu
  let fB:SF:=sApp 6 (eTup (aCons (eIx (eVar 5) (eIndex (eVar 3) (eVar 7))) (aCons (eIx (eVar 5) (eIndex (eVar 3) (eVar 8))) aNil)))
  have s6:∃ l5 p7 p8,l5.pv=.lst (SS xs)/\sFor (iOf (eCall m__law_pairs (aCons (eVar 3) (aCons (eSlx (eVar 0) (oSome (eVar 1)) (oSome (eOp addP (eVar 1) (eOp mulP (eC (.int 3)) (eVar 2))))) aNil))) walkP) (bSeq 2 (bCons (bName 7) (bCons (bName 8) bNil))) fB (E6 (.own (.lst (SS xs))))=some (.nx (OE S (.int 0) (.int n) (zM ms) (zI tn) (some l5) (some (.own (.lst (PP (qs.map fun q=>(nam xs ms q.1,nam xs ms q.2)))))) p7 p8 mu)):=by
    have ew:iOf (eCall m__law_pairs (aCons (eVar 3) (aCons (eSlx (eVar 0) (oSome (eVar 1)) (oSome (eOp addP (eVar 1) (eOp mulP (eC (.int 3)) (eVar 2))))) aNil))) walkP (E6 (.own (.lst (SS xs))))=some (NP qs,E6 (.own (.lst (SS xs)))):=
      iof_go (l:=.own (.lst (NP qs))) (call_go (ls:=[wM ms,.own (.lst (ds.map .int))]) (cons_go rfl (cons_go (l:=.own (.lst (ds.map .int))) (ls:=[]) (ρ1:=E6 (.own (.lst (SS xs)))) (by rw [← eds]; rfl) rfl)) rfl rfl rfl ep) rfl rfl
    cases hqs:qs with
    | nil=>
      rw [hqs] at ew
      exact ⟨.own (.lst (SS xs)),none,none,rfl,for_go ew rfl⟩
    | cons q rest=>
      rw [hqs] at ew et
      refine ⟨wS xs,o7,o8,rfl,for_go ew ?_⟩
      have:∀ R,forP (bSeq 2 (bCons (bName 7) (bCons (bName 8) bNil))) fB (NP (q::rest)) (E6 (wS xs))=R->forP (bSeq 2 (bCons (bName 7) (bCons (bName 8) bNil))) fB (NP (q::rest)) (E6 (.own (.lst (SS xs))))=R:=fun R h=>h
      exact this _ et
  obtain ⟨l5,p7,p8,hl5,s6⟩:=s6
  obtain ⟨ps,hps⟩:∃ ps,ps=qs.map fun q=>(nam xs ms q.1,nam xs ms q.2):=⟨_,rfl⟩
  rw [← hps] at s6
  have hpl:ps.length<=64:=by rw [hps,List.length_map]; exact hql
  have at_:∀ m ∈ ms,∃ k,∃ (hk:k < xs.length) (hk':k < ms.length),ms[k]=m:=fun m hm=>by
    obtain ⟨k,hk,e⟩:=List.getElem_of_mem hm
    exact ⟨k,by omega,hk,e⟩
  have M:Msk xs ms ps:=⟨hd,K.nd,lx.symm,by omega,by omega,hnm,K.cl,⟨127,K.tm,K.top⟩,fun q hq'=>by
    rw [hps] at hq'
    obtain ⟨p,hp,rfl⟩:=List.mem_map.mp hq'
    obtain ⟨a,h1,b,h2,rfl,h3⟩:=hq p hp
    obtain ⟨i,hi,hi',e1⟩:=at_ _ h1
    obtain ⟨k,hk,hk',e2⟩:=at_ _ h2
    refine ⟨i,k,hi,hk,hi',hk',?_,by rw [e1,e2]; exact h3⟩
    rw [← e1,← e2,nam_at K.nd hi hi',nam_at K.nd hk hk'],fun i k hi hk hi' hk' h=>by
    rw [clm_mem (by omega),← nam_at K.nd hi hi',← nam_at K.nd hk hk']
    have ch:=chain_to K.nd hnb (ms[k] - ms[i]) ms[i] ms[k] (Nat.le_refl _) (List.getElem_mem hi') (List.getElem_mem hk') h
    generalize ms[i]=a at ch
    generalize ms[k]=b at ch
    clear h
    induction ch with
    | refl=>exact .refl _
    | step _ e ih=>exact ih.step (by rw [hps]; exact List.mem_map.mpr ⟨_,e,rfl⟩)⟩
  refine ⟨ms,xs,ps,?_,M,K⟩
  have s7:∃ ρ',sSealV 6 (sRet (eTup (aCons (eVar 3) (aCons (eVar 5) (aCons (eVar 6) aNil))))) (OE S (.int 0) (.int n) (zM ms) (zI tn) (some l5) (some (.own (.lst (PP ps)))) p7 p8 mu)=some (.rt (.sh (.tup [.lst (MM ms),.lst (SS xs),.ptr mu.length])) ρ')/\ρ'.mu=mu++[some (.lst (PP ps))]:=by
    cases l5 with
    | sh p=>have hp:p=.lst (SS xs):=hl5; subst hp; exact ⟨_,rfl,rfl⟩
    | own p=>have hp:p=.lst (SS xs):=hl5; subst hp; exact ⟨_,rfl,rfl⟩
  obtain ⟨ρ',s7,h7⟩:=s7
  have fin:m__law_order [S,.int 0,.int n] mu=some (.sh (.tup [.lst (MM ms),.lst (SS xs),.ptr mu.length]),ρ'.mu):=runP_rt (seq_go s1 (seq_go s2 (seq_go s3 (seq_go s4 (seq_go (ρ':=E6 (.own (.lst (SS xs)))) rfl (seq_go s6 s7))))))
  rw [h7] at fin
  exact fin
theorem eqDs_same {f:PV->PV->Option Bool}:∀ {ps:List PV},(∀ p ∈ ps,f p p=some true)->eqDs f ps ps=some true
  | [],_=>rfl
  | p::ps,h=>by
    show (f p p).bind _=_
    rw [h p List.mem_cons_self,Option.bind_some,eqDs_same fun q hq=>h q (List.mem_cons_of_mem _ hq)]
    rfl
theorem ne_SS {xs:List Str}:neP (.lst (SS xs)) (.lst (SS xs))=some (.sh (.bl false)):=by
  show ((if (SS xs).length=(SS xs).length then eqDs (eqD 149) (SS xs) (SS xs) else some false).map fun b=>Lc.sh (.bl (!b)))=_
  rw [if_pos rfl,eqDs_same fun q hq=>by
    obtain ⟨x,_,rfl⟩:=List.mem_map.mp hq
    show some (x == x)=_
    simp]
  rfl
section
variable {n:Nat} {mu:Mu} {xs:List Str} {ms:List Nat} {ps:List (Str × Str)}
theorem zip_at (hl:ms.length=xs.length) {x:PV} (h:x ∈ zipP (MM ms) (SS xs)):∃ i,∃ (hi:i < xs.length) (hi':i < ms.length),x=.tup [.int (ms[i]:Nat),.str xs[i]]:=by
  obtain ⟨i,hi,e⟩:=List.getElem_of_mem h
  have e2:(zipP (MM ms) (SS xs))[i]?=some x:=by rw [List.getElem?_eq_getElem hi,e]
  obtain ⟨p,q,h1,h2,rfl⟩:=zipP_get e2
  have k1:i < ms.length:=by have:=(List.getElem?_eq_some_iff.mp h1).1; rw [List.length_map] at this; exact this
  have k2:i < xs.length:=by omega
  rw [List.getElem?_map,List.getElem?_eq_getElem k1] at h1
  rw [List.getElem?_map,List.getElem?_eq_getElem k2] at h2
  cases h1
  cases h2
  exact ⟨i,k2,k1,rfl⟩
theorem Msk.at_ (M:Msk xs ms ps) {m:Nat} (hm:m ∈ ms):∃ k,∃ (hk:k < xs.length) (hk':k < ms.length),ms[k]=m:=by
  obtain ⟨k,hk,e⟩:=List.getElem_of_mem hm
  have:=M.len
  exact ⟨k,by omega,hk,e⟩
theorem Msk.un (M:Msk xs ms ps) {a b:Nat} (ha:a ∈ ms) (hb:b ∈ ms):U ps (nam xs ms a) (nam xs ms b)=true ↔ Sa a b:=by
  obtain ⟨i,hi,hi',rfl⟩:=M.at_ ha
  obtain ⟨j,hj,hj',rfl⟩:=M.at_ hb
  rw [nam_at M.md hi hi',nam_at M.md hj hj']
  unfold U
  rw [has_iff,M.reach hi hi']
  constructor
  · rintro ⟨k,hk,hk',e,h⟩
    have:=nodup_at M.nd hj hk e
    subst this
    exact h
  · intro h
    exact ⟨j,hj,hj',rfl,h⟩
theorem Msk.nam_in (M:Msk xs ms ps) {a:Nat} (ha:a ∈ ms):nam xs ms a ∈ xs:=by
  obtain ⟨i,hi,hi',rfl⟩:=M.at_ ha
  rw [nam_at M.md hi hi']
  exact List.getElem_mem hi
theorem Msk.of_in (M:Msk xs ms ps) {x:Str} (hx:x ∈ xs):∃ a ∈ ms,x=nam xs ms a:=by
  obtain ⟨i,hi,rfl⟩:=List.getElem_of_mem hx
  have hi':i < ms.length:=by rw [M.len]; exact hi
  exact ⟨ms[i],List.getElem_mem hi',(nam_at M.md hi hi').symm⟩
theorem intsP_mm:∀ ms:List Nat,intsP (MM ms)=some (ms.map fun m=>((m:Nat):Int))
  | []=>rfl
  | m::ms=>by
    show (intsP (MM ms)).map _=_
    rw [intsP_mm ms]
    rfl
theorem min_eq (hne:ms ≠ []):∃ m ∈ ms,(∀ x ∈ ms,m<=x)/\min1 [.lst (MM ms)]=zI (m:Nat):=by
  obtain ⟨m,h1,h2⟩:=min_ex hne
  refine ⟨m,h1,h2,?_⟩
  show (intsP (MM ms)).bind (fun ns=>ns.min?.map fun m=>Lc.sh (.int m))=_
  rw [intsP_mm,Option.bind_some,List.min?_eq_some_iff.mpr ⟨List.mem_map.mpr ⟨m,h1,rfl⟩,fun b hb=>by
    obtain ⟨y,hy,rfl⟩:=List.mem_map.mp hb
    have:=h2 y hy
    omega⟩]
  rfl
theorem Msk.lo_eq (M:Msk xs ms ps) {m:Nat} (hm:m ∈ ms) (hlo:∀ x ∈ ms,Sa m x) {lo:Str} (h1:lo ∈ xs) (h2:(clm ps lo).length=xs.length):lo=nam xs ms m:=by
  have ok:=M.ok
  obtain ⟨c,hc,rfl⟩:=M.of_in h1
  have h0:nam xs ms m ∈ xs:=M.nam_in hm
  refine U_anti ok ?_ ((M.un hm hc).mpr (hlo c hc))
  unfold U
  rw [has_iff]
  refine Decidable.byContradiction fun hn=>?_
  have hsub:∀ y ∈ clm ps (nam xs ms c),y ∈ xs.erase (nam xs ms m):=fun y hy=>by
    have hy':=clm_names (fun q hq=>(ok.mem q hq).2) h1 hy
    exact (List.Nodup.mem_erase_iff M.nd).mpr ⟨fun e=>hn (by rw [← e]; exact hy),hy'⟩
  have:=List.Nodup.length_le_of_subset clm_nodup hsub
  rw [List.length_erase_of_mem h0] at this
  have:=List.length_pos_of_mem h0
  omega
theorem Msk.hi_eq (M:Msk xs ms ps) {t:Nat} (ht:t ∈ ms) (hhi:∀ x ∈ ms,Sa x t) {hi:Str} (h1:hi ∈ xs) (h2:(clm ps hi).length=1):hi=nam xs ms t:=by
  have ok:=M.ok
  obtain ⟨c,hc,rfl⟩:=M.of_in h1
  obtain ⟨z,hz⟩:=List.length_eq_one_iff.mp h2
  have a1:nam xs ms c ∈ clm ps (nam xs ms c):=has_iff.mp ((M.un hc hc).mpr (Nat.and_self c))
  have a2:nam xs ms t ∈ clm ps (nam xs ms c):=has_iff.mp ((M.un hc ht).mpr (hhi c hc))
  rw [hz] at a1 a2
  rw [List.mem_singleton.mp a1,List.mem_singleton.mp a2]
theorem me0 {m:Str} {g:GF} {fo:EF} {ρ:Ev} {r:Lc} (O:Ord n mu xs ps) (hρ:ρ.mu=mu) (ho:fo ρ=some (.sh (.ptr n),ρ)) (hc:(["names", "above", "joins", "meets", "lowest", "highest"]:List Str).contains m=false) (hg:g [.ptr n] mu=some (r,mu)):eMeth "Order" m g fo aNil ρ=some (r,ρ):=by
  obtain ⟨ok,l,⟨lj,lm,lo,hi,rfl,_⟩,hm⟩:=O
  have:=meth_go (C := "Order") (m:=m) (g:=g) (fo:=fo) (a:=aNil) (l:=oF xs ps lj lm lo hi) (n:=n) (ps:=[]) ho rfl (by rw [hρ]; exact hm) hc rfl rfl (by rw [hρ]; exact hg)
  rw [this,← hρ]
noncomputable abbrev RE (n:Nat) (ms:List Nat) (xs:List Str) (l3 l4 o5 o6 o7 o8 o9:Option Lc) (mu:Mu):Ev:=⟨[some (.sh (.ptr n)),zM ms,zS xs,l3,l4,o5,o6,o7,o8,o9],mu⟩
noncomputable abbrev uB:SF:=sSeq (sSet 9 (eMeth "Order" "under" m_Order__under (eVar 0) (aCons (eVar 6) (aCons (eVar 8) aNil))))
    (sIf (tOrF (tNotF (tT (eIs "bool" (eVar 9)) truP)) (tT (eOp neP (eVar 9) (eCall m__law_is_under (aCons (eVar 5) (aCons (eVar 7) aNil)))) blP))
    (sRet (eC (.bl false)))
    sNil)
theorem u_step (O:Ord n mu xs ps) (M:Msk xs ms ps) {a b:Nat} (ha:a ∈ ms) (hb:b ∈ ms) {l3 l4 o9:Option Lc}:uB (RE n ms xs l3 l4 (zI (a:Nat)) (zT (nam xs ms a)) (zI (b:Nat)) (zT (nam xs ms b)) o9 mu)=some (.nx (RE n ms xs l3 l4 (zI (a:Nat)) (zT (nam xs ms a)) (zI (b:Nat)) (zT (nam xs ms b)) (some (.sh (.bl (U ps (nam xs ms a) (nam xs ms b))))) mu)):=by
  have ia:=M.nam_in ha
  have ib:=M.nam_in hb
  have e:U ps (nam xs ms a) (nam xs ms b)=decide (Sa a b):=by rw [Bool.eq_iff_iff,M.un ha hb,decide_eq_true_eq]
  have t:tOrF (tNotF (tT (eIs "bool" (eVar 9)) truP)) (tT (eOp neP (eVar 9) (eCall m__law_is_under (aCons (eVar 5) (aCons (eVar 7) aNil)))) blP) (RE n ms xs l3 l4 (zI (a:Nat)) (zT (nam xs ms a)) (zI (b:Nat)) (zT (nam xs ms b)) (some (.sh (.bl (U ps (nam xs ms a) (nam xs ms b))))) mu)=some (false,RE n ms xs l3 l4 (zI (a:Nat)) (zT (nam xs ms a)) (zI (b:Nat)) (zT (nam xs ms b)) (some (.sh (.bl (U ps (nam xs ms a) (nam xs ms b))))) mu):=by
    refine or_go (b:=false) (b2:=false) (not_go (b:=true) (tT_go (l:=.sh (.bl true)) rfl rfl rfl)) (tT_go (l:=.sh (.bl false)) (op_go (p:=.bl (U ps (nam xs ms a) (nam xs ms b))) (q:=.bl (decide (Sa a b))) (l:=.sh (.bl (U ps (nam xs ms a) (nam xs ms b)))) (m:=.sh (.bl (decide (Sa a b)))) rfl rfl (call_go (cons_go rfl (cons_go rfl rfl)) rfl rfl rfl is_under_eq) rfl ?_) rfl rfl)
    rw [e]
    cases decide (Sa a b) <;> rfl
  exact seq_go (set_go (mu_ O ia ib rfl rfl rfl rfl) rfl rfl) ((sIf_f t).trans rfl)
theorem u_loop (O:Ord n mu xs ps) (M:Msk xs ms ps) {l3 l4:Option Lc}:∃ ρ',forP (bSeq 2 (bCons (bName 5) (bCons (bName 6) bNil))) (sFor (iZipF (eVar 1) (eVar 2)) (bSeq 2 (bCons (bName 7) (bCons (bName 8) bNil))) uB) (zipP (MM ms) (SS xs)) (RE n ms xs l3 l4 none none none none none mu)=some (.nx ρ')/\∃ o5 o6 o7 o8 o9,ρ'=RE n ms xs l3 l4 o5 o6 o7 o8 o9 mu:=by
  refine fail_loop (fun ρ=>∃ o5 o6 o7 o8 o9,ρ=RE n ms xs l3 l4 o5 o6 o7 o8 o9 mu) ⟨none,none,none,none,none,rfl⟩ ?_
  rintro x hx ρ ⟨p5,p6,p7,p8,p9,rfl⟩
  obtain ⟨i,hi,hi',rfl⟩:=zip_at M.len hx
  rw [← nam_at M.md hi hi']
  refine ⟨RE n ms xs l3 l4 (zI (ms[i]:Nat)) (zT (nam xs ms ms[i])) p7 p8 p9 mu,rfl,?_⟩
  obtain ⟨ρ',e,q7,q8,q9,rfl⟩:=fail_loop (b:=bSeq 2 (bCons (bName 7) (bCons (bName 8) bNil))) (body:=uB) (xs:=zipP (MM ms) (SS xs)) (ρ:=RE n ms xs l3 l4 (zI (ms[i]:Nat)) (zT (nam xs ms ms[i])) p7 p8 p9 mu) (fun ρ=>∃ o7 o8 o9,ρ=RE n ms xs l3 l4 (zI (ms[i]:Nat)) (zT (nam xs ms ms[i])) o7 o8 o9 mu) ⟨p7,p8,p9,rfl⟩ (by
    rintro y hy ρ ⟨r7,r8,r9,rfl⟩
    obtain ⟨j,hj,hj',rfl⟩:=zip_at M.len hy
    rw [← nam_at M.md hj hj']
    exact ⟨RE n ms xs l3 l4 (zI (ms[i]:Nat)) (zT (nam xs ms ms[i])) (zI (ms[j]:Nat)) (zT (nam xs ms ms[j])) r9 mu,rfl,_,u_step O M (List.getElem_mem hi') (List.getElem_mem hj'),_,_,_,rfl⟩)
  exact ⟨_,for_go (ρ1:=RE n ms xs l3 l4 (zI (ms[i]:Nat)) (zT (nam xs ms ms[i])) p7 p8 p9 mu) rfl e,_,_,_,_,_,rfl⟩
theorem right_eq (O:Ord n mu xs ps) (M:Msk xs ms ps) (K:MOK 127 ms):m__law_right [.ptr n,.lst (MM ms),.lst (SS xs)] mu=some (.sh (.bl true),mu):=by
  have hl:=M.len
  have h8:=M.l8
  have hmpos:0 < ms.length:=List.length_pos_of_mem K.tm
  have hx0:0 < xs.length:=by omega
  obtain ⟨lo,hi,⟨lo1,lo2⟩,⟨hi1,hi2⟩,el,eg⟩:=ends_eq O
  obtain ⟨m,hm,hmin,em⟩:=min_eq (ms:=ms) (List.ne_nil_of_length_pos hmpos)
  have hlo:∀ x ∈ ms,Sa m x:=fun x hx=>by
    have h1:=hmin _ (K.cl m hm x hx)
    have h2:m &&& x<=m:=Nat.and_le_left
    show m &&& x=m
    omega
  have lo3:=M.lo_eq hm hlo lo1 lo2
  have hi3:=M.hi_eq K.tm K.top hi1 hi2
  have rk:∀ ρ:Ev,ρ.mu=mu->eVar 0 ρ=some (.sh (.ptr n),ρ)->eMeth "Order" "ranks" m_Order__ranks (eVar 0) aNil ρ=some (.own (.lst (SS xs)),ρ):=fun ρ h1 h2=>me0 O h1 h2 (by decide +kernel) (ranks_eq O)
  have s1:sSet 3 (eMeth "Order" "ranks" m_Order__ranks (eVar 0) aNil) (RE n ms xs none none none none none none none mu)=some (.nx (RE n ms xs (some (.own (.lst (SS xs)))) none none none none none none mu)):=set_go (rk _ rfl rfl) rfl rfl
  have s2:sSet 4 (eMeth "Order" "ranks" m_Order__ranks (eVar 0) aNil) (RE n ms xs (some (.own (.lst (SS xs)))) none none none none none none mu)=some (.nx (RE n ms xs (some (.own (.lst (SS xs)))) (some (.own (.lst (SS xs)))) none none none none none mu)):=set_go (rk _ rfl rfl) rfl rfl
  have t3:tRead (tOrF (tNotF (tT (eIs "list" (eVar 3)) truP)) (tT (eOp neP (eVar 3) (eVar 2)) blP)) (RE n ms xs (some (.own (.lst (SS xs)))) (some (.own (.lst (SS xs)))) none none none none none mu)=some (false,RE n ms xs (some (.own (.lst (SS xs)))) (some (.own (.lst (SS xs)))) none none none none none mu):=
    tread_go (or_go (b:=false) (b2:=false) (not_go (b:=true) (tT_go (l:=.sh (.bl true)) rfl rfl rfl)) (tT_go (l:=.sh (.bl false)) (op_go rfl rfl rfl rfl ne_SS) rfl rfl))
  have s4:sRev 3 (RE n ms xs (some (.own (.lst (SS xs)))) (some (.own (.lst (SS xs)))) none none none none none mu)=some (.nx (RE n ms xs (some (.own (.lst (SS xs).reverse))) (some (.own (.lst (SS xs)))) none none none none none mu)):=rfl
  have e5:(SS xs).reverse++[.str xs[0]]=SS (xs.reverse++[xs[0]]):=by
    show (List.map PV.str xs).reverse++_=List.map PV.str (xs.reverse++[xs[0]])
    rw [List.map_append,List.map_reverse]
    rfl
  have s5:sApp 3 (eIx (eVar 2) (eC (.int 0))) (RE n ms xs (some (.own (.lst (SS xs).reverse))) (some (.own (.lst (SS xs)))) none none none none none mu)=some (.nx (RE n ms xs (some (.own (.lst (SS (xs.reverse++[xs[0]]))))) (some (.own (.lst (SS xs)))) none none none none none mu)):=by
    rw [← e5]
    exact app_go (ws0:=(SS xs).reverse) (ws:=(SS xs).reverse) (p:=.str xs[0]) rfl (ix_go (p:=.lst (SS xs)) (q:=.int ((0:Nat):Int)) (l:=wS xs) (m:=.sh (.int 0)) rfl rfl rfl rfl (fun n h=>by cases h) (atS hx0)) rfl rfl (by rw [List.length_reverse,List.length_map]; omega) rfl
  have t6c:tRead (tT (eOp neP (eVar 3) (eOp addP (eSl3 (eVar 2) oNone oNone (oSome (eNeg (eC (.int 1))))) (eSlx (eVar 2) oNone (oSome (eC (.int 1)))))) blP) (RE n ms xs (some (.own (.lst (SS (xs.reverse++[xs[0]]))))) (zS xs) none none none none none mu)=some (false,RE n ms xs (some (.own (.lst (SS (xs.reverse++[xs[0]]))))) (zS xs) none none none none none mu):=by
    let P:Ev:=⟨[some (.sh (.ptr n)),zM ms,zS xs,zS (xs.reverse++[xs[0]]),zS xs,none,none,none,none,none],nn mu⟩
    have g1:eSl3 (eVar 2) oNone oNone (oSome (eNeg (eC (.int 1)))) P=some (.own (.lst (SS xs).reverse),P):=by
      rw [← pk_rev (SS xs)]
      rfl
    have c1:cutP (SS xs) none (some 1)=SS [xs[0]]:=by
      rw [cut_a (by decide) (by rw [List.length_map]; omega)]
      cases xs with
      | nil=>cases hx0
      | cons x t=>rfl
    have g2:eSlx (eVar 2) oNone (oSome (eC (.int 1))) P=some (.own (.lst (SS [xs[0]])),P):=by rw [← c1]; rfl
    refine tread_go (ρ1:=P) (tT_go (l:=.sh (.bl false)) (op_go (p:=.lst (SS (xs.reverse++[xs[0]]))) (q:=.lst (SS (xs.reverse++[xs[0]]))) (l:=wS (xs.reverse++[xs[0]])) (m:=.own (.lst (SS (xs.reverse++[xs[0]])))) rfl rfl (op_go g1 rfl g2 rfl ?_) rfl ne_SS) rfl rfl)
    show (if (SS xs).reverse.length + (SS [xs[0]]).length<=100000 then some (Lc.own (.lst ((SS xs).reverse++SS [xs[0]]))) else none)=_
    rw [if_pos (by rw [List.length_reverse,List.length_map,List.length_map]; show xs.length + 1<=100000; omega),show (SS xs).reverse++SS [xs[0]]=SS (xs.reverse++[xs[0]]) from e5]
  have t6:tOrF (tT (eOp neP (eVar 4) (eVar 2)) blP) (tOrF (tT (eOp neP (eMeth "Order" "ranks" m_Order__ranks (eVar 0) aNil) (eVar 2)) blP) (tRead (tT (eOp neP (eVar 3) (eOp addP (eSl3 (eVar 2) oNone oNone (oSome (eNeg (eC (.int 1))))) (eSlx (eVar 2) oNone (oSome (eC (.int 1)))))) blP))) (RE n ms xs (some (.own (.lst (SS (xs.reverse++[xs[0]]))))) (some (.own (.lst (SS xs)))) none none none none none mu)=some (false,RE n ms xs (some (.own (.lst (SS (xs.reverse++[xs[0]]))))) (zS xs) none none none none none mu):=
    or_go (b:=false) (b2:=false) (tT_go (l:=.sh (.bl false)) (op_go (p:=.lst (SS xs)) (q:=.lst (SS xs)) (l:=wS xs) (m:=wS xs) rfl rfl rfl rfl ne_SS) rfl rfl) (or_go (b:=false) (b2:=false) (tT_go (l:=.sh (.bl false)) (op_go (p:=.lst (SS xs)) (q:=.lst (SS xs)) (l:=.own (.lst (SS xs))) (m:=wS xs) (rk _ rfl rfl) rfl rfl rfl ne_SS) rfl rfl) t6c)
  obtain ⟨ρ7,e7,o5,o6,o7,o8,o9,rfl⟩:=u_loop O M (l3:=some (.own (.lst (SS (xs.reverse++[xs[0]]))))) (l4:=zS xs)
  let R:Ev:=RE n ms xs (some (.own (.lst (SS (xs.reverse++[xs[0]]))))) (zS xs) o5 o6 o7 o8 o9 mu
  have a1:eOp eqP (eMeth "Order" "least" m_Order__least (eVar 0) aNil) (eIx (eVar 2) (eIndex (eVar 1) (eB min1 (aCons (eVar 1) aNil)))) R=some (.sh (.bl true),R):=
    op_go (me0 O rfl rfl (by decide +kernel) el) rfl (nix_go M.len M.l8 hm (l:=wS xs) rfl rfl (m:=wM ms) rfl rfl (n:=.sh (.int (m:Nat))) (b_go (ls:=[wM ms]) (ps:=[.lst (MM ms)]) rfl rfl em) rfl) rfl (by show some (Lc.sh (.bl (lo == nam xs ms m)))=_; rw [lo3]; simp)
  have a2:eOp eqP (eMeth "Order" "greatest" m_Order__greatest (eVar 0) aNil) (eIx (eVar 2) (eIndex (eVar 1) (eC (.int 127)))) R=some (.sh (.bl true),R):=
    op_go (me0 O rfl rfl (by decide +kernel) eg) rfl (nix_go M.len M.l8 K.tm (l:=wS xs) rfl rfl (m:=wM ms) rfl rfl (n:=.sh (.int ((127:Nat):Int))) rfl rfl) rfl (by show some (Lc.sh (.bl (hi == nam xs ms 127)))=_; rw [hi3]; simp)
  have s8:sRet (eAnd (eOp eqP (eMeth "Order" "least" m_Order__least (eVar 0) aNil) (eIx (eVar 2) (eIndex (eVar 1) (eB min1 (aCons (eVar 1) aNil))))) (eOp eqP (eMeth "Order" "greatest" m_Order__greatest (eVar 0) aNil) (eIx (eVar 2) (eIndex (eVar 1) (eC (.int 127)))))) R=some (.rt (.sh (.bl true)) R):=by
    refine ret_go ?_
    unfold eAnd
    rw [a1,Option.bind_some]
    exact a2
  exact runP_rt (ρ:=R) (seq_go s1 (seq_go s2 (seq_go ((sIf_f t3).trans rfl) (seq_go s4 (seq_go s5 (seq_go ((sIf_f t6).trans rfl) (seq_go (for_go (ρ1:=RE n ms xs (some (.own (.lst (SS (xs.reverse++[xs[0]]))))) (zS xs) none none none none none mu) rfl e7) s8)))))))
end
theorem opn_go' {i:Nat} {f:SF} {ρ ρ1 ρ2:Ev} (h:f ρ=some (.nx ρ1)) (h2:PL.openV i ρ1=some ρ2):sOpen i f ρ=some (.nx ρ2):=by
  unfold sOpen
  rw [h,Option.bind_some]
  show (PL.openV i ρ1).map _=_
  rw [h2]
  rfl
theorem seal_go {i:Nat} {f:SF} {ρ ρ1:Ev} {R:Option Fl} (h:PL.sealV i ρ=some ρ1) (h2:f ρ1=R):sSealV i f ρ=R:=by
  unfold sSealV
  rw [h,Option.bind_some]
  exact h2
theorem asn_go {f:EF} {b:BF} {ρ ρ1 ρ2:Ev} {l:Lc} {p:PV} (h:f ρ=some (l,ρ1)) (hp:l.pv=p) (h2:b p ρ1=some ρ2):sAsg f b ρ=some (.nx ρ2):=by
  unfold sAsg
  rw [h,Option.bind_some]
  dsimp only
  rw [hp,h2]
  rfl
noncomputable abbrev LV (S:PV) (o1 o2 o3 o4 o5 o6 o7 o8 o9:Option Lc) (mu:Mu):Ev:=⟨[some (.sh S),o1,o2,o3,o4,o5,o6,o7,o8,o9],mu⟩
theorem law_true (ns:List Int) (hn:ns.length<=63):∃ mu,m_law [.lst (ns.map PV.int)] []=some (.sh (.bl true),mu):=by
  obtain ⟨ms,xs,ps,e1,M1,K1⟩:=order_eq (ns:=ns) (n:=1 + ((ns.map PV.int).length:Nat) / 4) (mu:=[]) (by omega)
  obtain ⟨ms',xs',ps',e2,M2,K2⟩:=order_eq (ns:=ns.reverse) (n:=1 + ((ns.map PV.int).length:Nat) / 5) (mu:=[none]) (by omega)
  obtain ⟨f1,A1,i1⟩:=init_eq (N:=.ptr 2) (P:=.ptr 3) (mu:=[none,none,some (.lst (SS xs)),some (.lst (PP ps))]) M1.ok rfl rfl
  obtain ⟨f2,A2,i2⟩:=init_eq (N:=.lst (SS xs')) (P:=.ptr 5) (mu:=[none,none,none,none,some (objP "Order" f1),some (.lst (PP ps'))]) M2.ok rfl rfl
  let S:PV:=.lst (ns.map PV.int)
  let b1:Option Lc:=zM ms
  let b2:Option Lc:=zS xs
  let b4:Option Lc:=some (.sh (.lst (MM ms')))
  let b5:Option Lc:=some (.sh (.lst (SS xs')))
  have s1:sOpen 3 (sAsg (eCall m__law_order (aCons (eVar 0) (aCons (eC (.int 0)) (aCons (eOp addP (eC (.int 1)) (eOp fdivP (eB len1 (aCons (eVar 0) aNil)) (eC (.int 4)))) aNil)))) (bSeq 3 (bCons (bName 1) (bCons (bName 2) (bCons (bName 3) bNil))))) (LV S none none none none none none none none none [])=some (.nx (LV S b1 b2 (some (.own (.lst (PP ps)))) none none none none none none [none])):=
    opn_go' (ρ1:=LV S b1 b2 (some (.sh (.ptr 0))) none none none none none none [some (.lst (PP ps))]) (asn_go (call_go (ls:=[.sh S,.sh (.int 0),.sh (.int (1 + ((ns.map PV.int).length:Nat) / 4))]) (ρ1:=LV S none none none none none none none none none []) (cons_go rfl (cons_go rfl (cons_go (l:=.sh (.int (1 + ((ns.map PV.int).length:Nat) / 4))) (ls:=[]) (ρ1:=LV S none none none none none none none none none []) (op_go (p:=.int 1) (q:=.int (((ns.map PV.int).length:Nat) / 4)) (l:=.sh (.int 1)) (m:=.sh (.int (((ns.map PV.int).length:Nat) / 4))) rfl rfl (op_go rfl rfl rfl rfl (fdivP_int (by decide) (by decide))) rfl rfl) rfl))) rfl rfl rfl e1) rfl rfl) rfl
  have r0:eSl3 (eVar 0) oNone oNone (oSome (eNeg (eC (.int 1)))) (LV S b1 b2 (some (.own (.lst (PP ps)))) none none none none none none [none])=some (.own (.lst (ns.reverse.map PV.int)),LV S b1 b2 (some (.own (.lst (PP ps)))) none none none none none none [none]):=by
    rw [List.map_reverse,← pk_rev (ns.map PV.int)]
    rfl
  have s2:sOpen 6 (sAsg (eCall m__law_order (aCons (eSl3 (eVar 0) oNone oNone (oSome (eNeg (eC (.int 1))))) (aCons (eC (.int 0)) (aCons (eOp addP (eC (.int 1)) (eOp fdivP (eB len1 (aCons (eVar 0) aNil)) (eC (.int 5)))) aNil)))) (bSeq 3 (bCons (bName 4) (bCons (bName 5) (bCons (bName 6) bNil))))) (LV S b1 b2 (some (.own (.lst (PP ps)))) none none none none none none [none])=some (.nx (LV S b1 b2 (some (.own (.lst (PP ps)))) b4 b5 (some (.own (.lst (PP ps')))) none none none [none,none])):=
    opn_go' (ρ1:=LV S b1 b2 (some (.own (.lst (PP ps)))) b4 b5 (some (.sh (.ptr 1))) none none none [none,some (.lst (PP ps'))]) (asn_go (call_go (ls:=[.own (.lst (ns.reverse.map PV.int)),.sh (.int 0),.sh (.int (1 + ((ns.map PV.int).length:Nat) / 5))]) (ρ1:=LV S b1 b2 (some (.own (.lst (PP ps)))) none none none none none none [none]) (cons_go r0 (cons_go rfl (cons_go (l:=.sh (.int (1 + ((ns.map PV.int).length:Nat) / 5))) (ls:=[]) (ρ1:=LV S b1 b2 (some (.own (.lst (PP ps)))) none none none none none none [none]) (op_go (p:=.int 1) (q:=.int (((ns.map PV.int).length:Nat) / 5)) (l:=.sh (.int 1)) (m:=.sh (.int (((ns.map PV.int).length:Nat) / 5))) rfl rfl (op_go rfl rfl rfl rfl (fdivP_int (by decide) (by decide))) rfl rfl) rfl))) rfl rfl rfl e2) rfl rfl) rfl
  have s3:sSet 7 (eB list1 (aCons (eVar 2) aNil)) (LV S b1 b2 (some (.own (.lst (PP ps)))) b4 b5 (some (.own (.lst (PP ps')))) none none none [none,none])=some (.nx (LV S b1 b2 (some (.own (.lst (PP ps)))) b4 b5 (some (.own (.lst (PP ps')))) (some (.own (.lst (SS xs)))) none none [none,none])):=rfl
  have s4:sOpen 3 (sOpen 7 (sSealV 7 (sSealV 3 (sSet 8 (eMake "Order" m_Order____init__ (aCons (eVar 7) (aCons (eVar 3) aNil))))))) (LV S b1 b2 (some (.own (.lst (PP ps)))) b4 b5 (some (.own (.lst (PP ps')))) (some (.own (.lst (SS xs)))) none none [none,none])=some (.nx (LV S b1 b2 (some (.own (.lst (PP ps)))) b4 b5 (some (.own (.lst (PP ps')))) (some (.own (.lst (SS xs)))) (some (.sh (.ptr 4))) none [none,none,none,none,some (objP "Order" f1)])):=
    opn_go' (ρ1:=LV S b1 b2 (some (.sh (.ptr 3))) b4 b5 (some (.own (.lst (PP ps')))) (some (.own (.lst (SS xs)))) (some (.sh (.ptr 4))) none [none,none,none,some (.lst (PP ps)),some (objP "Order" f1)]) (opn_go' (ρ1:=LV S b1 b2 (some (.sh (.ptr 3))) b4 b5 (some (.own (.lst (PP ps')))) (some (.sh (.ptr 2))) (some (.sh (.ptr 4))) none [none,none,some (.lst (SS xs)),some (.lst (PP ps)),some (objP "Order" f1)]) (seal_go rfl (seal_go rfl (set_go (make_go (ls:=[.sh (.ptr 2),.sh (.ptr 3)]) (ps:=[.ptr 2,.ptr 3]) (ρ1:=LV S b1 b2 (some (.sh (.ptr 3))) b4 b5 (some (.own (.lst (PP ps')))) (some (.sh (.ptr 2))) none none [none,none,some (.lst (SS xs)),some (.lst (PP ps))]) (cons_go rfl (cons_go rfl rfl)) rfl i1) rfl rfl))) rfl) rfl
  have s5:sOpen 6 (sSealV 6 (sSet 9 (eMake "Order" m_Order____init__ (aCons (eVar 5) (aCons (eVar 6) aNil))))) (LV S b1 b2 (some (.own (.lst (PP ps)))) b4 b5 (some (.own (.lst (PP ps')))) (some (.own (.lst (SS xs)))) (some (.sh (.ptr 4))) none [none,none,none,none,some (objP "Order" f1)])=some (.nx (LV S b1 b2 (some (.own (.lst (PP ps)))) b4 b5 (some (.own (.lst (PP ps')))) (some (.own (.lst (SS xs)))) (some (.sh (.ptr 4))) (some (.sh (.ptr 6))) [none,none,none,none,some (objP "Order" f1),none,some (objP "Order" f2)])):=
    opn_go' (ρ1:=LV S b1 b2 (some (.own (.lst (PP ps)))) b4 b5 (some (.sh (.ptr 5))) (some (.own (.lst (SS xs)))) (some (.sh (.ptr 4))) (some (.sh (.ptr 6))) [none,none,none,none,some (objP "Order" f1),some (.lst (PP ps')),some (objP "Order" f2)]) (seal_go rfl (set_go (make_go (ls:=[.sh (.lst (SS xs')),.sh (.ptr 5)]) (ps:=[.lst (SS xs'),.ptr 5]) (ρ1:=LV S b1 b2 (some (.own (.lst (PP ps)))) b4 b5 (some (.sh (.ptr 5))) (some (.own (.lst (SS xs)))) (some (.sh (.ptr 4))) none [none,none,none,none,some (objP "Order" f1),some (.lst (PP ps'))]) (cons_go rfl (cons_go rfl rfl)) rfl i2) rfl rfl)) rfl
  let mu:Mu:=[none,none,none,none,some (objP "Order" f1),none,some (objP "Order" f2)]
  have O1:Ord 4 mu xs ps:=⟨M1.ok,f1,A1,rfl⟩
  have O2:Ord 6 mu xs' ps':=⟨M2.ok,f2,A2,rfl⟩
  have c1:∀ l3 l6 l7:Option Lc,eCall m__law_right (aCons (eVar 8) (aCons (eVar 1) (aCons (eVar 2) aNil))) (LV S b1 b2 l3 b4 b5 l6 l7 (some (.sh (.ptr 4))) (some (.sh (.ptr 6))) mu)=some (.sh (.bl true),LV S b1 b2 l3 b4 b5 l6 l7 (some (.sh (.ptr 4))) (some (.sh (.ptr 6))) mu):=fun l3 l6 l7=>call_go (cons_go rfl (cons_go rfl (cons_go rfl rfl))) rfl rfl rfl (right_eq O1 M1 K1)
  have c2:∀ l3 l6 l7:Option Lc,eCall m__law_right (aCons (eVar 9) (aCons (eVar 4) (aCons (eVar 5) aNil))) (LV S b1 b2 l3 b4 b5 l6 l7 (some (.sh (.ptr 4))) (some (.sh (.ptr 6))) mu)=some (.sh (.bl true),LV S b1 b2 l3 b4 b5 l6 l7 (some (.sh (.ptr 4))) (some (.sh (.ptr 6))) mu):=fun l3 l6 l7=>call_go (cons_go rfl (cons_go rfl (cons_go rfl rfl))) rfl rfl rfl (right_eq O2 M2 K2)
  have t7:tOrF (tNotF (tT (eCall m__law_right (aCons (eVar 8) (aCons (eVar 1) (aCons (eVar 2) aNil)))) truP)) (tNotF (tT (eCall m__law_right (aCons (eVar 9) (aCons (eVar 4) (aCons (eVar 5) aNil)))) truP)) (LV S b1 b2 (some (.own (.lst (PP ps)))) b4 b5 (some (.own (.lst []))) (some (.own (.lst (SS xs)))) (some (.sh (.ptr 4))) (some (.sh (.ptr 6))) mu)=some (false,LV S b1 b2 (some (.own (.lst (PP ps)))) b4 b5 (some (.own (.lst []))) (some (.own (.lst (SS xs)))) (some (.sh (.ptr 4))) (some (.sh (.ptr 6))) mu):=
    or_go (b:=false) (b2:=false) (not_go (b:=true) (tT_go (c1 _ _ _) rfl rfl)) (not_go (b:=true) (tT_go (c2 _ _ _) rfl rfl))
  have h8:=M1.l8
  let r7:List PV:=(SS xs).reverse++[.str "more"]
  have s9:sApp 7 (eC (.str "more")) (LV S b1 b2 (some (.own (.lst (PP ps)))) b4 b5 (some (.own (.lst []))) (some (.own (.lst (SS xs).reverse))) (some (.sh (.ptr 4))) (some (.sh (.ptr 6))) mu)=some (.nx (LV S b1 b2 (some (.own (.lst (PP ps)))) b4 b5 (some (.own (.lst []))) (some (.own (.lst r7))) (some (.sh (.ptr 4))) (some (.sh (.ptr 6))) mu)):=
    app_go (ws0:=(SS xs).reverse) (ws:=(SS xs).reverse) (p:=.str "more") rfl rfl rfl rfl (by rw [List.length_reverse,List.length_map]; omega) rfl
  have s11:sApp 6 (eTup (aCons (eC (.str "more")) (aCons (eC (.str "less")) aNil))) (LV S b1 b2 (some (.own (.lst []))) b4 b5 (some (.own (.lst []))) (some (.own (.lst r7))) (some (.sh (.ptr 4))) (some (.sh (.ptr 6))) mu)=some (.nx (LV S b1 b2 (some (.own (.lst []))) b4 b5 (some (.own (.lst [.tup [.str "more",.str "less"]]))) (some (.own (.lst r7))) (some (.sh (.ptr 4))) (some (.sh (.ptr 6))) mu)):=
    app_go (ws0:=[]) (ws:=[]) (p:=.tup [.str "more",.str "less"]) rfl (tup_go (ls:=[.sh (.str "more"),.sh (.str "less")]) rfl rfl rfl) rfl rfl (by decide) rfl
  let R:Ev:=LV S b1 b2 (some (.own (.lst []))) b4 b5 (some (.own (.lst [.tup [.str "more",.str "less"]]))) (some (.own (.lst r7))) (some (.sh (.ptr 4))) (some (.sh (.ptr 6))) mu
  have s12:sRet (eAnd (eCall m__law_right (aCons (eVar 8) (aCons (eVar 1) (aCons (eVar 2) aNil)))) (eCall m__law_right (aCons (eVar 9) (aCons (eVar 4) (aCons (eVar 5) aNil))))) R=some (.rt (.sh (.bl true)) R):=by
    refine ret_go ?_
    unfold eAnd
    rw [c1,Option.bind_some]
    exact c2 _ _ _
  exact ⟨_,runP_rt (ρ:=R) (seq_go s1 (seq_go s2 (seq_go s3 (seq_go s4 (seq_go s5 (seq_go (ρ':=LV S b1 b2 (some (.own (.lst (PP ps)))) b4 b5 (some (.own (.lst []))) (some (.own (.lst (SS xs)))) (some (.sh (.ptr 4))) (some (.sh (.ptr 6))) mu) rfl (seq_go ((sIf_f t7).trans rfl) (seq_go (ρ':=LV S b1 b2 (some (.own (.lst (PP ps)))) b4 b5 (some (.own (.lst []))) (some (.own (.lst (SS xs).reverse))) (some (.sh (.ptr 4))) (some (.sh (.ptr 6))) mu) rfl (seq_go s9 (seq_go (ρ':=LV S b1 b2 (some (.own (.lst []))) b4 b5 (some (.own (.lst []))) (some (.own (.lst r7))) (some (.sh (.ptr 4))) (some (.sh (.ptr 6))) mu) rfl (seq_go s11 s12)))))))))))⟩
theorem all_mk {l:PySem.W.OpenLaw} {w:World} {K:FG} {h:Heap} {mg:Str->Option Value} {fa f1 f2 f3 f4 f5 f6 f7 f8 f9 f10 f11 f12 f13 f14 f15 f16 f17 f18 f19 f20 f21 f22 f23 f24 f25 f26 f27 f28:Addr} {tk_LETTERS:Tok} (X:K.In h) (G:h.Ns mainGlobals mg) (hfa:mg "law" = some (.ref fa))
    {od1 an1 od2 an2 od3 an3 od4 an4 od5 an5 od6 an6 od7 an7 od8 an8 od9 an9 od10 an10 od11 an11 od12 an12 od13 an13 od14 an14 od15 an15 od16 an16 od17 an17 od18 an18 od19 an19 od20 an20 od21 an21 od22 an22 od23 an23 od24 an24 od25 an25 od26 an26 od27 an27 od28 an28:Option Addr} {sl1 sl2 sl3 sl4 sl5 sl6 sl7 sl8 sl9 sl10 sl11 sl12 sl13 sl14 sl15 sl16 sl17 sl18 sl19 sl20 sl21 sl22 sl23 sl24 sl25 sl26 sl27 sl28:Array (Option Value)} {oc1 kV1 dc1 pm1 cd1 ct1 oc2 kV2 dc2 pm2 cd2 ct2 oc3 kV3 dc3 pm3 cd3 ct3 oc4 kV4 dc4 pm4 cd4 ct4 oc5 kV5 dc5 pm5 cd5 ct5 oc6 kV6 dc6 pm6 cd6 ct6 oc7 kV7 dc7 pm7 cd7 ct7 oc8 kV8 dc8 pm8 cd8 ct8 oc9 kV9 dc9 pm9 cd9 ct9 oc10 kV10 dc10 pm10 cd10 ct10 oc11 kV11 dc11 pm11 cd11 ct11 oc12 kV12 dc12 pm12 cd12 ct12 oc13 kV13 dc13 pm13 cd13 ct13 oc14 kV14 dc14 pm14 cd14 ct14 oc15 kV15 dc15 pm15 cd15 ct15 oc16 kV16 dc16 pm16 cd16 ct16 oc17 kV17 dc17 pm17 cd17 ct17 oc18 kV18 dc18 pm18 cd18 ct18 oc19 kV19 dc19 pm19 cd19 ct19 oc20 kV20 dc20 pm20 cd20 ct20 oc21 kV21 dc21 pm21 cd21 ct21 oc22 kV22 dc22 pm22 cd22 ct22 oc23 kV23 dc23 pm23 cd23 ct23 oc24 kV24 dc24 pm24 cd24 ct24 oc25 kV25 dc25 pm25 cd25 ct25 oc26 kV26 dc26 pm26 cd26 ct26 oc27 kV27 dc27 pm27 cd27 ct27 oc28 kV28 dc28 pm28 cd28 ct28:Value}
    {c_Order:Addr} (aC_Order:PySem.W.nsIn K mainGlobals "Order" = some (some (.ref c_Order))) (pg_Order:PySem.W.plainGet K c_Order Str.empty=true) (hd_Order:PySem.W.hasDictIn K c_Order=true) (po_Order:PySem.W.plainOver K c_Order=true) (sa_Order:PySem.W.findIn K (.ref c_Order) "__setattr__" = some (some (.builtin "object.__setattr__"))) (mk_Order:PySem.W.makesIn K c_Order=true) (kc_Order:PySem.W.keepIn K (.ref c_Order)=true)
    (n_Order_names:PySem.W.findIn K (.ref c_Order) "names" = some none)
    (n_Order_above:PySem.W.findIn K (.ref c_Order) "above" = some none)
    (n_Order_joins:PySem.W.findIn K (.ref c_Order) "joins" = some none)
    (n_Order_meets:PySem.W.findIn K (.ref c_Order) "meets" = some none)
    (n_Order_lowest:PySem.W.findIn K (.ref c_Order) "lowest" = some none)
    (n_Order_highest:PySem.W.findIn K (.ref c_Order) "highest" = some none)
    (a1:PySem.W.nsIn K mainGlobals "is_name" = some (some (.ref f1))) (l1:K.lookup f1=some ⟨oc1,od1,.func (PySem.W.fnOf "is_name" "is_name" (defArgs s_is_name) (defBody s_is_name) (defScope s_is_name) .none kV1 dc1 pm1 an1 cd1 ct1),sl1⟩) (c1:PySem.W.codeIn K cd1 "is_name" = true) (k1:PySem.W.keepIn K (.ref f1)=true)
    (a2:PySem.W.nsIn K mainGlobals "straight_above" = some (some (.ref f2))) (l2:K.lookup f2=some ⟨oc2,od2,.func (PySem.W.fnOf "straight_above" "straight_above" (defArgs s_straight_above) (defBody s_straight_above) (defScope s_straight_above) .none kV2 dc2 pm2 an2 cd2 ct2),sl2⟩) (c2:PySem.W.codeIn K cd2 "straight_above" = true) (k2:PySem.W.keepIn K (.ref f2)=true)
    (a3:PySem.W.nsIn K mainGlobals "ring_of" = some (some (.ref f3))) (l3:K.lookup f3=some ⟨oc3,od3,.func (PySem.W.fnOf "ring_of" "ring_of" (defArgs s_ring_of) (defBody s_ring_of) (defScope s_ring_of) .none kV3 dc3 pm3 an3 cd3 ct3),sl3⟩) (c3:PySem.W.codeIn K cd3 "ring_of" = true) (k3:PySem.W.keepIn K (.ref f3)=true)
    (a4:PySem.W.nsIn K mainGlobals "ring_within" = some (some (.ref f4))) (l4:K.lookup f4=some ⟨oc4,od4,.func (PySem.W.fnOf "ring_within" "ring_within" (defArgs s_ring_within) (defBody s_ring_within) (defScope s_ring_within) .none kV4 dc4 pm4 an4 cd4 ct4),sl4⟩) (c4:PySem.W.codeIn K cd4 "ring_within" = true) (k4:PySem.W.keepIn K (.ref f4)=true)
    (a5:PySem.W.nsIn K mainGlobals "climbed" = some (some (.ref f5))) (l5:K.lookup f5=some ⟨oc5,od5,.func (PySem.W.fnOf "climbed" "climbed" (defArgs s_climbed) (defBody s_climbed) (defScope s_climbed) .none kV5 dc5 pm5 an5 cd5 ct5),sl5⟩) (c5:PySem.W.codeIn K cd5 "climbed" = true) (k5:PySem.W.keepIn K (.ref f5)=true)
    (a6:PySem.W.nsIn K mainGlobals "all_above" = some (some (.ref f6))) (l6:K.lookup f6=some ⟨oc6,od6,.func (PySem.W.fnOf "all_above" "all_above" (defArgs s_all_above) (defBody s_all_above) (defScope s_all_above) .none kV6 dc6 pm6 an6 cd6 ct6),sl6⟩) (c6:PySem.W.codeIn K cd6 "all_above" = true) (k6:PySem.W.keepIn K (.ref f6)=true)
    (a7:PySem.W.nsIn K mainGlobals "all_beneath" = some (some (.ref f7))) (l7:K.lookup f7=some ⟨oc7,od7,.func (PySem.W.fnOf "all_beneath" "all_beneath" (defArgs s_all_beneath) (defBody s_all_beneath) (defScope s_all_beneath) .none kV7 dc7 pm7 an7 cd7 ct7),sl7⟩) (c7:PySem.W.codeIn K cd7 "all_beneath" = true) (k7:PySem.W.keepIn K (.ref f7)=true)
    (a8:PySem.W.nsIn K mainGlobals "bound" = some (some (.ref f8))) (l8:K.lookup f8=some ⟨oc8,od8,.func (PySem.W.fnOf "bound" "bound" (defArgs s_bound) (defBody s_bound) (defScope s_bound) .none kV8 dc8 pm8 an8 cd8 ct8),sl8⟩) (c8:PySem.W.codeIn K cd8 "bound" = true) (k8:PySem.W.keepIn K (.ref f8)=true)
    (a9:PySem.W.nsIn K mainGlobals "bounds" = some (some (.ref f9))) (l9:K.lookup f9=some ⟨oc9,od9,.func (PySem.W.fnOf "bounds" "bounds" (defArgs s_bounds) (defBody s_bounds) (defScope s_bounds) .none kV9 dc9 pm9 an9 cd9 ct9),sl9⟩) (c9:PySem.W.codeIn K cd9 "bounds" = true) (k9:PySem.W.keepIn K (.ref f9)=true)
    (a10:PySem.W.nsIn K mainGlobals "unbound" = some (some (.ref f10))) (l10:K.lookup f10=some ⟨oc10,od10,.func (PySem.W.fnOf "unbound" "unbound" (defArgs s_unbound) (defBody s_unbound) (defScope s_unbound) .none kV10 dc10 pm10 an10 cd10 ct10),sl10⟩) (c10:PySem.W.codeIn K cd10 "unbound" = true) (k10:PySem.W.keepIn K (.ref f10)=true)
    (a11:PySem.W.nsIn K mainGlobals "lack_of" = some (some (.ref f11))) (l11:K.lookup f11=some ⟨oc11,od11,.func (PySem.W.fnOf "lack_of" "lack_of" (defArgs s_lack_of) (defBody s_lack_of) (defScope s_lack_of) .none kV11 dc11 pm11 an11 cd11 ct11),sl11⟩) (c11:PySem.W.codeIn K cd11 "lack_of" = true) (k11:PySem.W.keepIn K (.ref f11)=true)
    (a12:PySem.W.nsIn K mainGlobals "refuse_names" = some (some (.ref f12))) (l12:K.lookup f12=some ⟨oc12,od12,.func (PySem.W.fnOf "refuse_names" "refuse_names" (defArgs s_refuse_names) (defBody s_refuse_names) (defScope s_refuse_names) .none kV12 dc12 pm12 an12 cd12 ct12),sl12⟩) (c12:PySem.W.codeIn K cd12 "refuse_names" = true) (k12:PySem.W.keepIn K (.ref f12)=true)
    (a13:PySem.W.nsIn K mainGlobals "refuse_order" = some (some (.ref f13))) (l13:K.lookup f13=some ⟨oc13,od13,.func (PySem.W.fnOf "refuse_order" "refuse_order" (defArgs s_refuse_order) (defBody s_refuse_order) (defScope s_refuse_order) .none kV13 dc13 pm13 an13 cd13 ct13),sl13⟩) (c13:PySem.W.codeIn K cd13 "refuse_order" = true) (k13:PySem.W.keepIn K (.ref f13)=true)
    (a14:PySem.W.nsIn K mainGlobals "_law_cell_at" = some (some (.ref f14))) (l14:K.lookup f14=some ⟨oc14,od14,.func (PySem.W.fnOf "_law_cell_at" "_law_cell_at" (defArgs s__law_cell_at) (defBody s__law_cell_at) (defScope s__law_cell_at) .none kV14 dc14 pm14 an14 cd14 ct14),sl14⟩) (c14:PySem.W.codeIn K cd14 "_law_cell_at" = true) (k14:PySem.W.keepIn K (.ref f14)=true)
    (a15:PySem.W.nsIn K mainGlobals "_law_masks" = some (some (.ref f15))) (l15:K.lookup f15=some ⟨oc15,od15,.func (PySem.W.fnOf "_law_masks" "_law_masks" (defArgs s__law_masks) (defBody s__law_masks) (defScope s__law_masks) .none kV15 dc15 pm15 an15 cd15 ct15),sl15⟩) (c15:PySem.W.codeIn K cd15 "_law_masks" = true) (k15:PySem.W.keepIn K (.ref f15)=true)
    (a16:PySem.W.nsIn K mainGlobals "_law_names" = some (some (.ref f16))) (l16:K.lookup f16=some ⟨oc16,od16,.func (PySem.W.fnOf "_law_names" "_law_names" (defArgs s__law_names) (defBody s__law_names) (defScope s__law_names) .none kV16 dc16 pm16 an16 cd16 ct16),sl16⟩) (c16:PySem.W.codeIn K cd16 "_law_names" = true) (k16:PySem.W.keepIn K (.ref f16)=true)
    (a17:PySem.W.nsIn K mainGlobals "_law_is_under" = some (some (.ref f17))) (l17:K.lookup f17=some ⟨oc17,od17,.func (PySem.W.fnOf "_law_is_under" "_law_is_under" (defArgs s__law_is_under) (defBody s__law_is_under) (defScope s__law_is_under) .none kV17 dc17 pm17 an17 cd17 ct17),sl17⟩) (c17:PySem.W.codeIn K cd17 "_law_is_under" = true) (k17:PySem.W.keepIn K (.ref f17)=true)
    (a18:PySem.W.nsIn K mainGlobals "_law_neighbours" = some (some (.ref f18))) (l18:K.lookup f18=some ⟨oc18,od18,.func (PySem.W.fnOf "_law_neighbours" "_law_neighbours" (defArgs s__law_neighbours) (defBody s__law_neighbours) (defScope s__law_neighbours) .none kV18 dc18 pm18 an18 cd18 ct18),sl18⟩) (c18:PySem.W.codeIn K cd18 "_law_neighbours" = true) (k18:PySem.W.keepIn K (.ref f18)=true)
    (a19:PySem.W.nsIn K mainGlobals "_law_pairs" = some (some (.ref f19))) (l19:K.lookup f19=some ⟨oc19,od19,.func (PySem.W.fnOf "_law_pairs" "_law_pairs" (defArgs s__law_pairs) (defBody s__law_pairs) (defScope s__law_pairs) .none kV19 dc19 pm19 an19 cd19 ct19),sl19⟩) (c19:PySem.W.codeIn K cd19 "_law_pairs" = true) (k19:PySem.W.keepIn K (.ref f19)=true)
    (a20:PySem.W.nsIn K mainGlobals "_law_order" = some (some (.ref f20))) (l20:K.lookup f20=some ⟨oc20,od20,.func (PySem.W.fnOf "_law_order" "_law_order" (defArgs s__law_order) (defBody s__law_order) (defScope s__law_order) .none kV20 dc20 pm20 an20 cd20 ct20),sl20⟩) (c20:PySem.W.codeIn K cd20 "_law_order" = true) (k20:PySem.W.keepIn K (.ref f20)=true)
    (a21:PySem.W.nsIn K mainGlobals "_law_right" = some (some (.ref f21))) (l21:K.lookup f21=some ⟨oc21,od21,.func (PySem.W.fnOf "_law_right" "_law_right" (defArgs s__law_right) (defBody s__law_right) (defScope s__law_right) .none kV21 dc21 pm21 an21 cd21 ct21),sl21⟩) (c21:PySem.W.codeIn K cd21 "_law_right" = true) (k21:PySem.W.keepIn K (.ref f21)=true)
    (a22:PySem.W.nsIn K mainGlobals "law" = some (some (.ref f22))) (l22:K.lookup f22=some ⟨oc22,od22,.func (PySem.W.fnOf "law" "law" (defArgs s_law) (defBody s_law) (defScope s_law) .none kV22 dc22 pm22 an22 cd22 ct22),sl22⟩) (c22:PySem.W.codeIn K cd22 "law" = true) (k22:PySem.W.keepIn K (.ref f22)=true)
    (a23:PySem.W.findIn K (.ref c_Order) "__init__" = some (some (.ref f23))) (i23:PySem.W.isFn K (.ref f23)=true) (l23:K.lookup f23=some ⟨oc23,od23,.func (PySem.W.fnOf "__init__" "Order.__init__" (defArgs s_Order____init__) (defBody s_Order____init__) (defScope s_Order____init__) .none kV23 dc23 pm23 an23 cd23 ct23),sl23⟩) (c23:PySem.W.codeIn K cd23 "Order.__init__" = true) (k23:PySem.W.keepIn K (.ref f23)=true)
    (a24:PySem.W.findIn K (.ref c_Order) "refuse_stranger" = some (some (.ref f24))) (i24:PySem.W.isFn K (.ref f24)=true) (l24:K.lookup f24=some ⟨oc24,od24,.func (PySem.W.fnOf "refuse_stranger" "Order.refuse_stranger" (defArgs s_Order__refuse_stranger) (defBody s_Order__refuse_stranger) (defScope s_Order__refuse_stranger) .none kV24 dc24 pm24 an24 cd24 ct24),sl24⟩) (c24:PySem.W.codeIn K cd24 "Order.refuse_stranger" = true) (k24:PySem.W.keepIn K (.ref f24)=true)
    (a25:PySem.W.findIn K (.ref c_Order) "ranks" = some (some (.ref f25))) (i25:PySem.W.isFn K (.ref f25)=true) (l25:K.lookup f25=some ⟨oc25,od25,.func (PySem.W.fnOf "ranks" "Order.ranks" (defArgs s_Order__ranks) (defBody s_Order__ranks) (defScope s_Order__ranks) .none kV25 dc25 pm25 an25 cd25 ct25),sl25⟩) (c25:PySem.W.codeIn K cd25 "Order.ranks" = true) (k25:PySem.W.keepIn K (.ref f25)=true)
    (a26:PySem.W.findIn K (.ref c_Order) "under" = some (some (.ref f26))) (i26:PySem.W.isFn K (.ref f26)=true) (l26:K.lookup f26=some ⟨oc26,od26,.func (PySem.W.fnOf "under" "Order.under" (defArgs s_Order__under) (defBody s_Order__under) (defScope s_Order__under) .none kV26 dc26 pm26 an26 cd26 ct26),sl26⟩) (c26:PySem.W.codeIn K cd26 "Order.under" = true) (k26:PySem.W.keepIn K (.ref f26)=true)
    (a27:PySem.W.findIn K (.ref c_Order) "least" = some (some (.ref f27))) (i27:PySem.W.isFn K (.ref f27)=true) (l27:K.lookup f27=some ⟨oc27,od27,.func (PySem.W.fnOf "least" "Order.least" (defArgs s_Order__least) (defBody s_Order__least) (defScope s_Order__least) .none kV27 dc27 pm27 an27 cd27 ct27),sl27⟩) (c27:PySem.W.codeIn K cd27 "Order.least" = true) (k27:PySem.W.keepIn K (.ref f27)=true)
    (a28:PySem.W.findIn K (.ref c_Order) "greatest" = some (some (.ref f28))) (i28:PySem.W.isFn K (.ref f28)=true) (l28:K.lookup f28=some ⟨oc28,od28,.func (PySem.W.fnOf "greatest" "Order.greatest" (defArgs s_Order__greatest) (defBody s_Order__greatest) (defScope s_Order__greatest) .none kV28 dc28 pm28 an28 cd28 ct28),sl28⟩) (c28:PySem.W.codeIn K cd28 "Order.greatest" = true) (k28:PySem.W.keepIn K (.ref f28)=true)
    (z0:PySem.W.nsIn K mainGlobals "ValueError" = some none)
    (z1:PySem.W.nsIn K mainGlobals "all" = some none)
    (z2:PySem.W.nsIn K mainGlobals "bool" = some none)
    (z3:PySem.W.nsIn K mainGlobals "isinstance" = some none)
    (z4:PySem.W.nsIn K mainGlobals "len" = some none)
    (z5:PySem.W.nsIn K mainGlobals "list" = some none)
    (z6:PySem.W.nsIn K mainGlobals "min" = some none)
    (z7:PySem.W.nsIn K mainGlobals "range" = some none)
    (z8:PySem.W.nsIn K mainGlobals "zip" = some none)
    (y_LETTERS:PySem.W.nsIn K mainGlobals "LETTERS" = some (some (.str "abcdefghijklmnopqrstuvwxyz" tk_LETTERS)))
    (HL:∀ ns:List Int,ns.length<=63->∃ mu,m_law [.lst (ns.map PV.int)] []=some (.sh (.bl true),mu))
    : ∃ fd:FuncData,(∀ (s:Shared) (v:Value),BindsTo s fd ⟨[v],[]⟩ [("_law_script",v)])/\∀ base:Heap,K.In base->base.Ns mainGlobals mg->FnOk l.prog w K mg base CX0 8 fa fd ["_law_script"] (spLaw K):=by
  have T_Order:ClsT K mg "Order" c_Order:=⟨aC_Order,⟨pg_Order,hd_Order,po_Order,sa_Order⟩,PySem.W.mg_of X G aC_Order⟩
  have N_Order:∀ f ∈ (["names", "above", "joins", "meets", "lowest", "highest"]:List Str),NoAttr K c_Order f:=by
    intro x hx
    rcases List.mem_cons.mp hx with e | hx
    · rw [e]; exact n_Order_names
    rcases List.mem_cons.mp hx with e | hx
    · rw [e]; exact n_Order_above
    rcases List.mem_cons.mp hx with e | hx
    · rw [e]; exact n_Order_joins
    rcases List.mem_cons.mp hx with e | hx
    · rw [e]; exact n_Order_meets
    rcases List.mem_cons.mp hx with e | hx
    · rw [e]; exact n_Order_lowest
    rcases List.mem_cons.mp hx with e | hx
    · rw [e]; exact n_Order_highest
    cases hx
  have F_is_name:DefAt K mg "is_name" s_is_name ["text"]:=⟨_,_,fun_mk (st:=s_is_name) l1 c1 k1,PySem.W.mg_of X G a1,(fun_mk (st:=s_is_name) l1 c1 k1).binds (ps:=["text"]) fun _ _ _ _ _ _ us hl=>by obtain ⟨_,rfl⟩:=ln1 hl; rfl⟩
  have F_straight_above:DefAt K mg "straight_above" s_straight_above ["some", "pairs", "name"]:=⟨_,_,fun_mk (st:=s_straight_above) l2 c2 k2,PySem.W.mg_of X G a2,(fun_mk (st:=s_straight_above) l2 c2 k2).binds (ps:=["some", "pairs", "name"]) fun _ _ _ _ _ _ us hl=>by obtain ⟨_,_,_,rfl⟩:=ln3 hl; rfl⟩
  have F_ring_of:DefAt K mg "ring_of" s_ring_of ["names", "pairs"]:=⟨_,_,fun_mk (st:=s_ring_of) l3 c3 k3,PySem.W.mg_of X G a3,(fun_mk (st:=s_ring_of) l3 c3 k3).binds (ps:=["names", "pairs"]) fun _ _ _ _ _ _ us hl=>by obtain ⟨_,_,rfl⟩:=ln2 hl; rfl⟩
  have F_ring_within:DefAt K mg "ring_within" s_ring_within ["some", "pairs"]:=⟨_,_,fun_mk (st:=s_ring_within) l4 c4 k4,PySem.W.mg_of X G a4,(fun_mk (st:=s_ring_within) l4 c4 k4).binds (ps:=["some", "pairs"]) fun _ _ _ _ _ _ us hl=>by obtain ⟨_,_,rfl⟩:=ln2 hl; rfl⟩
  have F_climbed:DefAt K mg "climbed" s_climbed ["name", "pairs"]:=⟨_,_,fun_mk (st:=s_climbed) l5 c5 k5,PySem.W.mg_of X G a5,(fun_mk (st:=s_climbed) l5 c5 k5).binds (ps:=["name", "pairs"]) fun _ _ _ _ _ _ us hl=>by obtain ⟨_,_,rfl⟩:=ln2 hl; rfl⟩
  have F_all_above:DefAt K mg "all_above" s_all_above ["names", "pairs"]:=⟨_,_,fun_mk (st:=s_all_above) l6 c6 k6,PySem.W.mg_of X G a6,(fun_mk (st:=s_all_above) l6 c6 k6).binds (ps:=["names", "pairs"]) fun _ _ _ _ _ _ us hl=>by obtain ⟨_,_,rfl⟩:=ln2 hl; rfl⟩
  have F_all_beneath:DefAt K mg "all_beneath" s_all_beneath ["names", "pairs"]:=⟨_,_,fun_mk (st:=s_all_beneath) l7 c7 k7,PySem.W.mg_of X G a7,(fun_mk (st:=s_all_beneath) l7 c7 k7).binds (ps:=["names", "pairs"]) fun _ _ _ _ _ _ us hl=>by obtain ⟨_,_,rfl⟩:=ln2 hl; rfl⟩
  have F_bound:DefAt K mg "bound" s_bound ["reach", "one", "other"]:=⟨_,_,fun_mk (st:=s_bound) l8 c8 k8,PySem.W.mg_of X G a8,(fun_mk (st:=s_bound) l8 c8 k8).binds (ps:=["reach", "one", "other"]) fun _ _ _ _ _ _ us hl=>by obtain ⟨_,_,_,rfl⟩:=ln3 hl; rfl⟩
  have F_bounds:DefAt K mg "bounds" s_bounds ["reach"]:=⟨_,_,fun_mk (st:=s_bounds) l9 c9 k9,PySem.W.mg_of X G a9,(fun_mk (st:=s_bounds) l9 c9 k9).binds (ps:=["reach"]) fun _ _ _ _ _ _ us hl=>by obtain ⟨_,rfl⟩:=ln1 hl; rfl⟩
  have F_unbound:DefAt K mg "unbound" s_unbound ["reach"]:=⟨_,_,fun_mk (st:=s_unbound) l10 c10 k10,PySem.W.mg_of X G a10,(fun_mk (st:=s_unbound) l10 c10 k10).binds (ps:=["reach"]) fun _ _ _ _ _ _ us hl=>by obtain ⟨_,rfl⟩:=ln1 hl; rfl⟩
  have F_lack_of:DefAt K mg "lack_of" s_lack_of ["names", "pairs"]:=⟨_,_,fun_mk (st:=s_lack_of) l11 c11 k11,PySem.W.mg_of X G a11,(fun_mk (st:=s_lack_of) l11 c11 k11).binds (ps:=["names", "pairs"]) fun _ _ _ _ _ _ us hl=>by obtain ⟨_,_,rfl⟩:=ln2 hl; rfl⟩
  have F_refuse_names:DefAt K mg "refuse_names" s_refuse_names ["names", "pairs"]:=⟨_,_,fun_mk (st:=s_refuse_names) l12 c12 k12,PySem.W.mg_of X G a12,(fun_mk (st:=s_refuse_names) l12 c12 k12).binds (ps:=["names", "pairs"]) fun _ _ _ _ _ _ us hl=>by obtain ⟨_,_,rfl⟩:=ln2 hl; rfl⟩
  have F_refuse_order:DefAt K mg "refuse_order" s_refuse_order ["names", "pairs"]:=⟨_,_,fun_mk (st:=s_refuse_order) l13 c13 k13,PySem.W.mg_of X G a13,(fun_mk (st:=s_refuse_order) l13 c13 k13).binds (ps:=["names", "pairs"]) fun _ _ _ _ _ _ us hl=>by obtain ⟨_,_,rfl⟩:=ln2 hl; rfl⟩
  have F__law_cell_at:DefAt K mg "_law_cell_at" s__law_cell_at ["_law_script", "_law_k"]:=⟨_,_,fun_mk (st:=s__law_cell_at) l14 c14 k14,PySem.W.mg_of X G a14,(fun_mk (st:=s__law_cell_at) l14 c14 k14).binds (ps:=["_law_script", "_law_k"]) fun _ _ _ _ _ _ us hl=>by obtain ⟨_,_,rfl⟩:=ln2 hl; rfl⟩
  have F__law_masks:DefAt K mg "_law_masks" s__law_masks ["_law_cells"]:=⟨_,_,fun_mk (st:=s__law_masks) l15 c15 k15,PySem.W.mg_of X G a15,(fun_mk (st:=s__law_masks) l15 c15 k15).binds (ps:=["_law_cells"]) fun _ _ _ _ _ _ us hl=>by obtain ⟨_,rfl⟩:=ln1 hl; rfl⟩
  have F__law_names:DefAt K mg "_law_names" s__law_names ["_law_cell", "_law_count"]:=⟨_,_,fun_mk (st:=s__law_names) l16 c16 k16,PySem.W.mg_of X G a16,(fun_mk (st:=s__law_names) l16 c16 k16).binds (ps:=["_law_cell", "_law_count"]) fun _ _ _ _ _ _ us hl=>by obtain ⟨_,_,rfl⟩:=ln2 hl; rfl⟩
  have F__law_is_under:DefAt K mg "_law_is_under" s__law_is_under ["_law_one", "_law_other"]:=⟨_,_,fun_mk (st:=s__law_is_under) l17 c17 k17,PySem.W.mg_of X G a17,(fun_mk (st:=s__law_is_under) l17 c17 k17).binds (ps:=["_law_one", "_law_other"]) fun _ _ _ _ _ _ us hl=>by obtain ⟨_,_,rfl⟩:=ln2 hl; rfl⟩
  have F__law_neighbours:DefAt K mg "_law_neighbours" s__law_neighbours ["_law_masks_here"]:=⟨_,_,fun_mk (st:=s__law_neighbours) l18 c18 k18,PySem.W.mg_of X G a18,(fun_mk (st:=s__law_neighbours) l18 c18 k18).binds (ps:=["_law_masks_here"]) fun _ _ _ _ _ _ us hl=>by obtain ⟨_,rfl⟩:=ln1 hl; rfl⟩
  have F__law_pairs:DefAt K mg "_law_pairs" s__law_pairs ["_law_masks_here", "_law_cells"]:=⟨_,_,fun_mk (st:=s__law_pairs) l19 c19 k19,PySem.W.mg_of X G a19,(fun_mk (st:=s__law_pairs) l19 c19 k19).binds (ps:=["_law_masks_here", "_law_cells"]) fun _ _ _ _ _ _ us hl=>by obtain ⟨_,_,rfl⟩:=ln2 hl; rfl⟩
  have F__law_order:DefAt K mg "_law_order" s__law_order ["_law_script", "_law_at", "_law_count"]:=⟨_,_,fun_mk (st:=s__law_order) l20 c20 k20,PySem.W.mg_of X G a20,(fun_mk (st:=s__law_order) l20 c20 k20).binds (ps:=["_law_script", "_law_at", "_law_count"]) fun _ _ _ _ _ _ us hl=>by obtain ⟨_,_,_,rfl⟩:=ln3 hl; rfl⟩
  have F__law_right:DefAt K mg "_law_right" s__law_right ["_law_order_here", "_law_masks_here", "_law_names_here"]:=⟨_,_,fun_mk (st:=s__law_right) l21 c21 k21,PySem.W.mg_of X G a21,(fun_mk (st:=s__law_right) l21 c21 k21).binds (ps:=["_law_order_here", "_law_masks_here", "_law_names_here"]) fun _ _ _ _ _ _ us hl=>by obtain ⟨_,_,_,rfl⟩:=ln3 hl; rfl⟩
  have F_law:DefAt K mg "law" s_law ["_law_script"]:=⟨_,_,fun_mk (st:=s_law) l22 c22 k22,PySem.W.mg_of X G a22,(fun_mk (st:=s_law) l22 c22 k22).binds (ps:=["_law_script"]) fun _ _ _ _ _ _ us hl=>by obtain ⟨_,rfl⟩:=ln1 hl; rfl⟩
  have F_Order____init__:MAt K c_Order "__init__" "Order.__init__" s_Order____init__ ["self", "names", "pairs"]:=⟨_,_,fun_mk (st:=s_Order____init__) l23 c23 k23,a23,i23,(fun_mk (st:=s_Order____init__) l23 c23 k23).binds (ps:=["self", "names", "pairs"]) fun _ _ _ _ _ _ us hl=>by obtain ⟨_,_,_,rfl⟩:=ln3 hl; rfl⟩
  have F_Order__refuse_stranger:MAt K c_Order "refuse_stranger" "Order.refuse_stranger" s_Order__refuse_stranger ["self", "rank"]:=⟨_,_,fun_mk (st:=s_Order__refuse_stranger) l24 c24 k24,a24,i24,(fun_mk (st:=s_Order__refuse_stranger) l24 c24 k24).binds (ps:=["self", "rank"]) fun _ _ _ _ _ _ us hl=>by obtain ⟨_,_,rfl⟩:=ln2 hl; rfl⟩
  have F_Order__ranks:MAt K c_Order "ranks" "Order.ranks" s_Order__ranks ["self"]:=⟨_,_,fun_mk (st:=s_Order__ranks) l25 c25 k25,a25,i25,(fun_mk (st:=s_Order__ranks) l25 c25 k25).binds (ps:=["self"]) fun _ _ _ _ _ _ us hl=>by obtain ⟨_,rfl⟩:=ln1 hl; rfl⟩
  have F_Order__under:MAt K c_Order "under" "Order.under" s_Order__under ["self", "one", "other"]:=⟨_,_,fun_mk (st:=s_Order__under) l26 c26 k26,a26,i26,(fun_mk (st:=s_Order__under) l26 c26 k26).binds (ps:=["self", "one", "other"]) fun _ _ _ _ _ _ us hl=>by obtain ⟨_,_,_,rfl⟩:=ln3 hl; rfl⟩
  have F_Order__least:MAt K c_Order "least" "Order.least" s_Order__least ["self"]:=⟨_,_,fun_mk (st:=s_Order__least) l27 c27 k27,a27,i27,(fun_mk (st:=s_Order__least) l27 c27 k27).binds (ps:=["self"]) fun _ _ _ _ _ _ us hl=>by obtain ⟨_,rfl⟩:=ln1 hl; rfl⟩
  have F_Order__greatest:MAt K c_Order "greatest" "Order.greatest" s_Order__greatest ["self"]:=⟨_,_,fun_mk (st:=s_Order__greatest) l28 c28 k28,a28,i28,(fun_mk (st:=s_Order__greatest) l28 c28 k28).binds (ps:=["self"]) fun _ _ _ _ _ _ us hl=>by obtain ⟨_,rfl⟩:=ln1 hl; rfl⟩
  have B:Blt mg ["ValueError", "all", "bool", "isinstance", "len", "list", "min", "range", "zip"]:=by
    intro x hx
    rcases List.mem_cons.mp hx with e | hx
    · rw [e]; exact PySem.W.mg_none_of X G z0
    rcases List.mem_cons.mp hx with e | hx
    · rw [e]; exact PySem.W.mg_none_of X G z1
    rcases List.mem_cons.mp hx with e | hx
    · rw [e]; exact PySem.W.mg_none_of X G z2
    rcases List.mem_cons.mp hx with e | hx
    · rw [e]; exact PySem.W.mg_none_of X G z3
    rcases List.mem_cons.mp hx with e | hx
    · rw [e]; exact PySem.W.mg_none_of X G z4
    rcases List.mem_cons.mp hx with e | hx
    · rw [e]; exact PySem.W.mg_none_of X G z5
    rcases List.mem_cons.mp hx with e | hx
    · rw [e]; exact PySem.W.mg_none_of X G z6
    rcases List.mem_cons.mp hx with e | hx
    · rw [e]; exact PySem.W.mg_none_of X G z7
    rcases List.mem_cons.mp hx with e | hx
    · rw [e]; exact PySem.W.mg_none_of X G z8
    cases hx
  have C_LETTERS:∃ t,mg "LETTERS" = some (.str "abcdefghijklmnopqrstuvwxyz" t):=⟨_,PySem.W.mg_of X G y_LETTERS⟩
  have e:=hfa.symm.trans (PySem.W.mg_of X G a22)
  cases e
  refine ⟨PySem.W.fnOf "law" "law" (defArgs s_law) (defBody s_law) (defScope s_law) .none kV22 dc22 pm22 an22 cd22 ct22,fun s v=>.of_eq rfl,fun base _ _=>?_⟩
  have D_is_name:=ok_is_name (P:=l.prog) (w:=w) (base:=base) B C_LETTERS T_Order N_Order F_is_name
  have D_straight_above:=ok_straight_above (P:=l.prog) (w:=w) (base:=base) B C_LETTERS T_Order N_Order F_straight_above
  have D_ring_within:=ok_ring_within (P:=l.prog) (w:=w) (base:=base) B C_LETTERS T_Order N_Order F_ring_within D_straight_above
  have D_ring_of:=ok_ring_of (P:=l.prog) (w:=w) (base:=base) B C_LETTERS T_Order N_Order F_ring_of D_ring_within D_straight_above
  have D_climbed:=ok_climbed (P:=l.prog) (w:=w) (base:=base) B C_LETTERS T_Order N_Order F_climbed
  have D_all_above:=ok_all_above (P:=l.prog) (w:=w) (base:=base) B C_LETTERS T_Order N_Order F_all_above D_climbed
  have D_all_beneath:=ok_all_beneath (P:=l.prog) (w:=w) (base:=base) B C_LETTERS T_Order N_Order F_all_beneath D_all_above
  have D_bound:=ok_bound (P:=l.prog) (w:=w) (base:=base) B C_LETTERS T_Order N_Order F_bound
  have D_bounds:=ok_bounds (P:=l.prog) (w:=w) (base:=base) B C_LETTERS T_Order N_Order F_bounds D_bound
  have D_unbound:=ok_unbound (P:=l.prog) (w:=w) (base:=base) B C_LETTERS T_Order N_Order F_unbound D_bounds
  have D_lack_of:=ok_lack_of (P:=l.prog) (w:=w) (base:=base) B C_LETTERS T_Order N_Order F_lack_of D_all_above D_all_beneath D_unbound
  have D_refuse_names:=ok_refuse_names (P:=l.prog) (w:=w) (base:=base) B C_LETTERS T_Order N_Order F_refuse_names D_is_name
  have D_refuse_order:=ok_refuse_order (P:=l.prog) (w:=w) (base:=base) B C_LETTERS T_Order N_Order F_refuse_order D_lack_of D_ring_of
  have D__law_cell_at:=ok__law_cell_at (P:=l.prog) (w:=w) (base:=base) B C_LETTERS T_Order N_Order F__law_cell_at
  have D__law_masks:=ok__law_masks (P:=l.prog) (w:=w) (base:=base) B C_LETTERS T_Order N_Order F__law_masks
  have D__law_names:=ok__law_names (P:=l.prog) (w:=w) (base:=base) B C_LETTERS T_Order N_Order F__law_names
  have D__law_is_under:=ok__law_is_under (P:=l.prog) (w:=w) (base:=base) B C_LETTERS T_Order N_Order F__law_is_under
  have D__law_neighbours:=ok__law_neighbours (P:=l.prog) (w:=w) (base:=base) B C_LETTERS T_Order N_Order F__law_neighbours D__law_is_under
  have D__law_pairs:=ok__law_pairs (P:=l.prog) (w:=w) (base:=base) B C_LETTERS T_Order N_Order F__law_pairs D__law_is_under D__law_neighbours
  have D__law_order:=ok__law_order (P:=l.prog) (w:=w) (base:=base) B C_LETTERS T_Order N_Order F__law_order D__law_cell_at D__law_masks D__law_names D__law_pairs
  have D_Order__greatest:=ok_Order__greatest (P:=l.prog) (w:=w) (base:=base) B C_LETTERS T_Order N_Order F_Order__greatest
  have D_Order__least:=ok_Order__least (P:=l.prog) (w:=w) (base:=base) B C_LETTERS T_Order N_Order F_Order__least
  have D_Order__ranks:=ok_Order__ranks (P:=l.prog) (w:=w) (base:=base) B C_LETTERS T_Order N_Order F_Order__ranks
  have D_Order__refuse_stranger:=ok_Order__refuse_stranger (P:=l.prog) (w:=w) (base:=base) B C_LETTERS T_Order N_Order F_Order__refuse_stranger
  have D_Order__under:=ok_Order__under (P:=l.prog) (w:=w) (base:=base) B C_LETTERS T_Order N_Order F_Order__under D_Order__refuse_stranger
  have D__law_right:=ok__law_right (P:=l.prog) (w:=w) (base:=base) B C_LETTERS T_Order N_Order F__law_right D_Order__greatest D_Order__least D_Order__ranks D_Order__under D__law_is_under
  have D_Order____init__:=mk_of (ok_Order____init__ (P:=l.prog) (w:=w) (base:=base) B C_LETTERS T_Order N_Order F_Order____init__ D_all_above D_all_beneath D_bounds D_refuse_names D_refuse_order) mk_Order kc_Order
  exact law_of (ok_law (P:=l.prog) (w:=w) (base:=base) B C_LETTERS T_Order N_Order (fun_mk (st:=s_law) l22 c22 k22) D_Order____init__ D__law_order D__law_right) HL
theorem walk {l:PySem.W.OpenLaw} {q:Program} {loose:List Str} {XP:(Str->Option Value)->Heap->Prop} {YP:World->Heap->Prop} {d:DefRec} {K:Params->FG} (hn:l.most=some 63) (hdf:d.params.defaults=[])
    (hY:∀ (w:World) (h:Heap),YP w h->(K w.params).In h)
    (F:∀ (w:World) (mg:Str->Option Value) (fa:Addr) (h:Heap),(K w.params).In h->h.Ns mainGlobals mg->mg d.name=some (.ref fa)->
      ∃ fd:FuncData,(∀ (s:Shared) (u:Value),BindsTo s fd ⟨[u],[]⟩ [("_law_script",u)])/\∀ base:Heap,(K w.params).In base->base.Ns mainGlobals mg->FnOk l.prog w (K w.params) mg base CX0 8 fa fd ["_law_script"] (spLaw (K w.params))):
    PySem.W.WalkO q loose XP YP l.row.toRowW d [] (fun f vs=>PySem.call f vs):=
  L2.walk_of (n:=63) (k:=8) (x := "_law_script") (CX:=fun _=>CX0) (sp:=fun w=>spLaw (K w.params)) hn (by decide) hdf ⟨rfl,by decide,by decide⟩ hY F (fun _ _ a ns hl _ hS=>⟨a,ns,rfl,hS,hl,fun _=>rfl⟩) fun _ _ _ _ _ z=>z
end Law
open PySem PySem.W PyProof.Rows
set_option maxRecDepth 100000 in
set_option maxHeartbeats 0 in
theorem PySem.Challenge.cw_hushwise_k04_one_under_another_holds : PySem.Challenge.rw_hushwise_k04_one_under_another.Holds := by
  w_on; o_law; k_head; (case hw=>w_witness2)
  k_fill
  refine Law.walk (l:=PySem.Challenge.rw_hushwise_k04_one_under_another) rfl rfl (fun w h Y=>PySem.W.kIn_of Y) ?F
  case F=>
    intro w mg fa h KX G hmg
    refine' Law.all_mk KX G hmg ?aC_Order ?pg_Order ?hd_Order ?po_Order ?sa_Order ?mk_Order ?kc_Order ?n_Order_names ?n_Order_above ?n_Order_joins ?n_Order_meets ?n_Order_lowest ?n_Order_highest ?a1 ?l1 ?c1 ?k1 ?a2 ?l2 ?c2 ?k2 ?a3 ?l3 ?c3 ?k3 ?a4 ?l4 ?c4 ?k4 ?a5 ?l5 ?c5 ?k5 ?a6 ?l6 ?c6 ?k6 ?a7 ?l7 ?c7 ?k7 ?a8 ?l8 ?c8 ?k8 ?a9 ?l9 ?c9 ?k9 ?a10 ?l10 ?c10 ?k10 ?a11 ?l11 ?c11 ?k11 ?a12 ?l12 ?c12 ?k12 ?a13 ?l13 ?c13 ?k13 ?a14 ?l14 ?c14 ?k14 ?a15 ?l15 ?c15 ?k15 ?a16 ?l16 ?c16 ?k16 ?a17 ?l17 ?c17 ?k17 ?a18 ?l18 ?c18 ?k18 ?a19 ?l19 ?c19 ?k19 ?a20 ?l20 ?c20 ?k20 ?a21 ?l21 ?c21 ?k21 ?a22 ?l22 ?c22 ?k22 ?a23 ?i23 ?l23 ?c23 ?k23 ?a24 ?i24 ?l24 ?c24 ?k24 ?a25 ?i25 ?l25 ?c25 ?k25 ?a26 ?i26 ?l26 ?c26 ?k26 ?a27 ?i27 ?l27 ?c27 ?k27 ?a28 ?i28 ?l28 ?c28 ?k28 ?z0 ?z1 ?z2 ?z3 ?z4 ?z5 ?z6 ?z7 ?z8 ?y_LETTERS Law.law_true
    (case aC_Order=>k_is)
    (case pg_Order=>k_is)
    (case hd_Order=>k_is)
    (case po_Order=>k_is)
    (case sa_Order=>k_is)
    (case mk_Order=>k_is)
    (case kc_Order=>k_is)
    (case n_Order_names=>k_is)
    (case n_Order_above=>k_is)
    (case n_Order_joins=>k_is)
    (case n_Order_meets=>k_is)
    (case n_Order_lowest=>k_is)
    (case n_Order_highest=>k_is)
    (case a1=>k_is)
    (case l1=>k_is)
    (case c1=>k_is)
    (case k1=>k_is)
    (case a2=>k_is)
    (case l2=>k_is)
    (case c2=>k_is)
    (case k2=>k_is)
    (case a3=>k_is)
    (case l3=>k_is)
    (case c3=>k_is)
    (case k3=>k_is)
    (case a4=>k_is)
    (case l4=>k_is)
    (case c4=>k_is)
    (case k4=>k_is)
    (case a5=>k_is)
    (case l5=>k_is)
    (case c5=>k_is)
    (case k5=>k_is)
    (case a6=>k_is)
    (case l6=>k_is)
    (case c6=>k_is)
    (case k6=>k_is)
    (case a7=>k_is)
    (case l7=>k_is)
    (case c7=>k_is)
    (case k7=>k_is)
    (case a8=>k_is)
    (case l8=>k_is)
    (case c8=>k_is)
    (case k8=>k_is)
    (case a9=>k_is)
    (case l9=>k_is)
    (case c9=>k_is)
    (case k9=>k_is)
    (case a10=>k_is)
    (case l10=>k_is)
    (case c10=>k_is)
    (case k10=>k_is)
    (case a11=>k_is)
    (case l11=>k_is)
    (case c11=>k_is)
    (case k11=>k_is)
    (case a12=>k_is)
    (case l12=>k_is)
    (case c12=>k_is)
    (case k12=>k_is)
    (case a13=>k_is)
    (case l13=>k_is)
    (case c13=>k_is)
    (case k13=>k_is)
    (case a14=>k_is)
    (case l14=>k_is)
    (case c14=>k_is)
    (case k14=>k_is)
    (case a15=>k_is)
    (case l15=>k_is)
    (case c15=>k_is)
    (case k15=>k_is)
    (case a16=>k_is)
    (case l16=>k_is)
    (case c16=>k_is)
    (case k16=>k_is)
    (case a17=>k_is)
    (case l17=>k_is)
    (case c17=>k_is)
    (case k17=>k_is)
    (case a18=>k_is)
    (case l18=>k_is)
    (case c18=>k_is)
    (case k18=>k_is)
    (case a19=>k_is)
    (case l19=>k_is)
    (case c19=>k_is)
    (case k19=>k_is)
    (case a20=>k_is)
    (case l20=>k_is)
    (case c20=>k_is)
    (case k20=>k_is)
    (case a21=>k_is)
    (case l21=>k_is)
    (case c21=>k_is)
    (case k21=>k_is)
    (case a22=>k_is)
    (case l22=>k_is)
    (case c22=>k_is)
    (case k22=>k_is)
    (case a23=>k_is)
    (case i23=>k_is)
    (case l23=>k_is)
    (case c23=>k_is)
    (case k23=>k_is)
    (case a24=>k_is)
    (case i24=>k_is)
    (case l24=>k_is)
    (case c24=>k_is)
    (case k24=>k_is)
    (case a25=>k_is)
    (case i25=>k_is)
    (case l25=>k_is)
    (case c25=>k_is)
    (case k25=>k_is)
    (case a26=>k_is)
    (case i26=>k_is)
    (case l26=>k_is)
    (case c26=>k_is)
    (case k26=>k_is)
    (case a27=>k_is)
    (case i27=>k_is)
    (case l27=>k_is)
    (case c27=>k_is)
    (case k27=>k_is)
    (case a28=>k_is)
    (case i28=>k_is)
    (case l28=>k_is)
    (case c28=>k_is)
    (case k28=>k_is)
    (case z0=>k_is)
    (case z1=>k_is)
    (case z2=>k_is)
    (case z3=>k_is)
    (case z4=>k_is)
    (case z5=>k_is)
    (case z6=>k_is)
    (case z7=>k_is)
    (case z8=>k_is)
    (case y_LETTERS=>k_is)
