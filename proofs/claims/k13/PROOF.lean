import PyProof.Rows.All
import Wide.All
import OpenK.AllK
import Wide.FinOn
import Lean
import PyProof.EqAt
import PyProof.EqKinds
import PyProof.TupleCall
import PyProof.NeKinds
import PyProof.StrBlockI
import PyProof.WalksEnum
import PyProof.EnumMake
import PyProof.ZipIter
import PyProof.Rows.SortStr
import PyProof.Rows.SetFrom
import PyProof.CollectWalk
import PyProof.SetRoads
import PyProof.DictWalks
import PyProof.SumWalk
import PyProof.Rows.SumGenD
import PyProof.DictItems
import KE.KRevIter
import KE.KEqDict
import PyProof.AutoSeq1
import PySem.Challenge.RW_hushwise_k13_rows_numbered
set_option Elab.async false
set_option linter.all false
set_option bootstrap.genMatcherCode false
set_option genSizeOf false
set_option compiler.extract_closed false
set_option maxRecDepth 100000
set_option maxHeartbeats 8000000
noncomputable abbrev FG:=PySem.W.Frag
namespace L2
open PySem PySem.Spec PyProof.Rows
variable {pins:List (Addr × Obj)} {E:Value->Shared->Prop} {s:Shared} {A:Around} {w:World} {P:Program}
noncomputable abbrev Key:=Sum Int Str
noncomputable def keyIs:Key->Value->Bool
  | .inl k,v=>Value.isInt k v
  | .inr x,v=>Value.isStrOf x v
noncomputable def keyH (w:World):Key->Int
  | .inl k=>hashInt k
  | .inr x=>hashStr w x
theorem keyIs_shape:∀ {k:Key} {v:Value},keyIs k v=true->(∃ i t,k=Sum.inl i/\v=Value.int i t)\/(∃ x t,k=Sum.inr x/\v=Value.str x t)
  | .inl i,v,h=>by
    obtain ⟨t,e⟩:=Value.isInt_shape (k:=i) (v:=v) h
    exact .inl ⟨i,t,rfl,e⟩
  | .inr x,v,h=>by
    obtain ⟨t,e⟩:=Value.isStrOf_shape (x:=x) (v:=v) h
    exact .inr ⟨x,t,rfl,e⟩
theorem keyIs_int (i:Int) (t:Tok):keyIs (.inl i) (.int i t)=true:=by simp [keyIs,Value.isInt]
theorem keyIs_str (x:Str) (t:Tok):keyIs (.inr x) (.str x t)=true:=by simp [keyIs,Value.isStrOf]
theorem key_ll (a b:Int):decide ((Sum.inl a:Key)=Sum.inl b)=(a == b):=by
  by_cases e:a=b
  · subst e; simp
  · have h:¬ (Sum.inl a:Key)=Sum.inl b:=fun q=>e (Sum.inl.inj q)
    rw [decide_eq_false h]
    exact (beq_eq_false_iff_ne.mpr e).symm
theorem key_rr (a b:Str):decide ((Sum.inr a:Key)=Sum.inr b)=decide (a=b):=by
  by_cases e:a=b
  · subst e; simp
  · have h:¬ (Sum.inr a:Key)=Sum.inr b:=fun q=>e (Sum.inr.inj q)
    rw [decide_eq_false h,decide_eq_false e]
theorem key_lr (a:Int) (b:Str):decide ((Sum.inl a:Key)=Sum.inr b)=false:=decide_eq_false (fun q=>nomatch q)
theorem key_rl (a:Str) (b:Int):decide ((Sum.inr a:Key)=Sum.inl b)=false:=decide_eq_false (fun q=>nomatch q)
noncomputable def mixKind (prog:Program) (w:World):PySem.KeyKind prog w Key where
  is:=keyIs
  hash:=keyH w
  inj:=fun v a b ha hb=>by
    rcases keyIs_shape ha with ⟨i,t,rfl,rfl⟩ | ⟨x,t,rfl,rfl⟩
    · rcases keyIs_shape hb with ⟨j,u,rfl,e⟩ | ⟨y,u,rfl,e⟩
      · injection e with e1 _; rw [e1]
      · exact nomatch e
    · rcases keyIs_shape hb with ⟨j,u,rfl,e⟩ | ⟨y,u,rfl,e⟩
      · exact nomatch e
      · injection e with e1 _; rw [e1]
  byValue:=fun k v h=>by
    rcases keyIs_shape h with ⟨i,t,rfl,rfl⟩ | ⟨x,t,rfl,rfl⟩ <;> rfl
  pyHash:=fun hv h=>by
    rcases keyIs_shape hv with ⟨i,t,rfl,rfl⟩ | ⟨x,t,rfl,rfl⟩
    · exact wpAny_pyHash_int h
    · exact wpAny_pyHash_str h
  eqBool:=fun hu hv h=>by
    rcases keyIs_shape hu with ⟨i,t,rfl,rfl⟩ | ⟨x,t,rfl,rfl⟩
    · rcases keyIs_shape hv with ⟨j,u,rfl,rfl⟩ | ⟨y,u,rfl,rfl⟩
      · rw [key_ll] at h; exact wpAny_eqBool_int h
      · rw [key_lr] at h; exact SeqAt.EqAt.int_str i t y u _ _ _ _ h
    · rcases keyIs_shape hv with ⟨j,u,rfl,rfl⟩ | ⟨y,u,rfl,rfl⟩
      · rw [key_rl] at h; exact SeqAt.EqAt.str_int x t j u _ _ _ _ h
      · rw [key_rr] at h; exact wpAny_eqBool_str h
  «strs»:=fun k x t v h=>by
    rcases keyIs_shape h with ⟨i,u,rfl,e⟩ | ⟨y,u,rfl,e⟩
    · exact nomatch e
    · injection e with e1 _
      subst e1
      cases v <;> rfl
theorem mixKind_int (prog:Program) (w:World) (i:Int) (t:Tok):(mixKind prog w).is (.inl i) (.int i t)=true:=keyIs_int i t
theorem mixKind_str (prog:Program) (w:World) (x:Str) (t:Tok):(mixKind prog w).is (.inr x) (.str x t)=true:=keyIs_str x t
inductive V where
  | non | bl (b:Bool) | int (i:Int) | str (x:Str) | byt (b:Array UInt8) | flt (b:UInt64) | ref (a:Addr) | ty (n:String)
  deriving DecidableEq
noncomputable def RelV:V->Value->Prop
  | .non,u=>u=Value.none
  | .bl b,u=>u=Value.bool b
  | .int i,u=>∃ t,u=Value.int i t
  | .str x,u=>∃ t,u=Value.str x t
  | .byt b,u=>∃ t,u=Value.bytes b t
  | .flt b,u=>∃ t,u=Value.float b t
  | .ref a,u=>u=Value.ref a
  | .ty n,u=>u=Value.type n
noncomputable abbrev Vals:List V->List Value->Prop:=Paired RelV
theorem Vals.length {xs:List V} {us:List Value} (r:Vals xs us):xs.length=us.length:=Paired.length r
theorem Vals.get:∀ {xs:List V} {us:List Value} {i:Nat} {x:V},Vals xs us->xs[i]?=some x->∃ u,us[i]?=some u/\RelV x u
  | _,_,_,_,.nil,e=>by simp at e
  | _,_,0,_,.cons r _,e=>by simp at e; subst e; exact ⟨_,rfl,r⟩
  | _,_,i + 1,x,.cons _ t,e=>by
    obtain ⟨u,h1,h2⟩:=Vals.get (i:=i) (x:=x) t (by simpa using e)
    exact ⟨u,by simpa using h1,h2⟩
theorem Vals.set {x:V} {u:Value} (r:RelV x u):∀ {xs:List V} {us:List Value} (i:Nat),Vals xs us->Vals (xs.set i x) (us.set i u)
  | _,_,_,.nil=>.nil
  | _,_,0,.cons _ t=>.cons r t
  | _,_,i + 1,.cons q t=>.cons q (Vals.set r i t)
theorem Vals.append:∀ {xs ys:List V} {us ws:List Value},Vals xs us->Vals ys ws->Vals (xs++ys) (us++ws)
  | _,_,_,_,.nil,s=>s
  | _,_,_,_,.cons r t,s=>.cons r (Vals.append t s)
theorem Vals.take:∀ {xs:List V} {us:List Value} (n:Nat),Vals xs us->Vals (xs.take n) (us.take n)
  | _,_,0,_=>.nil
  | _,_,_ + 1,.nil=>.nil
  | _,_,n + 1,.cons r t=>.cons r (Vals.take n t)
theorem Vals.drop:∀ {xs:List V} {us:List Value} (n:Nat),Vals xs us->Vals (xs.drop n) (us.drop n)
  | _,_,0,r=>r
  | _,_,_ + 1,.nil=>.nil
  | _,_,n + 1,.cons _ t=>Vals.drop n t
noncomputable def RelO:Option V->Option Value->Prop
  | some v,some u=>RelV v u
  | none,none=>True
  | _,_=>False
noncomputable def KV {κ:Type}:List (κ × V)->List (κ × Value)->Prop:=Paired fun (p:κ × V) (q:κ × Value)=>p.1=q.1/\RelV p.2 q.2
noncomputable def kV:Key->V
  | .inl i=>.int i
  | .inr x=>.str x
inductive HO where
  
  | lst (xs:List V)
  
  | tup (xs:List V)
  
  | dK (kvs:List (Key × V)) | dT (kvs:List (List Key × V))
  
  | set (S:Int->Bool) (n:Nat)
  
  | ins (C dx:Addr) (fs:List (Str × V))
  
  | own (x:Addr)
  
  | xd (fs:List (Str × V))
  
  | met (f x:Addr)
  
  | rng (lo hi:Int)
  
  | frz (o:Obj) (u:HO)
  
  | tbl (ps:Array Value)
  
  | ext (φ:Heap->Prop)
noncomputable abbrev Hp:=Addr->Option HO
noncomputable def upd (H:Hp) (a:Addr) (o:HO):Hp:=fun b=>if b=a then some o else H b
theorem upd_same {H:Hp} {a:Addr} {o:HO}:upd H a o a=some o:=by unfold upd; rw [if_pos rfl]
theorem upd_ne {H:Hp} {a b:Addr} {o:HO} (h:b ≠ a):upd H a o b=H b:=by unfold upd; rw [if_neg h]
theorem ne_of_none {H:Hp} {a b:Addr} {o:HO} (h:H a=some o) (h':H b=none):a ≠ b:=by
  intro e; subst e; rw [h] at h'; cases h'
section
variable (P:Program) (w:World)
noncomputable def ObjOk (H:Hp) (h:Heap) (a:Addr):HO->Prop
  | .lst xs=>xs.length<=sizeLine/\∃ (its:List Value) (n:Nat),Vals xs its/\h.get? a=some { cls:=.type "list",data:=.seq its.toArray n }
  | .tup xs=>xs.length<=sizeLine/\∃ its:List Value,Vals xs its/\IsTup h a its.toArray
  | .dK kvs=>kvs.length<=sizeLine/\(a == sysModules)=false/\∃ vs,KV kvs vs/\h.DictOf (mixKind P w) a vs
  | .dT kvs=>kvs.length<=sizeLine/\(a == sysModules)=false/\∃ xs:List (List Key × Addr × Value),
      Paired (fun (p:List Key × V) (q:List Key × Addr × Value)=>p.1=q.1/\H q.2.1=some (.tup (p.1.map kV))/\RelV p.2 q.2.2) kvs xs/\
      ∃ o es ep,h.get? a=some o/\o.ExactDict/\o.data=.dict es ep/\es.toList=xs.map (entryOfKey (tupleKind (mixKind P w)))/\(xs.map (·.1)).Nodup
  | .set S n=>h.SetOf (intKind P w) a S n
  | .ins C dx fs=>H dx=some (.own a)/\fs.length<=1000/\dx ≠ a/\h.get? a=some (PySem.W.instObj C dx)/\
      ∃ mA,h.Ns1 dx mA/\(∀ f,RelO (fs.lookup f) (mA f))/\PySem.Within mA (fs.map (·.1))
  | .own _=>∃ o,h.get? a=some o
  | .xd fs=>∃ mA,h.Ns1 a mA/\∀ f,RelO (fs.lookup f) (mA f)
  | .rng lo hi=>∃ t u v,h.get? a=some { cls:=.type "range",data:=.fields #[.int lo t,.int hi u,.int 1 v] }
  | .frz o u=>h.get? a=some o/\ObjOk H h a u
  | .tbl ps=>h.get? a=some { cls:=.none,data:=.fields ps }
  | .met f x=>h.get? a=some (PySem.W.methodObj (.ref f) (.ref x))
  | .ext φ=>φ h/\(∃ o,h.get? a=some o)/\∀ h1 h2:Heap,φ h1->(∀ o,h1.get? a=some o->h2.get? a=some o)->φ h2
noncomputable def HOk (H:Hp) (h:Heap):Prop:=∀ a o,H a=some o->ObjOk P w H h a o
end
section
variable {P:Program} {w:World} {H H':Hp} {h h':Heap} {a:Addr} {o:HO}
theorem ObjOk.lt (x:ObjOk P w H h a o):a < h.objs.size:=by
  cases o with
  | lst xs=>obtain ⟨_,_,_,_,e⟩:=x; exact Heap.lt_size e
  | tup xs=>obtain ⟨_,_,_,p⟩:=x; exact p.lt
  | dK kvs=>obtain ⟨_,_,_,_,o,_,_,e,_⟩:=x; exact Heap.lt_size e
  | dT kvs=>obtain ⟨_,_,_,_,o,_,_,e,_⟩:=x; exact Heap.lt_size e
  | set S n=>obtain ⟨o,_,_,_,e,_⟩:=x; exact Heap.lt_size e
  | ins C dx fs=>obtain ⟨_,_,_,e,_⟩:=x; exact Heap.lt_size e
  | own y=>obtain ⟨_,e⟩:=x; exact Heap.lt_size e
  | xd fs=>obtain ⟨_,⟨_,_,_,e,_⟩,_⟩:=x; exact Heap.lt_size e
  | rng lo hi=>obtain ⟨_,_,_,e⟩:=x; exact Heap.lt_size e
  | frz ob u=>obtain ⟨e,_⟩:=x; exact Heap.lt_size e
  | tbl ps=>exact Heap.lt_size (show h.get? a=some _ from x)
  | met f y=>exact Heap.lt_size (show h.get? a=some _ from x)
  | ext φ=>obtain ⟨_,⟨_,e⟩,_⟩:=x; exact Heap.lt_size e
theorem Paired.mapP {α β:Type} {F G:α->β->Prop}:∀ {l₁:List α} {l₂:List β},Paired F l₁ l₂->(∀ a b,F a b->G a b)->Paired G l₁ l₂
  | _,_,.nil,_=>.nil
  | _,_,.cons r t,f=>.cons (f _ _ r) (Paired.mapP t f)
theorem ObjOk.stay (x:ObjOk P w H h a o) (k:∀ b u,(b=a\/H b=some (.own a))->h.get? b=some u->h'.get? b=some u)
    (ho:∀ b,H b=some (.own a)->H' b=some (.own a)) (ht:∀ b xs,H b=some (.tup xs)->H' b=some (.tup xs)):ObjOk P w H' h' a o:=by
  induction o with
  | lst xs=>obtain ⟨z,its,n,r,e⟩:=x; exact ⟨z,its,n,r,k _ _ (.inl rfl) e⟩
  | tup xs=>obtain ⟨z,its,r,ob,e,c⟩:=x; exact ⟨z,its,r,ob,k _ _ (.inl rfl) e,c⟩
  | dK kvs=>obtain ⟨z,y,vs,r,ob,es,ep,e,c⟩:=x; exact ⟨z,y,vs,r,ob,es,ep,k _ _ (.inl rfl) e,c⟩
  | dT kvs=>
    obtain ⟨z,y,xs,r,ob,es,ep,e,c⟩:=x
    exact ⟨z,y,xs,Paired.mapP r fun p q z=>⟨z.1,ht _ _ z.2.1,z.2.2⟩,ob,es,ep,k _ _ (.inl rfl) e,c⟩
  | set S n=>obtain ⟨ob,es,ep,t,e,c⟩:=x; exact ⟨ob,es,ep,t,k _ _ (.inl rfl) e,c⟩
  | ins C dx fs=>
    obtain ⟨d,z,ne,e,mA,⟨od,es,ep,e2,c⟩,r⟩:=x
    exact ⟨ho _ d,z,ne,k _ _ (.inl rfl) e,mA,⟨od,es,ep,k _ _ (.inr d) e2,c⟩,r⟩
  | own y=>obtain ⟨ob,e⟩:=x; exact ⟨ob,k _ _ (.inl rfl) e⟩
  | xd fs=>obtain ⟨mA,⟨od,es,ep,e,c⟩,r⟩:=x; exact ⟨mA,⟨od,es,ep,k _ _ (.inl rfl) e,c⟩,r⟩
  | rng lo hi=>obtain ⟨t,u,v,e⟩:=x; exact ⟨t,u,v,k _ _ (.inl rfl) e⟩
  | frz ob u ih=>obtain ⟨e,q⟩:=x; exact ⟨k _ _ (.inl rfl) e,ih q⟩
  | tbl ps=>
    have e:h.get? a=some { cls:=.none,data:=.fields ps }:=x
    show h'.get? a=some { cls:=.none,data:=.fields ps }
    exact k a _ (.inl rfl) e
  | met f y=>
    have e:h.get? a=some (PySem.W.methodObj (.ref f) (.ref y)):=x
    show h'.get? a=some (PySem.W.methodObj (.ref f) (.ref y))
    exact k a _ (.inl rfl) e
  | ext φ=>obtain ⟨p,⟨o,e⟩,st⟩:=x; exact ⟨st _ _ p fun o q=>k _ _ (.inl rfl) q,⟨o,k _ _ (.inl rfl) e⟩,st⟩
theorem HOk.lt (x:HOk P w H h) (e:H a=some o):a < h.objs.size:=(x a o e).lt
theorem HOk.fresh (x:HOk P w H h) (e:h.objs.size<=a):H a=none:=by
  cases q:H a with
  | none=>rfl
  | some u=>exact absurd (Nat.lt_of_lt_of_le (x.lt q) e) (Nat.lt_irrefl _)
theorem HOk.kept (x:HOk P w H h) (k:∀ b u,h.get? b=some u->h'.get? b=some u):HOk P w H h':=fun a o e=>
  (x a o e).stay (fun b u _ q=>k b u q) (fun _ q=>q) fun _ _ q=>q
theorem HOk.laid (x:HOk P w H h) (k:∀ b u,h.get? b=some u->h'.get? b=some u) (hp:h.objs.size<=a) (new:ObjOk P w (upd H a o) h' a o):HOk P w (upd H a o) h':=fun b u e=>by
  have hn:=x.fresh hp
  by_cases hb:b=a
  · subst hb; rw [upd_same] at e; cases e; exact new
  · rw [upd_ne hb] at e
    exact (x b u e).stay (fun c v _ q=>k c v q) (fun c q=>by rw [upd_ne (ne_of_none q hn)]; exact q) fun c xs q=>by rw [upd_ne (ne_of_none q hn)]; exact q
end
noncomputable def Rd (H:Hp) (a:Addr) (u:HO):Prop:=H a=some u\/∃ o,H a=some (.frz o u)
theorem Rd.ok {H:Hp} {h:Heap} {a:Addr} {u:HO} (r:Rd H a u) (x:HOk P w H h):ObjOk P w H h a u:=by
  rcases r with r | ⟨o,r⟩
  · exact x a u r
  · obtain ⟨_,q⟩:=x a _ r
    exact q
noncomputable def Mut:Option HO->Prop
  | some (.lst _)=>True
  | some (.dK _)=>True
  | some (.dT _)=>True
  | some (.set _ _)=>True
  | some (.ins _ _ _)=>True
  | some (.ext _)=>True
  | _=>False
section
variable {P:Program} {w:World} {H:Hp} {h h':Heap} {x e:Addr} {o':HO}
theorem HOk.write (ok:HOk P w H h) (mu:Mut (H x)) (he:e=x\/H e=some (.own x)) (k:∀ b u,b ≠ e->h.get? b=some u->h'.get? b=some u) (heo:∃ u,h'.get? e=some u)
    (new:ObjOk P w (upd H x o') h' x o'):HOk P w (upd H x o') h':=fun b u q=>by
  have nown:∀ c y,H c=some (.own y)->c ≠ x:=fun c y r z=>by subst z; rw [r] at mu; exact mu
  have ntup:∀ c xs,H c=some (.tup xs)->c ≠ x:=fun c xs r z=>by subst z; rw [r] at mu; exact mu
  by_cases hb:b=x
  · subst hb; rw [upd_same] at q; cases q; exact new
  · rw [upd_ne hb] at q
    by_cases hbe:b=e
    · have q':H b=some (.own x):=by
        rcases he with z | z
        · exact absurd (hbe.trans z) hb
        · rw [hbe]; exact z
      rw [q] at q'; cases q'
      obtain ⟨v,hv⟩:=heo
      exact ⟨v,by rw [hbe]; exact hv⟩
    · refine (ok b u q).stay (fun c v hc r=>k c v ?_ r) (fun c r=>by rw [upd_ne (nown c b r)]; exact r) fun c xs r=>by rw [upd_ne (ntup c xs r)]; exact r
      rcases hc with rfl | hc
      · exact hbe
      · rintro rfl
        rcases he with z | z
        · exact nown c b hc z
        · rw [hc] at z; cases z; exact hb rfl
end
structure Un (fs ex:List Addr) (H H':Hp) (h h':Heap):Prop where
  keep:∀ b o,h.get? b=some o->H b=none->b ∉ fs->b ∉ ex->h'.get? b=some o
  slot:∀ b o,h.get? b=some o->H b=none->b ∈ fs->b ∉ ex->∃ sl,h'.get? b=some { o with slots:=sl }
  free:∀ b o,h.get? b=some o->H b=none->b ∉ ex->H' b=none
  there:∀ b o,h.get? b=some o->b ∉ ex->∃ o',h'.get? b=some o'
  tups:∀ b xs,H b=some (.tup xs)->H' b=some (.tup xs)
  frzs:∀ b o u,H b=some (.frz o u)->H' b=some (.frz o u)
  tbls:∀ b ps,H b=some (.tbl ps)->∃ more,H' b=some (.tbl (ps++more))
section
variable {fs fs' ex ex':List Addr} {H H1 H2:Hp} {h h1 h2 h':Heap} {a x e:Addr} {o:HO}
theorem Un.any (u:Un fs ex H H1 h h1) {b:Addr} {ob:Obj} (q:h.get? b=some ob) (n:H b=none) (hx:b ∉ ex):∃ sl,h1.get? b=some { ob with slots:=sl }:=by
  by_cases hb:b ∈ fs
  · exact u.slot b ob q n hb hx
  · exact ⟨ob.slots,u.keep b ob q n hb hx⟩
theorem Un.kept (k:∀ b u,h.get? b=some u->h'.get? b=some u):Un fs ex H H h h':=
  ⟨fun b ob q _ _ _=>k b ob q,fun b ob q _ _ _=>⟨ob.slots,k b ob q⟩,fun _ _ _ n _=>n,fun b ob q _=>⟨ob,k b ob q⟩,fun _ _ q=>q,fun _ _ _ q=>q,fun _ ps q=>⟨#[],by rw [q]; simp⟩⟩
theorem Un.refl:Un fs ex H H h h:=Un.kept fun _ _ q=>q
theorem Un.laid (k:∀ b u,h.get? b=some u->h'.get? b=some u) (hp:h.objs.size<=a) (hn:H a=none):Un fs ex H (upd H a o) h h' where
  keep:=fun b u q _ _ _=>k b u q
  slot:=fun b u q _ _ _=>⟨u.slots,k b u q⟩
  free:=fun b u q n _=>by rw [upd_ne (Nat.ne_of_lt (Nat.lt_of_lt_of_le (Heap.lt_size q) hp))]; exact n
  there:=fun b u q _=>⟨u,k b u q⟩
  tups:=fun b xs q=>by rw [upd_ne (ne_of_none q hn)]; exact q
  frzs:=fun b u xs q=>by rw [upd_ne (ne_of_none q hn)]; exact q
  tbls:=fun b ps q=>⟨#[],by rw [upd_ne (ne_of_none q hn),q]; simp⟩
theorem Un.write (mu:Mut (H x)) (he:e=x\/H e=some (.own x)) (k:∀ b u,b ≠ e->h.get? b=some u->h'.get? b=some u) (heo:∃ u,h'.get? e=some u):Un fs ex H (upd H x o) h h':=by
  have hx:∀ b,H b=none->b ≠ x:=fun b n z=>by subst z; rw [n] at mu; exact mu
  have hb:∀ b,H b=none->b ≠ e:=fun b n z=>by
    subst z
    rcases he with r | r
    · exact hx b n r
    · rw [n] at r; cases r
  have hm:∀ b u,H b=some u->¬ Mut (some u)->b ≠ x:=fun b u q nm z=>by subst z; rw [q] at mu; exact nm mu
  refine ⟨fun b u q n _ _=>k b u (hb b n) q,fun b u q n _ _=>⟨u.slots,k b u (hb b n) q⟩,fun b u q n _=>by rw [upd_ne (hx b n)]; exact n,fun b u q _=>?_,
    fun b xs q=>by rw [upd_ne (hm b _ q fun z=>z)]; exact q,fun b u xs q=>by rw [upd_ne (hm b _ q fun z=>z)]; exact q,fun b ps q=>⟨#[],by rw [upd_ne (hm b _ q fun z=>z),q]; simp⟩⟩
  by_cases hbe:b=e
  · subst hbe; exact heo
  · exact ⟨u,k b u hbe q⟩
end
noncomputable def trk (h:Heap) (H:Hp):List Addr:=(List.range h.objs.size).filter fun a=>(H a).isSome
noncomputable def hidT (h:Heap) (H:Hp):Heap:=PySem.W.hideAll h (trk h H)
theorem hidT_size (h:Heap) (H:Hp):(hidT h H).objs.size=h.objs.size:=PySem.W.hideAll_size _ _
theorem hidT_get {h:Heap} {H:Hp} {b:Addr} {o:Obj} (e:h.get? b=some o) (n:H b=none):(hidT h H).get? b=some o:=
  PySem.W.hideAll_get _ e fun hm=>by
    have q:(H b).isSome=true:=(List.mem_filter.mp hm).2
    rw [n] at q; simp at q
theorem of_hidT {h:Heap} {H:Hp} {b:Addr} {o:Obj} (e:(hidT h H).get? b=some o):h.get? b=some o/\H b=none:=by
  have e':h.get? b=some o:=PySem.W.of_hideAll (trk h H) e
  refine ⟨e',?_⟩
  cases q:H b with
  | none=>rfl
  | some x=>
    have hm:b ∈ trk h H:=List.mem_filter.mpr ⟨List.mem_range.mpr (Heap.lt_size e'),by simp [q]⟩
    have z:(hidT h H).get? b=none:=PySem.W.hideAll_none (trk h H) hm
    rw [z] at e; cases e
noncomputable def allNews (g h:Heap) (L:Addr):List (Addr × Obj):=(List.range h.objs.size).filterMap fun a=>if a=L\/(g.get? a).isSome=true then none else (h.get? a).map fun o=>(a,o)
noncomputable def rest (g h:Heap) (L d:Addr):List (Addr × Obj):=(allNews g h L).filter fun p=>decide (p.1 ≠ d)
structure Mod (K:FG) (mg:Str->Option Value) (base:Heap):Prop where
  kin:K.In base
  glob:base.Ns mainGlobals mg
  blt:∃ mb,base.Ns builtinsNs mb/\∀ x:Str,x ≠ "__name__" -> mb x=bootBuiltins x
  nolimit:base.NoLimit
structure Cx where
  prog:Program
  w:World
  K:FG
  mg:Str->Option Value
  base:Heap
  A:Around
  N:List Str
  s₀:Shared
  H0:Hp
  env:Env
  outer:List Env
  stack:List Env
  ex:List Addr
  fn:Str->Bool
  calm:Bool
  pn:List (Addr × Obj)
  xe:Value->Shared->Prop
noncomputable def frs (l:List Env):List Addr:=l.filterMap (·.frame)
noncomputable abbrev Cx.fs (X:Cx):List Addr:=frs X.outer
noncomputable def Vis (sc:Scope) (x:Str):Prop:=sc.names.lookup x=some .local\/sc.names.lookup x=some .cell\/sc.names.lookup x=some .free
noncomputable def Loc (sc:Scope) (x:Str):Prop:=sc.names.lookup x=some .local\/sc.names.lookup x=some .cell
noncomputable def Look (env:Env) (h:Heap) (m:Str->Option Value) (x:Str) (u:Value):Prop:=
  (env.kindOf x=some .local/\m x=some u)\/((env.kindOf x=some .cell\/env.kindOf x=some .free)/\∃ c,env.cells.lookup x=some c/\h.IsCell c (some u))
structure Cx.Ok (X:Cx):Prop where
  mod:Mod X.K X.mg X.base
  kind:X.env.scope.kind=.function
  glob:X.env.globals=mainGlobals
  blt:X.env.builtins=builtinsNs
  above:X.s₀.heap.objs.size<=X.env.locals
  inj:∀ x y c,X.env.cells.lookup x=some c->X.env.cells.lookup y=some c->x=y
  has:∀ x,(X.env.kindOf x=some .cell\/X.env.kindOf x=some .free)->∃ c,X.env.cells.lookup x=some c
  cab:∀ x c,X.fn x=true->X.env.cells.lookup x=some c->X.s₀.heap.objs.size<=c
  hd:X.calm=true->X.A.handled=none
  frames:X.A.frames=some X.stack
  stk:X.stack=X.outer\/(X.stack=X.env::X.outer/\X.env.frame=some X.env.locals)
  exf:∀ b ∈ X.ex,b ≠ X.env.locals/\∀ x c,X.env.cells.lookup x=some c->c ≠ b
  bs:∀ b o,X.base.get? b=some o->X.s₀.heap.get? b=some o/\X.H0 b=none
  bsz:X.base.objs.size<=X.s₀.heap.objs.size
  noex:∀ b o,X.base.get? b=some o->b ∉ X.ex
  exfs:∀ b ∈ X.ex,b ∉ X.fs
  funs:X.s₀.heap.FunFrames X.base X.outer
  frf:∀ b ∈ X.fs,X.H0 b=none
structure Inv (X:Cx) (pins:List (Addr × Obj)) (σ:List (Option V)) (H:Hp) (s:Shared):Prop where
  ok:X.Ok
  os:s.os=X.s₀.os
  bare:AllBare s.gens
  base:Un X.fs X.ex X.H0 H X.s₀.heap s.heap
  loc:∃ m,s.heap.Ns X.env.locals m/\∀ (i:Nat) (x:Str) (v:V),X.N[i]?=some x->σ[i]?=some (some v)->Vis X.env.scope x->∃ u,RelV v u/\Look X.env s.heap m x u
  cell:∀ x c,X.env.cells.lookup x=some c->∃ v,s.heap.IsCell c v
  free:H X.env.locals=none
  freeC:∀ x c,X.env.cells.lookup x=some c->H c=none
  pin:∀ p ∈ X.pn++pins,s.heap.get? p.1=some p.2/\H p.1=none/\p.1 ≠ X.env.locals/\p.1 ∉ X.fs/\∀ v,p.2.data ≠ .cell v
  hok:HOk X.prog X.w H s.heap
  len:σ.length=X.N.length
section
variable {X:Cx} {pins:List (Addr × Obj)} {σ:List (Option V)} {H H':Hp} {s:Shared} {h':Heap}
theorem Cx.Ok.nofr (ok:X.Ok) {b:Addr} {o:Obj} (e:X.base.get? b=some o):b ∉ X.fs:=fun hb=>by
  have:=(ok.funs.mem hb).1
  rw [e] at this; cases this
theorem Inv.bs (I:Inv X pins σ H s):∀ b o,X.base.get? b=some o->s.heap.get? b=some o/\H b=none:=fun b o e=>
  ⟨I.base.keep b o (I.ok.bs b o e).1 (I.ok.bs b o e).2 (I.ok.nofr e) (I.ok.noex b o e),I.base.free b o (I.ok.bs b o e).1 (I.ok.bs b o e).2 (I.ok.noex b o e)⟩
theorem Inv.bk (I:Inv X pins σ H s):∀ b o,X.base.get? b=some o->s.heap.get? b=some o:=fun b o e=>(I.bs b o e).1
theorem Inv.mod (I:Inv X pins σ H s):Mod X.K X.mg X.base:=I.ok.mod
theorem Inv.kIn (I:Inv X pins σ H s):X.K.In s.heap:=I.ok.mod.kin.keeps I.bk
theorem Inv.lt (I:Inv X pins σ H s):X.env.locals < s.heap.objs.size:=let ⟨_,hn,_⟩:=I.loc; hn.lt
theorem Inv.sz (I:Inv X pins σ H s):X.s₀.heap.objs.size<=s.heap.objs.size:=Nat.le_trans I.ok.above (Nat.le_of_lt I.lt)
theorem Inv.nofs (I:Inv X pins σ H s) {a:Addr} (h:s.heap.objs.size<=a):a ∉ X.fs:=fun hb=>by
  obtain ⟨_,o,ho,_⟩:=I.ok.funs.mem hb
  exact absurd (Nat.lt_of_lt_of_le (Heap.lt_size ho) (Nat.le_trans I.sz h)) (Nat.lt_irrefl _)
theorem Inv.cne (I:Inv X pins σ H s):∀ x c,X.env.cells.lookup x=some c->c ≠ X.env.locals:=fun x c e z=>by
  obtain ⟨v,o,ho,hd⟩:=I.cell x c e
  obtain ⟨m,⟨o',es,ep,ho',hd',_⟩,_⟩:=I.loc
  rw [z,ho'] at ho; cases ho; rw [hd'] at hd; cases hd
theorem Inv.funs (I:Inv X pins σ H s):s.heap.FunFrames X.base X.outer:=by
  have all:∀ (l:List Env),(∀ b ∈ frs l,b ∈ X.fs)->X.s₀.heap.FunFrames X.base l->s.heap.FunFrames X.base l:=by
    intro l
    induction l with
    | nil=>intro _ _; trivial
    | cons env r ih=>
      intro hs hl
      obtain ⟨hk,⟨L,o,hf,hn,ho,hd⟩,hr⟩:=hl
      have hL:L ∈ X.fs:=hs L (by unfold frs; rw [List.filterMap_cons,hf]; exact List.mem_cons_self)
      obtain ⟨sl,e⟩:=I.base.slot L o ho (I.ok.frf L hL) hL fun z=>I.ok.exfs L z hL
      exact ⟨hk,⟨L,_,hf,hn,e,hd⟩,ih (fun b hb=>hs b (by unfold frs; rw [List.filterMap_cons,hf]; exact List.mem_cons_of_mem _ hb)) hr⟩
  exact all X.outer (fun _ hb=>hb) I.ok.funs
theorem Inv.stack (I:Inv X pins σ H s):s.heap.FunFrames X.base X.stack:=by
  rcases I.ok.stk with e | ⟨e,hf⟩
  · rw [e]; exact I.funs
  · rw [e]
    obtain ⟨m,hn,_⟩:=I.loc
    refine .cons (by rw [I.ok.kind]; decide) hf hn ?_ I.funs
    exact Heap.get?_none_of_le (Nat.le_trans I.ok.bsz I.ok.above)
theorem Inv.stkSub (I:Inv X pins σ H s):∀ b ∈ frs X.stack,b ∈ X.env.locals::X.fs:=fun b hb=>by
  rcases I.ok.stk with e | ⟨e,hf⟩
  · rw [e] at hb; exact List.mem_cons_of_mem _ hb
  · rw [e] at hb
    unfold frs at hb
    rw [List.filterMap_cons,hf] at hb
    exact hb
theorem Inv.stkFree (I:Inv X pins σ H s):∀ b ∈ frs X.stack,H b=none:=fun b hb=>by
  rcases List.mem_cons.mp (I.stkSub b hb) with e | hb
  · rw [e]; exact I.free
  · obtain ⟨_,o,ho,_⟩:=I.ok.funs.mem hb
    exact I.base.free b o ho (I.ok.frf b hb) fun z=>I.ok.exfs b z hb
theorem Inv.step {g':Array GenState} {t':Nat} {d':Drawn} {ch:List Addr} (I:Inv X pins σ H s)
    (hch:∀ b ∈ ch,(b ∈ X.ex\/X.s₀.heap.objs.size<=b)/\b ≠ X.env.locals/\(∀ x c,X.env.cells.lookup x=some c->c ≠ b)/\∀ p ∈ X.pn++pins,p.1 ≠ b)
    (keep:∀ b o,b ≠ X.env.locals->b ∉ X.fs->b ∉ ch->s.heap.get? b=some o->H b=none->h'.get? b=some o)
    (slot:∀ b o,b ≠ X.env.locals->b ∈ X.fs->b ∉ ch->s.heap.get? b=some o->H b=none->∃ sl,h'.get? b=some { o with slots:=sl }) (free:∀ b o,b ∉ ch->s.heap.get? b=some o->H b=none->H' b=none)
    (there:∀ b o,b ∉ ch->s.heap.get? b=some o->∃ o',h'.get? b=some o')
    (tups:∀ b xs,H b=some (.tup xs)->H' b=some (.tup xs)) (frzs:∀ b o u,H b=some (.frz o u)->H' b=some (.frz o u)) (tbls:∀ b ps,H b=some (.tbl ps)->∃ more,H' b=some (.tbl (ps++more)))
    (ns:∀ m,s.heap.Ns X.env.locals m->h'.Ns X.env.locals m) (hok:HOk X.prog X.w H' h') (hg:AllBare g'):
    Inv X pins σ H' { s with heap:=h',gens:=g',drawn:=d',toks:=t' }:=by
  have neL:∀ b o,X.s₀.heap.get? b=some o->b ≠ X.env.locals:=fun b o e=>Nat.ne_of_lt (Nat.lt_of_lt_of_le (Heap.lt_size e) I.ok.above)
  have neC:∀ b o,X.s₀.heap.get? b=some o->b ∉ X.ex->b ∉ ch:=fun b o e hx hb=>by
    rcases (hch b hb).1 with z | z
    · exact hx z
    · exact absurd (Nat.lt_of_lt_of_le (Heap.lt_size e) z) (Nat.lt_irrefl _)
  have cellK:∀ x c,X.env.cells.lookup x=some c->∀ v,s.heap.IsCell c v->h'.IsCell c v:=fun x c e v ⟨o,ho,hd⟩=>by
    have nch:c ∉ ch:=fun z=>(hch c z).2.2.1 x c e rfl
    by_cases hc:c ∈ X.fs
    · obtain ⟨sl,q⟩:=slot c o (I.cne x c e) hc nch ho (I.freeC x c e)
      exact ⟨_,q,hd⟩
    · exact ⟨o,keep c o (I.cne x c e) hc nch ho (I.freeC x c e),hd⟩
  refine ⟨I.ok,I.os,hg,⟨fun b o e n hb hx=>?_,fun b o e n hb hx=>?_,fun b o e n hx=>?_,fun b o e hx=>?_,fun b xs e=>tups b xs (I.base.tups b xs e),fun b o xs e=>frzs b o xs (I.base.frzs b o xs e),fun b ps e=>?_⟩,?_,fun x c e=>?_,?_,fun x c e=>?_,fun p hp=>?_,hok,I.len⟩
  · exact keep b o (neL b o e) hb (neC b o e hx) (I.base.keep b o e n hb hx) (I.base.free b o e n hx)
  · obtain ⟨sl,e1⟩:=I.base.slot b o e n hb hx
    obtain ⟨sl',e2⟩:=slot b _ (neL b o e) hb (neC b o e hx) e1 (I.base.free b o e n hx)
    exact ⟨sl',e2⟩
  · obtain ⟨o',e1⟩:=I.base.there b o e hx
    exact free b o' (neC b o e hx) e1 (I.base.free b o e n hx)
  · obtain ⟨o',e1⟩:=I.base.there b o e hx
    exact there b o' (neC b o e hx) e1
  · obtain ⟨m1,e1⟩:=I.base.tbls b ps e
    obtain ⟨m2,e2⟩:=tbls b _ e1
    exact ⟨m1++m2,by rw [e2,Array.append_assoc]⟩
  · obtain ⟨m,hn,hl⟩:=I.loc
    refine ⟨m,ns m hn,fun i x v e1 e2 e3=>?_⟩
    obtain ⟨u,r,l⟩:=hl i x v e1 e2 e3
    refine ⟨u,r,?_⟩
    rcases l with l | ⟨k,c,e,z⟩
    · exact .inl l
    · exact .inr ⟨k,c,e,cellK x c e _ z⟩
  · obtain ⟨v,z⟩:=I.cell x c e
    exact ⟨v,cellK x c e v z⟩
  · obtain ⟨m,⟨o,_,_,ho,_⟩,_⟩:=I.loc
    exact free _ o (fun z=>(hch _ z).2.1 rfl) ho I.free
  · obtain ⟨v,o,ho,hd⟩:=I.cell x c e
    exact free c o (fun z=>(hch c z).2.2.1 x c e rfl) ho (I.freeC x c e)
  · obtain ⟨e,n,ne,nf,d⟩:=I.pin p hp
    have nch:p.1 ∉ ch:=fun z=>(hch p.1 z).2.2.2 p hp rfl
    exact ⟨keep p.1 p.2 ne nf nch e n,free p.1 p.2 nch e n,ne,nf,d⟩
theorem Inv.un {t':Nat} (I:Inv X pins σ H s) (u:Un X.fs [] H H' s.heap h') (hok:HOk X.prog X.w H' h'):Inv X pins σ H' { s with heap:=h',toks:=t' }:=by
  obtain ⟨m,⟨o,es,ep,ho,r⟩,_⟩:=id I.loc
  obtain ⟨sl,hL⟩:=u.any ho I.free (by simp)
  exact I.step (g':=s.gens) (d':=s.drawn) (ch:=[]) (fun _ z=>nomatch z) (fun b o _ hb _ e n=>u.keep b o e n hb (by simp)) (fun b o _ hb _ e n=>u.slot b o e n hb (by simp)) (fun b o _ e n=>u.free b o e n (by simp)) (fun b o _ e=>u.there b o e (by simp)) u.tups u.frzs u.tbls (fun m' hm=>by
    obtain ⟨o',es',ep',ho',r'⟩:=hm
    rw [ho] at ho'; cases ho'
    exact ⟨_,es',ep',hL,r'⟩) hok I.bare
theorem Inv.call {g':Array GenState} {t':Nat} {d':Drawn} {ch:List Addr} (I:Inv X pins σ H s) (u:Un (frs X.stack) ch H H' s.heap h') (hok:HOk X.prog X.w H' h') (hg:AllBare g')
    (hch:∀ b ∈ ch,(b ∈ X.ex\/X.s₀.heap.objs.size<=b)/\b ≠ X.env.locals/\(∀ x c,X.env.cells.lookup x=some c->c ≠ b)/\∀ p ∈ X.pn++pins,p.1 ≠ b):
    Inv X pins σ H' { s with heap:=h',gens:=g',drawn:=d',toks:=t' }:=by
  obtain ⟨m,⟨o,es,ep,ho,r⟩,_⟩:=id I.loc
  obtain ⟨sl,hL⟩:=u.any ho I.free fun z=>(hch _ z).2.1 rfl
  exact I.step (ch:=ch) hch (fun b o hL hb hc e n=>u.keep b o e n (fun z=>(List.mem_cons.mp (I.stkSub b z)).elim hL hb) hc) (fun b o _ _ hc e n=>u.any e n hc) (fun b o hc e n=>u.free b o e n hc) (fun b o hc e=>u.there b o e hc) u.tups u.frzs u.tbls (fun m' hm=>by
    obtain ⟨o',es',ep',ho',r'⟩:=hm
    rw [ho] at ho'; cases ho'
    exact ⟨_,es',ep',hL,r'⟩) hok hg
theorem Inv.turned {t':Nat} {it:Addr} (I:Inv X pins σ H s) (k:∀ b o,b ≠ it->s.heap.get? b=some o->h'.get? b=some o) (hn:H it=none) (hL:it ≠ X.env.locals)
    (h1:it ∈ X.ex\/X.s₀.heap.objs.size<=it) (h2:∀ x c,X.env.cells.lookup x=some c->c ≠ it) (h3:∀ p ∈ X.pn++pins,p.1 ≠ it):Inv X pins σ H { s with heap:=h',toks:=t' }:=by
  have nit:∀ b u,H b=some u->b ≠ it:=fun b u e z=>by rw [z,hn] at e; cases e
  refine I.step (g':=s.gens) (d':=s.drawn) (ch:=[it]) (fun b hb=>?_) (fun b o _ _ hc e _=>k b o (fun z=>hc (by simp [z])) e) (fun b o _ _ hc e _=>⟨o.slots,k b o (fun z=>hc (by simp [z])) e⟩) (fun _ _ _ _ n=>n)
    (fun b o hc e=>⟨o,k b o (fun z=>hc (by simp [z])) e⟩) (fun _ _ e=>e) (fun _ _ _ e=>e) (fun b ps e=>⟨#[],by rw [e]; simp⟩) (fun m hm=>?_) (fun b u e=>?_) I.bare
  · have e:b=it:=by simpa using hb
    subst e
    exact ⟨h1,hL,h2,h3⟩
  · obtain ⟨o,es,ep,ho,r⟩:=hm
    exact ⟨o,es,ep,k _ o (Ne.symm hL) ho,r⟩
  · refine (I.hok b u e).stay (fun c v hc q=>k c v ?_ q) (fun _ q=>q) fun _ _ q=>q
    rcases hc with z | z
    · rw [z]; exact nit b u e
    · exact nit c _ z
theorem Inv.tok (I:Inv X pins σ H s) (t:Nat):Inv X pins σ H { s with toks:=t }:=I.un (h':=s.heap) (t':=t) Un.refl I.hok
theorem Inv.kept {t':Nat} (I:Inv X pins σ H s) (k:∀ b u,s.heap.get? b=some u->h'.get? b=some u):Inv X pins σ H { s with heap:=h',toks:=t' }:=I.un (Un.kept k) (I.hok.kept k)
theorem Inv.laid {a:Addr} {o:HO} {t':Nat} (I:Inv X pins σ H s) (k:∀ b u,s.heap.get? b=some u->h'.get? b=some u) (hp:s.heap.objs.size<=a) (new:ObjOk X.prog X.w (upd H a o) h' a o):
    Inv X pins σ (upd H a o) { s with heap:=h',toks:=t' }:=I.un (Un.laid k hp (I.hok.fresh hp)) (I.hok.laid k hp new)
theorem Inv.write {x e:Addr} {o:HO} {t':Nat} (I:Inv X pins σ H s) (mu:Mut (H x)) (he:e=x\/H e=some (.own x)) (k:∀ b u,b ≠ e->s.heap.get? b=some u->h'.get? b=some u) (heo:∃ u,h'.get? e=some u)
    (new:ObjOk X.prog X.w (upd H x o) h' x o):Inv X pins σ (upd H x o) { s with heap:=h',toks:=t' }:=I.un (Un.write mu he k heo) (I.hok.write mu he k heo new)
theorem Inv.pins_of {pins':List (Addr × Obj)} (I:Inv X pins σ H s) (h:∀ p ∈ pins',s.heap.get? p.1=some p.2/\H p.1=none/\p.1 ≠ X.env.locals/\p.1 ∉ X.fs/\∀ v,p.2.data ≠ .cell v):Inv X pins' σ H s:=
  ⟨I.ok,I.os,I.bare,I.base,I.loc,I.cell,I.free,I.freeC,fun p hp=>(List.mem_append.mp hp).elim (fun z=>I.pin p (List.mem_append_left _ z)) (h p),I.hok,I.len⟩
theorem nodup_ix {N:List Str} (hN:N.Nodup) {i j:Nat} {x:Str} (a:N[i]?=some x) (b:N[j]?=some x):i=j:=by
  obtain ⟨h1,e1⟩:=List.getElem?_eq_some_iff.mp a
  obtain ⟨h2,e2⟩:=List.getElem?_eq_some_iff.mp b
  exact (List.getElem_inj hN).mp (e1.trans e2.symm)
theorem store_ok2 {M:Model} {i:Nat} {x:Str} {v:V} {u:Value} {Q:Unit->Shared->Prop} (I:Inv X pins σ H s) (hN:X.N.Nodup) (hi:X.N[i]?=some x) (hx:Loc X.env.scope x) (r:RelV v u)
    (h:∀ s',Inv X pins (σ.set i (some v)) H s'->(∃ a,Heap.SameBut a s.heap s'.heap/\(a=X.env.locals\/X.env.cells.lookup x=some a))->Q () s') (hf:X.fn x=true\/X.env.scope.names.lookup x=some .local:=by first | exact .inl rfl | exact .inr rfl | assumption):wpAny M A (storeName X.env x u) Q E s:=by
  obtain ⟨m,hn,hl⟩:=id I.loc
  have hcls:(X.env.scope.kind == .class || (X.env.scope.kind == .module && X.env.locals != X.env.globals))=false:=by rw [I.ok.kind]; rfl
  have hiσ:i < σ.length:=by rw [I.len]; exact (List.getElem?_eq_some_iff.mp hi).1
  have cne:=I.cne
  have tracked:∀ {a:Addr} {h':Heap},(∃ o,s.heap.get? a=some o/\H a=none)->Heap.SameBut a s.heap h'->HOk X.prog X.w H h':=fun {a h'} ha hs b ob e=>by
    obtain ⟨_,_,hfree⟩:=ha
    refine (I.hok b ob e).stay (fun c w' hc q=>(hs.2 c ?_).trans q) (fun _ q=>q) fun _ _ q=>q
    rintro rfl
    rcases hc with rfl | hc
    · rw [hfree] at e; cases e
    · rw [hfree] at hc; cases hc
  rcases hx with hk | hk
  · refine wpAny_storeName_local hk hn (fun h' hn' hs=>?_) hcls
    obtain ⟨oL,_,_,hoL,_⟩:=id hn
    refine h _ ⟨I.ok,I.os,I.bare,⟨fun b o e n hb hx=>?_,fun b o e n hb hx=>?_,I.base.free,fun b o e hx=>?_,I.base.tups,I.base.frzs,I.base.tbls⟩,⟨_,hn',fun j y v' e1 e2 e3=>?_⟩,fun y c e=>?_,I.free,I.freeC,fun p hp=>?_,tracked ⟨oL,hoL,I.free⟩ hs,by simpa using I.len⟩ ⟨_,hs,.inl rfl⟩
    · exact (hs.2 b (Nat.ne_of_lt (Nat.lt_of_lt_of_le (Heap.lt_size e) I.ok.above))).trans (I.base.keep b o e n hb hx)
    · obtain ⟨sl,e1⟩:=I.base.slot b o e n hb hx
      exact ⟨sl,(hs.2 b (Nat.ne_of_lt (Nat.lt_of_lt_of_le (Heap.lt_size e) I.ok.above))).trans e1⟩
    · obtain ⟨o',e1⟩:=I.base.there b o e hx
      exact ⟨o',(hs.2 b (Nat.ne_of_lt (Nat.lt_of_lt_of_le (Heap.lt_size e) I.ok.above))).trans e1⟩
    · by_cases hj:j=i
      · subst hj
        rw [hi] at e1; cases e1
        rw [List.getElem?_set_self hiσ] at e2
        cases e2
        exact ⟨u,r,.inl ⟨hk,by simp⟩⟩
      · rw [List.getElem?_set_ne (Ne.symm hj)] at e2
        obtain ⟨u',r',q⟩:=hl j y v' e1 e2 e3
        refine ⟨u',r',?_⟩
        rcases q with ⟨k,e⟩ | ⟨k,c,e,z⟩
        · refine .inl ⟨k,?_⟩
          have:y ≠ x:=fun e=>hj (nodup_ix hN e1 (e ▸ hi))
          simp [this,e]
        · exact .inr ⟨k,c,e,z.sameBut hs (cne y c e)⟩
    · obtain ⟨w',z⟩:=I.cell y c e
      exact ⟨w',z.sameBut hs (cne y c e)⟩
    · obtain ⟨e,n,ne,nf,d⟩:=I.pin p hp
      exact ⟨(hs.2 p.1 ne).trans e,n,ne,nf,d⟩
  · have hfn:X.fn x=true:=by
      rcases hf with z | z
      · exact z
      · rw [z] at hk; cases hk
    obtain ⟨c,hc⟩:=I.ok.has x (.inl hk)
    obtain ⟨w',z⟩:=I.cell x c hc
    refine wpAny_storeName_cell I.ok.kind hk hc z (fun h' hc' hs=>?_)
    obtain ⟨oc,hoc,hocd⟩:=id z
    refine h { s with heap:=h' } ⟨I.ok,I.os,I.bare,⟨fun b o e n hb hx=>?_,fun b o e n hb hx=>?_,I.base.free,fun b o e hx=>?_,I.base.tups,I.base.frzs,I.base.tbls⟩,⟨m,hn.sameBut hs (Ne.symm (cne x c hc)),fun j y v' e1 e2 e3=>?_⟩,fun y c' e=>?_,I.free,I.freeC,fun p hp=>?_,tracked ⟨oc,hoc,I.freeC x c hc⟩ hs,by simpa using I.len⟩ ⟨c,hs,.inr hc⟩
    · exact (hs.2 b (Nat.ne_of_lt (Nat.lt_of_lt_of_le (Heap.lt_size e) (I.ok.cab x c hfn hc)))).trans (I.base.keep b o e n hb hx)
    · obtain ⟨sl,e1⟩:=I.base.slot b o e n hb hx
      exact ⟨sl,(hs.2 b (Nat.ne_of_lt (Nat.lt_of_lt_of_le (Heap.lt_size e) (I.ok.cab x c hfn hc)))).trans e1⟩
    · obtain ⟨o',e1⟩:=I.base.there b o e hx
      exact ⟨o',(hs.2 b (Nat.ne_of_lt (Nat.lt_of_lt_of_le (Heap.lt_size e) (I.ok.cab x c hfn hc)))).trans e1⟩
    · by_cases hj:j=i
      · subst hj
        rw [hi] at e1; cases e1
        rw [List.getElem?_set_self hiσ] at e2
        cases e2
        exact ⟨u,r,.inr ⟨.inl hk,c,hc,hc'⟩⟩
      · rw [List.getElem?_set_ne (Ne.symm hj)] at e2
        obtain ⟨u',r',q⟩:=hl j y v' e1 e2 e3
        refine ⟨u',r',?_⟩
        rcases q with q | ⟨k,c',e,z'⟩
        · exact .inl q
        · refine .inr ⟨k,c',e,z'.sameBut hs ?_⟩
          rintro rfl
          exact hj (nodup_ix hN e1 (I.ok.inj _ _ _ e hc ▸ hi))
    · by_cases hcc:c'=c
      · subst hcc; exact ⟨_,hc'⟩
      · obtain ⟨w2,z2⟩:=I.cell y c' e
        exact ⟨w2,z2.sameBut hs hcc⟩
    · obtain ⟨e,n,ne,nf,d⟩:=I.pin p hp
      refine ⟨(hs.2 p.1 ?_).trans e,n,ne,nf,d⟩
      intro q
      rw [q,hoc] at e
      have q':oc=p.2:=Option.some.inj e
      exact d w' (by rw [← q']; exact hocd)
theorem store_ok {M:Model} {i:Nat} {x:Str} {v:V} {u:Value} {Q:Unit->Shared->Prop} (I:Inv X pins σ H s) (hN:X.N.Nodup) (hi:X.N[i]?=some x) (hx:Loc X.env.scope x) (r:RelV v u)
    (h:∀ s',Inv X pins (σ.set i (some v)) H s'->Q () s') (hf:X.fn x=true\/X.env.scope.names.lookup x=some .local:=by first | exact .inl rfl | exact .inr rfl | assumption):wpAny M A (storeName X.env x u) Q E s:=
  store_ok2 I hN hi hx r (fun s' I' _=>h s' I') hf
theorem Inv.call' {s':Shared} {ch:List Addr} (I:Inv X pins σ H s) (ho:s'.os=s.os) (u:Un (frs X.stack) ch H H' s.heap s'.heap) (hok:HOk X.prog X.w H' s'.heap) (hg:AllBare s'.gens)
    (hch:∀ b ∈ ch,(b ∈ X.ex\/X.s₀.heap.objs.size<=b)/\b ≠ X.env.locals/\(∀ x c,X.env.cells.lookup x=some c->c ≠ b)/\∀ p ∈ X.pn++pins,p.1 ≠ b):Inv X pins σ H' s':=by
  obtain ⟨h',g',d',t',o'⟩:=s'
  have e:o'=s.os:=ho
  subst e
  exact I.call (g':=g') (t':=t') (d':=d') u hok hg hch
end
noncomputable abbrev XK:=Value->Option Addr->Hp->Prop
noncomputable abbrev St:=List (Option V)
noncomputable abbrev VK:=V->Hp->Prop
noncomputable abbrev TE:=St->Hp->VK->Prop
noncomputable abbrev TT:=St->Hp->(Bool->Hp->Prop)->Prop
noncomputable abbrev TA:=St->Hp->(List V->Hp->Prop)->Prop
structure Ends where
  nx:St->Hp->Prop
  rt:VK
  bk:St->Hp->Prop:=fun _ _=>False
  ct:St->Hp->Prop:=fun _ _=>False
noncomputable abbrev TS:=Ends->St->Hp->Prop
noncomputable def EP (X:Cx) (pins:List (Addr × Obj)) (σ:St) (Q:VK) (u:Value) (s':Shared):Prop:=∃ v H',Inv X pins σ H' s'/\RelV v u/\Q v H'
noncomputable def TP (X:Cx) (pins:List (Addr × Obj)) (σ:St) (Q:Bool->Hp->Prop) (b:Bool) (s':Shared):Prop:=∃ H',Inv X pins σ H' s'/\Q b H'
noncomputable def AP (X:Cx) (pins:List (Addr × Obj)) (σ:St) (Q:List V->Hp->Prop) (us:List Value) (s':Shared):Prop:=∃ vs H',Inv X pins σ H' s'/\Vals vs us/\Q vs H'
noncomputable def SP (X:Cx) (pins:List (Addr × Obj)) (D:Ends) (f:Flow) (s':Shared):Prop:=
  match f with
  | .next=>∃ σ' H',Inv X pins σ' H' s'/\D.nx σ' H'
  | .brk=>∃ σ' H',Inv X pins σ' H' s'/\D.bk σ' H'
  | .cont=>∃ σ' H',Inv X pins σ' H' s'/\D.ct σ' H'
  | .ret u=>∃ v σ' H',Inv X pins σ' H' s'/\RelV v u/\D.rt v H'
noncomputable def PE (X:Cx) (e:Expr) (t:TE):Prop:=
  ∀ (pins:List (Addr × Obj)) (s:Shared) (σ:St) (H:Hp) (Q:VK),Inv X pins σ H s->t σ H Q->wpAny (model X.prog X.w) X.A (eval e X.env) (EP X pins σ Q) X.xe s
noncomputable def PT (X:Cx) (e:Expr) (t:TT):Prop:=
  ∀ (pins:List (Addr × Obj)) (s:Shared) (σ:St) (H:Hp) (Q:Bool->Hp->Prop),Inv X pins σ H s->t σ H Q->wpAny (model X.prog X.w) X.A (isTrue e X.env (eval e X.env)) (TP X pins σ Q) X.xe s
noncomputable def PW (X:Cx) (e:Expr) (t:TT):Prop:=
  ∀ (whole:Sem Value) (pins:List (Addr × Obj)) (s:Shared) (σ:St) (H:Hp) (Q:Bool->Hp->Prop),Inv X pins σ H s->t σ H Q->wpAny (model X.prog X.w) X.A (isTrue e X.env whole) (TP X pins σ Q) X.xe s
theorem PW.pt {X:Cx} {e:Expr} {t:TT} (h:PW X e t):PT X e t:=h _
noncomputable def PA (X:Cx) (es:List Expr) (t:TA):Prop:=
  ∀ (pos:Pos) (pins:List (Addr × Obj)) (s:Shared) (σ:St) (H:Hp) (Q:List V->Hp->Prop),Inv X pins σ H s->t σ H Q->wpAny (model X.prog X.w) X.A (spliced (backTo pos (starEach es X.env))) (AP X pins σ Q) X.xe s
noncomputable def PS (X:Cx) (st:Stmt) (t:TS):Prop:=
  ∀ (pins:List (Addr × Obj)) (s:Shared) (σ:St) (H:Hp) (D:Ends),Inv X pins σ H s->t D σ H->wpAny (model X.prog X.w) X.A (exec st X.env) (SP X pins D) X.xe s
noncomputable def PSs (X:Cx) (st:List Stmt) (t:TS):Prop:=
  ∀ (pins:List (Addr × Obj)) (s:Shared) (σ:St) (H:Hp) (D:Ends),Inv X pins σ H s->t D σ H->wpAny (model X.prog X.w) X.A (execs st X.env) (SP X pins D) X.xe s
theorem thn {α:Type} {t:Sem α} {Q Q':α->Shared->Prop} {M:Model} (h:wpAny M A t Q E s) (hQ:∀ a s,Q a s->Q' a s):wpAny M A t Q' E s:=wpAny_mono h hQ fun _ _ x=>x
section
variable {X:Cx}
theorem bin {a b:Expr} {ta tb:TE} (ha:PE X a ta) (hb:PE X b tb) {σ:St} {H:Hp} {R:V->V->Hp->Prop} (I:Inv X pins σ H s) (h:ta σ H fun x H1=>tb σ H1 fun y H2=>R x y H2)
    {α:Type} {Q:α->Shared->Prop} {f:Value->Value->Sem α}
    (hf:∀ v u s2 x y H2,Inv X pins σ H2 s2->RelV x v->RelV y u->R x y H2->wpAny (model X.prog X.w) X.A (f v u) Q X.xe s2):
    wpAny (model X.prog X.w) X.A (eval a X.env) (fun v s₁=>wpAny (model X.prog X.w) X.A (eval b X.env) (fun u s₂=>wpAny (model X.prog X.w) X.A (f v u) Q X.xe s₂) X.xe s₁) X.xe s:=by
  refine thn (ha pins s σ H _ I h) fun v s1 ⟨x,H1,I1,r1,q1⟩=>?_
  refine thn (hb pins s1 σ H1 _ I1 q1) fun u s2 ⟨y,H2,I2,r2,q2⟩=>?_
  exact hf v u s2 x y H2 I2 r1 r2 q2
noncomputable def tVar (i:Nat):TE:=fun σ H Q=>∃ v,σ[i]?=some (some v)/\Q v H
noncomputable def tC (v:V):TE:=fun _ H Q=>Q v H
theorem pe_var {i:Nat} {x:Str} {pos:Pos} (hN:X.N[i]?=some x) (hv:Vis X.env.scope x) (hd:(x == ("__debug__" : Str))=false:=by decide) (hcd:(x == ("__classdict__" : Str))=false:=by decide):PE X (.Name x pos) (tVar i):=by
  intro pins s σ H Q I h
  obtain ⟨v,e,h⟩:=h
  obtain ⟨m,hn,hl⟩:=I.loc
  obtain ⟨u,r,l⟩:=hl i x v hN e hv
  have fin:EP X pins σ Q u s:=⟨v,H,I,r,h⟩
  rcases l with ⟨hk,hm⟩ | ⟨hk,c,hc,hcell⟩
  · exact wpAny_Name (wpAny_loadName_local I.ok.kind hk hn hm fin) hd
  · rcases hk with hk | hk
    · exact wpAny_Name (wpAny_loadName_cell I.ok.kind hk hc hcell fin) hd
    · exact wpAny_Name (wpAny_loadName_free I.ok.kind hk hc hcell fin hcd) hd
theorem pe_int {i j pos}:PE X (.Constant (.int i) j pos) (tC (.int i)):=fun _ _ _ H _ I h=>wpAny_Constant_int ⟨.int i,H,I.tok _,⟨_,rfl⟩,h⟩
theorem pe_bl {b j pos}:PE X (.Constant (.bool b) j pos) (tC (.bl b)):=fun _ _ _ H _ I h=>Constant_bool ⟨.bl b,H,I,rfl,h⟩
theorem pe_non {j pos}:PE X (.Constant .none j pos) (tC .non):=fun _ _ _ H _ I h=>Constant_none ⟨.non,H,I,rfl,h⟩
theorem pe_str {x j pos}:PE X (.Constant (.str x) j pos) (tC (.str x)):=fun _ _ _ H _ I h=>Calls.Constant_str ⟨.str x,H,I.tok _,⟨_,rfl⟩,h⟩
noncomputable def Gl (X:Cx) (x:Str):Prop:=X.env.kindOf x=some .globalImplicit
theorem ld_glob {σ:St} {H:Hp} {x:Str} {u:Value} {pos:Pos} {Q:Value->Shared->Prop} (I:Inv X pins σ H s) (hg:Gl X x) (hm:X.mg x=some u) (h:Q u s)
    (hd:(x == ("__debug__" : Str))=false:=by decide):wpAny (model X.prog X.w) X.A (eval (.Name x pos) X.env) Q E s:=
  Calls.Name_function_global I.ok.kind hg (Calls.loadGlobal_global (by rw [I.ok.glob]; exact I.mod.glob.keeps I.bk) hm h) hd
theorem ld_blt {σ:St} {H:Hp} {x:Str} {u:Value} {pos:Pos} {Q:Value->Shared->Prop} (I:Inv X pins σ H s) (hg:Gl X x) (hm:X.mg x=none) (hv:bootBuiltins x=some u) (h:Q u s)
    (hn:x ≠ "__name__" := by decide) (hd:(x == ("__debug__" : Str))=false:=by decide):wpAny (model X.prog X.w) X.A (eval (.Name x pos) X.env) Q E s:=by
  obtain ⟨mb,h1,h2⟩:=I.mod.blt
  exact Calls.Name_function_global I.ok.kind hg (Calls.loadGlobal_builtin (by rw [I.ok.glob]; exact I.mod.glob.keeps I.bk) hm (by rw [I.ok.blt]; exact h1.keeps I.bk) ((h2 x hn).trans hv) h) hd
theorem pe_bltn {x:Str} {v:V} {u:Value} {pos:Pos} (hg:Gl X x) (hm:X.mg x=none) (hv:bootBuiltins x=some u) (r:RelV v u) (hn:x ≠ "__name__" := by decide) (hd:(x == ("__debug__" : Str))=false:=by decide):PE X (.Name x pos) (tC v):=
  fun _ _ _ H _ I h=>ld_blt I hg hm hv ⟨v,H,I,r,h⟩ hn hd
variable {a b:Expr} {ta tb:TE} {pos:Pos}
noncomputable def tB (t:TE):TT:=fun σ H Q=>t σ H fun x H1=>∃ c,x=.bl c/\Q c H1
variable {tA tB':TT} {rest:List Expr}
noncomputable def tAnd (t u:TT):TT:=fun σ H Q=>t σ H fun c H1=>if c=true then u σ H1 Q else Q false H1
noncomputable def tOr (t u:TT):TT:=fun σ H Q=>t σ H fun c H1=>if c=true then Q true H1 else u σ H1 Q
noncomputable def tNot (t:TT):TT:=fun σ H Q=>t σ H fun c H1=>Q (!c) H1
theorem pw_and1 (ha:PT X a tA):PW X (.BoolOp .And [a] pos) tA:=by
  intro wh pins s σ H Q I h
  refine isTrue_and (thn (ha pins s σ H Q I h) fun c s1 e=>?_)
  cases c with
  | true=>exact isTrue_and_nil e
  | false=>exact e
theorem pw_or1 (ha:PT X a tA):PW X (.BoolOp .Or [a] pos) tA:=by
  intro wh pins s σ H Q I h
  refine isTrue_or (thn (ha pins s σ H Q I h) fun c s1 e=>?_)
  cases c with
  | false=>exact isTrue_or_nil e
  | true=>exact e
theorem pw_and (ha:PT X a tA) (hb:PW X (.BoolOp .And (b::rest) pos) tB'):PW X (.BoolOp .And (a::b::rest) pos) (tAnd tA tB'):=by
  intro wh pins s σ H Q I h
  refine isTrue_and (thn (ha pins s σ H _ I h) fun c s1 ⟨H1,I1,q1⟩=>?_)
  cases c with
  | true=>exact hb wh pins s1 σ H1 Q I1 q1
  | false=>exact ⟨H1,I1,q1⟩
theorem pw_or (ha:PT X a tA) (hb:PW X (.BoolOp .Or (b::rest) pos) tB'):PW X (.BoolOp .Or (a::b::rest) pos) (tOr tA tB'):=by
  intro wh pins s σ H Q I h
  refine isTrue_or (thn (ha pins s σ H _ I h) fun c s1 ⟨H1,I1,q1⟩=>?_)
  cases c with
  | true=>exact ⟨H1,I1,q1⟩
  | false=>exact hb wh pins s1 σ H1 Q I1 q1
theorem pt_not (ha:PT X a tA):PT X (.UnaryOp .Not a pos) (tNot tA):=by
  intro pins s σ H Q I h
  exact isTrue_not (ha pins s σ H (fun c H1=>Q (!c) H1) I h)
noncomputable def tAndV (ta tb:TE):TE:=fun σ H Q=>ta σ H fun x H1=>∃ c,x=.bl c/\if c=true then tb σ H1 Q else Q (.bl false) H1
noncomputable def tNotV (ta:TE):TE:=fun σ H Q=>ta σ H fun x H1=>∃ c,x=.bl c/\Q (.bl (!c)) H1
theorem pe_one {op} {t:TE} (h:PE X a t):PE X (.BoolOp op [a] pos) t:=fun pins s σ H Q I hw=>BoolOp_one (h pins s σ H Q I hw)
theorem pe_and (ha:PE X a ta) (hb:PE X (.BoolOp .And (b::rest) pos) tb):PE X (.BoolOp .And (a::b::rest) pos) (tAndV ta tb):=by
  intro pins s σ H Q I h
  refine BoolOp_and (thn (ha pins s σ H _ I h) fun v s1 ⟨x,H1,I1,r1,q1⟩=>?_)
  obtain ⟨c,rfl,q1⟩:=q1
  cases r1
  refine wpAny_truthy_bool ?_
  cases c with
  | true=>exact hb pins s1 σ H1 Q I1 q1
  | false=>exact ⟨.bl false,H1,I1,rfl,q1⟩
theorem pe_not (ha:PE X a ta):PE X (.UnaryOp .Not a pos) (tNotV ta):=by
  intro pins s σ H Q I h
  refine UnaryOp_ (thn (ha pins s σ H _ I h) fun v s1 ⟨x,H1,I1,r1,q1⟩=>?_)
  obtain ⟨c,rfl,q1⟩:=q1
  cases r1
  exact not_of (wpAny_truthy_bool ⟨.bl (!c),H1,I1,rfl,q1⟩)
end
noncomputable def SqL (K:FG) (H:Hp) (a:Addr) (xs:List V):Prop:=
  Rd H a (.lst xs)\/
    ∃ (o:Obj) (its:Array Value) (n:Nat),K.lookup a=some o/\o.cls=.type "list" /\ o.dict=none/\o.data=.seq its n/\its.size<=sizeLine/\Vals xs its.toList
noncomputable def SqT (K:FG) (H:Hp) (a:Addr) (xs:List V):Prop:=
  Rd H a (.tup xs)\/
    ∃ (o:Obj) (its:Array Value) (n:Nat),K.lookup a=some o/\o.cls=.type "tuple" /\ o.data=.seq its n/\its.size<=sizeLine/\Vals xs its.toList
noncomputable def absV:Value->Option V
  | .none=>some .non
  | .bool b=>some (.bl b)
  | .int i _=>some (.int i)
  | .str x _=>some (.str x)
  | .bytes b _=>some (.byt b)
  | .float b _=>some (.flt b)
  | .ref a=>some (.ref a)
  | .type n=>some (.ty n)
  | _=>none
theorem RelV.abs {x:V} {u:Value} (r:RelV x u):absV u=some x:=by
  cases x with
  | non=>cases r; rfl
  | bl _=>cases r; rfl
  | int _=>obtain ⟨t,rfl⟩:=r; rfl
  | str _=>obtain ⟨t,rfl⟩:=r; rfl
  | byt _=>obtain ⟨t,rfl⟩:=r; rfl
  | flt _=>obtain ⟨t,rfl⟩:=r; rfl
  | ref _=>cases r; rfl
  | ty _=>cases r; rfl
theorem RelV.inj {x y:V} {u:Value} (r:RelV x u) (q:RelV y u):x=y:=Option.some.inj (r.abs.symm.trans q.abs)
theorem Vals.inj:∀ {xs ys:List V} {us:List Value},Vals xs us->Vals ys us->xs=ys
  | _,_,_,.nil,.nil=>rfl
  | _,_,_,.cons r t,.cons r' t'=>by rw [r.inj r',Vals.inj t t']
section
variable {X:Cx} {pins:List (Addr × Obj)} {σ:St} {H:Hp} {s:Shared} {a:Addr} {xs ys:List V}
theorem SqL.of {K:FG} (h:H a=some (.lst xs)):SqL K H a xs:=.inl (.inl h)
theorem SqT.of {K:FG} (h:H a=some (.tup xs)):SqT K H a xs:=.inl (.inl h)
theorem Inv.list (I:Inv X pins σ H s) (h:SqL X.K H a xs):∃ its:List Value,Vals xs its/\PlainL s.heap a its.toArray/\xs.length<=sizeLine:=by
  rcases h with h | ⟨o,its,n,hk,hc,hd,hs,hz,r⟩
  · obtain ⟨z,its,n,r,e⟩:=h.ok I.hok
    exact ⟨its,r,⟨_,n,e,rfl,rfl,rfl⟩,z⟩
  · refine ⟨its.toList,r,⟨o,n,I.kIn a o hk,hc,hd,by simpa using hs⟩,?_⟩
    have e:=r.length
    simp only [Array.length_toList] at e
    omega
theorem Inv.tuple (I:Inv X pins σ H s) (h:SqT X.K H a xs):∃ its:List Value,Vals xs its/\IsTup s.heap a its.toArray/\xs.length<=sizeLine:=by
  rcases h with h | ⟨o,its,n,hk,hc,hs,hz,r⟩
  · obtain ⟨z,its,r,p⟩:=h.ok I.hok
    exact ⟨its,r,p,z⟩
  · refine ⟨its.toList,r,⟨o,I.kIn a o hk,hc,n,by simpa using hs⟩,?_⟩
    have e:=r.length
    simp only [Array.length_toList] at e
    omega
theorem Inv.list_inj (I:Inv X pins σ H s) (h:SqL X.K H a xs) (h':SqL X.K H a ys):xs=ys:=by
  obtain ⟨its,r,⟨o,n,e,_,_,d⟩,_⟩:=I.list h
  obtain ⟨its',r',⟨o',n',e',_,_,d'⟩,_⟩:=I.list h'
  rw [e] at e'; cases e'
  rw [d] at d'
  injection d' with d1 _
  have:its=its':=by simpa using congrArg Array.toList d1
  subst this
  exact r.inj r'
theorem Inv.tuple_inj (I:Inv X pins σ H s) (h:SqT X.K H a xs) (h':SqT X.K H a ys):xs=ys:=by
  obtain ⟨its,r,⟨o,e,_,n,d⟩,_⟩:=I.tuple h
  obtain ⟨its',r',⟨o',e',_,n',d'⟩,_⟩:=I.tuple h'
  rw [e] at e'; cases e'
  rw [d] at d'
  injection d' with d1 _
  have:its=its':=by simpa using congrArg Array.toList d1
  subst this
  exact r.inj r'
end
noncomputable abbrev Cx.wish (X:Cx) (E:Value->Shared->Prop):Cx:={ X with xe:=E }
noncomputable abbrev Cx.nox (X:Cx):Cx:=X.wish fun _ _=>False
theorem Cx.Ok.wish {X:Cx} (ok:X.Ok) (E:Value->Shared->Prop):(X.wish E).Ok:=
  ⟨ok.mod,ok.kind,ok.glob,ok.blt,ok.above,ok.inj,ok.has,ok.cab,ok.hd,ok.frames,ok.stk,ok.exf,ok.bs,ok.bsz,ok.noex,ok.exfs,ok.funs,ok.frf⟩
theorem Cx.Ok.unwish {X:Cx} (ok:(X.wish E).Ok):X.Ok:=
  ⟨ok.mod,ok.kind,ok.glob,ok.blt,ok.above,ok.inj,ok.has,ok.cab,ok.hd,ok.frames,ok.stk,ok.exf,ok.bs,ok.bsz,ok.noex,ok.exfs,ok.funs,ok.frf⟩
section
variable {X:Cx} {pins:List (Addr × Obj)} {σ:St} {H:Hp} {s:Shared} {E:Value->Shared->Prop}
theorem Inv.wish (I:Inv X pins σ H s) (E:Value->Shared->Prop):Inv (X.wish E) pins σ H s:=⟨I.ok.wish E,I.os,I.bare,I.base,I.loc,I.cell,I.free,I.freeC,I.pin,I.hok,I.len⟩
theorem Inv.unwish (I:Inv (X.wish E) pins σ H s):Inv X pins σ H s:=⟨I.ok.unwish,I.os,I.bare,I.base,I.loc,I.cell,I.free,I.freeC,I.pin,I.hok,I.len⟩
theorem SP.unwish {D:Ends} {f:Flow} {s':Shared} (h:SP (X.wish E) pins D f s'):SP X pins D f s':=by
  cases f with
  | next=>obtain ⟨σ',H',I,q⟩:=h; exact ⟨σ',H',I.unwish,q⟩
  | brk=>obtain ⟨σ',H',I,q⟩:=h; exact ⟨σ',H',I.unwish,q⟩
  | cont=>obtain ⟨σ',H',I,q⟩:=h; exact ⟨σ',H',I.unwish,q⟩
  | ret u=>obtain ⟨v,σ',H',I,r,q⟩:=h; exact ⟨v,σ',H',I.unwish,r,q⟩
theorem PSs.nox {st:List Stmt} {t:TS} (h:PSs X.nox st t):PSs X st t:=fun pins s σ H D I hw=>
  wpAny_mono (h pins s σ H D (I.wish _) hw) (fun _ _ q=>q.unwish) fun _ _ z=>False.elim z
end
section
variable {X:Cx} {st:Stmt} {rest:List Stmt} {t u:TS} {e:Expr} {te:TE} {pos:Pos}
noncomputable def tNext:TS:=fun D σ H=>D.nx σ H
noncomputable def tSeq (t u:TS):TS:=fun D σ H=>t { D with nx:=u D } σ H
theorem pss_nil:PSs X [] tNext:=fun _ _ σ H _ I h=>wpAny_execs_nil ⟨σ,H,I,h⟩
theorem pss_cons (h1:PS X st t) (h2:PSs X rest u):PSs X (st::rest) (tSeq t u):=by
  intro pins s σ H D I h
  refine wpAny_execs_cons (thn (h1 pins s σ H { D with nx:=u D } I h) fun f s1 q=>?_)
  cases f with
  | next=>
    obtain ⟨σ',H',I',q⟩:=q
    exact h2 pins s1 σ' H' D I' q
  | ret v=>exact q
  | brk=>exact q
  | cont=>exact q
theorem pss_one (h1:PS X st t):PSs X [st] t:=by
  intro pins s σ H D I h
  refine wpAny_execs_cons (thn (h1 pins s σ H D I h) fun f s1 q=>?_)
  cases f with
  | next=>exact wpAny_execs_nil q
  | ret v=>exact q
  | brk=>exact q
  | cont=>exact q
theorem Inv.quiet {σ:St} {H:Hp} (I:Inv X pins σ H s):interactive X.env=false:=by simp [interactive,I.ok.kind]
noncomputable def tDrop (te:TE):TS:=fun D σ H=>te σ H fun _ H1=>D.nx σ H1
theorem ps_expr (he:PE X e te) (hs:swapsWith e none pos.line X.env=pure false:=by rfl):PS X (.Expr e pos) (tDrop te):=by
  intro pins s σ H D I h
  exact wpAny_Expr_any (thn (he pins s σ H _ I h) fun v s1 ⟨x,H1,I1,r1,q1⟩=>⟨σ,H1,I1,q1⟩) I.quiet hs
noncomputable def tRet (te:TE):TS:=fun D σ H=>te σ H D.rt
theorem ps_ret (he:PE X e te):PS X (.Return (some e) pos) (tRet te):=by
  intro pins s σ H D I h
  exact wpAny_Return_some (thn (he pins s σ H _ I h) fun v s1 ⟨x,H1,I1,r1,q1⟩=>⟨x,σ,H1,I1,r1,q1⟩)
noncomputable def tIfS (c:TT) (t u:TS):TS:=fun D σ H=>c σ H fun b H1=>if b=true then t D σ H1 else u D σ H1
theorem ps_if {c:Expr} {a b:List Stmt} {tc:TT} (hc:PT X c tc) (ha:PSs X a t) (hb:PSs X b u):PS X (.If c a b pos) (tIfS tc t u):=by
  intro pins s σ H D I h
  refine wpAny_If (thn (hc pins s σ H _ I h) fun d s1 ⟨H1,I1,q1⟩=>?_)
  cases d with
  | true=>exact ha pins s1 σ H1 D I1 q1
  | false=>exact hb pins s1 σ H1 D I1 q1
end
noncomputable abbrev TG:=V->St->Hp->(St->Hp->Prop)->Prop
noncomputable abbrev TGs:=List V->St->Hp->(St->Hp->Prop)->Prop
noncomputable def PG (X:Cx) (target:Expr) (t:TG):Prop:=
  ∀ (pins:List (Addr × Obj)) (s:Shared) (σ:St) (H:Hp) (v:V) (u:Value) (Q:St->Hp->Prop),Inv X pins σ H s->RelV v u->t v σ H Q->
    wpAny (model X.prog X.w) X.A (assign target X.env u) (fun _ s'=>∃ σ' H',Inv X pins σ' H' s'/\Q σ' H') X.xe s
noncomputable def PGs (X:Cx) (ts:List Expr) (t:TGs):Prop:=
  ∀ (pins:List (Addr × Obj)) (s:Shared) (σ:St) (H:Hp) (vs:List V) (us:List Value) (Q:St->Hp->Prop),Inv X pins σ H s->Vals vs us->t vs σ H Q->
    wpAny (model X.prog X.w) X.A (assignInOrder ((assignEach ts X.env).map (·.2)) us) (fun _ s'=>∃ σ' H',Inv X pins σ' H' s'/\Q σ' H') X.xe s
noncomputable abbrev TSet:=V->V->V->Hp->(Hp->Prop)->Prop
noncomputable def PSet (X:Cx) (t:TSet):Prop:=
  ∀ (pins:List (Addr × Obj)) (s:Shared) (σ:St) (H:Hp) (o i v:V) (ov iv u:Value) (Q:Hp->Prop),Inv X pins σ H s->RelV o ov->RelV i iv->RelV v u->t o i v H Q->
    wpAny (model X.prog X.w) X.A (setItem ov iv u) (fun _ s'=>∃ H',Inv X pins σ H' s'/\Q H') X.xe s
section
variable {X:Cx} {pos:Pos}
noncomputable def gName (i:Nat):TG:=fun v σ H Q=>Q (σ.set i (some v)) H
theorem pg_name {i:Nat} {x:Str} (hN:X.N.Nodup) (hi:X.N[i]?=some x) (hx:Loc X.env.scope x) (hf:X.fn x=true\/X.env.scope.names.lookup x=some .local:=by first | exact .inl rfl | exact .inr rfl | assumption):PG X (.Name x pos) (gName i):=by
  intro pins s σ H v u Q I r h
  exact wpAny_assign_Name (store_ok I hN hi hx r (fun s' I'=>⟨_,H,I',h⟩) hf)
noncomputable def gNil:TGs:=fun vs σ H Q=>vs=[]/\Q σ H
noncomputable def gCons (t:TG) (u:TGs):TGs:=fun vs σ H Q=>∃ v r,vs=v::r/\t v σ H fun σ' H'=>u r σ' H' Q
theorem pgs_nil:PGs X [] gNil:=by
  intro pins s σ H vs us Q I r h
  obtain ⟨e,h⟩:=h
  subst e
  cases r
  exact assignInOrder_nil ⟨σ,H,I,h⟩
theorem pgs_cons {e:Expr} {es:List Expr} {t:TG} {u:TGs} (h1:PG X e t) (h2:PGs X es u)
    (hs:(assignEach (e::es) X.env).map (·.2)=assign e X.env::(assignEach es X.env).map (·.2):=by rfl):PGs X (e::es) (gCons t u):=by
  intro pins s σ H vs us Q I r h
  obtain ⟨v,vr,e1,h⟩:=h
  subst e1
  cases r with
  | cons r rr=>
    rw [hs]
    refine assignInOrder_cons (thn (h1 pins s σ H _ _ _ I r h) fun _ s1 ⟨σ1,H1,I1,q1⟩=>?_)
    exact h2 pins s1 σ1 H1 _ _ Q I1 rr q1
noncomputable def gTup (K:FG) (n:Nat) (t:TGs):TG:=fun v σ H Q=>∃ a xs,v=.ref a/\SqT K H a xs/\xs.length=n/\t xs σ H Q
theorem pg_tup {es:List Expr} {k:Nat} {t:TGs} {n:Nat} (hc:X.calm=true) (h:PGs X es t)
    (hn:(assignEach es X.env).length=n:=by rfl) (hst:(assignEach es X.env).findIdx? (·.1)=none:=by rfl):PG X (.Tuple es k pos) (gTup X.K n t):=by
  intro pins s σ H v u Q I r hw
  obtain ⟨a,xs,e1,hq,hl,hw⟩:=hw
  subst e1
  cases r
  obtain ⟨its,rv,ht,hz⟩:=I.tuple hq
  refine assign_Tuple_tuple (I.ok.hd hc) ht (by simp [hn,← hl,rv.length]) hst fun h' hx=>?_
  have I1:Inv X pins σ H { s with heap:=h' }:=I.kept (t':=s.toks) fun b o e=>hx b o (Nat.ne_of_lt (Heap.lt_size e)) e
  exact h pins _ σ H xs _ Q I1 (by simpa using rv) hw
noncomputable def gSub (to ti:TE) (t:TSet):TG:=fun v σ H Q=>to σ H fun o H1=>ti σ H1 fun i H2=>t o i v H2 fun H3=>Q σ H3
theorem pg_sub {o i:Expr} {to ti:TE} {t:TSet} (ho:PE X o to) (hi:PE X i ti) (hs:PSet X t)
    (ha:∀ v,assign (.Subscript o i pos) X.env v=(do
      let ov ← holding [v] (eval o X.env)
      let iv ← holding [v,ov] (eval i X.env)
      standAt pos
      holding [v,ov,iv] (setItem ov iv v)
      release [v,ov,iv] []):=by intro _; rfl):PG X (.Subscript o i pos) (gSub to ti t):=by
  intro pins s σ H v u Q I r h
  rw [ha]
  refine wpAny_bind (wpAny_holding (thn (ho pins s σ H _ I h) fun ov s1 ⟨x,H1,I1,r1,q1⟩=>?_))
  refine wpAny_bind (wpAny_holding (thn (hi pins s1 σ H1 _ I1 q1) fun iv s2 ⟨y,H2,I2,r2,q2⟩=>?_))
  refine wpAny_bind (wpAny_standAt (wpAny_bind (wpAny_holding (thn (hs pins s2 σ H2 x y v ov iv u _ I2 r1 r2 r q2) fun _ s3 ⟨H3,I3,q3⟩=>?_))))
  exact wpAny_release ⟨σ,H3,I3,q3⟩
noncomputable def tAsg (te:TE) (g:TG):TS:=fun D σ H=>te σ H fun x H1=>g x σ H1 D.nx
theorem ps_asg {tg e:Expr} {te:TE} {g:TG} (he:PE X e te) (hg:PG X tg g) (hs:swapsWithSole [tg] e pos.line X.env=pure false:=by rfl) (hw:swappedStores [tg] e X.env=pure none:=by rfl)
    (h1:(assignEach [tg] X.env).map (·.2)=[assign tg X.env]:=by rfl):PS X (.Assign [tg] e pos) (tAsg te g):=by
  intro pins s σ H D I h
  refine wpAny_Assign_stores (thn (he pins s σ H _ I h) fun v s1 ⟨x,H1,I1,r1,q1⟩=>?_) hs hw
  rw [h1]
  exact thn (hg pins s1 σ H1 x v _ I1 r1 q1) fun _ s2 q=>q
theorem ps_set {i:Nat} {x:Str} {e:Expr} {te:TE} {pos':Pos} (hN:X.N.Nodup) (hi:X.N[i]?=some x) (hx:Loc X.env.scope x) (he:PE X e te) (hs:swapsWith e (some (.Name x pos')) pos.line X.env=pure false:=by rfl) (hf:X.fn x=true\/X.env.scope.names.lookup x=some .local:=by first | exact .inl rfl | exact .inr rfl | assumption):
    PS X (.Assign [.Name x pos'] e pos) (tAsg te (gName i)):=by
  intro pins s σ H D I h
  refine wpAny_Assign_Name (thn (he pins s σ H _ I h) fun v s1 ⟨y,H1,I1,r1,q1⟩=>?_) hs
  exact store_ok I1 hN hi hx r1 (fun s2 I2=>⟨_,H1,I2,q1⟩) hf
end
section
variable {X:Cx} {pos:Pos}
noncomputable def tWhile (c:TT) (tb:TS):TS:=fun D σ H=>∃ W:Nat->St->Hp->Prop,(∃ m,W m σ H)/\∀ m σ H,W m σ H->
  c σ H fun b H1=>if b=true then ∃ N:St->Hp->Prop,(∀ σ' H',N σ' H'->∃ m',m' < m/\W m' σ' H')/\tb { D with nx:=N,ct:=N,bk:=D.nx } σ H1 else D.nx σ H1
theorem ps_while {c:Expr} {body:List Stmt} {tc:TT} {tb:TS} (hp:PassesOwn (model X.prog X.w) X.A X.env X.xe) (hc:PT X c tc) (hb:PSs X body tb):PS X (.While c body [] pos) (tWhile tc tb):=by
  intro pins s σ H D I h
  obtain ⟨W,⟨m0,w0⟩,turn⟩:=h
  refine wpAny_While (codeAny_whileLoop (fun n s'=>∃ σ' H',Inv X pins σ' H' s'/\W n σ' H') ?_ m0 ⟨σ,H,I,w0⟩)
  rintro n s1 ⟨σ1,H1,I1,w1⟩
  refine wpAny_passesOwn hp (thn (hc pins s1 σ1 H1 _ I1 (turn n σ1 H1 w1)) fun b s2 ⟨H2,I2,q2⟩=>?_)
  cases b with
  | true=>
    obtain ⟨N,hN,q2⟩:=q2
    rw [if_pos rfl]
    refine wpAny_passesOwn hp (thn (hb pins s2 σ1 H2 _ I2 q2) fun f s3 q3=>?_)
    cases f with
    | next=>
      obtain ⟨σ3,H3,I3,n3⟩:=q3
      obtain ⟨m',hm,w3⟩:=hN σ3 H3 n3
      exact ⟨m',hm,σ3,H3,I3,w3⟩
    | cont=>
      obtain ⟨σ3,H3,I3,n3⟩:=q3
      obtain ⟨m',hm,w3⟩:=hN σ3 H3 n3
      exact ⟨m',hm,σ3,H3,I3,w3⟩
    | brk=>exact q3
    | ret v=>exact q3
  | false=>
    rw [if_neg Bool.false_ne_true]
    exact wpAny_execs_nil ⟨σ1,H2,I2,q2⟩
end
structure It where
  go:Nat->Hp->Prop
  yld:Nat->Hp->V->Hp->Prop
  stop:Nat->Hp->Prop
noncomputable def FpOk (X:Cx) (pins:List (Addr × Obj)) (H:Hp) (b:Addr):Prop:=
  H b=none/\b ≠ X.env.locals/\b ∉ X.fs/\(b ∈ X.ex\/X.s₀.heap.objs.size<=b)/\(∀ x c,X.env.cells.lookup x=some c->c ≠ b)/\∀ p ∈ X.pn++pins,p.1 ≠ b
theorem Inv.fpOk {X:Cx} {σ:St} {H H':Hp} {b:Addr} (I:Inv X pins σ H s) (hb:s.heap.objs.size<=b) (hn:H' b=none):FpOk X pins H' b:=by
  refine ⟨hn,Nat.ne_of_gt (Nat.lt_of_lt_of_le I.lt hb),I.nofs hb,.inr (Nat.le_trans I.sz hb),fun x c e z=>?_,fun p hp z=>?_⟩
  · obtain ⟨v,q⟩:=I.cell x c e
    exact absurd (Nat.lt_of_lt_of_le q.lt (by rw [z]; exact hb)) (Nat.lt_irrefl _)
  · exact absurd (Nat.lt_of_lt_of_le (Heap.lt_size (I.pin p hp).1) (by rw [z]; exact hb)) (Nat.lt_irrefl _)
structure Turn (P:Program) (w:World) (K:FG) (tg:Expr) (J:It) (fp:List Addr) (it:Addr) (tn:Nat->Heap->Prop):Prop where
  mem:it ∈ fp
  obj:∀ i h,tn i h->∀ b ∈ fp,∃ o,h.get? b=some o/\∀ v,o.data ≠ .cell v
  keep:∀ i h h',tn i h->(∀ b ∈ fp,∀ o,h.get? b=some o->h'.get? b=some o)->tn i h'
  item:∀ (X:Cx),X.prog=P->X.w=w->X.K=K->X.calm=true->∀ (i:Nat) (pins:List (Addr × Obj)) (s:Shared) (σ:St) (H:Hp) (E:Value->Shared->Prop),Inv X pins σ H s->(∀ b ∈ fp,FpOk X pins H b)->tn i s.heap->J.go i H->
    wpAny (model P w) X.A (pyNext (.ref it)) (fun r s1=>∃ u,r=some u/\
      wpAny (model P w) X.A (letOwnedTupleGo tg (.ref it) u) (fun _ s2=>∃ x H',Inv X pins σ H' s2/\RelV x u/\J.yld i H x H'/\tn (i + 1) s2.heap/\∀ b ∈ fp,H' b=none) E s1) E s
  done:∀ (X:Cx),X.prog=P->X.w=w->X.K=K->X.calm=true->∀ (i:Nat) (pins:List (Addr × Obj)) (s:Shared) (σ:St) (H:Hp) (E:Value->Shared->Prop),Inv X pins σ H s->(∀ b ∈ fp,FpOk X pins H b)->tn i s.heap->J.stop i H->
    wpAny (model P w) X.A (pyNext (.ref it)) (fun r s1=>r=none/\Inv X pins σ H s1) E s
  self:∀ (A:Around) (i:Nat) (s:Shared) (Q:Value->Shared->Prop) (E:Value->Shared->Prop),tn i s.heap->Q (.ref it) s->wpAny (model P w) A (pyIter (.ref it)) Q E s
noncomputable abbrev TI:=St->Hp->(It->Hp->Prop)->Prop
noncomputable def PIE (X:Cx) (pins:List (Addr × Obj)) (σ:St) (tg:Expr) (R:It->Hp->Prop) (itv:Value) (s2:Shared):Prop:=
  ∃ (it:Addr) (fp:List Addr) (tn:Nat->Heap->Prop) (J:It) (H':Hp),itv=.ref it/\Inv X pins σ H' s2/\Turn X.prog X.w X.K tg J fp it tn/\tn 0 s2.heap/\(∀ b ∈ fp,FpOk X pins H' b)/\R J H'
noncomputable def PI (X:Cx) (tg iter:Expr) (wi:TI):Prop:=
  ∀ (pins:List (Addr × Obj)) (s:Shared) (σ:St) (H:Hp) (R:It->Hp->Prop),Inv X pins σ H s->wi σ H R->
    wpAny (model X.prog X.w) X.A (eval iter X.env) (fun v s1=>wpAny (model X.prog X.w) X.A (pyIter v) (PIE X pins σ tg R) X.xe s1) X.xe s
theorem go_of {M:Model} {tg:Expr} {it:Addr} {u:Value} {o:Obj} {n:String} {vs:Array Value} {Q:Unit->Shared->Prop} (ho:s.heap.get? it=some o) (hc:o.cls=.type n) (hd:o.data=.fields vs)
    (hn:["enumerate", "zip", "dict_itemiterator", "dict_reverseitemiterator", "odict_iterator", "itertools.zip_longest", "itertools.pairwise"].contains n=false) (hQ:Q () s):wpAny M A (letOwnedTupleGo tg (.ref it) u) Q E s:=by
  unfold letOwnedTupleGo
  cases tg <;> first
    | exact wpAny_pure hQ
    | (cases u <;> first
        | exact wpAny_pure hQ
        | (refine wpAny_bind (wpAny_load ho ?_)
           rw [hc,hd]
           show wpAny M A (if (["enumerate", "zip", "dict_itemiterator", "dict_reverseitemiterator", "odict_iterator", "itertools.zip_longest", "itertools.pairwise"].contains n && vs[0]? == some (rawInt _))=true then _ else _) Q E s
           rw [if_neg (by intro h; rw [hn,Bool.false_and] at h; cases h)]
           exact wpAny_pure hQ))
noncomputable def Itl (K:FG) (a:Addr):It:=
  ⟨fun i H=>∃ xs x,SqL K H a xs/\xs[i]?=some x,fun i H x H'=>H'=H/\∀ xs,SqL K H a xs->xs[i]?=some x,fun i H=>∃ xs,SqL K H a xs/\xs.length<=i⟩
noncomputable def Itt (K:FG) (a:Addr):It:=
  ⟨fun i H=>∃ xs x,SqT K H a xs/\xs[i]?=some x,fun i H x H'=>H'=H/\∀ xs,SqT K H a xs->xs[i]?=some x,fun i H=>∃ xs,SqT K H a xs/\xs.length<=i⟩
noncomputable def Itr (lo:Int) (n:Nat):It:=⟨fun i _=>i < n,fun i H x H'=>H'=H/\x=.int (lo + i),fun i _=>n<=i⟩
theorem turn_list {K:FG} {tg:Expr} (a it:Addr):Turn P w K tg (Itl K a) [it] it (fun i h=>h.IsListIter it a i) where
  mem:=by simp
  obj:=fun i h st b hb=>by
    have e:b=it:=by simpa using hb
    subst e
    obtain ⟨o,e,c,d⟩:=st
    exact ⟨o,e,fun v z=>by rw [d] at z; cases z⟩
  keep:=fun i h h' st k=>st.at fun o e=>k it (by simp) o e
  item:=by
    intro X hP hw hK hc i pins s σ H E I hf st hg
    subst hP hw hK
    obtain ⟨xs,x,hq,hx⟩:=hg
    obtain ⟨its,rv,p,hz⟩:=I.list hq
    obtain ⟨u,hu,ru⟩:=rv.get hx
    obtain ⟨f0,f1,f2,f3,f4,f5⟩:=hf it (by simp)
    refine wpAny_pyNext_list_item st p.isList (x:=u) (by simpa using hu) fun h' st' sb=>?_
    have I1:Inv X pins σ H { s with heap:=h' }:=I.turned (t':=s.toks) (fun b o hb e=>(sb.2 b hb).trans e) f0 f1 f3 f4 f5
    obtain ⟨o,e,c,d⟩:=id st'
    exact ⟨u,rfl,go_of (s:={ s with heap:=h' }) e c d (by decide) ⟨x,H,I1,ru,⟨rfl,fun ys hy=>by rw [I.list_inj hy hq]; exact hx⟩,st',fun b hb=>(hf b hb).1⟩⟩
  done:=by
    intro X hP hw hK hc i pins s σ H E I hf st hg
    subst hP hw hK
    obtain ⟨xs,hq,hx⟩:=hg
    obtain ⟨its,rv,p,hz⟩:=I.list hq
    obtain ⟨f0,f1,f2,f3,f4,f5⟩:=hf it (by simp)
    have hl:=rv.length
    exact wpAny_pyNext_list_end (I.ok.hd hc) st p.isList (by simp; omega) fun h' eb=>⟨rfl,I.turned (t':=s.toks) (fun b o hb e=>eb b o hb e) f0 f1 f3 f4 f5⟩
  self:=fun _ _ _ _ _ st h=>wpAny_pyIter_listiter st h
theorem turn_tuple {K:FG} {tg:Expr} (a it:Addr):Turn P w K tg (Itt K a) [it] it (fun i h=>h.IsTupleIter it a i) where
  mem:=by simp
  obj:=fun i h st b hb=>by
    have e:b=it:=by simpa using hb
    subst e
    obtain ⟨o,e,c,d⟩:=st
    exact ⟨o,e,fun v z=>by rw [d] at z; cases z⟩
  keep:=fun i h h' st k=>st.at fun o e=>k it (by simp) o e
  item:=by
    intro X hP hw hK hc i pins s σ H E I hf st hg
    subst hP hw hK
    obtain ⟨xs,x,hq,hx⟩:=hg
    obtain ⟨its,rv,p,hz⟩:=I.tuple hq
    obtain ⟨u,hu,ru⟩:=rv.get hx
    obtain ⟨f0,f1,f2,f3,f4,f5⟩:=hf it (by simp)
    refine wpAny_pyNext_tuple_item st (show s.heap.IsTuple a its.toArray from p) (x:=u) (by simpa using hu) fun h' st' sb=>?_
    have I1:Inv X pins σ H { s with heap:=h' }:=I.turned (t':=s.toks) (fun b o hb e=>(sb.2 b hb).trans e) f0 f1 f3 f4 f5
    obtain ⟨o,e,c,d⟩:=id st'
    exact ⟨u,rfl,go_of (s:={ s with heap:=h' }) e c d (by decide) ⟨x,H,I1,ru,⟨rfl,fun ys hy=>by rw [I.tuple_inj hy hq]; exact hx⟩,st',fun b hb=>(hf b hb).1⟩⟩
  done:=by
    intro X hP hw hK hc i pins s σ H E I hf st hg
    subst hP hw hK
    obtain ⟨xs,hq,hx⟩:=hg
    obtain ⟨its,rv,p,hz⟩:=I.tuple hq
    obtain ⟨f0,f1,f2,f3,f4,f5⟩:=hf it (by simp)
    have hl:=rv.length
    exact wpAny_pyNext_tuple_end (I.ok.hd hc) st (show s.heap.IsTuple a its.toArray from p) (by simp; omega) fun h' eb=>⟨rfl,I.turned (t':=s.toks) (fun b o hb e=>eb b o hb e) f0 f1 f3 f4 f5⟩
  self:=fun _ _ _ _ _ st h=>wpAny_pyIter_tupleiter st h
theorem turn_range {K:FG} {tg:Expr} (it:Addr) (lo:Int) (n:Nat):Turn P w K tg (Itr lo n) [it] it (fun i h=>IsRangeIter h it (lo + (i:Nat) * 1) ((n:Int) - (i:Nat)) 1) where
  mem:=by simp
  obj:=fun i h st b hb=>by
    have e:b=it:=by simpa using hb
    subst e
    exact ⟨_,st,fun v z=>by
      have z':Data.fields _=Data.cell v:=z
      cases z'⟩
  keep:=fun i h h' st k=>k it (by simp) _ st
  item:=by
    intro X hP hw hK hc i pins s σ H E I hf st hg
    subst hP hw hK
    obtain ⟨f0,f1,f2,f3,f4,f5⟩:=hf it (by simp)
    have W:=Walks.range (prog:=X.prog) (w:=X.w) (I.ok.hd hc) it lo 1 n
    refine W.item i s _ _ hg st fun v h' tk hv st' kk=>?_
    obtain ⟨t,rfl⟩:=hv
    have I1:Inv X pins σ H { s with heap:=h',toks:=tk }:=I.turned (fun b o hb e=>kk b o (by simpa using hb) e) f0 f1 f3 f4 f5
    refine ⟨_,rfl,go_of (s:={ s with heap:=h',toks:=tk }) (n := "range_iterator") st' rfl rfl (by decide) ⟨.int (lo + i),H,I1,⟨t,?_⟩,⟨rfl,rfl⟩,st',fun b hb=>(hf b hb).1⟩⟩
    rw [Int.mul_one]
  done:=by
    intro X hP hw hK hc i pins s σ H E I hf st hg
    subst hP hw hK
    obtain ⟨f0,f1,f2,f3,f4,f5⟩:=hf it (by simp)
    exact wpAny_pyNext_range_end (I.ok.hd hc) st (by have:n<=i:=hg; omega) fun h' eb=>⟨rfl,I.turned (t':=s.toks) (fun b o hb e=>eb b o hb e) f0 f1 f3 f4 f5⟩
  self:=fun _ _ _ _ _ st h=>wpAny_pyIter_rangeiter st h
section
variable {X:Cx} {tg:Expr}
noncomputable def iList (K:FG) (tl:TE):TI:=fun σ H R=>tl σ H fun x H1=>∃ a,x=.ref a/\(∃ xs,SqL K H1 a xs)/\R (Itl K a) H1
theorem pi_list {l:Expr} {tl:TE} (hl:PE X l tl):PI X tg l (iList X.K tl):=by
  intro pins s σ H R I h
  refine thn (hl pins s σ H _ I h) fun v s1 ⟨x,H1,I1,r1,q1⟩=>?_
  obtain ⟨a,e,⟨xs,hq⟩,q⟩:=q1
  subst e
  cases r1
  obtain ⟨its,rv,p,hz⟩:=I1.list hq
  refine wpAny_pyIter_list p.isList ?_
  refine ⟨s1.heap.objs.size,[s1.heap.objs.size],_,_,H1,rfl,I1.kept (t':=s1.toks) fun b o e=>Heap.get?_push_of_some _ e,turn_list a _,⟨_,Heap.get?_push_size _ rfl,rfl,rfl⟩,fun b hb=>?_,q⟩
  have e:b=s1.heap.objs.size:=by simpa using hb
  subst e
  exact I1.fpOk (Nat.le_refl _) (I1.hok.fresh (Nat.le_refl _))
theorem range_it {σ:St} {H:Hp} {R:It->Hp->Prop} {lo hi:Int} {t u v:Tok} {tk:Nat} (I:Inv X pins σ H s) (h1:-(2 ^ 62)<=lo) (h2:lo < 2 ^ 62) (h3:-(2 ^ 62)<=hi) (h4:hi < 2 ^ 62)
    (q:R (Itr lo (hi - lo).toNat) H):wpAny (model X.prog X.w) X.A (pyIter (.ref s.heap.objs.size)) (PIE X pins σ tg R) E { s with heap:=s.heap.push { cls:=.type "range",data:=.fields #[.int lo t,.int hi u,.int 1 v] },toks:=tk }:=by
  refine wpAny_pyIter_range (IsRange.new ..) (small_one h1 h2 h3 h4) ?_
  have I1:Inv X pins σ H { s with heap:=s.heap.push { cls:=.type "range",data:=.fields #[.int lo t,.int hi u,.int 1 v] },toks:=tk }:=I.kept fun b o e=>Heap.get?_push_of_some _ e
  refine ⟨(s.heap.push { cls:=.type "range",data:=.fields #[.int lo t,.int hi u,.int 1 v] }).objs.size,[(s.heap.push { cls:=.type "range",data:=.fields #[.int lo t,.int hi u,.int 1 v] }).objs.size],_,_,H,rfl,
    I1.kept (t':=tk) fun b o e=>Heap.get?_push_of_some _ e,turn_range _ lo (hi - lo).toNat,?_,fun b hb=>?_,q⟩
  · have e1:lo + ((0:Nat):Int) * 1=lo:=by simp
    have e2:(((hi - lo).toNat:Nat):Int) - ((0:Nat):Int)=Builtin.Range.rangeSize lo hi 1:=by rw [rangeSize_one]; split <;> omega
    show IsRangeIter _ _ (lo + ((0:Nat):Int) * 1) ((((hi - lo).toNat:Nat):Int) - ((0:Nat):Int)) 1
    rw [e1,e2]
    exact Heap.get?_push_size _ rfl
  · have e:b=(s.heap.push { cls:=.type "range",data:=.fields #[.int lo t,.int hi u,.int 1 v] }).objs.size:=by simpa using hb
    subst e
    exact I1.fpOk (Nat.le_refl _) (I1.hok.fresh (Nat.le_refl _))
noncomputable def iRng1 (ta:TA):TI:=fun σ H R=>ta σ H fun vs H1=>∃ j:Int,vs=[.int j]/\-(2 ^ 62)<=j/\j < 2 ^ 62/\R (Itr 0 j.toNat) H1
theorem pi_range1 {a:Expr} {ta:TA} {p pos:Pos} (hg:Gl X "range") (hm:X.mg "range" = none) (ha:PA X [a] ta) (hs:starEach [a] X.env=[(false,eval a X.env)]:=by rfl):PI X tg (.Call (.Name "range" p) [a] [] pos) (iRng1 ta):=by
  intro pins s σ H R I h
  refine Call_ (ld_blt I hg hm boot_range (PyProof.Rows.callWith_type1 (thn (ha pos pins s σ H _ I h) fun us s1 ⟨vs,H1,I1,r1,q1⟩=>?_) hs rfl))
  obtain ⟨j,e,q1,q2,q⟩:=q1
  subst e
  cases r1 with
  | cons r rr=>
    cases rr
    obtain ⟨t,rfl⟩:=r
    exact call_range_1 (range_it I1 (by omega) (by omega) q1 q2 (by simpa using q))
noncomputable def tFor (wi:TI) (g:TG) (tb:TS):TS:=fun D σ H=>wi σ H fun J H1=>∃ W:Nat->Nat->St->Hp->Prop,(∃ m,W 0 m σ H1)/\∀ i m σ H,W i m σ H->
  (J.stop i H/\D.nx σ H)\/(J.go i H/\∃ N:St->Hp->Prop,(∀ σ' H',N σ' H'->∃ m',m' < m/\W (i + 1) m' σ' H')/\∀ x H',J.yld i H x H'->g x σ H' fun σ2 H2=>tb { D with nx:=N,ct:=N,bk:=D.nx } σ2 H2)
noncomputable def pinsAt (fp:List Addr) (h:Heap):List (Addr × Obj):=fp.filterMap fun b=>(h.get? b).map fun o=>(b,o)
theorem mem_pinsAt {fp:List Addr} {h:Heap} {b:Addr} {o:Obj} (hb:b ∈ fp) (e:h.get? b=some o):(b,o) ∈ pinsAt fp h:=List.mem_filterMap.mpr ⟨b,hb,by rw [e]; rfl⟩
theorem of_pinsAt {fp:List Addr} {h:Heap} {p:Addr × Obj} (hp:p ∈ pinsAt fp h):p.1 ∈ fp/\h.get? p.1=some p.2:=by
  obtain ⟨b,hb,e⟩:=List.mem_filterMap.mp hp
  cases q:h.get? b with
  | none=>rw [q] at e; cases e
  | some o=>
    rw [q] at e
    have e':(b,o)=p:=Option.some.inj e
    subst e'
    exact ⟨hb,q⟩
theorem Inv.pinned {σ:St} {H:Hp} {fp:List Addr} (I:Inv X pins σ H s) (hf:∀ b ∈ fp,FpOk X pins H b) (ho:∀ b ∈ fp,∃ o,s.heap.get? b=some o/\∀ v,o.data ≠ .cell v):Inv X (pins++pinsAt fp s.heap) σ H s:=
  I.pins_of fun p hp=>(List.mem_append.mp hp).elim (fun z=>I.pin p (List.mem_append_right _ z)) fun z=>by
    obtain ⟨hb,e⟩:=of_pinsAt z
    obtain ⟨f0,f1,f2,_⟩:=hf p.1 hb
    obtain ⟨o,e',d⟩:=ho p.1 hb
    rw [e] at e'; cases e'
    exact ⟨e,f0,f1,f2,d⟩
theorem Inv.unpinned {pins pl:List (Addr × Obj)} {σ:St} {H:Hp} (I:Inv X (pins++pl) σ H s):Inv X pins σ H s:=I.pins_of fun p hp=>I.pin p (List.mem_append_right _ (List.mem_append_left _ hp))
theorem ps_for {iter:Expr} {body:List Stmt} {wi:TI} {g:TG} {tb:TS} {pos:Pos} (hp:PassesOwn (model X.prog X.w) X.A X.env X.xe) (hc:X.calm=true) (hi:PI X tg iter wi) (hg:PG X tg g) (hb:PSs X body tb)
    (hs:∀ x,foldedSetIterable iter X.env x=pure x:=by intro _; rfl):PS X (.For tg iter body [] pos) (tFor wi g tb):=by
  intro pins s σ H D I h
  refine wpAny_For (thn (hi pins s σ H _ I h) fun v s1 h1=>thn h1 fun itv s2 h2=>?_) hs
  obtain ⟨it,fp,tn,J,H2,e,I2,T,st2,f2,W,⟨m0,w0⟩,turn⟩:=h2
  subst e
  have stat:∀ {H':Hp},(∀ b ∈ fp,H' b=none)->∀ b ∈ fp,FpOk X pins H' b:=fun hn b hb=>⟨hn b hb,(f2 b hb).2⟩
  refine codeAny_forLoop_any (fun n s'=>∃ i σ' H',Inv X pins σ' H' s'/\tn i s'.heap/\(∀ b ∈ fp,H' b=none)/\W i n σ' H') ?_ m0 ⟨0,σ,H2,I2,st2,fun b hb=>(f2 b hb).1,w0⟩
  rintro n s3 ⟨i,σ3,H3,I3,st3,fr3,w3⟩
  rcases turn i n σ3 H3 w3 with ⟨stop,qn⟩ | ⟨go,N,hN,step⟩
  · refine wpAny_passesOwn hp (thn (T.done X rfl rfl rfl hc i pins s3 σ3 H3 X.xe I3 (stat fr3) st3 stop) fun r s4 ⟨hr,I4⟩=>?_)
    subst hr
    exact wpAny_execs_nil ⟨σ3,H3,I4,qn⟩
  · refine wpAny_passesOwn hp (thn (T.item X rfl rfl rfl hc i pins s3 σ3 H3 X.xe I3 (stat fr3) st3 go) fun r s4 ⟨u,hr,h4⟩=>?_)
    subst hr
    refine wpAny_passesOwn hp (thn h4 fun _ s5 ⟨x,H5,I5,r5,y5,st5,fr5⟩=>?_)
    have I5':=I5.pinned (stat fr5) (T.obj _ _ st5)
    refine wpAny_passesOwn hp (thn (hg _ s5 σ3 H5 x u _ I5' r5 (step x H5 y5)) fun _ s6 ⟨σ6,H6,I6,q6⟩=>?_)
    refine wpAny_passesOwn hp (thn (hb _ s6 σ6 H6 _ I6 q6) fun f s7 q7=>?_)
    have again:∀ {σ7:St} {H7:Hp},Inv X (pins++pinsAt fp s5.heap) σ7 H7 s7->N σ7 H7->∃ m,m < n/\∃ i σ' H',Inv X pins σ' H' s7/\tn i s7.heap/\(∀ b ∈ fp,H' b=none)/\W i m σ' H':=fun {σ7 H7} I7 n7=>by
      obtain ⟨m',hm,w7⟩:=hN σ7 H7 n7
      refine ⟨m',hm,i + 1,σ7,H7,I7.unpinned,T.keep _ _ _ st5 fun b hb o e=>(I7.pin (b,o) (List.mem_append_right _ (List.mem_append_right _ (mem_pinsAt hb e)))).1,fun b hb=>?_,w7⟩
      obtain ⟨o,e,d⟩:=T.obj _ _ st5 b hb
      exact (I7.pin (b,o) (List.mem_append_right _ (List.mem_append_right _ (mem_pinsAt hb e)))).2.1
    cases f with
    | next=>obtain ⟨σ7,H7,I7,n7⟩:=q7; exact again I7 n7
    | cont=>obtain ⟨σ7,H7,I7,n7⟩:=q7; exact again I7 n7
    | brk=>obtain ⟨σ7,H7,I7,q7⟩:=q7; exact ⟨σ7,H7,I7.unpinned,q7⟩
    | ret v=>obtain ⟨x7,σ7,H7,I7,r7,q7⟩:=q7; exact ⟨x7,σ7,H7,I7.unpinned,r7,q7⟩
end
noncomputable abbrev R2:=V->V->Hp->VK->Prop
noncomputable def OpR (X:Cx) (f:Value->Value->Sem Value) (r:R2):Prop:=
  ∀ (pins:List (Addr × Obj)) (s:Shared) (σ:St) (H:Hp) (x y:V) (v u:Value) (Q:VK),Inv X pins σ H s->RelV x v->RelV y u->r x y H Q->
    wpAny (model X.prog X.w) X.A (f v u) (EP X pins σ Q) X.xe s
noncomputable def CallR (X:Cx) (f:Value) (r:List V->Hp->VK->Prop):Prop:=
  ∀ (pins:List (Addr × Obj)) (s:Shared) (σ:St) (H:Hp) (xs:List V) (us:List Value) (Q:VK),Inv X pins σ H s->Vals xs us->r xs H Q->
    wpAny (model X.prog X.w) X.A (call f us) (EP X pins σ Q) X.xe s
noncomputable def TruR (X:Cx) (r:V->Hp->(Bool->Hp->Prop)->Prop):Prop:=
  ∀ (pins:List (Addr × Obj)) (s:Shared) (σ:St) (H:Hp) (x:V) (v:Value) (Q:Bool->Hp->Prop),Inv X pins σ H s->RelV x v->r x H Q->
    wpAny (model X.prog X.w) X.A (truthy v) (TP X pins σ Q) X.xe s
noncomputable def tOp (r:R2) (ta tb:TE):TE:=fun σ H Q=>ta σ H fun x H1=>tb σ H1 fun y H2=>r x y H2 Q
noncomputable def rI (C:Int->Int->Prop) (g:Int->Int->V):R2:=fun x y H Q=>∃ i j,x=.int i/\y=.int j/\C i j/\Q (g i j) H
noncomputable def rI0 (g:Int->Int->V):R2:=fun x y H Q=>∃ i j,x=.int i/\y=.int j/\Q (g i j) H
section
variable {X:Cx} {a b c:Expr} {ta tb tc:TE} {pos:Pos}
theorem binT (ha:PE X a ta) (hb:PE X b tb) {σ:St} {H:Hp} {R:V->V->Hp->Prop} (I:Inv X pins σ H s)
    (h:ta σ H fun x H1=>tb σ H1 fun y H2=>R x y H2) {Q:Value->Shared->Prop} {f:Value->Value->Sem Value}
    (hf:∀ v u s2 x y H2,Inv X pins σ H2 s2->RelV x v->RelV y u->R x y H2->wpAny (model X.prog X.w) X.A (f v u) Q X.xe s2):
    wpAny (model X.prog X.w) X.A (eval a X.env) (fun v s₁=>wpAny (model X.prog X.w) X.A (eval b X.env) (fun u s₂=>wpAny (model X.prog X.w) X.A (f v u) Q X.xe s₂) X.xe s₁) X.xe s:=by
  refine thn (ha pins s σ H _ I h) fun v s1 ⟨x,H1,I1,r1,q1⟩=>?_
  refine thn (hb pins s1 σ H1 _ I1 q1) fun u s2 ⟨y,H2,I2,r2,q2⟩=>?_
  exact hf v u s2 x y H2 I2 r1 r2 q2
theorem pe_op {op:Operator} {r:R2} (ho:OpR X (binaryOp op) r) (ha:PE X a ta) (hb:PE X b tb):PE X (.BinOp a op b pos) (tOp r ta tb):=by
  intro pins s σ H Q I h
  exact wpAny_BinOp (binT ha hb I h fun v u s2 x y H2 I2 rx ry q=>ho pins s2 σ H2 x y v u Q I2 rx ry q)
theorem opI {f:Value->Value->Sem Value} {C:Int->Int->Prop} {g:Int->Int->Int}
    (rule:∀ (i j:Int) (t u:Tok) (s:Shared) (Q:Value->Shared->Prop) (E:Value->Shared->Prop),C i j->Q (.int (g i j) s.toks) { s with toks:=s.toks + 1 }->wpAny (model X.prog X.w) X.A (f (.int i t) (.int j u)) Q E s):
    OpR X f (rI C fun i j=>.int (g i j)):=by
  intro pins s σ H x y v u Q I rx ry h
  obtain ⟨i,j,rfl,rfl,hc,q⟩:=h
  obtain ⟨t,rfl⟩:=rx
  obtain ⟨t',rfl⟩:=ry
  exact rule i j t t' s _ _ hc ⟨.int (g i j),H,I.tok _,⟨_,rfl⟩,q⟩
theorem opI0 {f:Value->Value->Sem Value} {g:Int->Int->Int}
    (rule:∀ (i j:Int) (t u:Tok) (s:Shared) (Q:Value->Shared->Prop) (E:Value->Shared->Prop),Q (.int (g i j) s.toks) { s with toks:=s.toks + 1 }->wpAny (model X.prog X.w) X.A (f (.int i t) (.int j u)) Q E s):
    OpR X f (rI0 fun i j=>.int (g i j)):=by
  intro pins s σ H x y v u Q I rx ry h
  obtain ⟨i,j,rfl,rfl,q⟩:=h
  obtain ⟨t,rfl⟩:=rx
  obtain ⟨t',rfl⟩:=ry
  exact rule i j t t' s _ _ ⟨.int (g i j),H,I.tok _,⟨_,rfl⟩,q⟩
theorem opB0 {f:Value->Value->Sem Value} {g:Int->Int->Bool}
    (rule:∀ (i j:Int) (t u:Tok) (s:Shared) (Q:Value->Shared->Prop) (E:Value->Shared->Prop),Q (.bool (g i j)) s->wpAny (model X.prog X.w) X.A (f (.int i t) (.int j u)) Q E s):
    OpR X f (rI0 fun i j=>.bl (g i j)):=by
  intro pins s σ H x y v u Q I rx ry h
  obtain ⟨i,j,rfl,rfl,q⟩:=h
  obtain ⟨t,rfl⟩:=rx
  obtain ⟨t',rfl⟩:=ry
  exact rule i j t t' s _ _ ⟨.bl (g i j),H,I,rfl,q⟩
noncomputable def CDiv (i j:Int):Prop:=0 < j/\j < 1073741824
noncomputable def CPow (i j:Int):Prop:=0<=j/\j<=1000000/\i.natAbs < 2 ^ 64
noncomputable def CMul (i j:Int):Prop:=(-(2 ^ 64) < i/\i < 2 ^ 64)\/(-(2 ^ 64) < j/\j < 2 ^ 64)
theorem CMul.ok {i j:Int} (h:CMul i j):IntMulOk i j:=by
  rcases h with ⟨h1,h2⟩ | ⟨h1,h2⟩
  · exact .of_left (intBits_le_64 h1 h2)
  · exact .of_right (intBits_le_64 h1 h2)
theorem op_add:OpR X (binaryOp .Add) (rI0 fun i j=>.int (i + j)):=opI0 fun _ _ _ _ _ _ _ q=>add_int q
theorem op_sub:OpR X (binaryOp .Sub) (rI0 fun i j=>.int (i - j)):=opI0 fun _ _ _ _ _ _ _ q=>sub_int q
theorem op_mul:OpR X (binaryOp .Mult) (rI CMul fun i j=>.int (i * j)):=opI fun _ _ _ _ _ _ _ hc q=>mul_int q hc.ok
theorem op_fdiv:OpR X (binaryOp .FloorDiv) (rI CDiv fun i j=>.int (i / j)):=opI fun i j _ _ _ _ _ hc q=>by
  have h1:(0:Int) < j:=hc.1
  have h2:j < 1073741824:=hc.2
  exact floordiv_int (by omega) (by rw [Int.fdiv_eq_ediv_of_nonneg i (by omega)]; exact q) (.inl (PyProof.noPylong_small (by omega)))
theorem op_mod:OpR X (binaryOp .Mod) (rI (fun _ j=>0 < j) fun i j=>.int (i % j)):=opI fun i j _ _ _ _ _ hc q=>by
  have h1:(0:Int) < j:=hc
  exact mod_int' (by omega) (by rw [Int.fmod_eq_emod_of_nonneg i (by omega)]; exact q)
theorem op_pow:OpR X (binaryOp .Pow) (rI CPow fun i j=>.int (i ^ j.toNat)):=opI fun _ _ _ _ _ _ _ hc q=>pow_int_small hc.1 hc.2.1 hc.2.2 q
end
noncomputable def scal:V->V->Bool
  | .non,.non=>true | .non,.int _=>true | .int _,.non=>true | .non,.bl _=>true | .bl _,.non=>true | .non,.str _=>true | .str _,.non=>true
  | .int _,.int _=>true | .bl _,.bl _=>true | .str _,.str _=>true | .byt _,.byt _=>true
  | .int _,.str _=>true | .str _,.int _=>true | .bl _,.str _=>true | .str _,.bl _=>true
  | _,_=>false
section
variable {X:Cx} {a b c:Expr} {ta tb tc:TE} {pos:Pos}
theorem fin_bl {σ:St} {H:Hp} {Q:VK} {k k':Bool} (I:Inv X pins σ H s) (q:Q (.bl k) H) (e:k=k'):EP X pins σ Q (.bool k') s:=by
  subst e
  exact ⟨.bl k,H,I,rfl,q⟩
theorem op_lt:OpR X (compareOp .Lt) (rI0 fun i j=>.bl (decide (i < j))):=opB0 fun _ _ _ _ _ _ _ q=>lt_int q
theorem op_gt:OpR X (compareOp .Gt) (rI0 fun i j=>.bl (decide (j < i))):=opB0 fun _ _ _ _ _ _ _ q=>gt_int q
theorem op_in_str:OpR X (compareOp .In) (fun x y H Q=>∃ i j,x=.str i/\y=.str j/\Q (.bl (!(Builtin.Str.occurrences j i 0 j.length 1).isEmpty)) H):=by
  intro pins s σ H x y v u Q I rx ry h
  obtain ⟨i,j,rfl,rfl,q⟩:=h
  obtain ⟨t,rfl⟩:=rx
  obtain ⟨t',rfl⟩:=ry
  exact in_str (fin_bl I q rfl)
theorem op_isN:OpR X (compareOp .Is) (fun x y H Q=>y=.non/\Q (.bl (decide (x=.non))) H):=by
  intro pins s σ H x y v u Q I rx ry h
  obtain ⟨rfl,q⟩:=h
  cases ry
  refine is_none_gen (fin_bl I q ?_)
  cases x <;> first
    | (cases rx; rfl)
    | (obtain ⟨t,rfl⟩:=rx; rfl)
theorem OpR.or {f:Value->Value->Sem Value} {r r':R2} (h:OpR X f r) (h':OpR X f r'):OpR X f (fun x y H Q=>r x y H Q\/r' x y H Q):=by
  intro pins s σ H x y v u Q I rx ry q
  rcases q with q | q
  · exact h pins s σ H x y v u Q I rx ry q
  · exact h' pins s σ H x y v u Q I rx ry q
theorem nomark (b:Expr) {op:CmpOp} (h:op ≠ .In:=by decide) (h2:op ≠ .NotIn:=by decide):behindInMarks op b=false:=by
  have e1:(op == CmpOp.In)=false:=by cases op <;> first | rfl | exact absurd rfl h
  have e2:(op == CmpOp.NotIn)=false:=by cases op <;> first | rfl | exact absurd rfl h2
  cases b <;> simp [behindInMarks,e1,e2]
theorem pe_cmpR {op:CmpOp} {r:R2} (ho:OpR X (compareOp op) r) (ha:PE X a ta) (hb:PE X b tb) (hm:behindInMarks op b=false):PE X (.Compare a [op] [b] pos) (tOp r ta tb):=by
  intro pins s σ H Q I h
  exact wpAny_Compare1 (binT ha hb I h fun v u s2 x y H2 I2 rx ry q=>ho pins s2 σ H2 x y v u Q I2 rx ry q) hm
noncomputable def tTest (t:TE):TT:=fun σ H Q=>t σ H fun x H'=>∃ k,x=.bl k/\Q k H'
theorem pt_cmpR {op:CmpOp} {r:R2} (ho:OpR X (compareOp op) r) (ha:PE X a ta) (hb:PE X b tb) (hm:behindInMarks op b=false):PT X (.Compare a [op] [b] pos) (tTest (tOp r ta tb)):=by
  intro pins s σ H Q I h
  refine wpAny_isTrue_Compare1 (thn (ha pins s σ H _ I h) fun v s1 ⟨x,H1,I1,r1,q1⟩=>thn (hb pins s1 σ H1 _ I1 q1) fun u s2 ⟨y,H2,I2,r2,q2⟩=>
    thn (ho pins s2 σ H2 x y v u _ I2 r1 r2 q2) fun c s3 ⟨z,H3,I3,r3,k,e,q3⟩=>?_) hm
  subst e
  cases r3
  exact wpAny_truthy_bool ⟨H3,I3,q3⟩
noncomputable def TruV (K:FG) (x:V) (H:Hp) (k:Bool):Prop:=
  match x with
  | .non=>k=false
  | .bl b=>k=b
  | .int i=>k=(i != 0)
  | .str y=>y.length<=sizeLine/\k=((y.length:Int) != 0)
  | .byt y=>y.size<=sizeLine/\k=((y.size:Int) != 0)
  | .ref p=>(∃ xs,SqL K H p xs/\k=!xs.isEmpty)\/(∃ xs,SqT K H p xs/\k=!xs.isEmpty)\/∃ kvs,H p=some (.dK kvs)/\k=!kvs.isEmpty
  | _=>False
theorem isEmpty_kv {κ:Type} {kvs:List (κ × V)} {vs:List (κ × Value)} (r:KV kvs vs):(!vs.isEmpty)=!kvs.isEmpty:=by
  cases r <;> rfl
theorem isEmpty_of {xs:List V} {its:List Value} (r:Vals xs its):(!its.toArray.isEmpty)=!xs.isEmpty:=by
  cases r <;> simp
theorem line63:(sizeLine:Nat) < 2 ^ 63:=by rw [sizeLine_eq]; decide
theorem tru_ok:TruR X (fun x H Q=>∃ k,TruV X.K x H k/\Q k H):=by
  intro pins s σ H x v Q I rx h
  obtain ⟨k,e,q⟩:=h
  have hl:=line63
  have hs:sizeLine=16777216:=sizeLine_eq
  cases x with
  | non=>
    cases rx
    have e':k=false:=e
    subst e'
    exact truthy_none ⟨H,I,q⟩
  | bl b=>
    cases rx
    have e':k=b:=e
    subst e'
    exact wpAny_truthy_bool ⟨H,I,q⟩
  | int i=>
    obtain ⟨t,rfl⟩:=rx
    have e':k=(i != 0):=e
    subst e'
    exact PySem.P.truthy_int ⟨H,I,q⟩
  | str y=>
    obtain ⟨t,rfl⟩:=rx
    obtain ⟨hy,e'⟩:y.length<=sizeLine/\k=((y.length:Int) != 0):=e
    subst e'
    exact PySem.P.truthy_str (by omega) ⟨H,I.tok _,q⟩
  | byt y=>
    obtain ⟨t,rfl⟩:=rx
    obtain ⟨hy,e'⟩:y.size<=sizeLine/\k=((y.size:Int) != 0):=e
    subst e'
    exact PySem.W.truthy_bytes (by omega) ⟨H,I.tok _,q⟩
  | ref p=>
    cases rx
    have e':(∃ xs,SqL X.K H p xs/\k=!xs.isEmpty)\/(∃ xs,SqT X.K H p xs/\k=!xs.isEmpty)\/∃ kvs,H p=some (.dK kvs)/\k=!kvs.isEmpty:=e
    rcases e' with ⟨xs,hx,e'⟩ | ⟨xs,hx,e'⟩ | ⟨kvs,hx,e'⟩
    · subst e'
      obtain ⟨its,r,pl,hz⟩:=I.list hx
      have hlen:=r.length
      exact wpAny_truthy_list pl.isList (by simp only [List.size_toArray]; omega) ⟨H,I.tok _,by rw [isEmpty_of r]; exact q⟩
    · subst e'
      obtain ⟨its,r,pl,hz⟩:=I.tuple hx
      have hlen:=r.length
      exact truthy_tuple pl (by simp only [List.size_toArray]; omega) ⟨H,I.tok _,by rw [isEmpty_of r]; exact q⟩
    · subst e'
      obtain ⟨hz,hS,vs,r,m⟩:kvs.length<=sizeLine/\(p == sysModules)=false/\∃ vs,KV kvs vs/\s.heap.DictOf (mixKind X.prog X.w) p vs:=I.hok p _ hx
      have hlen:kvs.length=vs.length:=Paired.length r
      exact wpAny_truthy_dict hS m (by omega) ⟨H,I.tok _,by rw [isEmpty_kv r]; exact q⟩
  | _=>exact (show False from e).elim
theorem pt_truth (ha:PE X a ta) (he:∀ whole,isTrue a X.env whole=(do let v ← whole; standAt a.pos; holding [v] (truthy v))):
    PT X a (fun σ H Q=>ta σ H fun x H'=>∃ k,TruV X.K x H' k/\Q k H'):=by
  intro pins s σ H Q I h
  exact isTrue_plain (thn (ha pins s σ H _ I h) fun v s1 ⟨x,H1,I1,r1,q1⟩=>tru_ok pins s1 σ H1 x v Q I1 r1 q1) (he _)
theorem op_add_str:OpR X (binaryOp .Add) (fun x y H Q=>∃ i j,x=.str i/\y=.str j/\i.length + j.length<=sizeLine/\Q (.str (i++j)) H):=by
  intro pins s σ H x y v u Q I rx ry h
  obtain ⟨i,j,rfl,rfl,hz,q⟩:=h
  obtain ⟨t,rfl⟩:=rx
  obtain ⟨t',rfl⟩:=ry
  exact add_str (fun t' tk=>⟨.str (i++j),H,I.tok _,⟨_,rfl⟩,q⟩) hz
theorem vals1 {x:V} {us:List Value} (r:Vals [x] us):∃ u,us=[u]/\RelV x u:=by
  cases r with
  | cons r1 r2=>cases r2; exact ⟨_,rfl,r1⟩
theorem vals2 {x y:V} {us:List Value} (r:Vals [x,y] us):∃ u w',us=[u,w']/\RelV x u/\RelV y w':=by
  cases r with
  | cons r1 r2=>
    cases r2 with
    | cons r3 r4=>cases r4; exact ⟨_,_,rfl,r1,r3⟩
theorem call_max2 (hc:X.calm=true):CallR X (.builtin "max") (fun xs H Q=>∃ i j,xs=[.int i,.int j]/\Q (.int (if j > i then j else i)) H):=by
  intro pins s σ H xs us Q I r h
  obtain ⟨i,j,rfl,q⟩:=h
  obtain ⟨u,w',rfl,⟨t,rfl⟩,⟨t',rfl⟩⟩:=vals2 r
  refine max_two_ints (I.ok.hd hc) fun h' tk k=>⟨_,H,I.kept k,?_,q⟩
  by_cases hj:j > i
  · rw [if_pos hj,if_pos hj]; exact ⟨_,rfl⟩
  · rw [if_neg hj,if_neg hj]; exact ⟨_,rfl⟩
theorem call_min2 (hc:X.calm=true):CallR X (.builtin "min") (fun xs H Q=>∃ i j,xs=[.int i,.int j]/\Q (.int (if j < i then j else i)) H):=by
  intro pins s σ H xs us Q I r h
  obtain ⟨i,j,rfl,q⟩:=h
  obtain ⟨u,w',rfl,⟨t,rfl⟩,⟨t',rfl⟩⟩:=vals2 r
  refine min_two_ints (I.ok.hd hc) fun h' tk k=>⟨_,H,I.kept k,?_,q⟩
  by_cases hj:j < i
  · rw [if_pos hj,if_pos hj]; exact ⟨_,rfl⟩
  · rw [if_neg hj,if_neg hj]; exact ⟨_,rfl⟩
noncomputable def LenV (K:FG) (x:V) (H:Hp) (n:Nat):Prop:=
  match x with
  | .str y=>y.length<=sizeLine/\n=y.length
  | .byt y=>y.size<=sizeLine/\n=y.size
  | .ref p=>(∃ xs,SqL K H p xs/\n=xs.length)\/∃ xs,SqT K H p xs/\n=xs.length
  | _=>False
theorem call_len:CallR X (.builtin "len") (fun xs H Q=>∃ x n,xs=[x]/\LenV X.K x H n/\Q (.int n) H):=by
  intro pins s σ H xs us Q I r h
  obtain ⟨x,n,rfl,e,q⟩:=h
  obtain ⟨u,rfl,rx⟩:=vals1 r
  have hl:=line63
  have hs:sizeLine=16777216:=sizeLine_eq
  cases x with
  | str y=>
    obtain ⟨t,rfl⟩:=rx
    obtain ⟨hy,e'⟩:y.length<=sizeLine/\n=y.length:=e
    subst e'
    exact len_str (by omega) ⟨.int _,H,I.tok _,⟨_,rfl⟩,q⟩
  | byt y=>
    obtain ⟨t,rfl⟩:=rx
    obtain ⟨hy,e'⟩:y.size<=sizeLine/\n=y.size:=e
    subst e'
    exact PySem.W.len_bytes (by omega) ⟨.int _,H,I.tok _,⟨_,rfl⟩,q⟩
  | ref p=>
    cases rx
    have e':(∃ xs,SqL X.K H p xs/\n=xs.length)\/∃ xs,SqT X.K H p xs/\n=xs.length:=e
    rcases e' with ⟨xs,hx,e'⟩ | ⟨xs,hx,e'⟩
    · subst e'
      obtain ⟨its,r',pl,hz⟩:=I.list hx
      have hlen:=r'.length
      exact Calls.call_len_list pl.isList (by simp only [List.size_toArray]; omega) ⟨.int xs.length,H,I.tok _,⟨_,by simp only [List.size_toArray]; rw [hlen]⟩,q⟩
    · subst e'
      obtain ⟨its,r',pl,hz⟩:=I.tuple hx
      have hlen:=r'.length
      exact len_tuple pl (by simp only [List.size_toArray]; omega) ⟨.int xs.length,H,I.tok _,⟨_,by simp only [List.size_toArray]; rw [hlen]⟩,q⟩
  | _=>exact (show False from e).elim
end
section
variable {prog:Program} {w:World} {A:Around} {E:Value->Shared->Prop} {s:Shared} {K:FG} {x dx C f:Addr} {mA:Str->Option Value} {name:Str} {v:Value}
end
theorem RelO.some_of {v:V} {o:Option Value} (r:RelO (some v) o):∃ u,o=some u/\RelV v u:=by
  cases o with
  | none=>exact (show False from r).elim
  | some u=>exact ⟨u,rfl,r⟩
section
variable {P:Program} {w:World} {H H':Hp} {h h':Heap} {a C dx:Addr} {fs fs':List (Str × V)}
end
section
variable {X:Cx} {pins:List (Addr × Obj)} {σ:St} {H:Hp} {s:Shared} {a C dx:Addr} {fs:List (Str × V)} {f:Str} {v:V} {A:Around} {E:Value->Shared->Prop}
end
section
variable {X:Cx} {o e value:Expr} {f:Str} {pos pos' tpos:Pos} {ta tv:TE}
noncomputable def rAdd:V->V->Hp->VK->Prop:=fun x y H Q=>∃ i j,x=.int i/\y=.int j/\Q (.int (i + j)) H
end
section
variable {X:Cx} {pins:List (Addr × Obj)} {σ:St} {H:Hp} {s:Shared} {A:Around} {E:Value->Shared->Prop} {Q:Value->Shared->Prop} {c:Value} {b:Bool}
end
structure Room (k:Nat) (A:Around):Prop where
  hd:A.handled=none
  dp:A.depth + 3 * k + 5 < recursionLimit
  un:A.units + 16 * k + 200 < cLine
theorem Room.mono {j k:Nat} (r:Room k A) (h:j<=k):Room j A:=⟨r.hd,by have:=r.dp; omega,by have:=r.un; omega⟩
theorem Room.deeper {k:Nat} (r:Room (k + 1) A) (env:Env):Room k (A.deeper env):=
  ⟨r.hd,by have:=r.dp; show A.depth + 1 + 3 * k + 5 < _; omega,by have:=r.un; show A.units + 3 + 16 * k + 200 < _; omega⟩
theorem Room.depth {k:Nat} (r:Room k A):A.depth < recursionLimit:=by have:=r.dp; omega
theorem Room.units {k:Nat} (r:Room k A):A.units + 64 < cLine:=by have:=r.un; omega
noncomputable def tNil:TA:=fun _ H Q=>Q [] H
noncomputable def tCons (ta:TE) (tr:TA):TA:=fun σ H Q=>ta σ H fun x H1=>tr σ H1 fun xs H2=>Q (x::xs) H2
section
variable {X:Cx} {e:Expr} {es:List Expr} {te:TE} {t:TA} {pos:Pos}
theorem pa_nil:PA X [] tNil:=fun _ _ _ _ H Q I h=>Calls.spliced_nil ⟨[],H,I,.nil,h⟩
theorem pa_cons (ha:PE X e te) (hr:PA X es t) (hs:starEach (e::es) X.env=(false,eval e X.env)::starEach es X.env:=by rfl):PA X (e::es) (tCons te t):=by
  intro pos pins s σ H Q I h
  rw [hs]
  show wpAny _ _ (spliced ((false,eval e X.env)::backTo pos (starEach es X.env))) _ _ s
  refine Calls.spliced_cons (thn (ha pins s σ H _ I h) fun u s1 ⟨x,H1,I1,r1,q1⟩=>?_)
  exact thn (hr pos pins s1 σ H1 _ I1 q1) fun us s2 ⟨xs,H2,I2,r2,q2⟩=>⟨x::xs,H2,I2,.cons r1 r2,q2⟩
noncomputable def tTup (t:TA):TE:=fun σ H Q=>t σ H fun xs H1=>xs.length<=sizeLine/\∀ p,H1 p=none->Q (.ref p) (upd H1 p (.tup xs))
noncomputable def tLst (t:TA):TE:=fun σ H Q=>t σ H fun xs H1=>xs.length<=sizeLine/\∀ p,H1 p=none->Q (.ref p) (upd H1 p (.lst xs))
theorem pe_tup {x1} (h:PA X es t):PE X (.Tuple es x1 pos) (tTup t):=by
  intro pins s σ H Q I hq
  refine wpAny_Tuple_spliced (thn (h pos pins s σ H _ I hq) fun us s1 ⟨xs,H1,I1,r,z,q⟩=>⟨by rw [← r.length]; exact z,?_⟩)
  have hf:H1 s1.heap.objs.size=none:=I1.hok.fresh (Nat.le_refl _)
  refine ⟨.ref s1.heap.objs.size,upd H1 s1.heap.objs.size (.tup xs),I1.laid (t':=s1.toks) (fun b u e=>Heap.get?_push_of_some _ e) (Nat.le_refl _) ?_,rfl,q _ hf⟩
  exact ⟨z,us,r,⟨_,Heap.get?_push_size _ rfl,rfl,_,rfl⟩⟩
theorem pe_lst (h:PA X es t):PE X (.List es pos) (tLst t):=by
  intro pins s σ H Q I hq
  refine wpAny_List_spliced (thn (h pos pins s σ H _ I hq) fun us s1 ⟨xs,H1,I1,r,z,q⟩=>⟨by rw [← r.length]; exact z,?_⟩)
  have hf:H1 s1.heap.objs.size=none:=I1.hok.fresh (Nat.le_refl _)
  refine ⟨.ref s1.heap.objs.size,upd H1 s1.heap.objs.size (.lst xs),I1.laid (t':=s1.toks) (fun b u e=>Heap.get?_push_of_some _ e) (Nat.le_refl _) ?_,rfl,q _ hf⟩
  exact ⟨z,us,0,r,Heap.get?_push_size _ rfl⟩
end
noncomputable abbrev Sp:=List V->Hp->VK->XK->Prop
noncomputable abbrev CXT:=List Env->Hp->Shared->XK->Value->Shared->Prop
structure Env0 (P:Program) (w:World) (K:FG) (mg:Str->Option Value) (base:Heap) (A:Around) (outer:List Env) (s:Shared) (H:Hp):Prop where
  frames:A.frames=some outer
  mod:Mod K mg base
  bs:∀ b o,base.get? b=some o->s.heap.get? b=some o/\H b=none
  bsz:base.objs.size<=s.heap.objs.size
  funs:s.heap.FunFrames base outer
  frf:∀ b ∈ frs outer,H b=none
  hok:HOk P w H s.heap
  bare:AllBare s.gens
noncomputable def CE (outer:List Env) (P:Program) (w:World) (H:Hp) (s:Shared) (Q:VK) (u:Value) (s':Shared):Prop:=
  ∃ v H',s'.os=s.os/\AllBare s'.gens/\Un (frs outer) [] H H' s.heap s'.heap/\HOk P w H' s'.heap/\RelV v u/\Q v H'
noncomputable def CR (CX:CXT) (outer:List Env) (P:Program) (w:World) (H:Hp) (s:Shared) (Q:VK) (E:XK) (r:Result) (s':Shared):Prop:=
  match r with
  | .ok (.ret u)=>CE outer P w H s Q u s'
  | .ok _=>False
  | .error e=>CX outer H s E e s'
structure FnOk (P:Program) (w:World) (K:FG) (mg:Str->Option Value) (base:Heap) (CX:CXT) (k:Nat) (f:Addr) (fd:FuncData) (ps:List Str) (sp:Sp):Prop where
  len:∀ vs H Q E,sp vs H Q E->vs.length=ps.length
  run:∀ (A:Around) (outer:List Env) (s:Shared) (H:Hp) (args:Args) (us:List Value) (vs:List V) (Q:VK) (E:XK),Room k A->Env0 P w K mg base A outer s H->BindsTo s fd args (ps.zip us)->Vals vs us->sp vs H Q E->
    codeAny (model P w) A (.call (.ref f) args) (CR CX outer P w H s Q E) s
theorem FnOk.imp {K:FG} {mg:Str->Option Value} {base:Heap} {CX:CXT} {k:Nat} {f:Addr} {fd:FuncData} {ps:List Str} {sp sp':Sp} (F:FnOk P w K mg base CX k f fd ps sp)
    (h:∀ vs H Q E,sp' vs H Q E->sp vs H Q E):FnOk P w K mg base CX k f fd ps sp':=
  ⟨fun vs H Q E q=>F.len vs H Q E (h _ _ _ _ q),fun A outer s H args us vs Q E hr he hb hv hs=>F.run A outer s H args us vs Q E hr he hb hv (h _ _ _ _ hs)⟩
section
variable {X:Cx} {pins:List (Addr × Obj)} {σ:St} {H:Hp} {s s':Shared}
theorem Inv.env0 (I:Inv X pins σ H s):Env0 X.prog X.w X.K X.mg X.base X.A X.stack s H:=
  ⟨I.ok.frames,I.ok.mod,I.bs,Nat.le_trans I.ok.bsz I.sz,I.stack,I.stkFree,I.hok,I.bare⟩
theorem Inv.after {Q:VK} {u:Value} (I:Inv X pins σ H s) (h:CE X.stack X.prog X.w H s Q u s'):EP X pins σ Q u s':=by
  obtain ⟨v,H',os,bare,un,hok,r,q⟩:=h
  obtain ⟨hh,g,d,t,os'⟩:=s'
  obtain rfl:os'=s.os:=os
  exact ⟨v,H',I.call (h':=hh) (g':=g) (d':=d) (t':=t) (ch:=[]) un hok bare (fun b z=>absurd z (by simp)),r,q⟩
end
noncomputable def tCall (sp:Sp) (dvs:List V) (E:XK) (t:TA):TE:=fun σ H Q=>t σ H fun vs H1=>sp (vs++dvs) H1 Q E
noncomputable def Binds (K:FG) (fd:FuncData) (ps:List Str) (ds:List Value):Prop:=
  ∀ (s:Shared) (us:List Value),K.In s.heap->(us++ds).length=ps.length->BindsTo s fd ⟨us,[]⟩ (ps.zip (us++ds))
theorem Binds.all {K:FG} {fd:FuncData} {ps:List Str} (h:∀ us:List Value,us.length=ps.length->bindArgs fd ⟨us,[]⟩=pure (ps.zip us)):Binds K fd ps []:=fun s us _ hl=>by
  rw [List.append_nil] at hl ⊢
  exact .of_eq (h us hl)
noncomputable def Passes (CX:CXT) (X:Cx) (E:XK):Prop:=∀ (pins:List (Addr × Obj)) (σ:St) (H:Hp) (s:Shared) (e:Value) (s':Shared),Inv X pins σ H s->CX X.stack H s E e s'->X.xe e s'
section
variable {X:Cx} {CX:CXT} {k:Nat} {f C:Addr} {fd:FuncData} {ps:List Str} {sp:Sp} {dvs:List V} {ds:List Value} {E:XK} {x m:Str} {p pos apos:Pos} {e o:Expr} {es:List Expr} {ta:TE} {t:TA}
theorem run_fn {σ:St} {H:Hp} {Q:VK} {us:List Value} {vs:List V} (F:FnOk X.prog X.w X.K X.mg X.base CX k f fd ps sp) (hr:Room k X.A) (hb:Binds X.K fd ps ds) (hd:Vals dvs ds) (hx:Passes CX X E)
    (I:Inv X pins σ H s) (r:Vals vs us) (h:sp (vs++dvs) H Q E):wpAny (model X.prog X.w) X.A (call (.ref f) us) (EP X pins σ Q) X.xe s:=by
  have r2:Vals (vs++dvs) (us++ds):=r.append hd
  have hl:(us++ds).length=ps.length:=by rw [← r2.length]; exact F.len _ _ _ _ h
  refine wpAny_call (codeAny_mono (F.run X.A X.stack s H ⟨us,[]⟩ (us++ds) (vs++dvs) Q E hr I.env0 (hb s us I.kIn hl) r2 h) fun r s' hq=>?_)
  cases r with
  | error e=>exact hx pins σ H s e s' I hq
  | ok fl=>
    cases fl with
    | ret u=>exact I.after hq
    | next=>exact False.elim hq
    | brk=>exact False.elim hq
    | cont=>exact False.elim hq
theorem pe_call (F:FnOk X.prog X.w X.K X.mg X.base CX k f fd ps sp) (hr:Room k X.A) (hg:Gl X x) (hm:X.mg x=some (.ref f)) (hk:PySem.W.keepIn X.K (.ref f)=true) (hb:Binds X.K fd ps ds) (hd:Vals dvs ds) (hx:Passes CX X E)
    (ha:PA X (e::es) t) (hdb:(x == ("__debug__" : Str))=false:=by decide) (he:starEach (e::es) X.env=(false,eval e X.env)::starEach es X.env:=by rfl) (hpl:(backTo pos (starEach es X.env)).any (·.1)=false:=by rfl):
    PE X (.Call (.Name x p) (e::es) [] pos) (tCall sp dvs E t):=by
  intro pins s σ H Q I h
  refine wpAny_Call_Name_kw (ld_glob I hg hm ?_ hdb)
  refine PySem.W.callWith_K (h₀:=X.base) I.ok.mod.kin hk (thn (ha pos pins s σ H _ I h) fun us s1 ⟨vs,H1,I1,r,q⟩=>⟨I1.kIn,?_⟩) he hpl
  exact run_fn F hr hb hd hx I1 r q
end
section
variable {X:Cx} {CX:CXT} {k:Nat} {f C:Addr} {fd:FuncData} {ps ks:List Str} {sp:Sp} {E:XK} {x m:Str} {p pos apos kpos:Pos} {e o:Expr} {es:List Expr} {kws:List Keyword} {te ta:TE} {t tk:TA} {nm:Option Str}
variable {g:List Value->List Value->List Value} {gV:List V->List V->List V}
end
structure FnScope (N P:List Str) (sc:Scope):Prop where
  kind:sc.kind=.function
  co:sc.isCoroutine=false
  gen:sc.isGenerator=false
  nd:N.Nodup
  pre:N.take P.length=P
  par:∀ x ∈ P,sc.names.lookup x=some .local\/sc.names.lookup x=some .cell
  nofree:∀ y ∈ sc.names,y.2 ≠ .free
theorem bindL_out {kindOf:Str->Option NameKind} {x:Str}:∀ {binds:List (Str × Value)} {m:Str->Option Value},(∀ v,(x,v) ∉ binds)->bindL kindOf binds m x=m x
  | [],_,_=>rfl
  | (n,v)::r,m,h=>by
    unfold bindL
    rw [bindL_out fun w hw=>h w (List.mem_cons_of_mem _ hw)]
    split
    · have:x ≠ n:=by rintro rfl; exact h v List.mem_cons_self
      simp [this]
    · rfl
theorem bindC_out {kindOf:Str->Option NameKind} {x:Str}:∀ {binds:List (Str × Value)} {m:Str->Option Value},(∀ v,(x,v) ∉ binds)->bindC kindOf binds m x=m x
  | [],_,_=>rfl
  | (n,v)::r,m,h=>by
    unfold bindC
    rw [bindC_out fun w hw=>h w (List.mem_cons_of_mem _ hw)]
    split
    · rfl
    · have:x ≠ n:=by rintro rfl; exact h v List.mem_cons_self
      simp [this]
theorem bindL_get {kindOf:Str->Option NameKind} {x:Str} {v:Value}:∀ {P:List Str} {vs:List Value} {i:Nat} {m:Str->Option Value},P.Nodup->P[i]?=some x->vs[i]?=some v->kindOf x=some .local->
    bindL kindOf (P.zip vs) m x=some v
  | [],_,_,_,_,h,_,_=>by simp at h
  | _::_,[],_,_,_,_,h,_=>by simp at h
  | p::P,w::vs,0,m,nd,h1,h2,hk=>by
    simp at h1 h2; subst h1; subst h2
    show bindL kindOf ((p,w)::P.zip vs) m p=_
    unfold bindL
    rw [bindL_out fun v hv=>(List.nodup_cons.mp nd).1 (List.of_mem_zip hv).1,if_pos hk]
    simp
  | p::P,w::vs,i + 1,m,nd,h1,h2,hk=>by
    show bindL kindOf ((p,w)::P.zip vs) m x=_
    unfold bindL
    exact bindL_get (i:=i) (List.nodup_cons.mp nd).2 (by simpa using h1) (by simpa using h2) hk
theorem bindC_get {kindOf:Str->Option NameKind} {x:Str} {v:Value}:∀ {P:List Str} {vs:List Value} {i:Nat} {m:Str->Option Value},P.Nodup->P[i]?=some x->vs[i]?=some v->kindOf x ≠ some .local->
    bindC kindOf (P.zip vs) m x=some v
  | [],_,_,_,_,h,_,_=>by simp at h
  | _::_,[],_,_,_,_,h,_=>by simp at h
  | p::P,w::vs,0,m,nd,h1,h2,hk=>by
    simp at h1 h2; subst h1; subst h2
    show bindC kindOf ((p,w)::P.zip vs) m p=_
    unfold bindC
    rw [bindC_out fun v hv=>(List.nodup_cons.mp nd).1 (List.of_mem_zip hv).1,if_neg hk]
    simp
  | p::P,w::vs,i + 1,m,nd,h1,h2,hk=>by
    show bindC kindOf ((p,w)::P.zip vs) m x=_
    unfold bindC
    exact bindC_get (i:=i) (List.nodup_cons.mp nd).2 (by simpa using h1) (by simpa using h2) hk
noncomputable def start (N:List Str) (vs:List V):St:=vs.map some++List.replicate (N.length - vs.length) none
noncomputable def cxOf (CX:CXT) (P:Program) (w:World) (K:FG) (mg:Str->Option Value) (base:Heap) (N:List Str) (qual:Str) (scope:Scope) (f:Addr) (cd:Value) (A:Around) (outer:List Env) (s:Shared) (H:Hp) (E:XK):Cx where
  prog:=P
  w:=w
  K:=K
  mg:=mg
  base:=base
  A:=A.deeper (envOfC qual scope s.heap.objs.size f cd)
  N:=N
  s₀:=s
  H0:=H
  env:=envOfC qual scope s.heap.objs.size f cd
  outer:=outer
  stack:=envOfC qual scope s.heap.objs.size f cd::outer
  ex:=[]
  calm:=true
  fn:=fun _=>true
  pn:=[]
  xe:=fun e s'=>wpAny (model P w) (A.deeper (envOfC qual scope s.heap.objs.size f cd)) (leaving (envOfC qual scope s.heap.objs.size f cd) e) (fun _ s''=>CX outer H s E e s'') (fun e' s''=>CX outer H s E e' s'') s'
theorem cell_has {sc:Scope} {n:Nat} {x:Str} (h:sc.names.lookup x=some .cell):∃ c,(cellsFrom n sc.names []).lookup x=some c:=by
  have q:=PySem.W.cellsFrom_some sc.names n [] (.inl h)
  exact Option.isSome_iff_exists.mp q
theorem inv_start {CX:CXT} {K:FG} {mg:Str->Option Value} {base:Heap} {N ps:List Str} {qual:Str} {scope:Scope} {f:Addr} {cd:Value} {outer:List Env} {s s1:Shared} {H:Hp} {E:XK} {us:List Value} {vs:List V}
    (S:FnScope N ps scope) (hd:A.handled=none) (e0:Env0 P w K mg base A outer s H) (hl:vs.length=ps.length) (r:Vals vs us)
    (x:InCallC s s.heap.objs.size (bindL (envOfC qual scope s.heap.objs.size f cd).kindOf (ps.zip us) fun _=>none) (cellsFrom (s.heap.objs.size + 1) scope.names []) (bindC (envOfC qual scope s.heap.objs.size f cd).kindOf (ps.zip us) fun _=>none) s1):
    Inv (cxOf CX P w K mg base N qual scope f cd A outer s H E) [] (start N vs) H s1:=by
  have hpl:ps.length<=N.length:=by have:=congrArg List.length S.pre; rw [List.length_take] at this; omega
  obtain ⟨h1,tk,rfl,hk⟩:=x.done
  have noA:∀ b:Addr,b ∉ (cxOf CX P w K mg base N qual scope f cd A outer s H E).ex:=fun b z=>absurd (show b ∈ ([]:List Addr) from z) (by simp)
  refine ⟨⟨e0.mod,S.kind,rfl,rfl,Nat.le_refl _,fun y z c h1 h2=>?_,fun y hy=>?_,fun y c _ h=>?_,fun _=>hd,Around.frames_deeper e0.frames,.inr ⟨rfl,rfl⟩,fun b z=>absurd z (noA b),e0.bs,e0.bsz,fun b _ _=>noA b,fun b z=>absurd z (noA b),e0.funs,e0.frf⟩,
    rfl,e0.bare,Un.kept hk,⟨_,x.toInCall.ns,fun i y v h1 h2 h3=>?_⟩,fun y c h=>⟨_,x.cell y c h⟩,e0.hok.fresh (Nat.le_refl _),fun y c h=>?_,fun p hp=>absurd (show p ∈ ([]:List (Addr × Obj)) from hp) (by simp),e0.hok.kept hk,?_⟩
  · exact name_of_addr x.apart (PySem.mem_of_lookup h1) (PySem.mem_of_lookup h2)
  · have hy:scope.names.lookup y=some .cell\/scope.names.lookup y=some .free:=hy
    rcases hy with hy | hy
    · exact cell_has hy
    · exact absurd rfl (S.nofree _ (PySem.mem_of_lookup hy))
  · exact Nat.le_of_lt (x.above y c (PySem.mem_of_lookup h))
  · have hi:i < vs.length:=by
      unfold start at h2
      by_cases hi:i < vs.length
      · exact hi
      · rw [List.getElem?_append_right (by simpa using hi)] at h2
        rw [List.getElem?_replicate] at h2
        split at h2 <;> cases h2
    have ha:vs[i]?=some v:=by
      unfold start at h2
      rw [List.getElem?_append_left (by simpa using hi),List.getElem?_map] at h2
      cases e:vs[i]? with
      | none=>rw [e] at h2; cases h2
      | some a=>rw [e] at h2; cases h2; rfl
    obtain ⟨u,hu,rv⟩:=r.get ha
    have hp:ps[i]?=some y:=by
      rw [← S.pre,List.getElem?_take_of_lt (by omega)]; exact h1
    have ndP:ps.Nodup:=by rw [← S.pre]; exact S.nd.sublist (List.take_sublist _ _)
    refine ⟨u,rv,?_⟩
    rcases S.par y (List.mem_of_getElem? hp) with k | k
    · exact .inl ⟨k,bindL_get ndP hp hu k⟩
    · obtain ⟨c,e⟩:=cell_has (n:=s.heap.objs.size + 1) k
      refine .inr ⟨.inl k,c,e,?_⟩
      have q:=x.cell y c e
      rw [bindC_get ndP hp hu (by show scope.names.lookup y ≠ _; rw [k]; decide)] at q
      exact q
  · exact e0.hok.fresh (Nat.le_of_lt (x.above y c (PySem.mem_of_lookup h)))
  · unfold start
    show _=N.length
    rw [List.length_append,List.length_map,List.length_replicate]
    omega
theorem fn_of {CX:CXT} {K:FG} {mg:Str->Option Value} {base:Heap} {k:Nat} {f:Addr} {name qual:Str} {params:Arguments} {body:List Stmt} {scope:Scope} {dV kV doc pm cdv ct oc:Value} {an od:Option Addr}
    {osl:Array (Option Value)} {N ps:List Str} {sp:Sp} (lk:K.lookup f=some ⟨oc,od,.func (PySem.W.fnOf name qual params body scope dV kV doc pm an cdv ct),osl⟩) (hcd:PySem.W.codeIn K cdv qual=true) (S:FnScope N ps scope)
    (len:∀ vs H Q E,sp vs H Q E->vs.length=ps.length)
    (hbody:∀ (A:Around) (outer:List Env) (s:Shared) (H:Hp) (vs:List V) (Q:VK) (E:XK),Room k (A.deeper (envOfC qual scope s.heap.objs.size f cdv))->sp vs H Q E->
      ∃ t,PSs (cxOf CX P w K mg base N qual scope f cdv A outer s H E) body t/\t { nx:=fun _ H'=>Q .non H',rt:=Q } (start N vs) H):
    FnOk P w K mg base CX (k + 1) f (PySem.W.fnOf name qual params body scope dV kV doc pm an cdv ct) ps sp:=by
  refine ⟨len,fun A outer s H args us vs Q E hr e0 hb r hsp=>?_⟩
  have hl:=len _ _ _ _ hsp
  have KX:K.In s.heap:=e0.mod.kin.keeps fun b o e=>(e0.bs b o e).1
  have lim:s.heap.NoLimit:=e0.mod.nolimit.keeps fun b o e=>(e0.bs b o e).1
  have hkind:∀ y ∈ ps.zip us,scope.names.lookup y.1=some .local\/(scope.names.lookup y.1=some .cell/\((cellsFrom (s.heap.objs.size + 1) scope.names []).lookup y.1).isSome=true):=fun ⟨n,v⟩ hy=>by
    rcases S.par n (List.of_mem_zip hy).1 with q | q
    · exact .inl q
    · exact .inr ⟨q,PySem.W.cellsFrom_some _ _ _ (.inl q)⟩
  refine codeAny_call_function hr.depth (KX _ _ lk) rfl S.co S.gen rfl (PySem.W.codeRec_of KX hcd) (hb _ _ _ _ ?_)
  refine wpAny_newFunctionEnv_cells S.kind hkind fun env he s1 x=>?_
  subst he
  refine ⟨lim.keeps x.toInCall.keep,codeAny_func ?_⟩
  obtain ⟨t,ht,hq⟩:=hbody A outer s H vs Q E (hr.deeper _) hsp
  have I:Inv (cxOf CX P w K mg base N qual scope f cdv A outer s H E) [] (start N vs) H s1:=inv_start S hr.hd e0 hl r x
  refine wpAny_mono (ht [] s1 (start N vs) H _ I hq) (fun fl s' hs=>?_) fun e s' hs=>hs
  have fin:∀ {σ':St} {H':Hp} {v:V} {u:Value},Inv (cxOf CX P w K mg base N qual scope f cdv A outer s H E) [] σ' H' s'->RelV v u->Q v H'->CE outer P w H s Q u s':=
    fun {σ' H' v u} J rv q=>⟨v,H',J.os,J.bare,J.base,J.hok,rv,q⟩
  cases fl with
  | ret u=>
    obtain ⟨v,σ',H',J,rv,q⟩:=hs
    exact fin J rv q
  | next=>
    obtain ⟨σ',H',J,q⟩:=hs
    exact fin (v:=V.non) (u:=Value.none) J rfl q
  | brk=>
    obtain ⟨_,_,_,q⟩:=hs
    exact False.elim q
  | cont=>
    obtain ⟨_,_,_,q⟩:=hs
    exact False.elim q
section
variable {X:Cx} {x:Str} {p pos:Pos} {e:Expr} {es:List Expr} {t:TA} {id T:String} {r:List V->Hp->VK->Prop}
noncomputable def tCB (r:List V->Hp->VK->Prop) (t:TA):TE:=fun σ H Q=>t σ H fun vs H1=>r vs H1 Q
theorem pe_callB (hc:CallR X (.builtin id) r) (hg:Gl X x) (hm:X.mg x=none) (hv:bootBuiltins x=some (.builtin id)) (ha:PA X (e::es) t) (hn:x ≠ "__name__" := by decide) (hdb:(x == ("__debug__" : Str))=false:=by decide)
    (he:starEach (e::es) X.env=(false,eval e X.env)::starEach es X.env:=by rfl) (hpl:(backTo pos (starEach es X.env)).any (·.1)=false:=by rfl):PE X (.Call (.Name x p) (e::es) [] pos) (tCB r t):=by
  intro pins s σ H Q I h
  refine wpAny_Call_Name_kw (ld_blt I hg hm hv ?_ hn hdb)
  exact PyProof.Rows.callWith_builtin1 (thn (ha pos pins s σ H _ I h) fun us s1 ⟨vs,H1,I1,r1,q1⟩=>hc pins s1 σ H1 vs us Q I1 r1 q1) he hpl
theorem pe_callTy (hc:CallR X (.type T) r) (hg:Gl X x) (hm:X.mg x=none) (hv:bootBuiltins x=some (.type T)) (ha:PA X (e::es) t) (hn:x ≠ "__name__" := by decide) (hdb:(x == ("__debug__" : Str))=false:=by decide)
    (he:starEach (e::es) X.env=(false,eval e X.env)::starEach es X.env:=by rfl) (hpl:(backTo pos (starEach es X.env)).any (·.1)=false:=by rfl):PE X (.Call (.Name x p) (e::es) [] pos) (tCB r t):=by
  intro pins s σ H Q I h
  refine wpAny_Call_Name_kw (ld_blt I hg hm hv ?_ hn hdb)
  exact PyProof.Rows.callWith_type1 (thn (ha pos pins s σ H _ I h) fun us s1 ⟨vs,H1,I1,r1,q1⟩=>hc pins s1 σ H1 vs us Q I1 r1 q1) he hpl
end
end L2
namespace HT
open PySem PyProof.Rows
section
open PySem.SeqAt
open PySem.AutoSeq1 (wpAny_loadPart')
open PySem.MeetsSeq PySem.MeetsSeq2 PySem.MeetsSeq3
end
section
variable {prog:Program} {w:World} {A:Around} {E:Value->Shared->Prop} {s:Shared}
theorem cat_tup {t b:Addr} {vs ws:List Value} {Q:Value->Shared->Prop} (ht:IsTup s.heap t vs.toArray) (hb:IsTup s.heap b ws.toArray) (hv:vs ≠ [])
    (h1:ws=[]->Q (.ref t) s) (h2:ws ≠ []->Q (.ref s.heap.objs.size) { s with heap:=s.heap.push { cls:=.type "tuple",data:=.seq (vs++ws).toArray } })
    (hsz:vs.length + ws.length<=sizeLine):wpAny (model prog w) A (binaryOp .Add (.ref t) (.ref b)) Q E s:=by
  obtain ⟨⟨cls,dd,data,sl⟩,ho,hc,n,hd⟩:=id ht
  obtain ⟨⟨cls2,dd2,data2,sl2⟩,ho2,hc2,n2,hd2⟩:=id hb
  simp only at hc hd hc2 hd2
  subst hc hd hc2 hd2
  have e:vs.toArray++ws.toArray=(vs++ws).toArray:=by simp
  by_cases hw:ws=[]
  · exact concat_meets ⟨_,ho,rfl⟩ ⟨_,ho2,rfl⟩ noFill_tuple_add seq_tuple_add PySem.F.slot_tuple_add PySem.F.entry_tuple_add (PySem.F.args_tuple_add_2 _ _)
      (tuple_addW1 t b vs.toArray ws.toArray n n2 dd dd2 sl sl2 (by simpa using hv) (by simp [hw])) ⟨ho,ho2,h1 hw⟩
  · refine concat_meets ⟨_,ho,rfl⟩ ⟨_,ho2,rfl⟩ noFill_tuple_add seq_tuple_add PySem.F.slot_tuple_add PySem.F.entry_tuple_add (PySem.F.args_tuple_add_2 _ _)
      (tuple_addW2 t b vs.toArray ws.toArray n n2 dd dd2 sl sl2 (by simpa using hv) (by simpa using hw) (by rw [List.size_toArray,List.size_toArray]; exact hsz)) ⟨ho,ho2,?_⟩
    rw [e]
    exact h2 hw
noncomputable def sIx (n d:Nat):Option Int->Nat
  | none=>d
  | some v=>if v < 0 then (v + (n:Int)).toNat else min v.toNat n
theorem sIx_le (n d:Nat) (hd:d<=n) (o:Option Int):sIx n d o<=n:=by
  cases o with
  | none=>exact hd
  | some v=>
    show (if v < 0 then (v + (n:Int)).toNat else min v.toNat n)<=n
    by_cases hv:v < 0
    · rw [if_pos hv]; omega
    · rw [if_neg hv]; exact Nat.min_le_right _ _
theorem clip_eq (v:Int) (n d:Nat):(if v < 0 then max (v + (n:Int)) 0 else min v (n:Int))=((sIx n d (some v):Nat):Int):=by
  show (if v < 0 then max (v + (n:Int)) 0 else min v (n:Int))=(((if v < 0 then (v + (n:Int)).toNat else min v.toNat n):Nat):Int)
  by_cases hv:v < 0
  · simp only [if_pos hv]; omega
  · simp only [if_neg hv]; omega
theorem adjust_gen (lo hi:Option Int) (n:Nat):Builtin.Slice.sliceAdjust lo hi 1 (n:Int)=(((sIx n 0 lo:Nat):Int),((sIx n n hi:Nat):Int)):=by
  have h1:¬ ((1:Int) < 0):=by omega
  unfold Builtin.Slice.sliceAdjust
  simp only [h1,if_false]
  refine Prod.ext ?_ ?_
  · cases lo with
    | none=>rfl
    | some v=>exact clip_eq v n 0
  · cases hi with
    | none=>rfl
    | some v=>exact clip_eq v n n
theorem places_gen (i j:Nat):Builtin.Slice.slicePlaces (i:Int) (j:Int) 1=j - i:=by
  unfold Builtin.Slice.slicePlaces
  have h1:(1:Int) > 0:=by omega
  simp only [h1,if_true,Int.ediv_one]
  split <;> omega
theorem slicePart_ {v:Value} {o:Option Int} {Q:Option Int->Shared->Prop} (p:IsPart v o) (h:Q o s):wpAny (model prog w) A (Builtin.Slice.slicePartIndex v) Q E s:=by
  cases p with
  | none=>exact slicePart_none h
  | int i t=>exact slicePart_int h
theorem sliceApplied_gen {sl:Addr} {vl vu:Value} {lo hi:Option Int} {n:Nat} {Q:Int × Int × Nat->Shared->Prop} (hs:s.heap.IsSliceOf sl vl vu .none) (pl:IsPart vl lo) (pu:IsPart vu hi)
    (h:Q (((sIx n 0 lo:Nat):Int),1,sIx n n hi - sIx n 0 lo) s):wpAny (model prog w) A (Builtin.Slice.sliceApplied (.ref sl) (pure (n:Int))) Q E s:=by
  obtain ⟨os,hos,hcs,hds⟩:=id hs
  unfold Builtin.Slice.sliceApplied Builtin.Slice.sliceFields
  refine wpAny_bind (wpAny_bind (wpAny_field hos hds (x:=vl) rfl (wpAny_bind (wpAny_field hos hds (x:=vu) rfl (wpAny_bind (wpAny_field hos hds (x:=.none) rfl (wpAny_pure ?_)))))))
  refine wpAny_bind (slicePart_none ?_)
  show wpAny _ _ (if ((1:Int) == 0)=true then _ else _) _ _ s
  rw [if_neg (by decide)]
  refine wpAny_bind (slicePart_ pl (wpAny_bind (slicePart_ pu (wpAny_bind (wpAny_pure ?_)))))
  show wpAny _ _ (match Builtin.Slice.sliceAdjust lo hi 1 (n:Int) with | (lo,hi)=>pure (lo,(1:Int),Builtin.Slice.slicePlaces lo hi 1)) _ _ s
  rw [adjust_gen lo hi n]
  show wpAny _ _ (pure (((sIx n 0 lo:Nat):Int),(1:Int),Builtin.Slice.slicePlaces ((sIx n 0 lo:Nat):Int) ((sIx n n hi:Nat):Int) 1)) _ _ s
  rw [places_gen]
  exact wpAny_pure h
theorem pick_gen (xs:Array Value) (i k:Nat):((List.range k).filterMap fun (m:Nat)=>xs[((i:Int) + (m:Int) * 1).toNat]?).toArray=((xs.toList.drop i).take k).toArray:=by
  have e:(fun (m:Nat)=>xs[((i:Int) + (m:Int) * 1).toNat]?)=fun m=>xs[i + m]?:=by
    funext m
    have:((i:Int) + (m:Int) * 1).toNat=i + m:=by omega
    rw [this]
  rw [e]
  have:=pick_run xs i k
  rw [List.filterMap_map] at this
  have e2:((fun x=>xs[x]?) ∘ fun x=>i + x)=fun m=>xs[i + m]?:=rfl
  rw [e2] at this
  rw [this]
theorem getItem_tuple_cut {t sl:Addr} {items:Array Value} {vl vu:Value} {lo hi:Option Int} {Q:Value->Shared->Prop} (ht:IsTup s.heap t items) (hs:s.heap.IsSliceOf sl vl vu .none) (pl:IsPart vl lo) (pu:IsPart vu hi)
    (hw:¬ (sIx items.size 0 lo=0/\sIx items.size items.size hi=items.size))
    (h:Q (.ref s.heap.objs.size) { s with heap:=s.heap.push { cls:=.type "tuple",data:=.seq ((items.toList.drop (sIx items.size 0 lo)).take (sIx items.size items.size hi - sIx items.size 0 lo)).toArray } })
    (hsz:items.size<=sizeLine):wpAny (model prog w) A (getItem (.ref t) (.ref sl)) Q E s:=by
  have htake:sizeOk (.seq ((items.toList.drop (sIx items.size 0 lo)).take (sIx items.size items.size hi - sIx items.size 0 lo)).toArray):=by
    show ((items.toList.drop (sIx items.size 0 lo)).take (sIx items.size items.size hi - sIx items.size 0 lo)).toArray.size<=sizeLine
    rw [List.size_toArray,List.length_take,List.length_drop,Array.length_toList]
    omega
  have hj:sIx items.size items.size hi<=items.size:=sIx_le _ _ (Nat.le_refl _) hi
  obtain ⟨os,hos,hcs,hds⟩:=id hs
  have hTs:s.TypeIs (.ref sl) "slice" := ⟨os,hos,hcs⟩
  unfold getItem
  try with_reducible refine wpAny_holding ?_
  first | refine wpAny_bind (wpAny_pure ?_) | skip
  refine wpAny_bind (wpAny_sequenceKey ht.typeIs (by decide) ?_)
  refine wpAny_bind (wpAny_callSpecial?_slot (name:=Str.ofString "__getitem__") ht.typeIs PyProof.Rows.slot_tuple_getitem
    (wpAny_call_entry PyProof.Rows.slot_tuple_getitem ht.typeIs entry_tuple_getitem ?_ (args_tuple_getitem _ _)))
  show wpAny _ _ (Builtin.Tuple.tupleItemsOf (.ref t) >>= _) _ _ s
  refine wpAny_bind (tupleItemsOf_ ht ?_)
  refine wpAny_bind (wpAny_typeOf hTs ?_)
  rw [if_pos (by decide)]
  refine wpAny_bind (sliceApplied_gen hs pl pu ?_)
  have hno:¬ ((((sIx items.size 0 lo:Nat):Int) == 0 && (1:Int) == 1 && (sIx items.size items.size hi - sIx items.size 0 lo) == items.size)=true):=by
    intro q
    rw [Bool.and_eq_true,Bool.and_eq_true] at q
    have q1:((sIx items.size 0 lo:Nat):Int)=0:=eq_of_beq q.1.1
    have q2:sIx items.size items.size hi - sIx items.size 0 lo=items.size:=eq_of_beq q.2
    exact hw ⟨by omega,by omega⟩
  show wpAny _ _ (if (((sIx items.size 0 lo:Nat):Int) == 0 && (1:Int) == 1 && (sIx items.size items.size hi - sIx items.size 0 lo) == items.size)=true then _ else _) _ _ s
  rw [if_neg hno,pick_gen]
  first
    | exact wpAny_bind (m:=Builtin.Tuple.tupleExact _) (wpAny_newObj_type (wpAny_pure ⟨_,rfl,wpAny_pure h⟩) htake)
    | exact wpAny_bind (m:=Builtin.Tuple.tupleExact _) (wpAny_newObj_type (wpAny_bind (wpAny_pure (wpAny_pure ⟨_,rfl,wpAny_pure h⟩))) htake)
    | exact wpAny_bind (wpAny_bind (m:=Builtin.Tuple.tupleExact _) (wpAny_newObj_type (wpAny_pure (wpAny_pure ⟨_,rfl,wpAny_pure h⟩)) htake))
    | exact wpAny_bind (wpAny_bind (m:=Builtin.Tuple.tupleExact _) (wpAny_newObj_type (wpAny_pure ⟨_,rfl,wpAny_pure h⟩) htake))
end
end HT
namespace L2
open PySem PySem.Spec PyProof.Rows
variable {pins:List (Addr × Obj)} {E:Value->Shared->Prop} {s:Shared} {A:Around} {w:World} {P:Program}
noncomputable abbrev TO:=St->Hp->(Option Int->Hp->Prop)->Prop
noncomputable def PO (X:Cx) (e:Option Expr) (t:TO):Prop:=
  ∀ (pins:List (Addr × Obj)) (s:Shared) (σ:St) (H:Hp) (Q:Option Int->Hp->Prop),Inv X pins σ H s->t σ H Q->
    wpAny (model X.prog X.w) X.A (evalPart e X.env) (fun u s'=>∃ o H',Inv X pins σ H' s'/\IsPart u o/\Q o H') X.xe s
noncomputable def tNoPart:TO:=fun _ H Q=>Q none H
noncomputable def tPart (t:TE):TO:=fun σ H Q=>t σ H fun x H1=>∃ i,x=.int i/\Q (some i) H1
section
variable {X:Cx} {e:Expr} {te:TE} {lo hi:Option Expr} {tl th:TO} {pos p2:Pos}
theorem po_none:PO X none tNoPart:=by
  intro pins s σ H Q I h
  rw [evalPart_none]
  exact wpAny_pure ⟨none,H,I,.none,h⟩
theorem po_some (h:PE X e te):PO X (some e) (tPart te):=by
  intro pins s σ H Q I hw
  rw [evalPart_some]
  refine thn (h pins s σ H _ I hw) fun u s1 ⟨x,H1,I1,r1,q1⟩=>?_
  obtain ⟨i,rfl,q⟩:=q1
  obtain ⟨t,rfl⟩:=r1
  exact ⟨some i,H1,I1,.int i t,q⟩
noncomputable def SlR (X:Cx) (r:V->Option Int->Option Int->Hp->VK->Prop):Prop:=
  ∀ (pins:List (Addr × Obj)) (s:Shared) (σ:St) (H:Hp) (x:V) (v vl vu:Value) (lo hi:Option Int) (sl:Addr) (Q:VK),Inv X pins σ H s->RelV x v->s.heap.IsSliceOf sl vl vu .none->IsPart vl lo->IsPart vu hi->r x lo hi H Q->
    ∃ T id,typeLookup (.type T) "__getitem__" = pure (some (.builtin id))/\s.TypeIs v T/\wpAny (model X.prog X.w) X.A (getItem v (.ref sl)) (EP X pins σ Q) X.xe s
theorem SlR.or {r r':V->Option Int->Option Int->Hp->VK->Prop} (h:SlR X r) (h':SlR X r'):SlR X (fun x lo hi H Q=>r x lo hi H Q\/r' x lo hi H Q):=by
  intro pins s σ H x v vl vu lo hi sl Q I rx hs pl pu q
  rcases q with q | q
  · exact h pins s σ H x v vl vu lo hi sl Q I rx hs pl pu q
  · exact h' pins s σ H x v vl vu lo hi sl Q I rx hs pl pu q
noncomputable def tSl (r:V->Option Int->Option Int->Hp->VK->Prop) (te:TE) (tl th:TO):TE:=fun σ H Q=>te σ H fun x H1=>tl σ H1 fun l H2=>th σ H2 fun u H3=>r x l u H3 Q
theorem pe_slice {r:V->Option Int->Option Int->Hp->VK->Prop} (hr:SlR X r) (he:PE X e te) (hl:PO X lo tl) (hu:PO X hi th):PE X (.Subscript e (.Slice lo hi none p2) pos) (tSl r te tl th):=by
  intro pins s σ H Q I h
  refine Subscript_ (thn (he pins s σ H _ I h) fun v s1 ⟨x,H1,I1,r1,q1⟩=>?_)
  refine wpAny_Slice (thn (hl pins s1 σ H1 _ I1 q1) fun vl s2 ⟨l,H2,I2,pl,q2⟩=>thn (hu pins s2 σ H2 _ I2 q2) fun vu s3 ⟨u,H3,I3,pu,q3⟩=>?_)
  rw [evalPart_none]
  refine wpAny_pure ?_
  have I4:Inv X pins σ H3 { s3 with heap:=s3.heap.push { cls:=.type "slice",data:=.fields #[vl,vu,.none] } }:=I3.kept (t':=s3.toks) fun b ob q=>Heap.get?_push_of_some _ q
  obtain ⟨T,id,hT,ht,hg⟩:=hr pins { s3 with heap:=s3.heap.push { cls:=.type "slice",data:=.fields #[vl,vu,.none] } } σ H3 x v vl vu l u s3.heap.objs.size Q I4 r1 (Heap.IsSliceOf.new ..) pl pu q3
  show wpAny (model X.prog X.w) X.A (subscriptTail e (.Slice lo hi none p2) v (.ref s3.heap.objs.size)) (EP X pins σ Q) X.xe { s3 with heap:=s3.heap.push { cls:=.type "slice",data:=.fields #[vl,vu,.none] } }
  exact tail_any (ops:=[.ref s3.heap.objs.size,v]) ht hT hg (by with_unfolding_all rfl)
noncomputable def cutV (xs:List V) (lo hi:Option Int):List V:=(xs.drop (HT.sIx xs.length 0 lo)).take (HT.sIx xs.length xs.length hi - HT.sIx xs.length 0 lo)
theorem cutV_length (xs:List V) (lo hi:Option Int):(cutV xs lo hi).length<=xs.length:=by
  unfold cutV
  rw [List.length_take,List.length_drop]
  omega
noncomputable def rSlT (K:FG):V->Option Int->Option Int->Hp->VK->Prop:=fun x lo hi H Q=>∃ a xs,x=.ref a/\SqT K H a xs/\
  ¬ (HT.sIx xs.length 0 lo=0/\HT.sIx xs.length xs.length hi=xs.length)/\∀ p,H p=none->Q (.ref p) (upd H p (.tup (cutV xs lo hi)))
theorem sl_tup:SlR X (rSlT X.K):=by
  intro pins s σ H x v vl vu lo hi sl Q I rx hs pl pu h
  obtain ⟨a,xs,rfl,hx,hw,q⟩:=h
  cases rx
  obtain ⟨its,r,ht,hz⟩:=I.tuple hx
  have hlen:its.toArray.size=xs.length:=by rw [List.size_toArray]; exact r.length.symm
  refine ⟨"tuple",_,PyProof.Rows.slot_tuple_getitem.lookup,ht.typeIs,?_⟩
  refine HT.getItem_tuple_cut ht hs pl pu (by rw [hlen]; exact hw) ?_ (by rw [hlen]; exact hz)
  rw [hlen]
  refine ⟨.ref s.heap.objs.size,_,I.laid (t':=s.toks) (o:=.tup (cutV xs lo hi)) (fun b ob q=>Heap.get?_push_of_some _ q) (Nat.le_refl _) ?_,rfl,q _ (I.hok.fresh (Nat.le_refl _))⟩
  exact ⟨Nat.le_trans (cutV_length xs lo hi) hz,_,(r.drop (HT.sIx xs.length 0 lo)).take (HT.sIx xs.length xs.length hi - HT.sIx xs.length 0 lo),IsTup.new _ _⟩
noncomputable def rCatT (K:FG):R2:=fun x y H Q=>∃ a b xs ys,x=.ref a/\y=.ref b/\SqT K H a xs/\SqT K H b ys/\xs ≠ []/\xs.length + ys.length<=sizeLine/\
  (ys=[]->Q (.ref a) H)/\(ys ≠ []->∀ p,H p=none->Q (.ref p) (upd H p (.tup (xs++ys))))
theorem Vals.nil_iff {xs:List V} {us:List Value} (r:Vals xs us):us=[] ↔ xs=[]:=by
  cases r with
  | nil=>simp
  | cons _ _=>simp
theorem op_catT:OpR X (binaryOp .Add) (rCatT X.K):=by
  intro pins s σ H x y v u Q I rx ry h
  obtain ⟨a,b,xs,ys,rfl,rfl,ha,hb,hx,hz,q1,q2⟩:=h
  cases rx
  cases ry
  obtain ⟨its,r1,p1,_⟩:=I.tuple ha
  obtain ⟨its2,r2,p2,_⟩:=I.tuple hb
  refine HT.cat_tup p1 p2 (fun z=>hx (r1.nil_iff.mp z)) (fun z=>⟨.ref a,H,I,rfl,q1 (r2.nil_iff.mp z)⟩) (fun z=>?_) (by rw [← r1.length,← r2.length]; exact hz)
  refine ⟨.ref s.heap.objs.size,_,I.laid (t':=s.toks) (o:=.tup (xs++ys)) (fun b ob q=>Heap.get?_push_of_some _ q) (Nat.le_refl _) ?_,rfl,q2 (fun w=>z (r2.nil_iff.mpr w)) _ (I.hok.fresh (Nat.le_refl _))⟩
  exact ⟨by rw [List.length_append]; exact hz,_,r1.append r2,IsTup.new _ _⟩
end
noncomputable def ixN (n:Nat) (i:Int):Option Nat:=if 0<=i then (if i < n then some i.toNat else none) else if -(n:Int)<=i then some (i + n).toNat else none
noncomputable def atI {α:Type} (xs:List α) (i:Int):Option α:=(ixN xs.length i).bind fun j=>xs[j]?
theorem ixN_seq {n:Nat} {i:Int} {j:Nat} (h:ixN n i=some j):seqIndex? i n=some j/\j < n/\-(n:Int)<=i/\i < n:=by
  unfold ixN at h
  by_cases h0:0<=i
  · rw [if_pos h0] at h
    by_cases h1:i < n
    · rw [if_pos h1] at h
      have e:i.toNat=j:=Option.some.inj h
      exact ⟨by rw [seqIndex_of h0 h1,e],by omega,by omega,h1⟩
    · rw [if_neg h1] at h; cases h
  · rw [if_neg h0] at h
    by_cases h1:-(n:Int)<=i
    · rw [if_pos h1] at h
      have e:(i + n).toNat=j:=Option.some.inj h
      exact ⟨by rw [seqIndex_neg (by omega) h1,e],by omega,h1,by omega⟩
    · rw [if_neg h1] at h; cases h
theorem atI_get {α:Type} {xs:List α} {i:Int} {v:α} (h:atI xs i=some v):∃ j,seqIndex? i xs.length=some j/\xs[j]?=some v/\j < xs.length/\-(xs.length:Int)<=i/\i < xs.length:=by
  unfold atI at h
  cases e:ixN xs.length i with
  | none=>rw [e] at h; cases h
  | some j=>
    rw [e] at h
    obtain ⟨h1,h2,h3,h4⟩:=ixN_seq e
    exact ⟨j,h1,h,h2,h3,h4⟩
noncomputable def PlainIx (b:Expr):Prop:=∀ o i,subscripted b false o i=operate [o,i] (getItem o i)
noncomputable def IxR (X:Cx) (r:R2):Prop:=
  ∀ (value slice:Expr) (pins:List (Addr × Obj)) (s:Shared) (σ:St) (H:Hp) (x y:V) (v u:Value) (Q:VK),Inv X pins σ H s->RelV x v->RelV y u->r x y H Q->
    subscripted slice false v u=operate [v,u] (getItem v u)->wpAny (model X.prog X.w) X.A (subscriptTail value slice v u) (EP X pins σ Q) X.xe s
noncomputable def MtR (X:Cx) (id:String) (r:V->List V->Hp->VK->Prop):Prop:=
  ∀ (pins:List (Addr × Obj)) (s:Shared) (σ:St) (H:Hp) (x:V) (xs:List V) (v:Value) (us:List Value) (Q:VK),Inv X pins σ H s->RelV x v->Vals xs us->r x xs H Q->
    wpAny (model X.prog X.w) X.A (call (.builtin id) (v::us)) (EP X pins σ Q) X.xe s
section
variable {X:Cx} {a b:Expr} {ta tb:TE} {pos:Pos}
theorem IxR.or {r r':R2} (h:IxR X r) (h':IxR X r'):IxR X (fun x y H Q=>r x y H Q\/r' x y H Q):=by
  intro value slice pins s σ H x y v u Q I rx ry q hs
  rcases q with q | q
  · exact h value slice pins s σ H x y v u Q I rx ry q hs
  · exact h' value slice pins s σ H x y v u Q I rx ry q hs
theorem pe_ix {r:R2} (hr:IxR X r) (ha:PE X a ta) (hb:PE X b tb) (hs:PlainIx b):PE X (.Subscript a b pos) (tOp r ta tb):=by
  intro pins s σ H Q I h
  exact Subscript_ (binT ha hb I h fun v u s2 x y H2 I2 rx ry q=>hr a b pins s2 σ H2 x y v u Q I2 rx ry q (hs _ _))
noncomputable def rIxL (K:FG):R2:=fun x y H Q=>∃ p xs i v,x=.ref p/\y=.int i/\SqL K H p xs/\atI xs i=some v/\Q v H
noncomputable def rIxT (K:FG):R2:=fun x y H Q=>∃ p xs i v,x=.ref p/\y=.int i/\SqT K H p xs/\atI xs i=some v/\Q v H
noncomputable def rIxS:R2:=fun x y H Q=>∃ z i c,x=.str z/\y=.int i/\z.length<=sizeLine/\atI z.cps.toList i=some c/\Q (.str ⟨#[c]⟩) H
theorem ix_list:IxR X (rIxL X.K):=by
  intro value slice pins s σ H x y v u Q I rx ry h hs
  obtain ⟨p,xs,i,z,rfl,rfl,hq,he,q⟩:=h
  cases rx
  obtain ⟨t,rfl⟩:=ry
  obtain ⟨its,r,pl,hz⟩:=I.list hq
  obtain ⟨j,h1,h2,h3,h4,h5⟩:=atI_get he
  obtain ⟨w,ew,rw'⟩:=r.get h2
  have hl:=r.length
  have hn:=line63
  have fin:EP X pins σ Q w s:=⟨z,H,I,rw',q⟩
  by_cases h0:0<=i
  · have hj:i.toNat=j:=by
      rw [seqIndex_of h0 h5] at h1
      exact Option.some.inj h1
    exact item_listR pl.isList h0 (by omega) (by rw [hj]; simpa using ew) fin hs
  · have hj:(i + (its.toArray.size:Int)).toNat=j:=by
      rw [seqIndex_neg (by omega) h4] at h1
      rw [List.size_toArray,← hl]
      exact Option.some.inj h1
    exact subscriptTail_builtinR (x:=w) pl.isList.typeIs slot_list_getitem.lookup
      (wpAny_getItem_list_neg (Q:=fun r s'=>r=w/\EP X pins σ Q r s') pl.isList (by omega) (by rw [List.size_toArray] <;> omega) (by omega) (by rw [hj]; simpa using ew) ⟨rfl,fin⟩) hs
theorem ix_tup:IxR X (rIxT X.K):=by
  intro value slice pins s σ H x y v u Q I rx ry h hs
  obtain ⟨p,xs,i,z,rfl,rfl,hq,he,q⟩:=h
  cases rx
  obtain ⟨t,rfl⟩:=ry
  obtain ⟨its,r,pl,hz⟩:=I.tuple hq
  obtain ⟨j,h1,h2,h3,h4,h5⟩:=atI_get he
  obtain ⟨w,ew,rw'⟩:=r.get h2
  have hl:=r.length
  have hn:=line63
  have fin:EP X pins σ Q w s:=⟨z,H,I,rw',q⟩
  exact subscriptTail_builtinR (x:=w) pl.typeIs slot_tuple_getitem.lookup
    (getItem_tuple (j:=j) (Q:=fun r s'=>r=w/\EP X pins σ Q r s') pl (by omega) (by omega) (by rw [List.size_toArray,← hl]; exact h1) (by simpa using ew) ⟨rfl,fin⟩) hs
theorem ix_str:IxR X rIxS:=by
  intro value slice pins s σ H x y v u Q I rx ry h hs
  obtain ⟨z,i,c,rfl,rfl,hz,he,q⟩:=h
  obtain ⟨t,rfl⟩:=rx
  obtain ⟨t',rfl⟩:=ry
  obtain ⟨j,h1,h2,h3,h4,h5⟩:=atI_get he
  have hl:z.cps.toList.length=z.length:=by simp [Str.length]
  rw [hl] at h1 h4 h5
  have hn:=line63
  exact tail_any (typeIs_str s z t) slot_str_getitem.lookup (getItem_str (c:=c) (by
    have e1:decide (i < -(2 ^ 63:Int))=false:=decide_eq_false (by omega)
    have e2:decide (i ≥ 2 ^ 63)=false:=decide_eq_false (by omega)
    rw [e1,e2,Bool.or_false]) (by rw [h1]; simpa using h2) ⟨.str ⟨#[c]⟩,H,I.tok _,⟨_,rfl⟩,q⟩) hs
noncomputable def rIx (K:FG):R2:=fun x y H Q=>rIxL K x y H Q\/rIxT K x y H Q\/rIxS x y H Q
theorem ix_seq:IxR X (rIx X.K):=ix_list.or (ix_tup.or ix_str)
theorem mapSeq_set (its:List Value) (n j:Nat) (u:Value):Obj.mapSeq (·.setIfInBounds j u) { cls:=.type "list",data:=.seq its.toArray n }={ cls:=.type "list",data:=.seq (its.set j u).toArray n }:=by
  simp [Obj.mapSeq]
theorem Inv.lst {σ:St} {H:Hp} {p:Addr} {xs:List V} (I:Inv X pins σ H s) (h:H p=some (.lst xs)):
    ∃ (its:List Value) (n:Nat),Vals xs its/\s.heap.get? p=some { cls:=.type "list",data:=.seq its.toArray n }/\xs.length<=sizeLine:=by
  obtain ⟨z,its,n,r,e⟩:=I.hok p _ h
  exact ⟨its,n,r,e,z⟩
theorem Inv.lstUpd {σ:St} {H:Hp} {p:Addr} {xs ys:List V} {its its':List Value} {n n':Nat} {f:Obj->Obj} (I:Inv X pins σ H s) (h:H p=some (.lst xs))
    (ho:s.heap.get? p=some { cls:=.type "list",data:=.seq its.toArray n }) (hf:f { cls:=.type "list",data:=.seq its.toArray n }={ cls:=.type "list",data:=.seq its'.toArray n' }) (r:Vals ys its') (hz:ys.length<=sizeLine) (t:Nat):
    Inv X pins σ (upd H p (.lst ys)) { s with heap:=s.heap.update p f,toks:=t }:=by
  have e:(s.heap.update p f).get? p=some { cls:=.type "list",data:=.seq its'.toArray n' }:=by
    rw [Heap.get?_update_self f ho (by rw [hf] <;> rfl),hf]
  refine I.write (x:=p) (e:=p) (by rw [h]; trivial) (.inl rfl) (fun b u hb q=>(Heap.get?_update_other _ _ (Ne.symm hb)).trans q) ⟨_,e⟩ ?_
  exact ⟨hz,its',n',r,e⟩
noncomputable def rSetL:V->V->V->Hp->(Hp->Prop)->Prop:=fun o i v H Q=>∃ p xs k j,o=.ref p/\i=.int k/\H p=some (.lst xs)/\ixN xs.length k=some j/\Q (upd H p (.lst (xs.set j v)))
theorem set_list:PSet X rSetL:=by
  intro pins s σ H o i v ov iv u Q I ro ri rv h
  obtain ⟨p,xs,k,j,rfl,rfl,hp,hj,q⟩:=h
  cases ro
  obtain ⟨t,rfl⟩:=ri
  obtain ⟨its,n,r,ho,hz⟩:=I.lst hp
  obtain ⟨h1,h2,h3,h4⟩:=ixN_seq hj
  have hl:=r.length
  have hn:=line63
  have I':Inv X pins σ (upd H p (.lst (xs.set j v))) { s with heap:=s.heap.update p (Obj.mapSeq (·.setIfInBounds j u)) }:=
    I.lstUpd hp ho (mapSeq_set its n j u) (r.set rv j) (by rw [List.length_set]; exact hz) s.toks
  by_cases h0:0<=k
  · have hk:k.toNat=j:=by
      rw [seqIndex_of h0 h4] at h1
      exact Option.some.inj h1
    exact PySem.W.ki_setAt ho h0 (by omega) (by rw [List.size_toArray,← hl]; exact h4) (by rw [hk]; exact ⟨_,I',q⟩)
  · have hk:(k + (its.toArray.size:Int)).toNat=j:=by
      rw [seqIndex_neg (by omega) h3] at h1
      rw [List.size_toArray,← hl]
      exact Option.some.inj h1
    exact PySem.W.ki_setBack ho (by omega) (by rw [List.size_toArray,← hl]; exact h3) (by omega) (by rw [hk]; exact ⟨_,I',q⟩)
theorem slice_bounds (lo hi:Option Int) (n:Nat):(sliceBounds lo hi none n).1=((HT.sIx n 0 lo:Nat):Int)/\(sliceBounds lo hi none n).2.1=((HT.sIx n n hi:Nat):Int)/\(sliceBounds lo hi none n).2.2=1:=by
  refine ⟨?_,?_,rfl⟩
  · cases lo with
    | none=>simp [sliceBounds,HT.sIx]
    | some i=>
      simp only [sliceBounds,HT.sIx,Option.getD_none,show (1:Int) > 0 by decide,if_true]
      by_cases h:i < 0
      · simp only [h,if_true] <;> omega
      · simp only [h,if_false] <;> omega
  · cases hi with
    | none=>simp [sliceBounds,HT.sIx]
    | some i=>
      simp only [sliceBounds,HT.sIx,Option.getD_none,show (1:Int) > 0 by decide,if_true]
      by_cases h:i < 0
      · simp only [h,if_true] <;> omega
      · simp only [h,if_false] <;> omega
theorem slicePick_cut (its:List Value) (lo hi:Option Int):slicePick its.toArray lo hi none=((its.drop (HT.sIx its.length 0 lo)).take (HT.sIx its.length its.length hi - HT.sIx its.length 0 lo)).toArray:=by
  obtain ⟨h1,h2,h3⟩:=slice_bounds lo hi its.toArray.size
  unfold slicePick
  rw [h1,h2,h3]
  simp only [sliceRange_one,pick_run,List.size_toArray] <;> rfl
noncomputable def rSlL (K:FG):V->Option Int->Option Int->Hp->VK->Prop:=fun x lo hi H Q=>∃ a xs,x=.ref a/\SqL K H a xs/\∀ p,H p=none->Q (.ref p) (upd H p (.lst (cutV xs lo hi)))
theorem sl_list:SlR X (rSlL X.K):=by
  intro pins s σ H x v vl vu lo hi sl Q I rx hs pl pu h
  obtain ⟨a,xs,rfl,hx,q⟩:=h
  cases rx
  obtain ⟨its,r,ht,hz⟩:=I.list hx
  have hlen:=r.length
  refine ⟨"list",_,slot_list_getitem.lookup,ht.isList.typeIs,?_⟩
  refine wpAny_getItem_list_slice ht.isList hs pl pu .none (by simp) ?_ (by rw [List.size_toArray] <;> omega)
  rw [slicePick_cut,← hlen]
  refine ⟨.ref s.heap.objs.size,_,I.laid (t':=s.toks) (o:=.lst (cutV xs lo hi)) (fun b ob q=>Heap.get?_push_of_some _ q) (Nat.le_refl _) ?_,rfl,q _ (I.hok.fresh (Nat.le_refl _))⟩
  exact ⟨Nat.le_trans (cutV_length xs lo hi) hz,_,0,(r.drop (HT.sIx xs.length 0 lo)).take (HT.sIx xs.length xs.length hi - HT.sIx xs.length 0 lo),Heap.get?_push_size _ rfl⟩
noncomputable def flatV:V->Bool
  | .non=>true
  | .bl _=>true
  | .int _=>true
  | .str _=>true
  | _=>false
theorem call_list_of:CallR X (.type "list") (fun xs H Q=>∃ p ys,xs=[.ref p]/\(SqL X.K H p ys\/SqT X.K H p ys)/\∀ l,H l=none->Q (.ref l) (upd H l (.lst ys))):=by
  intro pins s σ H xs us Q I r h
  obtain ⟨p,ys,rfl,hq,q⟩:=h
  obtain ⟨u,rfl,rx⟩:=vals1 r
  cases rx
  have fin:∀ (its:List Value),Vals ys its->ys.length<=sizeLine->∀ (h':Heap) (c':Nat),(∀ b o',s.heap.get? b=some o'->h'.get? b=some o')->
      h'.get? s.heap.objs.size=some { cls:=.type "list",dict:=none,data:=.seq its.toArray c',slots:=#[] }->EP X pins σ Q (.ref s.heap.objs.size) { s with heap:=h' }:=fun its r' hz h' c' kp e=>
    ⟨.ref s.heap.objs.size,_,I.laid (t':=s.toks) kp (Nat.le_refl _) (show ObjOk X.prog X.w _ h' _ (.lst ys) from ⟨hz,its,c',r',e⟩),rfl,q _ (I.hok.fresh (Nat.le_refl _))⟩
  rcases hq with hq | hq
  · obtain ⟨its,r',pl,hz⟩:=I.list hq
    have hlen:=r'.length
    obtain ⟨o,ho,hc,n,hd⟩:=pl.isList
    exact call_list_seq p (.inl rfl) ho hc hd (fun h' c' kp e=>fin its r' hz h' c' kp e) (by simp only [List.size_toArray] <;> omega)
  · obtain ⟨its,r',pl,hz⟩:=I.tuple hq
    have hlen:=r'.length
    obtain ⟨o,ho,hc,n,hd⟩:=pl
    exact call_list_seq p (.inr rfl) ho hc hd (fun h' c' kp e=>fin its r' hz h' c' kp e) (by simp only [List.size_toArray] <;> omega)
noncomputable def tyV (K:FG) (T:String) (x:V) (H:Hp):Prop:=match x with
  | .str _=>T = "str"
  | .int _=>T = "int"
  | .ref p=>(T = "list" /\ ∃ xs,SqL K H p xs)\/(T = "tuple" /\ ∃ o,K.lookup p=some o/\o.cls=.type "tuple" /\ o.dict=none)\/
      (T = "dict" /\ ((∃ kvs,H p=some (.dK kvs))\/∃ kvs,H p=some (.dT kvs)))\/(T = "set" /\ ∃ S n,H p=some (.set S n))
  | _=>False
theorem tyV_is {σ:St} {H:Hp} {T:String} {x:V} {v:Value} (I:Inv X pins σ H s) (r:RelV x v) (ty:tyV X.K T x H):
    s.TypeIs v T/\∀ a,v=.ref a->∃ ob,s.heap.get? a=some ob/\ob.dict=none:=by
  cases x with
  | str z=>
    obtain ⟨t,rfl⟩:=r
    cases (show T = "str" from ty)
    exact ⟨typeIs_str s z t,fun _ e=>nomatch e⟩
  | int i=>
    obtain ⟨t,rfl⟩:=r
    cases (show T = "int" from ty)
    exact ⟨typeIs_int s i t,fun _ e=>nomatch e⟩
  | ref p=>
    cases r
    rcases ty with ⟨rfl,xs,hq⟩ | ⟨rfl,o,hk,hc,hd⟩ | ⟨rfl,hk⟩ | ⟨rfl,S,n,hk⟩
    · obtain ⟨its,_,pl,_⟩:=I.list hq
      refine ⟨pl.isList.typeIs,fun a e=>?_⟩
      cases e
      obtain ⟨o,n,e,c,hd,_⟩:=pl
      exact ⟨o,e,hd⟩
    · refine ⟨⟨o,I.kIn p o hk,hc⟩,fun a e=>?_⟩
      cases e
      exact ⟨o,I.kIn _ o hk,hd⟩
    · have z:∃ o,s.heap.get? p=some o/\o.ExactDict:=by
        rcases hk with ⟨kvs,hk⟩ | ⟨kvs,hk⟩
        · obtain ⟨_,_,_,_,o,_,_,e,ex,_⟩:=I.hok p _ hk
          exact ⟨o,e,ex⟩
        · obtain ⟨_,_,_,_,o,_,_,e,ex,_⟩:=I.hok p _ hk
          exact ⟨o,e,ex⟩
      obtain ⟨o,e,ex⟩:=z
      refine ⟨⟨o,e,ex.1⟩,fun a e2=>?_⟩
      cases e2
      exact ⟨o,e,ex.2.1⟩
    · obtain ⟨o,_,_,_,e,ex,_⟩:=I.hok p _ hk
      refine ⟨⟨o,e,ex.1⟩,fun a e2=>?_⟩
      cases e2
      exact ⟨o,e,ex.2.1⟩
  | _=>exact False.elim ty
noncomputable def tBM0 (K:FG) (T:String) (r:V->List V->Hp->VK->Prop) (to:TE):TE:=fun σ H Q=>to σ H fun x H1=>tyV K T x H1/\r x [] H1 Q
noncomputable def tBM (K:FG) (T:String) (r:V->List V->Hp->VK->Prop) (to:TE) (t:TA):TE:=fun σ H Q=>to σ H fun x H1=>tyV K T x H1/\t σ H1 fun xs H2=>r x xs H2 Q
variable {o e:Expr} {es:List Expr} {to:TE} {t:TA} {name:Str} {apos cpos:Pos} {T id:String} {r:V->List V->Hp->VK->Prop}
theorem pe_bm0 (pa:PlainAttrs T) (slot:Slot T name id) (hty:typeOf (.builtin id)=pure (.type "method_descriptor")) (hm:MtR X id r) (ho:PE X o to)
    (hbase:attributeBase o name X.env (eval o X.env)=eval o X.env:=by rfl) (hline:(apos.endLine == cpos.line)=true:=by rfl):PE X (.Call (.Attribute o name apos) [] [] cpos) (tBM0 X.K T r to):=by
  intro pins s σ H Q I h
  refine wpAny_Call_method0_late hbase hline (thn (ho pins s σ H _ I h) fun v s1 ⟨x,H1,I1,r1,ty,q1⟩=>?_)
  obtain ⟨h1,h2⟩:=tyV_is I1 r1 ty
  exact ⟨T,id,pa,slot,hty,h1,h2,Calls.callWith_builtin rfl (PySem.evalArgs_none (hm pins s1 σ H1 x [] v [] Q I1 r1 .nil q1))⟩
theorem pe_bm (pa:PlainAttrs T) (slot:Slot T name id) (hty:typeOf (.builtin id)=pure (.type "method_descriptor")) (hm:MtR X id r) (ho:PE X o to) (ha:PA X (e::es) t)
    (hbase:attributeBase o name X.env (eval o X.env)=eval o X.env:=by rfl)
    (hfew:((backTo cpos (starEach (e::es) X.env)).all (fun x=>!x.1) && (backToKw cpos (keywordEach [] X.env)).all (fun x=>x.1.isSome)
      && decide ((e::es).length + ([]:List Keyword).length + (if ([]:List Keyword).isEmpty then 0 else 1) < 30))=true:=by rfl)
    (hline:(apos.endLine == cpos.line)=true:=by rfl) (hs:starEach (e::es) X.env=(false,eval e X.env)::starEach es X.env:=by rfl) (hplain:(backTo cpos (starEach es X.env)).any (·.1)=false:=by rfl):
    PE X (.Call (.Attribute o name apos) (e::es) [] cpos) (tBM X.K T r to t):=by
  intro pins s σ H Q I h
  refine wpAny_Call_method_late hbase hfew hline rfl (thn (ho pins s σ H _ I h) fun v s1 ⟨x,H1,I1,r1,ty,q1⟩=>?_)
  obtain ⟨h1,h2⟩:=tyV_is I1 r1 ty
  refine ⟨T,id,pa,slot,hty,h1,h2,?_⟩
  have hA:=ha cpos pins s1 σ H1 _ I1 q1
  rw [hs] at hA ⊢
  refine Calls.callWith_builtin (by show (false || (backTo cpos (starEach es X.env)).any (·.1))=false; rw [hplain] <;> rfl) (Calls.evalArgs_plain ?_)
  exact thn hA fun us s2 ⟨vs,H2,I2,r2,q2⟩=>hm pins s2 σ H2 x vs v us Q I2 r1 r2 q2
end
noncomputable def MtM (X:Cx) (id:String) (r:V->List V->Hp->VK->Prop):Prop:=
  ∀ (pins:List (Addr × Obj)) (s:Shared) (σ:St) (H:Hp) (x:V) (xs:List V) (v:Value) (us:List Value) (Q:VK),Inv X pins σ H s->RelV x v->Vals xs us->r x xs H Q->
    wpAny (model X.prog X.w) X.A (call (.builtin id) (v::us)) (EP X pins σ Q) X.xe s
theorem Vals.one:∀ {x:V} {us:List Value},Vals [x] us->∃ u,us=[u]/\RelV x u
  | _,_,.cons r .nil=>⟨_,rfl,r⟩
theorem Vals.zero:∀ {us:List Value},Vals [] us->us=[]
  | _,.nil=>rfl
theorem Vals.dropLast {xs:List V} {us:List Value} (h:Vals xs us):Vals xs.dropLast us.dropLast:=by
  induction h with
  | nil=>exact .nil
  | cons r t ih=>
    cases t with
    | nil=>exact .nil
    | cons q t'=>exact .cons r ih
theorem Vals.reverse {xs:List V} {us:List Value} (h:Vals xs us):Vals xs.reverse us.reverse:=by
  induction h with
  | nil=>exact .nil
  | cons r t ih=>rw [List.reverse_cons,List.reverse_cons]; exact Vals.append ih (.cons r .nil)
theorem erase_last {α:Type} (l:List α):l.eraseIdx (l.length - 1)=l.dropLast:=by
  induction l with
  | nil=>rfl
  | cons a r ih=>
    cases r with
    | nil=>rfl
    | cons b r=>
      have e:(a::b::r).length - 1=((b::r).length - 1) + 1:=by
        have h1:(a::b::r).length=r.length + 2:=rfl
        have h2:(b::r).length=r.length + 1:=rfl
        omega
      rw [e,List.eraseIdx_cons_succ,ih]
      all_goals rfl
section
variable {X:Cx} {pins:List (Addr × Obj)} {σ:St} {H:Hp} {s:Shared} {l b:Addr} {xs ys zs:List V}
theorem Inv.lset {its its':List Value} {n:Nat} {f:Array Value->Array Value} {t':Nat} (I:Inv X pins σ H s) (hH:H l=some (.lst xs))
    (e:s.heap.get? l=some { cls:=.type "list",data:=.seq its.toArray n }) (hf:f its.toArray=its'.toArray) (hv:Vals ys its') (hz:ys.length<=sizeLine):
    Inv X pins σ (upd H l (.lst ys)) { s with heap:=s.heap.update l (Obj.mapSeq f),toks:=t' }:=by
  have q:=PySem.IsL.update e f
  rw [hf] at q
  refine I.write (x:=l) (e:=l) (by rw [hH]; exact trivial) (.inl rfl) (fun b' u hb hu=>(Heap.get?_update_other s.heap (Obj.mapSeq f) (Ne.symm hb)).trans hu) ⟨_,q⟩ ?_
  exact ⟨hz,its',_,hv,q⟩
theorem Inv.lnew {its:List Value} {t':Nat} (I:Inv X pins σ H s) (hv:Vals ys its) (hz:ys.length<=sizeLine):
    Inv X pins σ (upd H s.heap.objs.size (.lst ys)) { s with heap:=s.heap.push { cls:=.type "list",data:=.seq its.toArray },toks:=t' }:=
  I.laid (fun _ _ q=>Heap.get?_push_of_some _ q) (Nat.le_refl _) ⟨hz,its,0,hv,Heap.get?_push_size _ rfl⟩
theorem Inv.fresh (I:Inv X pins σ H s):H s.heap.objs.size=none:=I.hok.fresh (Nat.le_refl _)
theorem Inv.lstM (I:Inv X pins σ H s) (hH:H l=some (.lst xs)):xs.length<=sizeLine/\∃ (its:List Value) (n:Nat),Vals xs its/\xs.length=its.length/\s.heap.get? l=some { cls:=.type "list",data:=.seq its.toArray n }:=by
  obtain ⟨z,its,n,r,e⟩:=I.hok l _ hH
  exact ⟨z,its,n,r,r.length,e⟩
theorem notLongL {n:Nat} (h:n<=sizeLine):Builtin.List.listTooLong n=false:=by
  unfold Builtin.List.listTooLong
  exact decide_eq_false (by omega)
end
section
variable {X:Cx}
noncomputable def rAppend:V->List V->Hp->VK->Prop:=fun x vs H Q=>∃ l xs y,x=.ref l/\vs=[y]/\H l=some (.lst xs)/\xs.length < sizeLine/\Q .non (upd H l (.lst (xs++[y])))
theorem mt_append:MtM X "list.append" rAppend:=by
  intro pins s σ H x vs v us Q I rx rv h
  obtain ⟨l,xs,y,rfl,rfl,hH,hz,q⟩:=h
  cases rx
  obtain ⟨u,rfl,ru⟩:=rv.one
  obtain ⟨z,its,n,r,hl,e⟩:=I.lstM hH
  refine call_meets F.slot_list_append ⟨_,e,rfl⟩ F.entry_list_append (F.args_list_append_2 _ _) (PySem.list_append l its.toArray n u (by rw [List.size_toArray]; omega)) ⟨e,?_⟩
  refine ⟨.non,_,I.lset (its':=its++[u]) hH e (by simp) (r.append (.cons ru .nil)) ?_,rfl,q⟩
  rw [List.length_append,List.length_singleton]
  omega
noncomputable def rPop:V->List V->Hp->VK->Prop:=fun x vs H Q=>∃ l xs y,x=.ref l/\vs=[]/\H l=some (.lst xs)/\xs[xs.length - 1]?=some y/\Q y (upd H l (.lst xs.dropLast))
theorem mt_pop:MtM X "list.pop" rPop:=by
  intro pins s σ H x vs v us Q I rx rv h
  obtain ⟨l,xs,y,rfl,rfl,hH,hy,q⟩:=h
  cases rx
  have hus:=rv.zero
  subst hus
  obtain ⟨z,its,n,r,hl,e⟩:=I.lstM hH
  obtain ⟨u,hu,ru⟩:=r.get hy
  have hy':its.toArray[its.toArray.size - 1]?=some u:=by
    show its.toArray[its.length - 1]?=some u
    rw [← Array.getElem?_toList,← hl]
    exact hu
  refine call_meets F.slot_list_pop ⟨_,e,rfl⟩ F.entry_list_pop (F.args_list_pop_1 _) (MeetsSeq.list_pop_last l its.toArray n u hy' (by rw [List.size_toArray]; omega)) ⟨e,?_⟩
  refine ⟨y,_,I.lset (its':=its.dropLast) hH e ?_ r.dropLast ?_,ru,q⟩
  · show its.toArray.eraseIdxIfInBounds (its.toArray.size - 1)=its.dropLast.toArray
    rw [List.size_toArray,List.eraseIdxIfInBounds_toArray,erase_last]
  · rw [List.length_dropLast]
    omega
noncomputable def rReverse:V->List V->Hp->VK->Prop:=fun x vs H Q=>∃ l xs,x=.ref l/\vs=[]/\H l=some (.lst xs)/\Q .non (upd H l (.lst xs.reverse))
theorem mt_reverse:MtM X "list.reverse" rReverse:=by
  intro pins s σ H x vs v us Q I rx rv h
  obtain ⟨l,xs,rfl,rfl,hH,q⟩:=h
  cases rx
  have hus:=rv.zero
  subst hus
  obtain ⟨z,its,n,r,hl,e⟩:=I.lstM hH
  refine call_meets F.slot_list_reverse ⟨_,e,rfl⟩ F.entry_list_reverse (F.args_list_reverse_1 _) (AutoSeq1.list_reverse_list_0 l its.toArray n (by rw [List.size_toArray]; omega)) ⟨e,?_⟩
  refine ⟨.non,_,I.lset (its':=its.reverse) hH e (by simp) r.reverse ?_,rfl,q⟩
  rw [List.length_reverse]
  omega
end
section
variable {prog:Program}
end
section
variable {X:Cx}
end
end L2
namespace Att
open PySem PySem.W PySem.Calls PyProof.Rows
theorem ints_of_wellAll {P:Params} {h:Heap}:∀ (ns:List Int) (vs:List Value),WellAll P h vs (ns.map WData.int)->IntsAre vs ns:=by
  intro ns
  induction ns with
  | nil=>
    intro vs w
    rw [List.map_nil] at w
    cases w
    exact .nil
  | cons n ns ih=>
    intro vs w
    rw [List.map_cons] at w
    cases w with
    | cons a b=>
      cases a
      exact .cons _ _ (ih _ b)
theorem script_of {l:OpenLaw} {n:Nat} (hn:l.most=some n) {P:Params} {h:Heap} {args:List WData} {vals:List Value}
    (hpre:l.row.toRowW.claim.pre args=true) (hwl:WellAll P h vals args):
    ∃ a vs ns,vals=[Value.ref a]/\args=[WData.list (ns.map WData.int)]/\h.get? a=some { cls:=.type "list",data:=.seq vs.toArray }/\IntsAre vs ns/\ns.length<=n:=by
  have hsh:WShape.hasAll [] args [.list .int]=true:=(pre_splitW hpre).1
  have hc:l.pre.holds [] { args:=args }=true:=(pre_splitW hpre).2
  obtain ⟨d,r,rfl,h1,h2⟩:=hasAllW_cons hsh
  obtain rfl:=hasAllW_nil h2
  obtain ⟨xs,rfl,h3⟩:=hasW_list h1
  obtain ⟨ns,rfl⟩:=items_int h3
  have hlen:ns.length<=n:=by
    unfold OpenLaw.pre at hc
    have h4:(WTm.not (.lt (.lit (.int (n:Int))) (.len (.arg 0)))).holds [] { args:=[.list (ns.map .int)] }=true:=by
      have h4:=(holds_andW hc).1
      rw [hn] at h4
      exact h4
    have h5:=condW_of h4 (w_not (w_lt w_lit (w_len_list (w_arg rfl))))
    rw [List.length_map] at h5
    refine Nat.le_of_not_lt fun q=>?_
    have q':(n:Int) < ((ns.length:Nat):Int):=by omega
    first
      | (rw [decide_eq_true q'] at h5; exact absurd h5 (by decide))
      | (simp at h5; omega)
  cases hwl with
  | cons w1 w2=>
    cases w2
    cases w1 with
    | list ho hall=>exact ⟨_,_,ns,rfl,rfl,ho,ints_of_wellAll ns _ hall,hlen⟩
theorem post_true (l:OpenLaw) (args:List WData):l.row.toRowW.claim.post args (.bool true) args=true:=
  postW_of (r:=l.row.toRowW) (X:=(true == true))
    (show WShape.has [] (.bool true) .bool=true by first | rfl | decide | simp [WShape.has,WShape.arms,WShape.armsAll])
    (show (WTm.eq .res (.lit (.bool true))).value [] { args:=args,res:=some (.bool true),after:=args }=some (.bool (true == true)) from w_eq_bool (w_res rfl) w_lit) rfl
theorem attach_call {l:OpenLaw} {n:Nat} {q:Program} {loose:List Str} {XP:(Str->Option Value)->Heap->Prop} {YP:World->Heap->Prop} {d:DefRec}
    (hn:l.most=some n) (hdf:d.params.defaults=[])
    (call:∀ (w:World) (s₀ s₁:Shared) (mg mb:Str->Option Value) (fa:Addr) (o:Obj) (pm cd doc:Value) (a:Addr) (vs:List Value) (ns:List Int),
      Ground q loose [] XP w s₀ mg mb s₁.heap->YP w s₁.heap->
      s₁.heap.get? fa=some o->o.data=.func (docDef d.name d.params d.body d.scope pm cd doc)->s₁.heap.CodeRec cd d.name->mg d.name=some (.ref fa)->
      s₁.heap.get? a=some { cls:=.type "list",data:=.seq vs.toArray }->IntsAre vs ns->ns.length<=n->s₁.gens=#[]->
      codeAny (model l.prog w) callerA (.call (.ref fa) ⟨[.ref a],[]⟩) (fun r s'=>r=.ok (.ret (.bool true))/\OldK s₁.heap s'.heap/\s'.os=s₁.os/\AllBare s'.gens) s₁):
    WalkO q loose XP YP l.row.toRowW d [] (fun f vs=>PySem.call f vs):=by
  intro w s₀ s₁ mg mb G Y fa o pm cd doc dV kV ho hd hcd hD hmg hg args vals as hpre hlay hrd hwl hlo
  obtain rfl:dV=.none:=Dflts.none hD hdf
  obtain rfl:kV=.none:=Dflts.noKw hD
  obtain ⟨a,vs,ns,rfl,rfl,hobj,hints,hlen⟩:=script_of hn hpre hwl
  refine enter_call (codeAny_mono (call w s₀ s₁ mg mb fa o pm cd doc a vs ns G Y ho (fd_plain hd) hcd hmg hobj hints hlen hg) fun r s' hq=>?_)
  obtain ⟨rfl,h2,h3,h4⟩:=hq
  exact ⟨.inl ⟨.bool true,.bool true,[],rfl,fun _=>rfl,.bool true,post_true l _,fun _=>⟨List.Pairwise.nil,fun _ hm=>(nomatch hm)⟩⟩,h2,h3,h4⟩
section
variable {prog:Program} {w:World} {A:Around} {E:Value->Shared->Prop} {s:Shared} {K:Frag}
end
end Att
namespace L2
open PySem PySem.Spec PyProof.Rows
variable {pins:List (Addr × Obj)} {E:Value->Shared->Prop} {s:Shared} {A:Around} {w:World} {P:Program}
theorem vals_ints:∀ {vs:List Value} {ns:List Int},IntsAre vs ns->Vals (ns.map V.int) vs
  | _,_,.nil=>.nil
  | _,_,.cons n t h=>.cons ⟨t,rfl⟩ (vals_ints h)
noncomputable def Only (H:Hp):Prop:=∀ b,H b=none\/∃ o xs,H b=some (.frz o (.lst xs))
theorem law_call {K:FG} {mg mb:Str->Option Value} {CX:CXT} {k:Nat} {fa a:Addr} {fd:FuncData} {x:Str} {sp:Sp} {s₁:Shared} {vs:List Value} {ns:List Int}
    (KX:K.In s₁.heap) (hns:s₁.heap.Ns mainGlobals mg) (hb:s₁.heap.Ns builtinsNs mb) (hbb:∀ x:Str,x ≠ "__name__" -> mb x=bootBuiltins x) (hlim:s₁.heap.NoLimit) (hg:s₁.gens=#[])
    (ha:s₁.heap.get? a=some { cls:=.type "list",data:=.seq vs.toArray }) (hi:IntsAre vs ns) (hl:ns.length<=sizeLine) (hr:Room k callerA)
    (F:∀ base:Heap,K.In base->base.Ns mainGlobals mg->FnOk P w K mg base CX k fa fd [x] sp) (hbind:∀ (s:Shared) (u:Value),BindsTo s fd ⟨[u],[]⟩ [(x,u)])
    (hsp:∀ H:Hp,Only H->SqL K H a (ns.map V.int)->sp [.ref a] H (fun v _=>v=.bl true) fun _ _ _=>False)
    (hCX:∀ H e s',CX [] H s₁ (fun _ _ _=>False) e s'->False):
    codeAny (model P w) callerA (.call (.ref fa) ⟨[.ref a],[]⟩) (fun r s'=>r=.ok (.ret (.bool true))/\OldK s₁.heap s'.heap/\s'.os=s₁.os/\AllBare s'.gens) s₁:=by
  have rv:=vals_ints hi
  have lenV:=hi.length
  have core:∀ H:Hp,Only H->SqL K H a (ns.map V.int)->HOk P w H s₁.heap->(∀ b,H b ≠ none->b=a)->(H a ≠ none->K.lookup a=none)->
      codeAny (model P w) callerA (.call (.ref fa) ⟨[.ref a],[]⟩) (fun r s'=>r=.ok (.ret (.bool true))/\OldK s₁.heap s'.heap/\s'.os=s₁.os/\AllBare s'.gens) s₁:=by
    intro H hO hS hok hA hK
    have base_of:∀ {b:Addr} {o:Obj},s₁.heap.get? b=some o->H b=none->(hidT s₁.heap H).get? b=some o:=fun e n=>hidT_get e n
    have noA:∀ {b:Addr} {o:Obj} {es:Array DictEntry} {ep:Nat},s₁.heap.get? b=some o->o.data=.dict es ep->H b=none:=fun {b o es ep} e d=>by
      cases q:H b with
      | none=>rfl
      | some u=>
        have e':b=a:=hA b (by rw [q]; simp)
        subst e'
        rw [ha] at e; cases e
        have d':Data.seq vs.toArray _=Data.dict es ep:=d
        cases d'
    have nsK:∀ {b:Addr} {m:Str->Option Value},s₁.heap.Ns b m->(hidT s₁.heap H).Ns b m:=fun {b m} ⟨o,es,ep,e,d,r⟩=>⟨o,es,ep,base_of e (noA e d),d,r⟩
    have hKb:K.In (hidT s₁.heap H):=fun b o e=>base_of (KX b o e) (by
      cases q:H b with
      | none=>rfl
      | some u=>
        have e':b=a:=hA b (by rw [q]; simp)
        subst e'
        rw [hK (by rw [q]; simp)] at e; cases e)
    have hM:Mod K mg (hidT s₁.heap H):=⟨hKb,nsK hns,⟨mb,nsK hb,hbb⟩,let ⟨mc,h1,h2⟩:=hlim; ⟨mc,nsK h1,h2⟩⟩
    have e0:Env0 P w K mg (hidT s₁.heap H) callerA [] s₁ H:=⟨rfl,hM,fun b o e=>of_hidT e,Nat.le_of_eq (hidT_size _ _),trivial,fun b hb=>absurd (show b ∈ ([]:List Addr) from hb) (by simp),hok,.of_eq hg⟩
    refine codeAny_mono ((F _ hKb (nsK hns)).run callerA [] s₁ H ⟨[.ref a],[]⟩ [.ref a] [.ref a] _ _ hr e0 (hbind s₁ (.ref a)) (.cons rfl .nil) (hsp H hO hS)) fun r s' h=>?_
    cases r with
    | error e=>exact (hCX H e s' h).elim
    | ok fl=>
      cases fl with
      | next=>exact False.elim h
      | brk=>exact False.elim h
      | cont=>exact False.elim h
      | ret u=>
        obtain ⟨v,H',os,bare,un,hok',r',q⟩:=h
        have q':v=.bl true:=q
        subst q'
        obtain rfl:u=Value.bool true:=r'
        refine ⟨rfl,OldK.of_keep fun b o e=>?_,os,bare⟩
        cases q:H b with
        | none=>exact un.keep b o e q (by intro z; exact absurd (show b ∈ ([]:List Addr) from z) (by simp)) (by simp)
        | some u=>
          rcases hO b with z | ⟨ob,xs,z⟩
          · rw [q] at z; cases z
          · have z2:=un.frzs b ob _ z
            obtain ⟨e1,_⟩:=hok b _ z
            obtain ⟨e2,_⟩:=hok' b _ z2
            rw [e] at e1; cases e1
            exact e2
  cases hk:K.lookup a with
  | some o=>
    have e:=KX a o hk
    rw [ha] at e
    cases e
    refine core (fun _=>none) (fun _=>.inl rfl) (.inr ⟨_,vs.toArray,_,hk,rfl,rfl,rfl,by rw [List.size_toArray,lenV]; exact hl,by simpa using rv⟩) (fun b u z=>by have z':(none:Option HO)=some u:=z; cases z') (fun b z=>absurd rfl z) fun z=>absurd rfl z
  | none=>
    refine core (fun b=>if b=a then some (.frz { cls:=.type "list",data:=.seq vs.toArray } (.lst (ns.map V.int))) else none) (fun b=>?_) (.inl (.inr ⟨{ cls:=.type "list",data:=.seq vs.toArray },if_pos rfl⟩)) (fun b u z=>?_) (fun b z=>?_) fun _=>hk
    · by_cases hb:b=a
      · exact .inr ⟨_,_,if_pos hb⟩
      · exact .inl (if_neg hb)
    · by_cases hb:b=a
      · have z':=(if_pos hb).symm.trans z
        cases z'
        subst hb
        exact ⟨ha,by rw [List.length_map]; exact hl,vs,_,rv,ha⟩
      · have z':=(if_neg hb).symm.trans z
        cases z'
    · by_cases hb:b=a
      · exact hb
      · exact absurd (if_neg hb) z
theorem walk_of {l:PySem.W.OpenLaw} {n k:Nat} {q:Program} {loose:List Str} {XP:(Str->Option Value)->Heap->Prop} {YP:World->Heap->Prop} {d:DefRec} {K:Params->FG} {CX:World->CXT} {sp:World->Sp} {x:Str}
    (hn:l.most=some n) (hn2:n<=sizeLine) (hdf:d.params.defaults=[]) (hr:Room k callerA)
    (hY:∀ (w:World) (h:Heap),YP w h->(K w.params).In h)
    (F:∀ (w:World) (mg:Str->Option Value) (fa:Addr) (h:Heap),(K w.params).In h->h.Ns mainGlobals mg->mg d.name=some (.ref fa)->
      ∃ fd:FuncData,(∀ (s:Shared) (u:Value),BindsTo s fd ⟨[u],[]⟩ [(x,u)])/\
        ∀ base:Heap,(K w.params).In base->base.Ns mainGlobals mg->FnOk l.prog w (K w.params) mg base (CX w) k fa fd [x] (sp w))
    (hsp:∀ (w:World) (H:Hp) (a:Addr) (ns:List Int),ns.length<=n->Only H->SqL (K w.params) H a (ns.map V.int)->sp w [.ref a] H (fun v _=>v=.bl true) fun _ _ _=>False)
    (hCX:∀ (w:World) (H:Hp) (s:Shared) (e:Value) (s':Shared),CX w [] H s (fun _ _ _=>False) e s'->False):
    PySem.W.WalkO q loose XP YP l.row.toRowW d [] (fun f vs=>PySem.call f vs):=by
  refine Att.attach_call hn hdf fun w s₀ s₁ mg mb fa o pm cd doc a vs ns G Y ho hd hcd hmg hobj hints hlen hg=>?_
  have KX:=hY w _ Y
  obtain ⟨fd,hb,hF⟩:=F w mg fa _ KX G.T.g hmg
  exact law_call KX G.T.g G.T.b G.T.builtins G.T.nolimit hg hobj hints (Nat.le_trans hlen hn2) hr hF hb (fun H hO hS=>hsp w H a ns hlen hO hS) fun H e s'=>hCX w H s₁ e s'
noncomputable def defArgs (s:Stmt):Arguments:=match s with
  | .FunctionDef _ a _ _ _ _ _ _ _ _=>a
  | _=>{ posonlyargs:=[],args:=[],vararg:=none,kwonlyargs:=[],kw_defaults:=[],kwarg:=none,defaults:=[] }
noncomputable def defBody (s:Stmt):List Stmt:=match s with
  | .FunctionDef _ _ b _ _ _ _ _ _ _=>b
  | _=>[]
noncomputable def defScope (s:Stmt):Scope:=match s with
  | .FunctionDef _ _ _ _ _ _ sc _ _ _=>sc
  | _=>{ kind:=.function,names:=[],isGenerator:=false,isCoroutine:=false }
noncomputable abbrev CX0:CXT:=fun _ _ _ _ _ _=>False
noncomputable abbrev E0:XK:=fun _ _ _=>False
theorem pass0 {X:Cx}:Passes CX0 X E0:=fun _ _ _ _ _ _ _ h=>h.elim
structure Fun (K:FG) (x qual:Str) (st:Stmt) (f:Addr) (fd:FuncData):Prop where
  ex:∃ (oc:Value) (od:Option Addr) (kV doc pm:Value) (an:Option Addr) (cdv ct:Value) (osl:Array (Option Value)),
    fd=PySem.W.fnOf x qual (defArgs st) (defBody st) (defScope st) .none kV doc pm an cdv ct/\K.lookup f=some ⟨oc,od,.func fd,osl⟩/\PySem.W.codeIn K cdv qual=true
  kp:PySem.W.keepIn K (.ref f)=true
section
variable {P:Program} {w:World} {K:FG} {mg:Str->Option Value} {base:Heap}
theorem Fun.ok {x qual:Str} {st:Stmt} {f:Addr} {fd:FuncData} {N ps:List Str} {k:Nat} {sp:Sp} (F:Fun K x qual st f fd) (S:FnScope N ps (defScope st)) (len:∀ vs H Q E,sp vs H Q E->vs.length=ps.length)
    (hbody:∀ (cdv:Value) (A:Around) (outer:List Env) (s:Shared) (H:Hp) (vs:List V) (Q:VK) (E:XK),Room k (A.deeper (envOfC qual (defScope st) s.heap.objs.size f cdv))->sp vs H Q E->
      ∃ t,PSs (cxOf CX0 P w K mg base N qual (defScope st) f cdv A outer s H E).nox (defBody st) t/\t { nx:=fun _ H'=>Q .non H',rt:=Q } (start N vs) H):FnOk P w K mg base CX0 (k + 1) f fd ps sp:=by
  obtain ⟨oc,od,kV,doc,pm,an,cdv,ct,osl,rfl,lk,hcd⟩:=F.ex
  refine fn_of lk hcd S len fun A outer s H vs Q E hr hsp=>?_
  obtain ⟨t,h,q⟩:=hbody cdv A outer s H vs Q E hr hsp
  exact ⟨t,h.nox,q⟩
theorem Fun.binds {x qual:Str} {st:Stmt} {f:Addr} {fd:FuncData} {ps:List Str} (F:Fun K x qual st f fd)
    (h:∀ (kV doc pm:Value) (an:Option Addr) (cdv ct:Value) (us:List Value),us.length=ps.length->bindArgs (PySem.W.fnOf x qual (defArgs st) (defBody st) (defScope st) .none kV doc pm an cdv ct) ⟨us,[]⟩=pure (ps.zip us)):Binds K fd ps []:=by
  obtain ⟨oc,od,kV,doc,pm,an,cdv,ct,osl,rfl,lk,hcd⟩:=F.ex
  exact .all (h kV doc pm an cdv ct)
theorem fun_mk {x qual:Str} {st:Stmt} {f:Addr} {oc:Value} {od an:Option Addr} {osl:Array (Option Value)} {kV doc pm cdv ct:Value} (l:K.lookup f=some ⟨oc,od,.func (PySem.W.fnOf x qual (defArgs st) (defBody st) (defScope st) .none kV doc pm an cdv ct),osl⟩)
    (c:PySem.W.codeIn K cdv qual=true) (k:PySem.W.keepIn K (.ref f)=true):Fun K x qual st f (PySem.W.fnOf x qual (defArgs st) (defBody st) (defScope st) .none kV doc pm an cdv ct):=⟨⟨oc,od,kV,doc,pm,an,cdv,ct,osl,rfl,l,c⟩,k⟩
end
theorem hu_of {k:Nat} (hr:Room k A):A.units + 1 < cLine:=Nat.lt_of_le_of_lt (Nat.add_le_add_left (by decide:1<=64) _) hr.units
section
variable {X:Cx}
theorem pv (i:Nat) {x:Str} {pos:Pos} (hN:X.N[i]?=some x:=by rfl) (hv:Vis X.env.scope x:=by first | exact Or.inl rfl | exact Or.inr (Or.inl rfl) | exact Or.inr (Or.inr rfl)) (hd:(x == ("__debug__" : Str))=false:=by decide)
    (hcd:(x == ("__classdict__" : Str))=false:=by decide):PE X (.Name x pos) (tVar i):=pe_var hN hv hd hcd
end
noncomputable def Same (H H':Hp):Prop:=∀ b o,H b=some o->H' b=some o
theorem Same.refl (H:Hp):Same H H:=fun _ _ h=>h
theorem Same.trans {H H1 H2:Hp} (a:Same H H1) (b:Same H1 H2):Same H H2:=fun c o h=>b c o (a c o h)
theorem Same.free {H H':Hp} (e:Same H H') {l:Addr} (h:H' l=Option.none):H l=Option.none:=by
  cases q:H l with
  | none=>rfl
  | some o=>
    rw [e l o q] at h
    cases h
theorem Same.seq {K:FG} {H H':Hp} {a:Addr} {xs:List V} (e:Same H H') (h:SqL K H a xs):SqL K H' a xs:=by
  rcases h with (h | ⟨o,h⟩) | h
  · exact .inl (.inl (e _ _ h))
  · exact .inl (.inr ⟨o,e _ _ h⟩)
  · exact .inr h
section
variable {κ:Type} [DecidableEq κ]
noncomputable def valV (kvs:List (κ × V)) (k:κ):Option V:=(kvs.find? fun kv=>decide (kv.1=k)).map (·.2)
theorem valV_pos {p:κ × V} {r:List (κ × V)} {k:κ} (e:p.1=k):valV (p::r) k=some p.2:=by simp [valV,List.find?_cons,e]
theorem valV_neg {p:κ × V} {r:List (κ × V)} {k:κ} (e:¬ p.1=k):valV (p::r) k=valV r k:=by simp [valV,List.find?_cons,e]
theorem KV.val {kvs:List (κ × V)} {vs:List (κ × Value)} (r:KV kvs vs) (k:κ):RelO (valV kvs k) (valueAt vs k):=by
  unfold KV at r
  induction r with
  | nil=>exact True.intro
  | @cons p q ps qs h t ih=>
    obtain ⟨h1,h2⟩:=h
    by_cases e:p.1=k
    · have e':q.1=k:=h1.symm.trans e
      have b:valueAt (q::qs) k=some q.2:=by simp [valueAt,List.find?_cons,e']
      rw [valV_pos e,b]; exact h2
    · have e':¬ q.1=k:=fun z=>e (h1.trans z)
      have b:valueAt (q::qs) k=valueAt qs k:=by simp [valueAt,List.find?_cons,e']
      rw [valV_neg e,b]; exact ih
theorem KV.length {kvs:List (κ × V)} {vs:List (κ × Value)} (r:KV kvs vs):kvs.length=vs.length:=Paired.length r
end
theorem kV_is {k:Key} {u:Value} (r:RelV (kV k) u):(mixKind P w).is k u=true:=by
  cases k with
  | inl i=>obtain ⟨t,e⟩:=(show ∃ t,u=Value.int i t from r); subst e; exact mixKind_int P w i t
  | inr x=>obtain ⟨t,e⟩:=(show ∃ t,u=Value.str x t from r); subst e; exact mixKind_str P w x t
theorem items_are:∀ {ks:List Key} {us:List Value},Vals (ks.map kV) us->ItemsAre (mixKind P w) ks us
  | [],_,r=>by rw [List.map_nil] at r; cases r; exact .nil
  | k::ks,_,r=>by
    rw [List.map_cons] at r
    cases r with
    | cons h t=>exact .cons (kV_is h) (items_are t)
noncomputable abbrev KT (H:Hp):List (List Key × V)->List (List Key × Addr × Value)->Prop:=Paired fun p q=>p.1=q.1/\H q.2.1=some (.tup (p.1.map kV))/\RelV p.2 q.2.2
theorem KT.val {H:Hp} {kvs:List (List Key × V)} {xs:List (List Key × Addr × Value)} (r:KT H kvs xs) (k:List Key):RelO (valV kvs k) ((atKey xs k).map (·.2)):=by
  induction r with
  | nil=>exact True.intro
  | @cons p q ps qs h t ih=>
    obtain ⟨h1,_,h2⟩:=h
    by_cases e:p.1=k
    · have e':q.1=k:=h1.symm.trans e
      have b:atKey (q::qs) k=some q.2:=by simp [atKey,List.find?_cons,e']
      rw [valV_pos e,b]; exact h2
    · have e':¬ q.1=k:=fun z=>e (h1.trans z)
      have b:atKey (q::qs) k=atKey qs k:=by simp [atKey,List.find?_cons,e']
      rw [valV_neg e,b]; exact ih
section
variable {P:Program} {w:World} {H:Hp} {h:Heap} {a:Addr}
theorem rd_of {u:HO} (ok:HOk P w H h) (e:Rd H a u):ObjOk P w H h a u:=e.ok ok
theorem dk_rd {kvs:List (Key × V)} (ok:HOk P w H h) (e:Rd H a (.dK kvs)):kvs.length<=sizeLine/\(a == sysModules)=false/\∃ vs,KV kvs vs/\h.DictOf (mixKind P w) a vs:=
  show ObjOk P w H h a (.dK kvs) from rd_of ok e
theorem dk_of {kvs:List (Key × V)} (ok:HOk P w H h) (e:H a=some (.dK kvs)):kvs.length<=sizeLine/\(a == sysModules)=false/\∃ vs,KV kvs vs/\h.DictOf (mixKind P w) a vs:=dk_rd ok (.inl e)
theorem key_of {ks:List Key} (ok:HOk P w H h) (e:H a=some (.tup (ks.map kV))):(tupleKind (mixKind P w)).is h ks a:=by
  obtain ⟨_,its,r,o,h1,h2,n,h3⟩:=(show ObjOk P w H h a (.tup (ks.map kV)) from ok a _ e)
  exact ⟨o,its.toArray,n,h1,h2,h3,by simpa using items_are r⟩
theorem dt_rd {kvs:List (List Key × V)} (ok:HOk P w H h) (e:Rd H a (.dT kvs)):kvs.length<=sizeLine/\(a == sysModules)=false/\
    ∃ xs,KT H kvs xs/\h.DictOfH (tupleKind (mixKind P w)) a xs:=by
  obtain ⟨z,y,xs,r,o,es,ep,h1,h2,h3,h4,h5⟩:=(show ObjOk P w H h a (.dT kvs) from rd_of ok e)
  refine ⟨z,y,xs,r,o,es,ep,h1,h2,h3,h4,fun x hx=>?_,h5⟩
  have all:∀ {l:List (List Key × V)} {m:List (List Key × Addr × Value)},KT H l m->∀ x ∈ m,(tupleKind (mixKind P w)).is h x.1 x.2.1:=by
    intro l m q
    induction q with
    | nil=>intro x hx; exact nomatch hx
    | @cons p q ps qs hq t ih=>
      intro x hx
      rcases List.mem_cons.mp hx with e | hx
      · subst e
        exact key_of ok (by rw [← hq.1]; exact hq.2.1)
      · exact ih x hx
  exact all r x hx
end
noncomputable def DGet (H:Hp) (a:Addr) (y:V) (r:Option V):Prop:=
  (∃ kvs k,Rd H a (.dK kvs)/\y=kV k/\r=valV kvs k)\/∃ kvs k b,Rd H a (.dT kvs)/\y=.ref b/\H b=some (.tup (k.map kV))/\r=valV kvs k
section
variable {X:Cx} {pins:List (Addr × Obj)} {σ:St} {H:Hp} {s:Shared} {a:Addr} {y v:V} {u r:Value} {o:Option V} {A:Around} {E:Value->Shared->Prop}
theorem d_getItem {Q:Value->Shared->Prop} (hu:A.units + 1 < cLine) (I:Inv X pins σ H s) (g:DGet H a y (some v)) (ry:RelV y u) (h:∀ w' s',Inv X pins σ H s'->RelV v w'->Q w' s'):
    wpAny (model X.prog X.w) A (getItem (.ref a) u) Q E s:=by
  rcases g with ⟨kvs,k,e,ey,l⟩ | ⟨kvs,k,b,e,ey,eb,l⟩
  · subst ey
    obtain ⟨z,hd,vs,rel,dd⟩:=dk_rd I.hok e
    obtain ⟨w',hw,rw'⟩:=RelO.some_of (v:=v) (o:=valueAt vs k) (by rw [l]; exact rel.val k)
    exact wpAny_getItem_of (kV_is ry) dd.mapOf hw (h w' _ (I.tok _) rw')
  · subst ey
    cases (show u=Value.ref b from ry)
    obtain ⟨z,hd,xs,rel,dd⟩:=dt_rd I.hok e
    obtain ⟨w',hw,rw'⟩:=RelO.some_of (v:=v) (o:=(atKey xs k).map (·.2)) (by rw [l]; exact rel.val k)
    obtain ⟨p,hp,hp2⟩:=Option.map_eq_some_iff.mp hw
    refine wpAny_getItem_heap (tupleKind_room_in1 hu) (key_of I.hok eb) dd hp ?_
    rw [hp2]
    exact h w' _ (I.tok _) rw'
end
section
variable {X:Cx} {pins:List (Addr × Obj)} {σ:St} {H:Hp} {s:Shared} {a:Addr} {kvs:List (Key × V)} {k:Key} {u:Value} {A:Around} {E:Value->Shared->Prop}
end
theorem dict_typeIs {X:Cx} {σ:St} {H:Hp} {a:Addr} {y:V} {o:Option V} (I:Inv X pins σ H s) (g:DGet H a y o):s.TypeIs (.ref a) "dict" := by
  rcases g with ⟨kvs,k,e,_,_⟩ | ⟨kvs,k,b,e,_,_,_⟩
  · obtain ⟨_,_,vs,_,dd⟩:=dk_rd I.hok e
    exact dd.typeIs
  · obtain ⟨_,_,xs,_,dd⟩:=dt_rd I.hok e
    exact dd.typeIs
section
variable {X:Cx} {o i e value:Expr} {pos pos' tpos:Pos} {td ty tv:TE}
end
section
variable {X:Cx} {pos:Pos}
end
section
variable {X:Cx} {pins:List (Addr × Obj)} {σ:St} {H:Hp} {s:Shared} {a:Addr} {y d:V} {u r:Value} {o:Option V} {A:Around} {E:Value->Shared->Prop}
end
section
variable {X:Cx} {o e f:Expr} {apos cpos:Pos} {td ty tx:TE}
end
section
variable {X:Cx} {pins:List (Addr × Obj)} {σ:St} {H:Hp} {s:Shared} {a:Addr} {kvs:List (Key × V)} {A:Around} {E:Value->Shared->Prop}
end
section
variable {X:Cx} {pins:List (Addr × Obj)} {σ:St} {H:Hp} {s:Shared} {a:Addr} {y:V} {u:Value} {A:Around} {E:Value->Shared->Prop}
end
section
variable {X:Cx}
end
section
variable {κ:Type} [DecidableEq κ]
end
noncomputable def cloOf (names:List (Str × NameKind)) (env:Env):List (Str × Addr):=names.foldl (fun cs p=>if (p.2 == NameKind.free)=true then (p.1,(env.cells.lookup p.1).getD 0)::cs else cs) []
theorem cloOf_lookup {env:Env}:∀ (names:List (Str × NameKind)) (cs:List (Str × Addr)) (x:Str) (c:Addr),
    (∀ y d,cs.lookup y=some d->d=(env.cells.lookup y).getD 0)->
    (names.foldl (fun cs p=>if (p.2 == NameKind.free)=true then (p.1,(env.cells.lookup p.1).getD 0)::cs else cs) cs).lookup x=some c->c=(env.cells.lookup x).getD 0
  | [],cs,x,c,h,e=>h x c e
  | (n,k)::r,cs,x,c,h,e=>by
    simp only [List.foldl_cons] at e
    refine cloOf_lookup r _ x c ?_ e
    intro y d q
    split at q
    · simp only [List.lookup_cons] at q
      split at q
      · rename_i z
        have z':y=n:=by simpa using z
        rw [z']; exact (Option.some.inj q).symm
      · exact h y d q
    · exact h y d q
theorem cloOf_keys {env:Env}:∀ (names:List (Str × NameKind)) (cs:List (Str × Addr)) (x:Str) (c:Addr),
    (names.foldl (fun cs p=>if (p.2 == NameKind.free)=true then (p.1,(env.cells.lookup p.1).getD 0)::cs else cs) cs).lookup x=some c->(∃ d,cs.lookup x=some d)\/(x,NameKind.free) ∈ names
  | [],cs,x,c,e=>.inl ⟨c,e⟩
  | (n,k)::r,cs,x,c,e=>by
    simp only [List.foldl_cons] at e
    rcases cloOf_keys r _ x c e with ⟨d,q⟩ | q
    · split at q
      · rename_i hk
        simp only [List.lookup_cons] at q
        split at q
        · rename_i z
          have z':x=n:=by simpa using z
          have k':k=NameKind.free:=by simpa using hk
          right; rw [z',k']; exact List.mem_cons_self
        · exact .inl ⟨d,q⟩
      · exact .inl ⟨d,q⟩
    · exact .inr (List.mem_cons_of_mem _ q)
theorem cloOf_has {env:Env}:∀ (names:List (Str × NameKind)) (cs:List (Str × Addr)) (x:Str),
    ((∃ d,cs.lookup x=some d)\/(x,NameKind.free) ∈ names)->∃ c,(names.foldl (fun cs p=>if (p.2 == NameKind.free)=true then (p.1,(env.cells.lookup p.1).getD 0)::cs else cs) cs).lookup x=some c
  | [],cs,x,h=>by
    rcases h with h | h
    · exact h
    · cases h
  | (n,k)::r,cs,x,h=>by
    simp only [List.foldl_cons]
    refine cloOf_has r _ x ?_
    rcases h with ⟨d,h⟩ | h
    · left
      split
      · simp only [List.lookup_cons]
        split
        · exact ⟨_,rfl⟩
        · exact ⟨d,h⟩
      · exact ⟨d,h⟩
    · rcases List.mem_cons.mp h with e | h
      · left
        cases e
        simp
      · exact .inr h
theorem closureFor_go {env:Env}:∀ (names:List (Str × NameKind)) (cs:List (Str × Addr)),(∀ p ∈ names,p.2=NameKind.free->∃ c,env.cells.lookup p.1=some c)->
    (forIn names cs fun p r=>if (p.2 == NameKind.free)=true then do let a ← cellOf env p.1; pure (ForInStep.yield ((p.1,a)::r)) else pure (ForInStep.yield r):Sem (List (Str × Addr)))=
      pure (names.foldl (fun cs p=>if (p.2 == NameKind.free)=true then (p.1,(env.cells.lookup p.1).getD 0)::cs else cs) cs)
  | [],cs,_=>by simp
  | (n,k)::r,cs,h=>by
    rw [List.forIn_cons,List.foldl_cons]
    by_cases hk:(k == NameKind.free)=true
    · obtain ⟨c,hc⟩:=h (n,k) List.mem_cons_self (by simpa using hk)
      have hc':List.lookup n env.cells=some c:=hc
      simp only [hk,if_true,cellOf,hc',pure_bind,Option.getD_some]
      exact closureFor_go r _ fun p hp=>h p (List.mem_cons_of_mem _ hp)
    · simp only [hk,pure_bind]
      exact closureFor_go r _ fun p hp=>h p (List.mem_cons_of_mem _ hp)
theorem closureFor_eq {sc:Scope} {env:Env} (h:∀ p ∈ sc.names,p.2=NameKind.free->∃ c,env.cells.lookup p.1=some c):closureFor sc env=pure (cloOf sc.names env):=by
  have:=closureFor_go (env:=env) sc.names [] h
  unfold closureFor cloOf
  rw [← this]
  simp only [bind_pure]
theorem relabel_lookup {env:Env}:∀ (names:List (Str × NameKind)) (x:Str),
    (names.map fun (n,k)=>if (k == NameKind.free && env.scope.kind == .function && env.kindOf n == some .cell) then (n,NameKind.cell) else (n,k)).lookup x=
      (names.lookup x).map fun k=>if (k == NameKind.free && env.scope.kind == .function && env.kindOf x == some .cell) then NameKind.cell else k
  | [],x=>rfl
  | (n,k)::r,x=>by
    have ih:=relabel_lookup (env:=env) r x
    simp only [List.map_cons]
    by_cases hx:x=n
    · subst hx
      split <;> simp_all
    · have hb:(x == n)=false:=beq_eq_false_iff_ne.mpr hx
      split <;> simp only [List.lookup_cons,hb,ih]
structure CompSc (X:Cx) (M F:List Str) (ixs:List Nat) (sc:Scope):Prop where
  kind:sc.kind=.function
  locs:∀ y ∈ sc.names,y.2=.local->sc.names.lookup y.1=some .local
  nocell:∀ y ∈ sc.names,y.2 ≠ .cell
  own:∀ p ∈ sc.names,p.2=.free->X.env.scope.names.lookup p.1=some .cell\/X.env.scope.names.lookup p.1=some .free
  frs:∀ x ∈ F,sc.names.lookup x=some .free
  ixl:ixs.length=F.length
  ixn:∀ (j i:Nat),ixs[j]?=some i->X.N[i]?=F[j]?
  visM:∀ x ∈ M,sc.names.lookup x=some .local
noncomputable abbrev sub0 (m:Nat) (ixs:List Nat) (σ:St):St:=List.replicate m none++ixs.map fun i=>(σ[i]?).join
noncomputable def cxComp (X:Cx) (M F:List Str) (sc:Scope) (C:Addr) (fp:List Addr) (s:Shared) (H:Hp):Cx where
  prog:=X.prog
  w:=X.w
  K:=X.K
  mg:=X.mg
  base:=X.base
  A:=X.A
  N:=M++F
  s₀:=s
  H0:=H
  env:=compEnvC sc (cloOf sc.names X.env) C X.env
  outer:=X.stack
  stack:=X.stack
  ex:=fp
  fn:=fun _=>false
  calm:=X.calm
  pn:=[]
  xe:=fun _ _=>False
section
variable {X:Cx} {pins:List (Addr × Obj)} {σ:St} {H:Hp} {s:Shared}
theorem CompSc.free_of {M F:List Str} {ixs:List Nat} {sc:Scope} (c:CompSc X M F ixs sc) {x:Str} {k:NameKind} (h:sc.names.lookup x=some k):(x,k) ∈ sc.names:=by
  generalize sc.names=l at h
  induction l with
  | nil=>cases h
  | cons p r ih=>
    rw [List.lookup_cons] at h
    split at h
    · rename_i z
      have z':x=p.1:=by simpa using z
      have e:p.2=k:=Option.some.inj h
      subst e
      rw [z']
      exact List.mem_cons_self
    · exact List.mem_cons_of_mem _ (ih h)
theorem comp_has (I:Inv X pins σ H s) {M F:List Str} {ixs:List Nat} {sc:Scope} (c:CompSc X M F ixs sc):∀ p ∈ sc.names,p.2=NameKind.free->∃ a,X.env.cells.lookup p.1=some a:=fun p hp e=>
  I.ok.has p.1 (by rcases c.own p hp e with h | h; exact .inl h; exact .inr h)
theorem clo_lookup (I:Inv X pins σ H s) {M F:List Str} {ixs:List Nat} {sc:Scope} (c:CompSc X M F ixs sc) {x:Str} {a:Addr} (h:(cloOf sc.names X.env).lookup x=some a):X.env.cells.lookup x=some a:=by
  have e:=cloOf_lookup (env:=X.env) sc.names [] x a (fun y d q=>by cases q) h
  rcases cloOf_keys sc.names [] x a h with ⟨d,q⟩ | q
  · cases q
  · obtain ⟨b,hb⟩:=comp_has I c _ q rfl
    have hb':X.env.cells.lookup x=some b:=hb
    rw [hb',Option.getD_some] at e
    rw [hb',e]
theorem comp_ok (I:Inv X pins σ H s) {M F:List Str} {ixs:List Nat} {sc:Scope} (c:CompSc X M F ixs sc) {C:Addr} {fp:List Addr} (hC:s.heap.objs.size<=C) (hf:∀ b ∈ fp,FpOk X pins H b) (ho:∀ b ∈ fp,∃ o,s.heap.get? b=some o):(cxComp X M F sc C fp s H).Ok where
  mod:=I.ok.mod
  kind:=c.kind
  glob:=I.ok.glob
  blt:=I.ok.blt
  above:=hC
  inj:=fun x y a e1 e2=>I.ok.inj x y a (clo_lookup I c e1) (clo_lookup I c e2)
  has:=fun x h=>by
    have h':((sc.names.lookup x).map fun k=>if (k == NameKind.free && X.env.scope.kind == .function && X.env.kindOf x == some .cell) then NameKind.cell else k)=some .cell\/((sc.names.lookup x).map fun k=>if (k == NameKind.free && X.env.scope.kind == .function && X.env.kindOf x == some .cell) then NameKind.cell else k)=some .free:=by
      rw [← relabel_lookup]; exact h
    refine cloOf_has sc.names [] x (.inr ?_)
    cases e:sc.names.lookup x with
    | none=>rw [e] at h'; rcases h' with h' | h' <;> cases h'
    | some k=>
      rw [e] at h'
      have m:=c.free_of e
      cases k with
      | free=>exact m
      | cell=>exact absurd rfl (c.nocell _ m)
      | _=>rcases h' with h' | h' <;> simp at h'
  cab:=fun x a h=>by cases h
  hd:=I.ok.hd
  frames:=I.ok.frames
  stk:=.inl rfl
  exf:=fun b hb=>⟨by
    obtain ⟨o,e⟩:=ho b hb
    exact Nat.ne_of_lt (Nat.lt_of_lt_of_le (Heap.lt_size e) hC),fun x a e=>(hf b hb).2.2.2.2.1 x a (clo_lookup I c e)⟩
  bs:=I.bs
  bsz:=Nat.le_trans I.ok.bsz I.sz
  noex:=fun b o e hb=>by
    obtain ⟨_,_,_,h,_⟩:=hf b hb
    rcases h with h | h
    · exact I.ok.noex b o e h
    · exact absurd (Nat.lt_of_lt_of_le (Heap.lt_size (I.ok.bs b o e).1) h) (Nat.lt_irrefl _)
  exfs:=fun b hb z=>by
    obtain ⟨_,h1,h2,_⟩:=hf b hb
    rcases List.mem_cons.mp (I.stkSub b z) with z | z
    · exact h1 z
    · exact h2 z
  funs:=I.stack
  frf:=I.stkFree
end
section
variable {X:Cx} {pins:List (Addr × Obj)} {σ:St} {H:Hp} {s:Shared}
theorem comp_inv (I:Inv X pins σ H s) {M F:List Str} {ixs:List Nat} {sc:Scope} (c:CompSc X M F ixs sc) {fp:List Addr} (hf:∀ b ∈ fp,FpOk X pins H b) (ho:∀ b ∈ fp,∃ o,s.heap.get? b=some o)
    {h₁:Heap} {tk:Nat} {C:Addr} {m1:Str->Option Value} (hC:C=s.heap.objs.size + 1) (hns:h₁.Ns C m1) (old:∀ b o,s.heap.get? b=some o->h₁.get? b=some o)
    (hD:h₁.get? s.heap.objs.size=some { cls:=.type "list",data:=.seq #[] 0 }):
    Inv (cxComp X M F sc C fp s H) [] (sub0 M.length ixs σ) (upd H s.heap.objs.size (.lst [])) { s with heap:=h₁,toks:=tk }:=by
  have hDn:H s.heap.objs.size=none:=I.hok.fresh (Nat.le_refl _)
  have hCle:s.heap.objs.size<=C:=by rw [hC]; exact Nat.le_succ _
  have hCn:H C=none:=I.hok.fresh hCle
  have hok:=comp_ok (X:=X) I c (C:=C) (fp:=fp) hCle hf ho
  refine ⟨hok,rfl,I.bare,Un.laid old (Nat.le_refl _) hDn,⟨m1,hns,?_⟩,?_,?_,?_,?_,?_,?_⟩
  · intro i x v e1 e2 hv
    have e1':(M++F)[i]?=some x:=e1
    by_cases hi:i < M.length
    · rw [List.getElem?_append_left (by simpa using hi)] at e2
      rw [List.getElem?_replicate] at e2
      simp [hi] at e2
    · rw [List.getElem?_append_right (by omega)] at e1'
      rw [List.getElem?_append_right (by simpa using Nat.le_of_not_lt hi)] at e2
      simp only [List.length_replicate,List.getElem?_map] at e2
      cases q:ixs[i - M.length]? with
      | none=>rw [q] at e2; cases e2
      | some i'=>
        rw [q] at e2
        have e2':(σ[i']?).join=some v:=by simpa using e2
        have e3:σ[i']?=some (some v):=by
          cases z:σ[i']? with
          | none=>rw [z] at e2'; cases e2'
          | some y=>rw [z] at e2'; simp at e2'; rw [e2']
        have xF:x ∈ F:=List.mem_of_getElem? e1'
        have hlk:=c.frs x xF
        have hm:=c.free_of hlk
        have hX:=c.own _ hm rfl
        have hN:X.N[i']?=some x:=by rw [c.ixn _ _ q]; exact e1'
        obtain ⟨m,hn,hl⟩:=I.loc
        have vis:Vis X.env.scope x:=by
          rcases hX with h | h
          · exact .inr (.inl h)
          · exact .inr (.inr h)
        obtain ⟨u,r,l⟩:=hl i' x v hN e3 vis
        refine ⟨u,r,.inr ⟨?_,?_⟩⟩
        · show (Env.kindOf (compEnvC sc (cloOf sc.names X.env) C X.env) x=_)\/(Env.kindOf (compEnvC sc (cloOf sc.names X.env) C X.env) x=_)
          have:Env.kindOf (compEnvC sc (cloOf sc.names X.env) C X.env) x=(sc.names.lookup x).map fun k=>if (k == NameKind.free && X.env.scope.kind == .function && X.env.kindOf x == some .cell) then NameKind.cell else k:=relabel_lookup sc.names x
          rw [this,hlk]
          simp only [Option.map_some]
          split
          · exact .inl rfl
          · exact .inr rfl
        · rcases l with ⟨hk,_⟩ | ⟨_,cc,hcc,hcell⟩
          · rcases hX with h | h
            · have hk':X.env.scope.names.lookup x=some .local:=hk
              have h':X.env.scope.names.lookup x=some .cell:=h
              rw [h'] at hk'; cases hk'
            · have hk':X.env.scope.names.lookup x=some .local:=hk
              have h':X.env.scope.names.lookup x=some .free:=h
              rw [h'] at hk'; cases hk'
          · obtain ⟨a,ha⟩:=cloOf_has (env:=X.env) sc.names [] x (.inr hm)
            have ha':=clo_lookup I c (x:=x) (a:=a) ha
            rw [hcc] at ha'; cases ha'
            obtain ⟨oc,hoc,hd⟩:=hcell
            exact ⟨cc,ha,oc,old _ _ hoc,hd⟩
  · intro x a e
    obtain ⟨v,oc,hoc,hd⟩:=I.cell x a (clo_lookup I c e)
    exact ⟨v,oc,old _ _ hoc,hd⟩
  · show upd H s.heap.objs.size (.lst []) C=none
    rw [upd_ne (by rw [hC]; exact Nat.succ_ne_self _)]; exact hCn
  · intro x a e
    obtain ⟨v,oc,hoc,hd⟩:=I.cell x a (clo_lookup I c e)
    rw [upd_ne (Nat.ne_of_lt (Heap.lt_size hoc))]
    exact I.freeC x a (clo_lookup I c e)
  · intro p hp; cases hp
  · exact I.hok.laid old (Nat.le_refl _) ⟨Nat.zero_le _,[],0,.nil,hD⟩
  · show (List.replicate M.length none++_).length=(M++F).length
    simp [c.ixl]
noncomputable def PIfs (X:Cx) (ifs:List Expr) (t:TT):Prop:=
  ∀ (pins:List (Addr × Obj)) (s:Shared) (σ:St) (H:Hp) (Q:Bool->Hp->Prop),Inv X pins σ H s->t σ H Q->
    wpAny (model X.prog X.w) X.A (forIn ifs true fun c r=>if r=true then do let ok ← isTrue c X.env (eval c X.env); pure (ForInStep.yield ok) else pure (ForInStep.yield r)) (TP X pins σ Q) X.xe s
theorem pifs_nil {X:Cx}:PIfs X [] (fun _ H Q=>Q true H):=fun _ s σ H Q I h=>wpAny_tests_nil ⟨H,I,h⟩
theorem pifs_one {X:Cx} {c:Expr} {t:TT} (h:PT X c t):PIfs X [c] t:=fun pins s σ H Q I q=>wpAny_tests_one (h pins s σ H Q I q)
noncomputable def tComp (wi:TI) (m:Nat) (ixs:List Nat) (g:TG) (tc:TT) (te:TE):TE:=fun σ H Q=>wi σ H fun J H1=>∀ p,H1 p=none->
  ∃ W:Nat->Nat->St->Hp->Prop,(∃ n,W 0 n (sub0 m ixs σ) (upd H1 p (.lst [])))/\∀ i n σ' H',W i n σ' H'->
    ((J.stop i H'/\Q (.ref p) H')\/(J.go i H'/\∀ x H2,J.yld i H' x H2->g x σ' H2 fun σ3 H3=>tc σ3 H3 fun b H4=>
      if b=true then te σ3 H4 fun v H5=>∃ ys,H5 p=some (.lst ys)/\ys.length < sizeLine/\∃ n',n' < n/\W (i + 1) n' σ3 (upd H5 p (.lst (ys++[v])))
      else ∃ n',n' < n/\W (i + 1) n' σ3 H4))
noncomputable def CI (X:Cx) (fp:List Addr) (tn:Nat->Heap->Prop) (W:Nat->Nat->St->Hp->Prop) (n:Nat) (s:Shared):Prop:=∃ i σ H,Inv X [] σ H s/\tn i s.heap/\(∀ b ∈ fp,H b=none)/\W i n σ H
theorem cps1 {P:Prop} (h:∀ G:Prop,(P->G)->G):P:=h P id
theorem comp_turn {D it:Addr} {fp:List Addr} {tn:Nat->Heap->Prop} {J:It} {tg iter elt:Expr} {ifs:List Expr} {sc:Scope} {pos:Pos} {g:TG} {tc:TT} {te:TE} {W:Nat->Nat->St->Hp->Prop} {F:Hp->Prop} (hcalm:X.calm=true) (T:Turn X.prog X.w X.K tg J fp it tn) (hg:PG X tg g) (hc:PIfs X ifs tc) (he:PE X elt te) (hx:∀ u s,X.xe u s->False)
    (stat:∀ {H':Hp},(∀ b ∈ fp,H' b=none)->∀ b ∈ fp,FpOk X [] H' b)
    (turn:∀ i n σ' H',W i n σ' H'->((J.stop i H'/\F H')\/(J.go i H'/\∀ x H2,J.yld i H' x H2->g x σ' H2 fun σ3 H3=>tc σ3 H3 fun b H4=>
      if b=true then te σ3 H4 fun v H5=>∃ ys,H5 D=some (.lst ys)/\ys.length < sizeLine/\∃ n',n' < n/\W (i + 1) n' σ3 (upd H5 D (.lst (ys++[v])))
      else ∃ n',n' < n/\W (i + 1) n' σ3 H4)))
    {R:Result->Shared->Prop} (hR:∀ σ' H' s',Inv X [] σ' H' s'->F H'->R (.ok .next) s') (n:Nat) (s':Shared) (hI:CI X fp tn W n s'):
    wpAny (model X.prog X.w) X.A (compTurn (.ListComp elt [⟨tg,iter,ifs,0⟩] sc pos) 0 (.ref it) (.ref D) X.env)
      (fun fin s'=>match fin with | .done f=>R (.ok f) s' | .again c'=>c'=.compLoop (.ListComp elt [⟨tg,iter,ifs,0⟩] sc pos) 0 (.ref it) (.ref D) X.env/\∃ m,m < n/\CI X fp tn W m s') (fun _ _=>False) s':=by
  refine cps1 fun G kG=>?_
  obtain ⟨i,σ',H',I',st',fr',w'⟩:=hI
  rw [compTurn_list] at kG
  rcases turn i n σ' H' w' with ⟨stop,qn⟩ | ⟨go,step⟩
  · refine kG (wpAny_bind (wpAny_standAt (wpAny_bind (wpAny_mono (T.done X rfl rfl rfl hcalm i [] s' σ' H' (fun _ _=>False) I' (stat fr') st' stop) (fun r s4 h4=>?_) fun _ _ f=>f))))
    obtain ⟨hr,I4⟩:=h4
    subst hr
    exact wpAny_pure (hR σ' H' _ I4 qn)
  · refine kG (wpAny_bind (wpAny_standAt (wpAny_bind (wpAny_mono (T.item X rfl rfl rfl hcalm i [] s' σ' H' (fun _ _=>False) I' (stat fr') st' go) (fun r s4 h4=>?_) fun _ _ f=>f))))
    obtain ⟨u,hr,h4⟩:=h4
    subst hr
    refine wpAny_bind (wpAny_mono h4 (fun _ s5 h5=>?_) fun _ _ f=>f)
    refine cps1 fun G kG=>?_
    obtain ⟨x,H5,I5,r5,y5,st5,fr5⟩:=h5
    have again:∀ {s7:Shared} {σ7:St} {H7:Hp} {n':Nat},Inv X ([]++pinsAt fp s5.heap) σ7 H7 s7->W (i + 1) n' σ7 H7->CI X fp tn W n' s7:=fun {s7 σ7 H7 n'} I7 w7=>by
      have pn:∀ b ∈ fp,∀ o,s5.heap.get? b=some o->s7.heap.get? b=some o/\H7 b=none:=fun b hb o e=>by
        have:=I7.pin (b,o) (List.mem_append_right _ (List.mem_append_right _ (mem_pinsAt hb e)))
        exact ⟨this.1,this.2.1⟩
      refine ⟨i + 1,σ7,H7,I7.unpinned,T.keep _ _ _ st5 fun b hb o e=>(pn b hb o e).1,fun b hb=>?_,w7⟩
      obtain ⟨o,e,d⟩:=T.obj _ _ st5 b hb
      exact (pn b hb o e).2
    refine kG (wpAny_bind (wpAny_mono (hg _ s5 σ' H5 x u _ (I5.pinned (stat fr5) (T.obj _ _ st5)) r5 (step x H5 y5)) (fun _ s6 h6=>?_) hx))
    refine cps1 fun G kG=>?_
    obtain ⟨σ6,H6,I6,q6⟩:=h6
    refine kG (wpAny_bind (wpAny_mono (hc _ s6 σ6 H6 _ I6 q6) (fun ok s7 h7=>?_) hx))
    refine cps1 fun G kG=>?_
    obtain ⟨H7,I7,q7⟩:=h7
    cases ok with
    | false=>
      rw [if_neg Bool.false_ne_true] at q7
      obtain ⟨n',hn',w7⟩:=q7
      exact kG (wpAny_pure ⟨rfl,n',hn',again I7 w7⟩)
    | true=>
      rw [if_pos rfl] at q7
      refine kG (wpAny_bind (wpAny_bind (wpAny_mono (he _ s7 σ6 H7 _ I7 q7) (fun v s8 h8=>?_) hx)))
      refine cps1 fun G kG=>?_
      obtain ⟨y,H8,I8,r8,ys,hp8,hz,n',hn',w8⟩:=h8
      refine kG (wpAny_bind (wpAny_mono (mt_append (X:=X) _ s8 σ6 H8 (.ref D) [y] (.ref D) [v] (fun _ H9=>W (i + 1) n' σ6 H9) I8 rfl (.cons r8 .nil) ⟨_,ys,y,rfl,rfl,hp8,hz,w8⟩) (fun _ s9 h9=>?_) hx))
      obtain ⟨_,H9,I9,_,w9⟩:=h9
      exact wpAny_pure (wpAny_pure ⟨rfl,n',hn',again I9 w9⟩)
theorem comp_block {M F:List Str} {ixs:List Nat} {sc:Scope} {tg iter elt:Expr} {ifs:List Expr} {g:TG} {tc:TT} {te:TE} {pos:Pos} (hcalm:X.calm=true) (c:CompSc X M F ixs sc)
    (hg:∀ C fp s H,PG (cxComp X M F sc C fp s H) tg g) (hc:∀ C fp s H,PIfs (cxComp X M F sc C fp s H) ifs tc) (he:∀ C fp s H,PE (cxComp X M F sc C fp s H) elt te)
    {fp:List Addr} {it:Addr} {tn:Nat->Heap->Prop} {J:It} {Q:VK} (I:Inv X pins σ H s) (T:Turn X.prog X.w X.K tg J fp it tn) (st:tn 0 s.heap) (hf:∀ b ∈ fp,FpOk X pins H b)
    (h:∀ p,H p=none->∃ W:Nat->Nat->St->Hp->Prop,(∃ n,W 0 n (sub0 M.length ixs σ) (upd H p (.lst [])))/\∀ i n σ' H',W i n σ' H'->
      ((J.stop i H'/\Q (.ref p) H')\/(J.go i H'/\∀ x H2,J.yld i H' x H2->g x σ' H2 fun σ3 H3=>tc σ3 H3 fun b H4=>
        if b=true then te σ3 H4 fun v H5=>∃ ys,H5 p=some (.lst ys)/\ys.length < sizeLine/\∃ n',n' < n/\W (i + 1) n' σ3 (upd H5 p (.lst (ys++[v])))
        else ∃ n',n' < n/\W (i + 1) n' σ3 H4)))
    {RR:Value->Addr->Result->Shared->Prop} {E:Value->Shared->Prop}
    (hR:∀ D C s' H' m,s.heap.get? D=none->s.heap.get? C=none->s.heap.objs.size<=C->H D=none->D ≠ C->H' C=none->s'.heap.Ns C m->s'.os=s.os->AllBare s'.gens->Un (frs X.stack) fp H H' s.heap s'.heap->HOk X.prog X.w H' s'.heap->Q (.ref D) H'->RR (.ref D) C (.ok .next) s'):
    wpAny (model X.prog X.w) X.A (newList []) (fun acc s₃=>wpAny (model X.prog X.w) X.A (newFunctionEnv sc X.env.globals (cloOf sc.names X.env) [] X.env.qual none .none (some X.env)) (fun cenv s₄=>
      codeAny (model X.prog X.w) X.A (.compStart (.ListComp elt [⟨tg,iter,ifs,0⟩] sc pos) 0 (.ref it) acc { cenv with scope:=relabel sc X.env }) (RR acc cenv.locals) s₄) E s₃) E s:=by
  refine wpAny_newObj_type (wpAny_newFunctionEnv c.nocell (by intro y hy; simp at hy) (fun h₁ hns₁ hsb₁=>?_) c.kind)
  dsimp only at hns₁ hsb₁ ⊢
  generalize hH2:s.heap.push { cls:=.type "list",dict:=none,data:=.seq ([]:List Value).toArray }=H2 at hns₁ hsb₁ ⊢
  have hC:H2.objs.size=s.heap.objs.size + 1:=by rw [← hH2,Heap.size_push]
  have hDC:s.heap.objs.size ≠ H2.objs.size:=by rw [hC]; exact Nat.ne_of_lt (Nat.lt_succ_self _)
  have below:∀ b,b < s.heap.objs.size->b ≠ H2.objs.size:=fun b hb=>by rw [hC]; exact Nat.ne_of_lt (Nat.lt_succ_of_lt hb)
  have old:∀ b o,s.heap.get? b=some o->h₁.get? b=some o:=fun b o e=>hsb₁.extBut b o (below b (Heap.lt_size e)) (Heap.get?_push_of_some _ (hH2 ▸ Heap.get?_push_of_some _ e))
  have hD:h₁.get? s.heap.objs.size=some { cls:=.type "list",data:=.seq #[] 0 }:=hsb₁.extBut _ _ hDC (Heap.get?_push_of_some _ (hH2 ▸ Heap.get?_push_size _ rfl))
  have fresh:∀ a,s.heap.objs.size<=a->s.heap.get? a=none:=fun a ha=>by
    cases e:s.heap.get? a with
    | none=>rfl
    | some o'=>exact absurd (Heap.lt_size e) (Nat.not_lt.mpr ha)
  have hDn:H s.heap.objs.size=none:=I.hok.fresh (Nat.le_refl _)
  have hfo:∀ b ∈ fp,∃ o,s.heap.get? b=some o:=fun b hb=>let ⟨o,e,_⟩:=T.obj 0 _ st b hb; ⟨o,e⟩
  have I0:=comp_inv I c hf hfo (tk:=s.toks + ([]:List (Str × Value)).length) hC hns₁ old hD
  obtain ⟨W,⟨n0,w0⟩,turn⟩:=h _ hDn
  have nf:∀ b ∈ fp,b ≠ s.heap.objs.size:=fun b hb=>by obtain ⟨o,e⟩:=hfo b hb; exact Nat.ne_of_lt (Heap.lt_size e)
  have stat:∀ {H':Hp},(∀ b ∈ fp,H' b=none)->∀ b ∈ fp,FpOk (cxComp X M F sc H2.objs.size fp s H) [] H' b:=fun {H'} hn b hb=>by
    obtain ⟨f0,f1,f2,f3,f4,f5⟩:=hf b hb
    obtain ⟨o,e⟩:=hfo b hb
    refine ⟨hn b hb,below b (Heap.lt_size e),fun z=>?_,.inl hb,fun x a e'=>f4 x a (clo_lookup I c e'),fun p hp=>by cases hp⟩
    rcases List.mem_cons.mp (I.stkSub b z) with z | z
    · exact f1 z
    · exact f2 z
  have st1:tn 0 h₁:=T.keep 0 _ _ st fun b hb o e=>old b o e
  have loop:codeAny (model X.prog X.w) X.A (.compLoop (.ListComp elt [⟨tg,iter,ifs,0⟩] sc pos) 0 (.ref it) (.ref s.heap.objs.size) (compEnvC sc (cloOf sc.names X.env) H2.objs.size X.env))
        (RR (.ref s.heap.objs.size) H2.objs.size) { s with heap:=h₁,toks:=s.toks + ([]:List (Str × Value)).length }:=by
    refine codeAny_loop rfl (CI (cxComp X M F sc H2.objs.size fp s H) fp tn W) (fun n s' hI=>?_) n0 ⟨0,_,_,I0,st1,fun b hb=>by rw [upd_ne (nf b hb)]; exact (hf b hb).1,w0⟩
    show wpAny _ X.A ((compTurn (.ListComp elt [⟨tg,iter,ifs,0⟩] sc pos) 0 (.ref it) (.ref s.heap.objs.size) (compEnvC sc (cloOf sc.names X.env) H2.objs.size X.env)).onRaise (fun x=>do noteFrame x (compEnvC sc (cloOf sc.names X.env) H2.objs.size X.env); theTreesLotGoes x)) _ _ s'
    refine wpAny_noted (wpAny_mono (comp_turn (X:=cxComp X M F sc H2.objs.size fp s H) hcalm T (hg _ fp s H) (hc _ fp s H) (he _ fp s H) (fun _ _ f=>f) stat turn (fun σ' H' s4 I4 qn=>?_) n s' hI) (fun _ _ h=>h) fun _ _ f=>f.elim)
    obtain ⟨m4,hn4,_⟩:=I4.loc
    exact hR _ _ _ H' m4 (fresh _ (Nat.le_refl _)) (fresh _ (by rw [hC]; exact Nat.le_succ _)) (by rw [hC]; exact Nat.le_succ _) hDn hDC I4.free hn4 I4.os I4.bare I4.base I4.hok qn
  exact codeAny_compStart_list loop (T.self _ 0 _ _ _ st1 loop)
end
section
variable {X:Cx}
theorem fresh_C {σ σ':St} {H H':Hp} {s s':Shared} {C:Addr} (I:Inv X pins σ H s) (hC:s.heap.get? C=none) (I':Inv X pins σ' H' s') (hn:H' C=none) {h':Heap} {m:Str->Option Value} (hs:Heap.SameBut C s'.heap h')
    (hsz:s.heap.objs.size<=C):Inv X pins σ' H' { s' with heap:=h' }:=by
  have ne:∀ a o,s.heap.get? a=some o->C ≠ a:=fun a o e z=>by rw [z,e] at hC; cases hC
  refine I'.turned (t':=s'.toks) (it:=C) (fun b o hb e=>(hs.2 b hb).trans e) hn ?_ (.inr (Nat.le_trans I.sz hsz)) (fun x c e=>?_) (fun p hp=>?_)
  · exact Nat.ne_of_gt (Nat.lt_of_lt_of_le I.lt hsz)
  · obtain ⟨v,o,ho,_⟩:=I.cell x c e
    exact Ne.symm (ne _ _ ho)
  · exact Ne.symm (ne _ _ (I.pin p hp).1)
theorem pe_comp (M F:List Str) (ixs:List Nat) {sc:Scope} {tg iter elt:Expr} {ifs:List Expr} {wi:TI} {g:TG} {tc:TT} {te:TE} {pos:Pos} (hcalm:X.calm=true) (c:CompSc X M F ixs sc) (hi:PI X tg iter wi)
    (hg:∀ C fp s H,PG (cxComp X M F sc C fp s H) tg g) (hc:∀ C fp s H,PIfs (cxComp X M F sc C fp s H) ifs tc) (he:∀ C fp s H,PE (cxComp X M F sc C fp s H) elt te)
    (hs:∀ x,foldedSetIterable iter X.env x=pure x:=by intro _; rfl):PE X (.ListComp elt [⟨tg,iter,ifs,0⟩] sc pos) (tComp wi M.length ixs g tc te):=by
  intro pins s σ H Q I h
  rw [eval_ListComp]
  refine wpAny_comprehension_free (use:=none) rfl hs (closureFor_eq (comp_has I c)) c.kind c.locs (thn (hi pins s σ H _ I h) fun v s1 h1=>thn h1 fun itv s2 h2=>?_)
  obtain ⟨it,fp,tn,J,H2,e,I2,T,st2,f2,q⟩:=h2
  subst e
  refine comp_block (Q:=Q) hcalm c hg hc he I2 T st2 f2 q (RR:=fun acc C=>compPost (model X.prog X.w) X.A X.xe none (EP X pins σ Q) acc C) ?_
  intro D C s' H' m hD hC hsz hDn hDC hCn hns hos hbare hun hok q'
  have I3:Inv X pins σ H' s':=I2.call' hos hun hok hbare fun b hb=>by
    obtain ⟨_,g1,g2,g3,g4,g5⟩:=f2 b hb
    exact ⟨g3,g1,g4,g5⟩
  exact ⟨m,hns,fun h' hs'=>⟨.ref D,H',fresh_C (m:=m) I2 hC I3 hCn hs' hsz,rfl,q'⟩⟩
theorem ps_setC {i:Nat} (M F:List Str) (ixs:List Nat) {x:Str} {sc:Scope} {tg iter elt:Expr} {ifs:List Expr} {wi:TI} {g:TG} {tc:TT} {te:TE} {pos pos' pos2:Pos} (hN:X.N.Nodup) (hix:X.N[i]?=some x) (hx:X.env.scope.names.lookup x=some .local)
    (hcalm:X.calm=true) (c:CompSc X M F ixs sc) (hi:PI X tg iter wi)
    (hg:∀ C fp s H,PG (cxComp X M F sc C fp s H) tg g) (hc:∀ C fp s H,PIfs (cxComp X M F sc C fp s H) ifs tc) (he:∀ C fp s H,PE (cxComp X M F sc C fp s H) elt te)
    (hsw:swapsWith (.ListComp elt [⟨tg,iter,ifs,0⟩] sc pos) (some (.Name x pos')) pos2.line X.env=pure true:=by rfl)
    (hs:∀ x,foldedSetIterable iter X.env x=pure x:=by intro _; rfl):PS X (.Assign [.Name x pos'] (.ListComp elt [⟨tg,iter,ifs,0⟩] sc pos) pos2) (fun D σ H=>tComp wi M.length ixs g tc te σ H fun v H1=>D.nx (σ.set i (some v)) H1):=by
  intro pins s σ H D I h
  rw [exec_Assign_Name_used _ _ _ _ hsw]
  refine wpAny_bind (wpAny_standAt (wpAny_bind ?_))
  show wpAny _ X.A (do let _ ← comprehension (.ListComp elt [⟨tg,iter,ifs,0⟩] sc pos) sc X.env _ (newList []) false (eval iter X.env) (some (assign (.Name x pos') X.env))) _ _ s
  refine wpAny_bind (wpAny_mono (wpAny_comprehension_free (use:=some (assign (.Name x pos') X.env)) (Q:=fun _ s'=>SP X pins D .next s') rfl hs (closureFor_eq (comp_has I c)) c.kind c.locs
    (thn (hi pins s σ H _ I h) fun v s1 h1=>thn h1 fun itv s2 h2=>?_)) (fun _ s' hq=>wpAny_pure (wpAny_pure hq)) fun _ _ e=>e)
  obtain ⟨it,fp,tn,J,H2,e,I2,T,st2,f2,q⟩:=h2
  subst e
  refine comp_block (Q:=fun v H1=>D.nx (σ.set i (some v)) H1) hcalm c hg hc he I2 T st2 f2 q (RR:=fun acc C=>compPost (model X.prog X.w) X.A X.xe (some (assign (.Name x pos') X.env)) (fun _ s'=>SP X pins D .next s') acc C) ?_
  intro D' C s' H' m hD hC hsz hDn hDC hCn hns hos hbare hun hok q'
  have I3:Inv X pins σ H' s':=I2.call' hos hun hok hbare fun b hb=>by
    obtain ⟨_,g1,g2,g3,g4,g5⟩:=f2 b hb
    exact ⟨g3,g1,g4,g5⟩
  have hLC:C ≠ X.env.locals:=Nat.ne_of_gt (Nat.lt_of_lt_of_le I2.lt hsz)
  show wpAny _ X.A (assign (.Name x pos') X.env (.ref D')) _ _ _
  refine wpAny_assign_Name (store_ok2 (v:=.ref D') I3 hN hix (.inl hx) rfl (fun s'' I4 ⟨a,hsb,ha⟩=>?_) (.inr hx))
  have hCa:C ≠ a:=by
    rcases ha with ha | ha
    · rw [ha]; exact hLC
    · obtain ⟨v,o,ho,_⟩:=I2.cell x a ha
      intro z; rw [z,ho] at hC; cases hC
  exact ⟨m,hns.sameBut hsb hCa,fun h' hs'=>⟨_,H',fresh_C (m:=m) I2 hC I4 hCn hs' hsz,q'⟩⟩
end
theorem list_extendW (l:Addr) (items:Array Value) (n:Nat) (b:Addr) (items2:Array Value) (n2:Nat) (dd2:Option Addr) (sl2:Array (Option Value)) (hc0:¬(!items.isEmpty && Builtin.List.listTooLong (items.size + items2.size))=true) (hc1:items.size<=sizeLine) (hs2:items.size + items2.size<=sizeLine + 1):
    Meets (Builtin.«list.extend» ⟨[.ref l,.ref b],[]⟩) (fun _ R s=>s.heap.get? l=some { cls:=.type "list",dict:=none,data:=.seq items n,slots:=#[] }/\s.heap.get? b=some { cls:=.type "list",dict:=dd2,data:=.seq items2 n2,slots:=sl2 }/\R (.ok (.ret Value.none)) { s with heap:=s.heap.update l (Obj.mapSeq fun x=>x++items2),toks:=s.toks }):=
  .of_wp fun prog w A R s h=>by
    obtain ⟨hp,g,d,tk,os⟩:=s; obtain ⟨hl,hb,h⟩:=h; have f1:=AutoSeq1.idx_int; have f2:=AutoSeq1.sub_tuple_tuple; have f3:=AutoSeq1.sub_list_list; have f4:=AutoSeq1.sub_tuple_list; have f5:=AutoSeq1.sub_list_tuple;
    have hz':(items++items2).size<=sizeLine + 1:=by rw [Array.size_append]; exact hs2
    wp_walk using (wpAny_updateSeq hl rfl (hz:=hc1) (_hz':=hz')),AutoSeq1.wpAny_loadPart' hl,AutoSeq1.wpAny_loadPart' hb; exact ⟨_,rfl,h⟩
section
variable {X:Cx}
theorem op_catS:OpR X (binaryOp .Add) (fun x y H Q=>∃ a b xs ys,x=.ref a/\y=.ref b/\SqL X.K H a xs/\SqL X.K H b ys/\xs.length + ys.length<=sizeLine/\∀ p,H p=none->Q (.ref p) (upd H p (.lst (xs++ys)))):=by
  intro pins s σ H x y v u Q I rx ry h
  obtain ⟨a,b,xs,ys,rfl,rfl,ha,hb,hz,q⟩:=h
  cases rx
  cases ry
  obtain ⟨its,r1,⟨⟨c1,d1,dt1,s1⟩,n1,g1,e1,e2,e3⟩,_⟩:=I.list ha
  obtain ⟨its2,r2,⟨⟨c2,d2,dt2,s2⟩,n2,g2,f1,f2,f3⟩,_⟩:=I.list hb
  simp only at e1 e2 e3 f1 f2 f3
  subst e1 e2 e3 f1 f2 f3
  have hl1:=r1.length
  have hl2:=r2.length
  refine concat_meets ⟨_,g1,rfl⟩ ⟨_,g2,rfl⟩ noFill_list_add seq_list_add PySem.F.slot_list_add PySem.F.entry_list_add (PySem.F.args_list_add_2 _ _) (list_addW a b its.toArray its2.toArray n1 n2 none none s1 s2 (by rw [List.size_toArray,List.size_toArray]; omega)) ⟨g1,g2,?_⟩
  have ea:its.toArray++its2.toArray=(its++its2).toArray:=by simp
  rw [ea]
  exact ⟨.ref _,_,I.lnew (t':=s.toks) (r1.append r2) (by rw [List.length_append]; omega),rfl,q _ I.fresh⟩
noncomputable def rExtendS (K:FG):V->List V->Hp->VK->Prop:=fun x vs H Q=>∃ l b xs zs,x=.ref l/\vs=[.ref b]/\H l=some (.lst xs)/\SqL K H b zs/\xs.length + zs.length<=sizeLine/\Q .non (upd H l (.lst (xs++zs)))
theorem mt_extendS:MtM X "list.extend" (rExtendS X.K):=by
  intro pins s σ H x vs v us Q I rx rv h
  obtain ⟨l,b,xs,zs,rfl,rfl,hH,hB,hz,q⟩:=h
  cases rx
  obtain ⟨u,rfl,ru⟩:=rv.one
  cases ru
  obtain ⟨z,its,n,r,hl,e⟩:=I.lstM hH
  obtain ⟨its2,r2,⟨⟨c2,d2,dt2,s2⟩,n2,g2,f1,f2,f3⟩,_⟩:=I.list hB
  simp only at f1 f2 f3
  subst f1 f2 f3
  have hl2:=r2.length
  have hsz:its.toArray.size + its2.toArray.size<=sizeLine:=by rw [List.size_toArray,List.size_toArray]; omega
  have hlong:¬ (!its.toArray.isEmpty && Builtin.List.listTooLong (its.toArray.size + its2.toArray.size))=true:=by
    rw [notLongL hsz,Bool.and_false]
    exact Bool.false_ne_true
  refine call_meets F.slot_list_extend ⟨_,e,rfl⟩ F.entry_list_extend (F.args_list_extend_2 _ _)
    (list_extendW l its.toArray n b its2.toArray n2 none s2 hlong (by rw [List.size_toArray]; omega) (by omega)) ⟨e,g2,?_⟩
  refine ⟨.non,_,I.lset (its':=its++its2) hH e (by simp) (r.append r2) ?_,rfl,q⟩
  rw [List.length_append]
  omega
end
noncomputable def txtCut (z:Str) (lo hi:Option Int):Str:=⟨((z.cps.toList.drop (HT.sIx z.length 0 lo)).take (HT.sIx z.length z.length hi - HT.sIx z.length 0 lo)).toArray⟩
theorem strIx (lo hi:Option Int) (n:Nat):Builtin.Str.strSliceIndices lo hi 1 n=(List.range (HT.sIx n n hi - HT.sIx n 0 lo)).map (HT.sIx n 0 lo + ·):=by
  have e1:∀ (o:Option Int) (d:Nat),d<=n->(match o with | none=>(d:Int) | some i=>max 0 (min (if i < 0 then i + (n:Int) else i) (n:Int)))=((HT.sIx n d o:Nat):Int):=fun o d hd=>by
    cases o with
    | none=>rfl
    | some i=>
      simp only [HT.sIx]
      by_cases h:i < 0
      · simp only [h,if_true] <;> omega
      · simp only [h,if_false] <;> omega
  rw [← sliceRange_one]
  have a1:=e1 lo 0 (Nat.zero_le _)
  have a2:=e1 hi n (Nat.le_refl _)
  unfold Builtin.Str.strSliceIndices
  rw [← a1,← a2]
  cases lo <;> cases hi <;> simp
theorem slice_cut (z:Str) (lo hi:Option Int):Txt.slice z lo hi=txtCut z lo hi:=by
  unfold Txt.slice txtCut
  rw [strIx]
  have hp:=pick_run z.cps (HT.sIx z.length 0 lo) (HT.sIx z.length z.length hi - HT.sIx z.length 0 lo)
  split
  · rename_i h
    have h2:(List.map (HT.sIx z.length 0 lo + ·) (List.range (HT.sIx z.length z.length hi - HT.sIx z.length 0 lo))).length=z.length:=by simpa using h
    rw [List.length_map,List.length_range] at h2
    have hh:HT.sIx z.length z.length hi<=z.length:=HT.sIx_le _ _ (Nat.le_refl _) hi
    have hl0:HT.sIx z.length 0 lo<=z.length:=HT.sIx_le _ _ (Nat.zero_le _) lo
    have hl:HT.sIx z.length 0 lo=0:=by omega
    rw [h2,hl,List.drop_zero,List.take_of_length_le (by rw [Array.length_toList]; exact Nat.le_refl _)]
  · rw [hp]
noncomputable def rSlS:V->Option Int->Option Int->Hp->VK->Prop:=fun x lo hi H Q=>∃ z,x=.str z/\z.length<=sizeLine/\Q (.str (txtCut z lo hi)) H
section
variable {X:Cx}
theorem sl_str:SlR X rSlS:=by
  intro pins s σ H x v vl vu lo hi sl Q I rx hs pl pu h
  obtain ⟨z,rfl,hz,q⟩:=h
  obtain ⟨t,rfl⟩:=rx
  refine ⟨"str",_,F.slot_str_getitem.lookup,typeIs_str _ _ _,?_⟩
  have go:∀ (l u:Option (Int × Tok)),vl=partValue l->vu=partValue u->l.map (·.1)=lo->u.map (·.1)=hi->wpAny (model X.prog X.w) X.A (getItem (.str z t) (.ref sl)) (EP X pins σ Q) X.xe s:=fun l u e1 e2 e3 e4=>by
    subst e1 e2 e3 e4
    refine wpAny_getItem_str_slice (l:=l) (u:=u) (st:=none) hs rfl (post_val_or_str ⟨Nat.le_trans (Txt.slice_le z _ _) hz,fun t' k=>?_⟩)
    refine ⟨.str (txtCut z (l.map (·.1)) (u.map (·.1))),H,I.tok _,⟨t',?_⟩,q⟩
    rw [← slice_cut]
    rfl
  cases pl with
  | none=>cases pu with
    | none=>exact go none none rfl rfl rfl rfl
    | int j tj=>exact go none (some (j,tj)) rfl rfl rfl rfl
  | int i ti=>cases pu with
    | none=>exact go (some (i,ti)) none rfl rfl rfl rfl
    | int j tj=>exact go (some (i,ti)) (some (j,tj)) rfl rfl rfl rfl
end
section
variable {X:Cx} {pins:List (Addr × Obj)} {σ:St} {H:Hp} {s:Shared} {h':Heap}
theorem alive_of {h:Heap} {a:Addr} {o:Obj} (e:h.get? a=some o):o.isFreed=false:=by
  unfold Heap.get? at e
  split at e
  · cases e
  · rename_i hne
    obtain ⟨c,d,dt,sl⟩:=o
    cases dt <;> first | rfl | exact (hne _ _ _ e).elim
theorem Inv.turned2 {t':Nat} {e it:Addr} (I:Inv X pins σ H s) (hei:e ≠ it) (k:∀ b o,b ≠ e->b ≠ it->s.heap.get? b=some o->h'.get? b=some o) (fe:FpOk X pins H e) (fi:FpOk X pins H it) (he:∃ o,h'.get? e=some o) (hes:∃ o,s.heap.get? e=some o):Inv X pins σ H { s with heap:=h',toks:=t' }:=by
  obtain ⟨o,ho⟩:=he
  obtain ⟨o0,ho0⟩:=hes
  obtain ⟨a0,a1,a2,a3,a4,a5⟩:=fe
  obtain ⟨b0,b1,b2,b3,b4,b5⟩:=fi
  have I1:Inv X pins σ H { s with heap:=s.heap.update e (fun _=>o),toks:=s.toks }:=I.turned (it:=e) (fun b u hb q=>(Heap.get?_update_other s.heap (fun _=>o) (Ne.symm hb)).trans q) a0 a1 a3 a4 a5
  refine Inv.turned (s:={ s with heap:=s.heap.update e (fun _=>o),toks:=s.toks }) (it:=it) (h':=h') (t':=t') I1 (fun b u hb q=>?_) b0 b1 b3 b4 b5
  by_cases hbe:b=e
  · subst hbe
    have q':(s.heap.update b (fun _=>o)).get? b=some u:=q
    rw [Heap.get?_update_self (fun _=>o) ho0 (alive_of ho)] at q'
    cases q'
    exact ho
  · have q':(s.heap.update e (fun _=>o)).get? b=some u:=q
    rw [Heap.get?_update_other s.heap (fun _=>o) (Ne.symm hbe)] at q'
    exact k b u hbe hb q'
end
noncomputable def Ite (K:FG) (a:Addr):It:=
  ⟨fun i H=>∃ xs x,SqL K H a xs/\xs[i]?=some x,fun i H x H'=>∃ T y,H T=none/\x=.ref T/\H'=upd H T (.tup [.int i,y])/\∀ xs,SqL K H a xs->xs[i]?=some y,fun i H=>∃ xs,SqL K H a xs/\xs.length<=i⟩
theorem turn_enum {K:FG} {elts:List Expr} {x1} {pos:Pos} (a e it:Addr) (hei:e ≠ it):Turn P w K (.Tuple elts x1 pos) (Ite K a) [e,it] e (fun i h=>(∃ old,IsEnum h e it i old)/\h.IsListIter it a i) where
  mem:=by simp
  obj:=fun i h st b hb=>by
    obtain ⟨⟨old,he⟩,hit⟩:=st
    rcases List.mem_cons.mp hb with rfl | hb
    · exact ⟨_,he,fun v z=>by
        have z':Data.fields _=Data.cell v:=z
        cases z'⟩
    · have eb:b=it:=by simpa using hb
      subst eb
      obtain ⟨o,ho,c,d⟩:=hit
      exact ⟨o,ho,fun v z=>by rw [d] at z; cases z⟩
  keep:=fun i h h' st k=>by
    obtain ⟨⟨old,he⟩,hit⟩:=st
    exact ⟨⟨old,k e (by simp) _ he⟩,hit.at fun o q=>k it (by simp) o q⟩
  item:=by
    intro X hP hw hK hc i pins s σ H E I hf st hg
    subst hP hw hK
    obtain ⟨⟨old,he⟩,hit⟩:=st
    obtain ⟨xs,x,hq,hx⟩:=hg
    obtain ⟨its,rv,p,hz⟩:=I.list hq
    obtain ⟨u,hu,ru⟩:=rv.get hx
    have fe:=hf e (by simp)
    have fi:=hf it (by simp)
    have helt:e < s.heap.objs.size:=Heap.lt_size he
    have hilt:it < s.heap.objs.size:=by obtain ⟨_,q,_⟩:=hit; exact Heap.lt_size q
    have hTn:H s.heap.objs.size=none:=I.hok.fresh (Nat.le_refl _)
    refine wpAny_pyNext_enum_item he hit p.isList (x:=u) (by simpa using hu) hei fun h1 ho hit' hT hsz hk=>?_
    refine ⟨_,rfl,wpAny_letOwnedTupleGo_enum ho fun h2 he' hs'=>?_⟩
    have ne1:s.heap.objs.size ≠ e:=Nat.ne_of_gt helt
    have ne2:s.heap.objs.size ≠ it:=Nat.ne_of_gt hilt
    have I1:Inv X pins σ (upd H s.heap.objs.size (.tup [.int i,x])) { s with heap:=s.heap.push { cls:=.type "tuple",data:=.seq #[.int i s.toks,u] },toks:=s.toks + 1 }:=by
      refine I.laid (fun b o q=>Heap.get?_push_of_some _ q) (Nat.le_refl _) ⟨by simp only [List.length_cons,List.length_nil]; rw [sizeLine_eq]; decide,[.int i s.toks,u],.cons ⟨_,rfl⟩ (.cons ru .nil),?_⟩
      exact ⟨_,Heap.get?_push_size s.heap rfl,rfl,0,rfl⟩
    have up:∀ b,b ≠ s.heap.objs.size->H b=none->upd H s.heap.objs.size (.tup [.int i,x]) b=none:=fun b hb q=>by rw [upd_ne hb]; exact q
    have I2:Inv X pins σ (upd H s.heap.objs.size (.tup [.int i,x])) { s with heap:=h2,toks:=s.toks + 1 }:=by
      refine I1.turned2 (h':=h2) (t':=s.toks + 1) hei (fun b o hb1 hb2 q=>?_) ⟨up e ne1.symm fe.1,fe.2⟩ ⟨up it ne2.symm fi.1,fi.2⟩ ⟨_,he'⟩ ⟨_,Heap.get?_push_of_some _ he⟩
      rw [hs'.2 b hb1]
      by_cases hbT:b=s.heap.objs.size
      · subst hbT
        have q':(s.heap.push { cls:=.type "tuple",data:=.seq #[.int i s.toks,u] }).get? s.heap.objs.size=some o:=q
        rw [Heap.get?_push_size s.heap rfl] at q'
        cases q'
        exact hT
      · refine hk b o hb1 hb2 ?_
        have q':(s.heap.push { cls:=.type "tuple",data:=.seq #[.int i s.toks,u] }).get? b=some o:=q
        rw [Heap.get?_push_ne s.heap b _ hbT] at q'
        exact q'
    refine ⟨.ref s.heap.objs.size,_,I2,rfl,⟨s.heap.objs.size,x,hTn,rfl,rfl,fun ys hy=>by rw [I.list_inj hy hq]; exact hx⟩,⟨⟨u,by simpa using he'⟩,hit'.at fun o y=>(hs'.2 it hei.symm).trans y⟩,fun b hb=>?_⟩
    rcases List.mem_cons.mp hb with rfl | hb
    · exact up _ ne1.symm fe.1
    · have eb:b=it:=by simpa using hb
      subst eb
      exact up _ ne2.symm fi.1
  done:=by
    intro X hP hw hK hc i pins s σ H E I hf st hg
    subst hP hw hK
    obtain ⟨⟨old,he⟩,hit⟩:=st
    obtain ⟨xs,hq,hx⟩:=hg
    obtain ⟨its,rv,p,hz⟩:=I.list hq
    obtain ⟨f0,f1,f2,f3,f4,f5⟩:=hf it (by simp)
    have hl:=rv.length
    exact wpAny_pyNext_enum_end (I.ok.hd hc) he hit p.isList (Array.getElem?_eq_none (by simp; omega)) fun h' eb=>⟨rfl,I.turned (t':=s.toks) (fun b o hb q=>eb b o hb q) f0 f1 f3 f4 f5⟩
  self:=fun _ _ _ _ _ st h=>by
    obtain ⟨⟨old,he⟩,_⟩:=st
    exact wpAny_pyIter_enum he h
section
variable {X:Cx}
noncomputable def iEnum (K:FG) (ta:TA):TI:=fun σ H R=>ta σ H fun vs H1=>∃ a,vs=[.ref a]/\(∃ xs,SqL K H1 a xs)/\R (Ite K a) H1
theorem pi_enum {a:Expr} {ta:TA} {p pos:Pos} {elts:List Expr} {x1} {tpos:Pos} (hg:Gl X "enumerate") (hm:X.mg "enumerate" = none) (ha:PA X [a] ta) (hs:starEach [a] X.env=[(false,eval a X.env)]:=by rfl):PI X (.Tuple elts x1 tpos) (.Call (.Name "enumerate" p) [a] [] pos) (iEnum X.K ta):=by
  intro pins s σ H R I h
  refine Call_ (ld_blt (u:=.type "enumerate") I hg hm (by kernel_rfl) (PyProof.Rows.callWith_type1 (thn (ha pos pins s σ H _ I h) fun us s1 ⟨vs,H1,I1,r1,q1⟩=>?_) hs rfl))
  obtain ⟨b,e,⟨xs,hq⟩,q⟩:=q1
  subst e
  cases r1 with
  | cons r rr=>
    cases rr
    cases r
    obtain ⟨its,rv,pl,hz⟩:=I1.list hq
    refine call_enumerate_list pl.isList fun h' he hit hsz hk=>?_
    have I2:Inv X pins σ H1 { s1 with heap:=h' }:=I1.kept (t':=s1.toks) hk
    refine wpAny_pyIter_enum he ?_
    refine ⟨s1.heap.objs.size + 1,[s1.heap.objs.size + 1,s1.heap.objs.size],_,_,H1,rfl,I2,turn_enum b (s1.heap.objs.size + 1) s1.heap.objs.size (Nat.succ_ne_self _),⟨⟨_,he⟩,hit⟩,fun c hc=>?_,q⟩
    have hc':s1.heap.objs.size<=c:=by
      rcases List.mem_cons.mp hc with rfl | hc
      · exact Nat.le_succ _
      · have ec:c=s1.heap.objs.size:=by simpa using hc
        exact Nat.le_of_eq ec.symm
    exact I1.fpOk hc' (I1.hok.fresh hc')
end
section
variable {X:Cx}
noncomputable def rDGet:R2:=fun x y H Q=>∃ a v,x=.ref a/\DGet H a y (some v)/\Q v H
theorem ix_dict (hu:X.A.units + 1 < cLine):IxR X rDGet:=by
  intro value slice pins s σ H x y v u Q I rx ry h hs
  obtain ⟨a,z,rfl,g,q⟩:=h
  cases rx
  exact tail_any (dict_typeIs I g) PySem.F.slot_dict_getitem.lookup (d_getItem hu I g ry fun w' s3 I3 rw'=>⟨z,H,I3,rw',q⟩) hs
end
section
variable {X:Cx} {pins:List (Addr × Obj)} {σ:St} {H:Hp} {s:Shared} {h':Heap}
theorem Inv.turnedL {t':Nat} {fp:List Addr} (I:Inv X pins σ H s) (k:∀ b o,b ∉ fp->s.heap.get? b=some o->h'.get? b=some o) (f:∀ b ∈ fp,FpOk X pins H b):Inv X pins σ H { s with heap:=h',toks:=t' }:=by
  have nit:∀ b u,H b=some u->b ∉ fp:=fun b u e z=>by rw [(f b z).1] at e; cases e
  refine I.step (g':=s.gens) (d':=s.drawn) (ch:=fp) (fun b hb=>⟨(f b hb).2.2.2.1,(f b hb).2.1,(f b hb).2.2.2.2.1,(f b hb).2.2.2.2.2⟩) (fun b o _ _ hc e _=>k b o hc e) (fun b o _ _ hc e _=>⟨o.slots,k b o hc e⟩) (fun _ _ _ _ n=>n)
    (fun b o hc e=>⟨o,k b o hc e⟩) (fun _ _ e=>e) (fun _ _ _ e=>e) (fun b ps e=>⟨#[],by rw [e]; simp⟩) (fun m hm=>?_) (fun b u e=>?_) I.bare
  · obtain ⟨o,es,ep,ho,r⟩:=hm
    exact ⟨o,es,ep,k _ o (fun z=>(f _ z).2.1 rfl) ho,r⟩
  · refine (I.hok b u e).stay (fun c v hc q=>k c v ?_ q) (fun _ q=>q) fun _ _ q=>q
    rcases hc with z | z
    · rw [z]; exact nit b u e
    · exact nit c _ z
end
structure ZipA (z TI TO i1 i2:Addr):Prop where
  TIz:TI ≠ z
  TOz:TO ≠ z
  i1z:i1 ≠ z
  i2z:i2 ≠ z
  TITO:TI ≠ TO
  TIi1:TI ≠ i1
  TIi2:TI ≠ i2
  TOi1:TO ≠ i1
  TOi2:TO ≠ i2
  i12:i1 ≠ i2
section
variable {X:Cx}
end
section
variable {prog:Program}
end
section
variable {prog:Program} {w:World} {A:Around} {R:Result->Shared->Prop} {I:Addr} {fp wr:List Addr} {G:Array GenState->Array GenState->Prop} {n:Nat} {P:Nat->Value->Prop} {St:Nat->Shared->Prop}
end
section
variable {prog:Program}
end
section
variable {prog:Program}
end
section
variable {prog:Program}
end
section
variable {prog:Program}
end
section
variable {X:Cx} {pins:List (Addr × Obj)} {σ:St} {H:Hp} {s:Shared}
end
section
variable {X:Cx}
end
section
variable {prog:Program}
end
section
variable {prog:Program}
end
section
variable {X:Cx}
end
section
variable {X:Cx}
end
section
variable {X:Cx}
end
noncomputable def Itv (K:FG) (a:Addr) (n:Nat):It:=
  ⟨fun i H=>i < n/\∃ xs,SqL K H a xs/\xs.length=n,fun i H x H'=>H'=H/\∀ xs,SqL K H a xs->xs[n - 1 - i]?=some x,fun i H=>i=n/\∃ xs,SqL K H a xs/\xs.length=n⟩
theorem turn_rev {K:FG} {tg:Expr} (a it:Addr) (n:Nat):Turn P w K tg (Itv K a n) [it] it (fun i h=>h.IsRevIter it a ((n:Int) - 1 - i)) where
  mem:=by simp
  obj:=fun i h st b hb=>by
    have e:b=it:=by simpa using hb
    subst e
    obtain ⟨o,e,c,d⟩:=st
    exact ⟨o,e,fun v z=>by rw [d] at z; cases z⟩
  keep:=fun i h h' st k=>st.at fun o e=>k it (by simp) o e
  item:=by
    intro X hP hw hK hc i pins s σ H E I hf st hg
    subst hP hw hK
    obtain ⟨hi,xs,hq,hn⟩:=hg
    obtain ⟨its,rv,p,hz⟩:=I.list hq
    obtain ⟨f0,f1,f2,f3,f4,f5⟩:=hf it (by simp)
    have hx:xs[n - 1 - i]?=some (xs[n - 1 - i]'(by omega)):=List.getElem?_eq_getElem _
    obtain ⟨u,hu,ru⟩:=rv.get hx
    have e1:(n:Int) - 1 - i=((n - 1 - i:Nat):Int):=by omega
    rw [e1] at st
    refine wpAny_pyNext_rev_item st p.isList (x:=u) (by simpa using hu) fun h' st' sb=>?_
    have I1:Inv X pins σ H { s with heap:=h' }:=I.turned (t':=s.toks) (fun b o hb e=>(sb.2 b hb).trans e) f0 f1 f3 f4 f5
    obtain ⟨o,e,c,d⟩:=id st'
    have e2:((n - 1 - i:Nat):Int) - 1=(n:Int) - 1 - ((i + 1:Nat):Int):=by omega
    rw [e2] at st'
    exact ⟨u,rfl,go_of (s:={ s with heap:=h' }) e c d (by decide) ⟨_,H,I1,ru,⟨rfl,fun ys hy=>by rw [I.list_inj hy hq]; exact hx⟩,st',fun b hb=>(hf b hb).1⟩⟩
  done:=by
    intro X hP hw hK hc i pins s σ H E I hf st hg
    subst hP hw hK
    obtain ⟨rfl,xs,hq,hn⟩:=hg
    obtain ⟨f0,f1,f2,f3,f4,f5⟩:=hf it (by simp)
    have e1:(i:Int) - 1 - i=-1:=by omega
    rw [e1] at st
    exact wpAny_pyNext_rev_end (I.ok.hd hc) st fun h' eb=>⟨rfl,I.turned (t':=s.toks) (fun b o hb e=>eb b o hb e) f0 f1 f3 f4 f5⟩
  self:=fun _ _ _ _ _ st h=>wpAny_pyIter_revIter st h
section
variable {X:Cx}
noncomputable def iRev (K:FG) (ta:TA):TI:=fun σ H R=>ta σ H fun vs H1=>∃ a xs,vs=[.ref a]/\SqL K H1 a xs/\R (Itv K a xs.length) H1
theorem pi_rev {tg a:Expr} {ta:TA} {p pos:Pos} (hg:Gl X "reversed") (hm:X.mg "reversed" = none) (ha:PA X [a] ta) (hs:starEach [a] X.env=[(false,eval a X.env)]:=by rfl):PI X tg (.Call (.Name "reversed" p) [a] [] pos) (iRev X.K ta):=by
  intro pins s σ H R I h
  refine Call_ (ld_blt (u:=.type "reversed") I hg hm (by kernel_rfl) (PyProof.Rows.callWith_type1 (thn (ha pos pins s σ H _ I h) fun us s1 ⟨vs,H1,I1,r1,q1⟩=>?_) hs rfl))
  obtain ⟨b,xs,e,hq,q⟩:=q1
  subst e
  cases r1 with
  | cons r rr=>
    cases rr
    cases r
    obtain ⟨its,rv,pl,hz⟩:=I1.list hq
    have hl:=rv.length
    refine call_reversed_list pl.isList ?_
    have hit:(s1.heap.push (revObj b ((its.toArray.size:Int) - 1))).IsRevIter s1.heap.objs.size b ((xs.length:Int) - 1 - ((0:Nat):Int)):=by
      have e0:(xs.length:Int) - 1 - ((0:Nat):Int)=(its.toArray.size:Int) - 1:=by rw [hl]; simp
      rw [e0]
      exact ⟨_,Heap.get?_push_size _ rfl,rfl,rfl⟩
    refine wpAny_pyIter_revIter hit ?_
    refine ⟨s1.heap.objs.size,[s1.heap.objs.size],_,_,H1,rfl,I1.kept (t':=s1.toks) fun b o e=>Heap.get?_push_of_some _ e,turn_rev b _ _,hit,fun c hc=>?_,q⟩
    have e:c=s1.heap.objs.size:=by simpa using hc
    subst e
    exact I1.fpOk (Nat.le_refl _) (I1.hok.fresh (Nat.le_refl _))
end
noncomputable def IsIt:Bool->Heap->Addr->Addr->Nat->Prop
  | true,h,it,a,i=>h.IsListIter it a i
  | false,h,it,a,i=>h.IsTupleIter it a i
noncomputable def IsSq:Bool->Heap->Addr->Array Value->Prop
  | true,h,a,its=>h.IsList a its
  | false,h,a,its=>h.IsTuple a its
noncomputable def SqK:Bool->FG->Hp->Addr->List V->Prop
  | true,K,H,a,xs=>SqL K H a xs
  | false,K,H,a,xs=>SqT K H a xs
theorem IsIt.at {k:Bool} {h h':Heap} {it a:Addr} {i:Nat} (x:IsIt k h it a i) (e:∀ o,h.get? it=some o->h'.get? it=some o):IsIt k h' it a i:=by
  cases k
  · exact Heap.IsTupleIter.at x e
  · exact Heap.IsListIter.at x e
theorem IsIt.obj {k:Bool} {h:Heap} {it a:Addr} {i:Nat} (x:IsIt k h it a i):∃ o,h.get? it=some o/\o.cls ≠ .type "zip" /\ o.cls ≠ .type "tuple" /\ o.cls ≠ .type "list" /\ ∀ v,o.data ≠ .cell v:=by
  cases k
  · obtain ⟨o,ho,hc,hd⟩:=x
    exact ⟨o,ho,by rw [hc]; simp,by rw [hc]; simp,by rw [hc]; simp,fun v z=>by rw [hd] at z; cases z⟩
  · obtain ⟨o,ho,hc,hd⟩:=x
    exact ⟨o,ho,by rw [hc]; simp,by rw [hc]; simp,by rw [hc]; simp,fun v z=>by rw [hd] at z; cases z⟩
theorem IsSq.at {k:Bool} {h h':Heap} {a:Addr} {its:Array Value} (x:IsSq k h a its) (e:∀ o,h.get? a=some o->h'.get? a=some o):IsSq k h' a its:=by
  cases k
  · obtain ⟨o,ho,r⟩:=x; exact ⟨o,e _ ho,r⟩
  · obtain ⟨o,ho,r⟩:=x; exact ⟨o,e _ ho,r⟩
theorem IsSq.obj {k:Bool} {h:Heap} {a:Addr} {its:Array Value} (x:IsSq k h a its):∃ o,h.get? a=some o/\(o.cls=.type "list" \/ o.cls=.type "tuple"):=by
  cases k
  · obtain ⟨o,ho,hc,_⟩:=x; exact ⟨o,ho,.inr hc⟩
  · obtain ⟨o,ho,hc,_⟩:=x; exact ⟨o,ho,.inl hc⟩
section
variable {prog:Program}
theorem nx_item {k:Bool} {it l:Addr} {i:Nat} {items:Array Value} {x:Value} {Q:Value->Shared->Prop} (hit:IsIt k s.heap it l i) (hl:IsSq k s.heap l items) (hx:items[i]?=some x)
    (hQ:∀ h',IsIt k h' it l (i + 1)->Heap.SameBut it s.heap h'->Q x { s with heap:=h' }):wpAny (model prog w) A (Builtin.SmallTypes.nextOf (.ref it)) Q E s:=by
  cases k
  · have hit:s.heap.IsTupleIter it l i:=hit
    obtain ⟨o,ho,hc,hd⟩:=id hit
    obtain ⟨ol,hol,_,nl,hdl⟩:=hl
    unfold Builtin.SmallTypes.nextOf
    refine wpAny_bind (wpAny_callSpecial?_slot (name:=Str.ofString "__next__") hit.typeIs F.slot_tuple_iterator_next (wpAny_call_entry F.slot_tuple_iterator_next hit.typeIs F.entry_tuple_iterator_next ?_ (F.args_tuple_iterator_next_1 _)))
    show wpAny _ _ (field (.ref it) 0 >>= _) _ _ s
    refine wpAny_bind (wpAny_field ho hd (x:=.ref l) rfl ?_)
    show wpAny _ _ (if (Value.ref l == Value.none)=true then _ else _) _ _ s
    rw [if_neg (show ¬ ((Value.ref l == Value.none)=true) from Bool.false_ne_true)]
    show wpAny _ _ (field (.ref it) 1 >>= _) _ _ s
    refine wpAny_bind (wpAny_field ho hd (x:=.int i 0) rfl ?_)
    show wpAny _ _ (seqItems? (.ref l) >>= _) _ _ s
    refine wpAny_bind (wpAny_seqItems hol hdl ?_)
    simp only [Int.toNat_natCast,hx]
    refine wpAny_bind (wpAny_setField ho hd (by simp) (wpAny_pure ⟨x,rfl,wpAny_pure (hQ _ ?_ (Heap.SameBut.update ..))⟩))
    exact ⟨_,Heap.get?_update_self _ ho (Obj.isFreed_of_fields (Obj.data_mapFields hd _)),(Obj.cls_mapFields ..).trans hc,by rw [Obj.data_mapFields hd]; simp [rawInt]⟩
  · exact wpAny_nextOf_list_item hit hl hx hQ
theorem nx_end {k:Bool} {it l:Addr} {i:Nat} {items:Array Value} {Q:Value->Shared->Prop} (hh:A.handled=none) (hit:IsIt k s.heap it l i) (hl:IsSq k s.heap l items) (hx:items[i]?=none)
    (hE:∀ h' e,Heap.ExtBut it s.heap h'->(∃ o,h'.get? e=some o/\o.cls=.type "StopIteration")->E (.ref e) { s with heap:=h' }):wpAny (model prog w) A (Builtin.SmallTypes.nextOf (.ref it)) Q E s:=by
  cases k
  · have hit:s.heap.IsTupleIter it l i:=hit
    obtain ⟨o,ho,hc,hd⟩:=id hit
    obtain ⟨ol,hol,_,nl,hdl⟩:=hl
    unfold Builtin.SmallTypes.nextOf
    refine wpAny_bind (wpAny_callSpecial?_slot (name:=Str.ofString "__next__") hit.typeIs F.slot_tuple_iterator_next (wpAny_call_entry F.slot_tuple_iterator_next hit.typeIs F.entry_tuple_iterator_next ?_ (F.args_tuple_iterator_next_1 _)))
    show wpAny _ _ (field (.ref it) 0 >>= _) _ _ s
    refine wpAny_bind (wpAny_field ho hd (x:=.ref l) rfl ?_)
    show wpAny _ _ (if (Value.ref l == Value.none)=true then _ else _) _ _ s
    rw [if_neg (show ¬ ((Value.ref l == Value.none)=true) from Bool.false_ne_true)]
    show wpAny _ _ (field (.ref it) 1 >>= _) _ _ s
    refine wpAny_bind (wpAny_field ho hd (x:=.int i 0) rfl ?_)
    show wpAny _ _ (seqItems? (.ref l) >>= _) _ _ s
    refine wpAny_bind (wpAny_seqItems hol hdl ?_)
    simp only [Int.toNat_natCast,hx]
    refine wpAny_bind (wpAny_rule (wpAny_bind (wpAny_setField ho hd (by simp) ?_)))
    show wpAny _ _ (newExc (.type "StopIteration") [] >>= _) _ _ _
    refine wpAny_bind ?_
    simp only [newExc,newTuple]
    refine wpAny_bind (wpAny_newObj_type ?_ (by size_fits))
    refine wpAny_bind (m:=firstArgMember _ _) (wpAny_of_eq (a:=Value.none) (by first | rfl | (simp only [firstArgMember]; rfl)) ?_)
    refine wpAny_newObj_type ?_ (by size_fits)
    simp only [raiseNew]
    refine wpAny_bind (wpAny_handled ?_)
    first | rw [show A.in1.handled=none from hh] | rw [hh]
    refine wpAny_bind (wpAny_pure (wpAny_throw ?_))
    exact hE _ _ (((Heap.SameBut.update ..).extBut.push _).push _) ⟨_,Heap.get?_push_size _ rfl,rfl⟩
  · exact wpAny_nextOf_list_end hh hit hl hx hE
theorem zip2_item {k:Bool} {z TI TO i1 i2 l1 l2:Addr} {k1 k2:Nat} {xs ys:Array Value} {x y a b:Value} {Q:Value->Shared->Prop} (D:ZipApart z TI TO i1 i2 l1 l2)
    (hz:IsZip s.heap z TI TO .none) (hTI:IsPair s.heap TI (.ref i1) (.ref i2)) (hTO:IsPair s.heap TO a b) (h1:IsIt k s.heap i1 l1 k1) (h2:IsIt k s.heap i2 l2 k2) (hl1:IsSq k s.heap l1 xs) (hl2:IsSq k s.heap l2 ys) (hx:xs[k1]?=some x) (hy:ys[k2]?=some y)
    (hQ:∀ h',IsZip h' z TI TO (rawInt s.heap.objs.size)->IsPair h' TO x y->IsIt k h' i1 l1 (k1 + 1)->IsIt k h' i2 l2 (k2 + 1)->IsPair h' s.heap.objs.size x y->
      (∀ c o,c ≠ z->c ≠ TO->c ≠ i1->c ≠ i2->s.heap.get? c=some o->h'.get? c=some o)->Q (.ref s.heap.objs.size) { s with heap:=h' }):
    wpAny (model prog w) A (Builtin.«zip.__next__» ⟨[.ref z],[]⟩) (fun fin s'=>∃ v,fin=.done (.ret v)/\Q v s') E s:=by
  show wpAny _ _ (field (.ref z) 2 >>= _) _ _ _
  refine wpAny_bind (wpAny_field hz rfl (x:=.bool false) rfl ?_)
  show wpAny _ _ (field (.ref z) 3 >>= _) _ _ _
  refine wpAny_bind (wpAny_field hz rfl (x:=.ref TI) rfl (wpAny_bind (wpAny_seqItems hTI rfl ?_)))
  show wpAny _ _ (Builtin.SmallTypes.ownedTupleIsFree (.ref z) >>= _) _ _ _
  unfold Builtin.SmallTypes.ownedTupleIsFree
  refine wpAny_bind (wpAny_bind (wpAny_field hz rfl (x:=.none) rfl (wpAny_pure ?_)))
  simp only [if_true]
  refine wpAny_bind (wpAny_rule (wpAny_bind (wpAny_field hz rfl (x:=.ref TO) rfl (wpAny_bind (wpAny_setField_rec hz (by simp) fun g1 z1 s1=>?_)))))
  have z1:IsZip g1 z TI TO .ellipsis:=z1
  have e1:∀ c o,c ≠ z->s.heap.get? c=some o->g1.get? c=some o:=fun c o hc e=>s1.extBut _ _ hc e
  refine wpAny_bind ?_
  simp only [List.zipIdx_cons,List.zipIdx_nil,List.forIn_cons,List.forIn_nil]
  refine wpAny_bind (wpAny_bind (wpAny_onRaise ?_))
  show wpAny _ _ (Builtin.SmallTypes.nextOf (.ref i1) >>= _) _ _ _
  refine wpAny_bind (nx_item (h1.at fun o e=>e1 _ o D.i1z e) (hl1.at fun o e=>e1 _ o D.l1z e) hx fun g2 n1 s2=>wpAny_pure ?_)
  have e2:∀ c o,c ≠ i1->g1.get? c=some o->g2.get? c=some o:=fun c o hc e=>s2.extBut _ _ hc e
  have t2:IsPair g2 TO a b:=e2 _ _ D.TOi1 (e1 _ _ D.TOz hTO)
  refine wpAny_bind (wpAny_seqItems t2 rfl (wpAny_bind (wpAny_updateSeq_pair t2 fun g3 t3 s3=>?_)))
  have t3:IsPair g3 TO x b:=t3
  have e3:∀ c o,c ≠ TO->g2.get? c=some o->g3.get? c=some o:=fun c o hc e=>s3.extBut _ _ hc e
  refine wpAny_bind (wpAny_letGo (wpAny_pure ?_))
  refine wpAny_bind (wpAny_bind (wpAny_onRaise ?_))
  show wpAny _ _ (Builtin.SmallTypes.nextOf (.ref i2) >>= _) _ _ _
  refine wpAny_bind (nx_item (h2.at fun o e=>e3 _ o D.TOi2.symm (e2 _ o D.i12.symm (e1 _ o D.i2z e))) (hl2.at fun o e=>e3 _ o D.l2TO (e2 _ o D.l2i1 (e1 _ o D.l2z e))) hy fun g4 n2 s4=>wpAny_pure ?_)
  have e4:∀ c o,c ≠ i2->g3.get? c=some o->g4.get? c=some o:=fun c o hc e=>s4.extBut _ _ hc e
  have t4:IsPair g4 TO x b:=e4 _ _ D.TOi2 t3
  refine wpAny_bind (wpAny_seqItems t4 rfl (wpAny_bind (wpAny_updateSeq_pair t4 fun g5 t5 s5=>?_)))
  have t5:IsPair g5 TO x y:=t5
  have e5:∀ c o,c ≠ TO->g4.get? c=some o->g5.get? c=some o:=fun c o hc e=>s5.extBut _ _ hc e
  refine wpAny_bind (wpAny_letGo (wpAny_pure (wpAny_pure ?_)))
  refine wpAny_bind (wpAny_seqItems t5 rfl (wpAny_bind (wpAny_newTuple ?_)))
  have hsz:g5.objs.size=s.heap.objs.size:=by rw [s5.1,s4.1,s3.1,s2.1,s1.1]
  have z5:IsZip g5 z TI TO .ellipsis:=e5 _ _ D.TOz.symm (e4 _ _ D.i2z.symm (e3 _ _ D.TOz.symm (e2 _ _ D.i1z.symm z1)))
  have zlt:z < g5.objs.size:=Heap.lt_size z5
  show wpAny _ _ (Builtin.SmallTypes.ownedTupleHandOut (.ref z) (.ref g5.objs.size) >>= _) _ _ _
  unfold Builtin.SmallTypes.ownedTupleHandOut
  have z6:IsZip (g5.push { cls:=.type "tuple",data:=.seq #[x,y] }) z TI TO .ellipsis:=Heap.get?_push_of_some _ z5
  refine wpAny_bind (wpAny_bind (wpAny_setField_rec z6 (by simp) fun g7 z7 s7=>?_))
  have z7:IsZip g7 z TI TO (rawInt g5.objs.size):=z7
  refine wpAny_setField_rec z7 (by simp) fun g8 z8 s8=>?_
  have z8:IsZip g8 z TI TO (rawInt g5.objs.size):=z8
  have up:∀ c o,c ≠ z->g5.get? c=some o->g8.get? c=some o:=fun c o c1 e=>s8.extBut _ _ c1 (s7.extBut _ _ c1 (Heap.get?_push_of_some _ e))
  have t8:IsPair g8 g5.objs.size x y:=s8.extBut _ _ (Nat.ne_of_gt zlt) (s7.extBut _ _ (Nat.ne_of_gt zlt) (Heap.get?_push_size _ rfl))
  rw [hsz] at z8 t8
  refine wpAny_pure ⟨_,rfl,?_⟩
  show Q (.ref g5.objs.size) _
  rw [hsz]
  exact hQ g8 z8 (up _ _ D.TOz t5) (n1.at fun o e=>up _ o D.i1z (e5 _ o D.TOi1.symm (e4 _ o D.i12 (e3 _ o D.TOi1.symm e)))) (n2.at fun o e=>up _ o D.i2z (e5 _ o D.TOi2.symm e)) t8 fun c o c1 c2 c3 c4 e=>up c o c1 (e5 _ _ c2 (e4 _ _ c4 (e3 _ _ c2 (e2 _ _ c3 (e1 _ _ c1 e)))))
theorem zip2_end {k:Bool} {z TI TO i1 i2 l1 l2:Addr} {k1 k2:Nat} {xs ys:Array Value} {a b:Value} {Q:Fin->Shared->Prop} (hh:A.handled=none) (D:ZipApart z TI TO i1 i2 l1 l2)
    (hz:IsZip s.heap z TI TO .none) (hTI:IsPair s.heap TI (.ref i1) (.ref i2)) (hTO:IsPair s.heap TO a b) (h1:IsIt k s.heap i1 l1 k1) (h2:IsIt k s.heap i2 l2 k2) (hl1:IsSq k s.heap l1 xs) (hl2:IsSq k s.heap l2 ys) (hend:xs[k1]?=none\/ys[k2]?=none)
    (hE:∀ h' e,(∀ c o,c ≠ z->c ≠ TO->c ≠ i1->c ≠ i2->s.heap.get? c=some o->h'.get? c=some o)->(∃ o,h'.get? e=some o/\o.cls=.type "StopIteration")->E (.ref e) { s with heap:=h' }):
    wpAny (model prog w) A (Builtin.«zip.__next__» ⟨[.ref z],[]⟩) Q E s:=by
  show wpAny _ _ (field (.ref z) 2 >>= _) _ _ _
  refine wpAny_bind (wpAny_field hz rfl (x:=.bool false) rfl ?_)
  show wpAny _ _ (field (.ref z) 3 >>= _) _ _ _
  refine wpAny_bind (wpAny_field hz rfl (x:=.ref TI) rfl (wpAny_bind (wpAny_seqItems hTI rfl ?_)))
  show wpAny _ _ (Builtin.SmallTypes.ownedTupleIsFree (.ref z) >>= _) _ _ _
  unfold Builtin.SmallTypes.ownedTupleIsFree
  refine wpAny_bind (wpAny_bind (wpAny_field hz rfl (x:=.none) rfl (wpAny_pure ?_)))
  simp only [if_true]
  refine wpAny_bind (wpAny_rule (wpAny_bind (wpAny_field hz rfl (x:=.ref TO) rfl (wpAny_bind (wpAny_setField_rec hz (by simp) fun g1 z1 s1=>?_)))))
  have z1:IsZip g1 z TI TO .ellipsis:=z1
  have e1:∀ c o,c ≠ z->s.heap.get? c=some o->g1.get? c=some o:=fun c o hc e=>s1.extBut _ _ hc e
  refine wpAny_bind ?_
  simp only [List.zipIdx_cons,List.zipIdx_nil,List.forIn_cons,List.forIn_nil]
  refine wpAny_bind (wpAny_bind (wpAny_onRaise ?_))
  show wpAny _ _ (Builtin.SmallTypes.nextOf (.ref i1) >>= _) _ _ _
  have nz:∀ {g:Heap} {f0:Value} {e:Addr},IsZip g z TI TO f0->(∃ o,g.get? e=some o/\o.cls=.type "StopIteration")->e ≠ z:=fun {g f0 e} q ⟨o,h,c⟩ x=>by
    subst x
    rw [q] at h
    cases h
    simp at c
  cases hx:xs[k1]? with
  | none=>
    refine wpAny_bind (nx_end hh (h1.at fun o e=>e1 _ o D.i1z e) (hl1.at fun o e=>e1 _ o D.l1z e) hx fun g2 e s2 he=>?_)
    have z2:IsZip g2 z TI TO .ellipsis:=s2 _ _ D.i1z.symm z1
    have ez:=nz z2 he
    obtain ⟨oe,hoe,hce⟩:=he
    exact wpAny_setField_rec z2 (by simp) fun g3 _ s3=>hE g3 e (fun c o c1 _ c3 _ x=>s3.extBut _ _ c1 (s2 _ _ c3 (e1 _ _ c1 x))) ⟨oe,s3.extBut _ _ ez hoe,hce⟩
  | some x=>
    have hy:ys[k2]?=none:=hend.resolve_left fun q=>by rw [hx] at q; cases q
    refine wpAny_bind (nx_item (h1.at fun o e=>e1 _ o D.i1z e) (hl1.at fun o e=>e1 _ o D.l1z e) hx fun g2 n1 s2=>wpAny_pure ?_)
    have e2:∀ c o,c ≠ i1->g1.get? c=some o->g2.get? c=some o:=fun c o hc e=>s2.extBut _ _ hc e
    have t2:IsPair g2 TO a b:=e2 _ _ D.TOi1 (e1 _ _ D.TOz hTO)
    refine wpAny_bind (wpAny_seqItems t2 rfl (wpAny_bind (wpAny_updateSeq_pair t2 fun g3 t3 s3=>?_)))
    have e3:∀ c o,c ≠ TO->g2.get? c=some o->g3.get? c=some o:=fun c o hc e=>s3.extBut _ _ hc e
    refine wpAny_bind (wpAny_letGo (wpAny_pure ?_))
    refine wpAny_bind (wpAny_bind (wpAny_onRaise ?_))
    show wpAny _ _ (Builtin.SmallTypes.nextOf (.ref i2) >>= _) _ _ _
    refine wpAny_bind (nx_end hh (h2.at fun o e=>e3 _ o D.TOi2.symm (e2 _ o D.i12.symm (e1 _ o D.i2z e))) (hl2.at fun o e=>e3 _ o D.l2TO (e2 _ o D.l2i1 (e1 _ o D.l2z e))) hy fun g4 e s4 he=>?_)
    have z4:IsZip g4 z TI TO .ellipsis:=s4 _ _ D.i2z.symm (e3 _ _ D.TOz.symm (e2 _ _ D.i1z.symm z1))
    have ez:=nz z4 he
    obtain ⟨oe,hoe,hce⟩:=he
    exact wpAny_setField_rec z4 (by simp) fun g5 _ s5=>hE g5 e (fun c o c1 c2 c3 c4 x=>s5.extBut _ _ c1 (s4 _ _ c4 (e3 _ _ c2 (e2 _ _ c3 (e1 _ _ c1 x))))) ⟨oe,s5.extBut _ _ ez hoe,hce⟩
end
theorem meets_zipT (l1 l2:Addr) (xs ys:Array Value):
    Meets (Builtin.«zip.__new__» ⟨[.type "zip",.ref l1,.ref l2],[]⟩) (fun _ R s=>s.heap.IsTuple l1 xs/\s.heap.IsTuple l2 ys/\∀ h',IsZip h' (s.heap.objs.size + 4) (s.heap.objs.size + 2) (s.heap.objs.size + 3) .none->IsPair h' (s.heap.objs.size + 2) (.ref s.heap.objs.size) (.ref (s.heap.objs.size + 1))->
      IsPair h' (s.heap.objs.size + 3) .none .none->h'.IsTupleIter s.heap.objs.size l1 0->h'.IsTupleIter (s.heap.objs.size + 1) l2 0->(∀ c o,s.heap.get? c=some o->h'.get? c=some o)->R (.ok (.ret (.ref (s.heap.objs.size + 4)))) { s with heap:=h' }):=
  .of_wp fun prog w A R s h=>by
    obtain ⟨hp,g,d,tk,os⟩:=s
    obtain ⟨hl1,hl2,h⟩:=h
    have hsub:=sub_zip
    have hL1:Heap.IsTuple (Shared.heap ⟨hp,g,d,tk,os⟩) l1 xs:=hl1
    have hL2:Heap.IsTuple (Shared.heap ⟨hp.push { cls:=.type "tuple_iterator",data:=.fields #[.ref l1,.int 0 0] },g,d,tk,os⟩) l2 ys:=by
      obtain ⟨o,ho,r⟩:=hl2
      exact ⟨o,Heap.get?_push_of_some _ ho,r⟩
    wp_walk using wpAny_pyIter_tuple hL1,wpAny_pyIter_tuple hL2
    refine ⟨_,rfl,?_⟩
    have z1:∀ (q:Heap) (o:Obj),(q.push o).objs.size=q.objs.size + 1:=fun q o=>Heap.size_push ..
    simp only [z1]
    have key:∀ (q:Heap) (o:Obj) (n:Nat),q.objs.size=n->o.isFreed=false->(q.push o).get? n=some o:=fun q o n e f=>e ▸ Heap.get?_push_size q f
    refine h _ (key _ _ _ (by simp only [z1]) rfl) (Heap.get?_push_of_some _ (Heap.get?_push_of_some _ (key _ _ _ (by simp only [z1]) rfl))) (Heap.get?_push_of_some _ (key _ _ _ (by simp only [z1]) rfl)) ⟨_,Heap.get?_push_of_some _ (Heap.get?_push_of_some _ (Heap.get?_push_of_some _ (Heap.get?_push_of_some _ (key _ _ _ rfl rfl)))),rfl,rfl⟩
      ⟨_,Heap.get?_push_of_some _ (Heap.get?_push_of_some _ (Heap.get?_push_of_some _ (key _ _ _ (by simp only [z1]) rfl))),rfl,rfl⟩ fun c o e=>Heap.get?_push_of_some _ (Heap.get?_push_of_some _ (Heap.get?_push_of_some _ (Heap.get?_push_of_some _ (Heap.get?_push_of_some _ e))))
section
variable {prog:Program}
theorem call_zip2 {k:Bool} {l1 l2:Addr} {xs ys:Array Value} {Q:Value->Shared->Prop} (hl1:IsSq k s.heap l1 xs) (hl2:IsSq k s.heap l2 ys)
    (h:∀ h',IsZip h' (s.heap.objs.size + 4) (s.heap.objs.size + 2) (s.heap.objs.size + 3) .none->IsPair h' (s.heap.objs.size + 2) (.ref s.heap.objs.size) (.ref (s.heap.objs.size + 1))->
      IsPair h' (s.heap.objs.size + 3) .none .none->IsIt k h' s.heap.objs.size l1 0->IsIt k h' (s.heap.objs.size + 1) l2 0->
      (∀ c o,s.heap.get? c=some o->h'.get? c=some o)->Q (.ref (s.heap.objs.size + 4)) { s with heap:=h' }):
    wpAny (model prog w) A (call (.type "zip") [.ref l1,.ref l2]) Q E s:=by
  cases k
  · exact callType_new F.called_zip (by decide) (F.typeCall_zip_2 _ _) (F.newCall_zip_2 _ _) (fun obj=>F.args_object_init_3 obj _ _) F.entry_zip_new (meets_zipT l1 l2 xs ys) ⟨hl1,hl2,fun h' a1 a2 a3 a4 a5 a6=>⟨⟨_,a1,rfl⟩,h h' a1 a2 a3 a4 a5 a6⟩⟩
  · exact call_zip_2 hl1 hl2 fun h' a1 a2 a3 a4 a5 _ a6=>h h' a1 a2 a3 a4 a5 a6
end
section
variable {X:Cx} {pins:List (Addr × Obj)} {σ:St} {H:Hp} {s:Shared}
theorem Inv.sqK {k:Bool} {a:Addr} {xs:List V} (I:Inv X pins σ H s) (h:SqK k X.K H a xs):∃ its:List Value,Vals xs its/\IsSq k s.heap a its.toArray:=by
  cases k
  · obtain ⟨its,r,p,_⟩:=I.tuple h
    exact ⟨its,r,p⟩
  · obtain ⟨its,r,p,_⟩:=I.list h
    exact ⟨its,r,p.isList⟩
theorem Inv.sqK_inj {k:Bool} {a:Addr} {xs ys:List V} (I:Inv X pins σ H s) (h:SqK k X.K H a xs) (h':SqK k X.K H a ys):xs=ys:=by
  cases k
  · exact I.tuple_inj h h'
  · exact I.list_inj h h'
end
noncomputable def Itz2 (k:Bool) (K:FG) (a b:Addr):It:=
  ⟨fun i H=>∃ xs ys x y,SqK k K H a xs/\SqK k K H b ys/\xs[i]?=some x/\ys[i]?=some y,
   fun i H x H'=>∃ T y z,H T=none/\x=.ref T/\H'=upd H T (.tup [y,z])/\(∀ xs,SqK k K H a xs->xs[i]?=some y)/\∀ ys,SqK k K H b ys->ys[i]?=some z,
   fun i H=>∃ xs ys,SqK k K H a xs/\SqK k K H b ys/\(xs.length<=i\/ys.length<=i)⟩
theorem zip2Apart {k:Bool} {h:Heap} {z TI TO i1 i2 a b:Addr} {u v:Value} {n m:Nat} {xs ys:Array Value} (D:ZipA z TI TO i1 i2) (hz:IsZip h z TI TO .none) (aTO:a ≠ TO) (bTO:b ≠ TO) (h1:IsIt k h i1 a n) (h2:IsIt k h i2 b m) (ha:IsSq k h a xs) (hb:IsSq k h b ys):ZipApart z TI TO i1 i2 a b:=by
  obtain ⟨o1,q1,_,c1,c1',_⟩:=h1.obj
  obtain ⟨o2,q2,_,c2,c2',_⟩:=h2.obj
  have ne:∀ {l c:Addr} {its:Array Value} {o:Obj},IsSq k h l its->h.get? c=some o->o.cls ≠ .type "tuple" -> o.cls ≠ .type "list" -> l ≠ c:=fun {l c its o} q e n1 n2 z=>by
    subst z
    obtain ⟨o',e',hc⟩:=q.obj
    rw [e] at e'
    cases e'
    rcases hc with hc | hc
    · exact n2 hc
    · exact n1 hc
  exact ⟨D.TIz,D.TOz,D.i1z,D.i2z,D.TITO,D.TIi1,D.TIi2,D.TOi1,D.TOi2,D.i12,ne ha hz (by simp) (by simp),aTO,ne ha q1 c1 c1',ne ha q2 c2 c2',ne hb hz (by simp) (by simp),bTO,ne hb q1 c1 c1',ne hb q2 c2 c2'⟩
theorem turn_zip2 {K:FG} {elts:List Expr} {x1} {pos:Pos} (k:Bool) (a b z TI TO i1 i2:Addr) (D:ZipA z TI TO i1 i2) (aTO:a ≠ TO) (bTO:b ≠ TO):Turn P w K (.Tuple elts x1 pos) (Itz2 k K a b) [z,TI,TO,i1,i2] z
    (fun i h=>IsZip h z TI TO .none/\IsPair h TI (.ref i1) (.ref i2)/\(∃ u v,IsPair h TO u v)/\IsIt k h i1 a i/\IsIt k h i2 b i) where
  mem:=by simp
  obj:=fun i h st c hc=>by
    obtain ⟨hz,hTI,⟨u,v,hTO⟩,h1,h2⟩:=st
    simp only [List.mem_cons,List.not_mem_nil,or_false] at hc
    rcases hc with rfl | rfl | rfl | rfl | rfl
    · exact ⟨_,hz,fun v z=>by
        have z':Data.fields _=Data.cell v:=z
        cases z'⟩
    · exact ⟨_,hTI,fun v z=>by
        have z':Data.seq _ _=Data.cell v:=z
        cases z'⟩
    · exact ⟨_,hTO,fun v z=>by
        have z':Data.seq _ _=Data.cell v:=z
        cases z'⟩
    · obtain ⟨o,ho,_,_,_,d⟩:=h1.obj
      exact ⟨o,ho,d⟩
    · obtain ⟨o,ho,_,_,_,d⟩:=h2.obj
      exact ⟨o,ho,d⟩
  keep:=fun i h h' st k=>by
    obtain ⟨hz,hTI,⟨u,v,hTO⟩,h1,h2⟩:=st
    exact ⟨k z (by simp) _ hz,k TI (by simp) _ hTI,⟨u,v,k TO (by simp) _ hTO⟩,h1.at fun o q=>k i1 (by simp) o q,h2.at fun o q=>k i2 (by simp) o q⟩
  item:=by
    intro X hP hw hK hc i pins s σ H E I hf st hg
    subst hP hw hK
    obtain ⟨hz,hTI,⟨u0,v0,hTO⟩,h1,h2⟩:=st
    obtain ⟨xs,ys,x,y,hq,hr,hx,hy⟩:=hg
    obtain ⟨its,rv,p⟩:=I.sqK hq
    obtain ⟨jts,rw',p'⟩:=I.sqK hr
    obtain ⟨u,hu,ru⟩:=rv.get hx
    obtain ⟨u',hu',ru'⟩:=rw'.get hy
    have DD:=zip2Apart (u:=u0) (v:=v0) D hz aTO bTO h1 h2 p p'
    have zlt:∀ c ∈ [z,TI,TO,i1,i2],s.heap.objs.size ≠ c:=fun c hc=>by
      simp only [List.mem_cons,List.not_mem_nil,or_false] at hc
      rcases hc with rfl | rfl | rfl | rfl | rfl
      · exact Nat.ne_of_gt (Heap.lt_size hz)
      · exact Nat.ne_of_gt (Heap.lt_size hTI)
      · exact Nat.ne_of_gt (Heap.lt_size hTO)
      · obtain ⟨_,q,_⟩:=h1.obj; exact Nat.ne_of_gt (Heap.lt_size q)
      · obtain ⟨_,q,_⟩:=h2.obj; exact Nat.ne_of_gt (Heap.lt_size q)
    have hTn:H s.heap.objs.size=none:=I.hok.fresh (Nat.le_refl _)
    have hT:s.TypeIs (.ref z) "zip" := ⟨_,hz,rfl⟩
    unfold pyNext
    refine wpAny_bind (wpAny_attempt (wpAny_callSpecial?_slot (name:=Str.ofString "__next__") hT F.slot_zip_next (wpAny_call_entry F.slot_zip_next hT F.entry_zip_next (zip2_item DD hz hTI hTO h1 h2 p p' (x:=u) (y:=u') (by simpa using hu) (by simpa using hu') fun g1 a1 a2 a3 a4 a5 a7=>wpAny_pure ?_) (F.args_zip_next_1 _))))
    refine ⟨_,rfl,wpAny_letOwnedTupleGo_zip a1 fun g2 b1 b2=>?_⟩
    have I1:Inv X pins σ (upd H s.heap.objs.size (.tup [x,y])) { s with heap:=s.heap.push { cls:=.type "tuple",data:=.seq #[u,u'] },toks:=s.toks }:=by
      refine I.laid (fun b o q=>Heap.get?_push_of_some _ q) (Nat.le_refl _) ⟨by simp only [List.length_cons,List.length_nil]; rw [sizeLine_eq]; decide,[u,u'],.cons ru (.cons ru' .nil),?_⟩
      exact ⟨_,Heap.get?_push_size s.heap rfl,rfl,0,rfl⟩
    have up:∀ b,b ≠ s.heap.objs.size->H b=none->upd H s.heap.objs.size (.tup [x,y]) b=none:=fun b hb q=>by rw [upd_ne hb]; exact q
    have hb2:∀ c o,c ≠ z->g1.get? c=some o->g2.get? c=some o:=fun c o hc q=>(b2.2 c hc).trans q
    have I2:Inv X pins σ (upd H s.heap.objs.size (.tup [x,y])) { s with heap:=g2,toks:=s.toks }:=by
      refine Inv.turnedL (s:={ s with heap:=s.heap.push { cls:=.type "tuple",data:=.seq #[u,u'] },toks:=s.toks }) (h':=g2) (t':=s.toks) I1 (fp:=[z,TI,TO,i1,i2]) (fun c o hc q=>?_) (fun c hc=>⟨up c (zlt c hc).symm (hf c hc).1,(hf c hc).2⟩)
      simp only [List.mem_cons,List.not_mem_nil,or_false,not_or] at hc
      refine hb2 c o hc.1 ?_
      by_cases hbT:c=s.heap.objs.size
      · subst hbT
        have q':(s.heap.push { cls:=.type "tuple",data:=.seq #[u,u'] }).get? s.heap.objs.size=some o:=q
        rw [Heap.get?_push_size s.heap rfl] at q'
        cases q'
        exact a5
      · refine a7 c o hc.1 hc.2.2.1 hc.2.2.2.1 hc.2.2.2.2 ?_
        have q':(s.heap.push { cls:=.type "tuple",data:=.seq #[u,u'] }).get? c=some o:=q
        rw [Heap.get?_push_ne s.heap c _ hbT] at q'
        exact q'
    refine ⟨.ref s.heap.objs.size,_,I2,rfl,⟨s.heap.objs.size,x,y,hTn,rfl,rfl,fun ys hy=>by rw [I.sqK_inj hy hq]; exact hx,fun ys hy'=>by rw [I.sqK_inj hy' hr]; exact hy⟩,⟨b1,hb2 _ _ D.TIz (a7 _ _ D.TIz D.TITO D.TIi1 D.TIi2 hTI),⟨_,_,hb2 _ _ D.TOz a2⟩,a3.at fun o q=>hb2 _ o D.i1z q,a4.at fun o q=>hb2 _ o D.i2z q⟩,fun c hc=>up _ (zlt c hc).symm (hf c hc).1⟩
  done:=by
    intro X hP hw hK hc i pins s σ H E I hf st hg
    subst hP hw hK
    obtain ⟨hz,hTI,⟨u0,v0,hTO⟩,h1,h2⟩:=st
    obtain ⟨xs,ys,hq,hr,hx⟩:=hg
    obtain ⟨its,rv,p⟩:=I.sqK hq
    obtain ⟨jts,rw',p'⟩:=I.sqK hr
    have DD:=zip2Apart (u:=u0) (v:=v0) D hz aTO bTO h1 h2 p p'
    have e1:=rv.length
    have e2:=rw'.length
    have hT:s.TypeIs (.ref z) "zip" := ⟨_,hz,rfl⟩
    have hend:its.toArray[i]?=none\/jts.toArray[i]?=none:=by
      rcases hx with hx | hx
      · exact .inl (Array.getElem?_eq_none (by simp; omega))
      · exact .inr (Array.getElem?_eq_none (by simp; omega))
    unfold pyNext
    refine wpAny_bind (wpAny_attempt (wpAny_callSpecial?_slot (name:=Str.ofString "__next__") hT F.slot_zip_next (wpAny_call_entry F.slot_zip_next hT F.entry_zip_next (zip2_end (I.ok.hd hc) DD hz hTI hTO h1 h2 p p' hend fun g e k he=>?_) (F.args_zip_next_1 _))))
    obtain ⟨o,ho,hce⟩:=he
    refine wpAny_bind (wpAny_isInstance (T := "StopIteration") (b:=true) ⟨o,ho,hce⟩ isSubtype_stop (wpAny_pure ⟨rfl,?_⟩))
    refine I.turnedL (h':=g) (t':=s.toks) (fp:=[z,TI,TO,i1,i2]) (fun c o hc q=>?_) hf
    simp only [List.mem_cons,List.not_mem_nil,or_false,not_or] at hc
    exact k c o hc.1 hc.2.2.1 hc.2.2.2.1 hc.2.2.2.2 q
  self:=fun _ _ _ _ _ st h=>wpAny_pyIter_zip st.1 h
section
variable {X:Cx}
noncomputable def iZip2 (K:FG) (ta:TA):TI:=fun σ H R=>ta σ H fun vs H1=>∃ k a b,vs=[.ref a,.ref b]/\(∃ xs,SqK k K H1 a xs)/\(∃ ys,SqK k K H1 b ys)/\R (Itz2 k K a b) H1
theorem pi_zip2 {a b:Expr} {ta:TA} {p pos:Pos} {elts:List Expr} {x1} {tpos:Pos} (hg:Gl X "zip") (hm:X.mg "zip" = none) (ha:PA X [a,b] ta) (hs:starEach [a,b] X.env=(false,eval a X.env)::starEach [b] X.env:=by rfl) (hs2:(backTo pos (starEach [b] X.env)).any (·.1)=false:=by rfl):PI X (.Tuple elts x1 tpos) (.Call (.Name "zip" p) [a,b] [] pos) (iZip2 X.K ta):=by
  intro pins s σ H R I h
  refine Call_ (ld_blt (u:=.type "zip") I hg hm (by kernel_rfl) (PyProof.Rows.callWith_type1 (thn (ha pos pins s σ H _ I h) fun us s1 ⟨vs,H1,I1,r1,q1⟩=>?_) hs hs2))
  obtain ⟨kk,l1,l2,e,⟨xs,hq⟩,⟨ys,hr⟩,q⟩:=q1
  subst e
  cases r1 with
  | cons r rr=>
    cases rr with
    | cons r' rr=>
      cases rr
      cases r
      cases r'
      obtain ⟨its,rv,pl⟩:=I1.sqK hq
      obtain ⟨jts,rv',pl'⟩:=I1.sqK hr
      have lt:∀ {l:Addr} {its:Array Value},IsSq kk s1.heap l its->l < s1.heap.objs.size:=fun q=>let ⟨_,e,_⟩:=q.obj; Heap.lt_size e
      have lt1:=lt pl
      have lt2:=lt pl'
      refine call_zip2 pl pl' fun h' b1 b2 b3 b4 b5 b7=>?_
      have I2:Inv X pins σ H1 { s1 with heap:=h' }:=I1.kept (t':=s1.toks) b7
      refine wpAny_pyIter_zip b1 ?_
      have this:∀ n:Nat,n + 2 ≠ n + 4/\n + 3 ≠ n + 4/\n ≠ n + 4/\n + 1 ≠ n + 4/\n + 2 ≠ n + 3/\n + 2 ≠ n/\n + 2 ≠ n + 1/\n + 3 ≠ n/\n + 3 ≠ n + 1/\n ≠ n + 1:=fun n=>by omega
      obtain ⟨t1,t2,t3,t4,t5,t6,t7,t8,t9,t10⟩:=this s1.heap.objs.size
      refine ⟨s1.heap.objs.size + 4,[s1.heap.objs.size + 4,s1.heap.objs.size + 2,s1.heap.objs.size + 3,s1.heap.objs.size,s1.heap.objs.size + 1],_,_,H1,rfl,I2,turn_zip2 kk l1 l2 (s1.heap.objs.size + 4) (s1.heap.objs.size + 2) (s1.heap.objs.size + 3) s1.heap.objs.size (s1.heap.objs.size + 1) ⟨t1,t2,t3,t4,t5,t6,t7,t8,t9,t10⟩ (Nat.ne_of_lt (Nat.lt_of_lt_of_le lt1 (Nat.le_add_right _ _))) (Nat.ne_of_lt (Nat.lt_of_lt_of_le lt2 (Nat.le_add_right _ _))),⟨b1,b2,⟨_,_,b3⟩,b4,b5⟩,fun c hc=>?_,q⟩
      have hc':s1.heap.objs.size<=c:=by
        simp only [List.mem_cons,List.not_mem_nil,or_false] at hc
        rcases hc with rfl | rfl | rfl | rfl | rfl
        all_goals (first | exact Nat.le_refl _ | exact Nat.le_add_right _ _)
      exact I1.fpOk hc' (I1.hok.fresh hc')
end
end L2
namespace PL
open PySem PySem.Spec PyProof.Rows L2
inductive PV where
  | non
  | bl (b:Bool)
  | int (i:Int)
  | str (x:Str)
  | tup (ps:List PV)
  | lst (ps:List PV)
  | dk (ks:List Key) (ps:List PV)
  | dt (ks:List (List Key)) (ps:List PV)
  | obj (C:Str) (ks:List Str) (ps:List PV)
  | df (ks:List Key) (ps:List PV)
  | dtf (ks:List (List Key)) (ps:List PV)
  | ptr (n:Nat)
structure ZG where
  z:Hp
  g:List Addr
noncomputable def ZLe (Z Z':ZG):Prop:=Same Z.z Z'.z/\Z.g <+: Z'.g
theorem ZLe.refl (Z:ZG):ZLe Z Z:=⟨Same.refl _,List.prefix_refl _⟩
theorem ZLe.trans {Z Z1 Z2:ZG} (a:ZLe Z Z1) (b:ZLe Z1 Z2):ZLe Z Z2:=⟨a.1.trans b.1,a.2.trans b.2⟩
theorem pre_get {α:Type} {l r:List α} {n:Nat} {a:α} (h:l <+: r) (e:l[n]?=some a):r[n]?=some a:=by
  obtain ⟨t,rfl⟩:=h
  rw [List.getElem?_append_left (List.getElem?_eq_some_iff.mp e).1]; exact e
noncomputable def CN (K:FG) (C:Str) (c:Addr):Prop:=PySem.W.nsIn K mainGlobals C=some (some (.ref c))
mutual
noncomputable def Rep (K:FG) (Z:ZG):PV->V->Prop
  | .non,v=>v=.non
  | .bl b,v=>v=.bl b
  | .int i,v=>v=.int i
  | .str x,v=>v=.str x
  | .tup ps,v=>∃ a vs,v=.ref a/\SqT K Z.z a vs/\RepL K Z ps vs
  | .lst ps,v=>∃ a vs,v=.ref a/\SqL K Z.z a vs/\RepL K Z ps vs
  | .dk ks ps,v=>∃ a kvs,v=.ref a/\Z.z a=some (.dK kvs)/\kvs.map (·.1)=ks/\RepL K Z ps (kvs.map (·.2))
  | .dt ks ps,v=>∃ a kvs,v=.ref a/\Z.z a=some (.dT kvs)/\kvs.map (·.1)=ks/\RepL K Z ps (kvs.map (·.2))
  | .obj C ks ps,v=>∃ a c dx fs,v=.ref a/\CN K C c/\Z.z a=some (.ins c dx fs)/\fs.map (·.1)=ks/\RepL K Z ps (fs.map (·.2))
  | .df ks ps,v=>∃ a o kvs,v=.ref a/\Z.z a=some (.frz o (.dK kvs))/\kvs.map (·.1)=ks/\RepL K Z ps (kvs.map (·.2))
  | .dtf ks ps,v=>∃ a o kvs,v=.ref a/\Z.z a=some (.frz o (.dT kvs))/\kvs.map (·.1)=ks/\RepL K Z ps (kvs.map (·.2))
  | .ptr n,v=>∃ a,v=.ref a/\Z.g[n]?=some a
noncomputable def RepL (K:FG) (Z:ZG):List PV->List V->Prop
  | [],vs=>vs=[]
  | p::ps,vs=>∃ v r,vs=v::r/\Rep K Z p v/\RepL K Z ps r
end
theorem SqL.same {K:FG} {Z Z':Hp} {a:Addr} {vs:List V} (s:Same Z Z') (h:SqL K Z a vs):SqL K Z' a vs:=s.seq h
theorem SqT.same {K:FG} {Z Z':Hp} {a:Addr} {vs:List V} (s:Same Z Z') (h:SqT K Z a vs):SqT K Z' a vs:=by
  rcases h with (h | ⟨o,h⟩) | h
  · exact .inl (.inl (s _ _ h))
  · exact .inl (.inr ⟨o,s _ _ h⟩)
  · exact .inr h
mutual
theorem Rep.mono {K:FG} {Z Z':ZG} (s:ZLe Z Z'):∀ {p:PV} {v:V},Rep K Z p v->Rep K Z' p v
  | .non,v,h=>h
  | .bl _,v,h=>h
  | .int _,v,h=>h
  | .str _,v,h=>h
  | .tup ps,v,h=>by
    unfold Rep at h ⊢
    obtain ⟨a,vs,e,h1,h2⟩:=h
    exact ⟨a,vs,e,SqT.same s.1 h1,RepL.mono s h2⟩
  | .lst ps,v,h=>by
    unfold Rep at h ⊢
    obtain ⟨a,vs,e,h1,h2⟩:=h
    exact ⟨a,vs,e,SqL.same s.1 h1,RepL.mono s h2⟩
  | .dk ks ps,v,h=>by
    unfold Rep at h ⊢
    obtain ⟨a,kvs,e,h1,h2,h3⟩:=h
    exact ⟨a,kvs,e,s.1 _ _ h1,h2,RepL.mono s h3⟩
  | .dt ks ps,v,h=>by
    unfold Rep at h ⊢
    obtain ⟨a,kvs,e,h1,h2,h3⟩:=h
    exact ⟨a,kvs,e,s.1 _ _ h1,h2,RepL.mono s h3⟩
  | .obj C ks ps,v,h=>by
    unfold Rep at h ⊢
    obtain ⟨a,c,dx,fs,e,cn,h1,h2,h3⟩:=h
    exact ⟨a,c,dx,fs,e,cn,s.1 _ _ h1,h2,RepL.mono s h3⟩
  | .df ks ps,v,h=>by
    unfold Rep at h ⊢
    obtain ⟨a,o,kvs,e,h1,h2,h3⟩:=h
    exact ⟨a,o,kvs,e,s.1 _ _ h1,h2,RepL.mono s h3⟩
  | .dtf ks ps,v,h=>by
    unfold Rep at h ⊢
    obtain ⟨a,o,kvs,e,h1,h2,h3⟩:=h
    exact ⟨a,o,kvs,e,s.1 _ _ h1,h2,RepL.mono s h3⟩
  | .ptr n,v,h=>by
    unfold Rep at h ⊢
    obtain ⟨a,e,h1⟩:=h
    exact ⟨a,e,pre_get s.2 h1⟩
theorem RepL.mono {K:FG} {Z Z':ZG} (s:ZLe Z Z'):∀ {ps:List PV} {vs:List V},RepL K Z ps vs->RepL K Z' ps vs
  | [],vs,h=>by unfold RepL at h ⊢; exact h
  | p::ps,vs,h=>by
    unfold RepL at h ⊢
    obtain ⟨v,r,e,h1,h2⟩:=h
    exact ⟨v,r,e,Rep.mono s h1,RepL.mono s h2⟩
end
section
variable {K:FG} {Z:ZG}
theorem RepL.length:∀ {ps:List PV} {vs:List V},RepL K Z ps vs->vs.length=ps.length
  | [],vs,h=>by unfold RepL at h; subst h; rfl
  | p::ps,vs,h=>by
    unfold RepL at h
    obtain ⟨v,r,rfl,_,h2⟩:=h
    simp [RepL.length h2]
theorem RepL.nil:RepL K Z [] []:=by unfold RepL; rfl
theorem RepL.cons {p:PV} {ps:List PV} {v:V} {vs:List V} (h:Rep K Z p v) (t:RepL K Z ps vs):RepL K Z (p::ps) (v::vs):=by unfold RepL; exact ⟨v,vs,rfl,h,t⟩
theorem RepL.inv {p:PV} {ps:List PV} {vs:List V} (h:RepL K Z (p::ps) vs):∃ v r,vs=v::r/\Rep K Z p v/\RepL K Z ps r:=by unfold RepL at h; exact h
theorem RepL.inv0 {vs:List V} (h:RepL K Z [] vs):vs=[]:=by unfold RepL at h; exact h
theorem RepL.append:∀ {ps qs:List PV} {vs ws:List V},RepL K Z ps vs->RepL K Z qs ws->RepL K Z (ps++qs) (vs++ws)
  | [],qs,vs,ws,h,g=>by have:=h.inv0; subst this; exact g
  | p::ps,qs,vs,ws,h,g=>by
    obtain ⟨v,r,rfl,h1,h2⟩:=h.inv
    exact RepL.cons h1 (RepL.append h2 g)
theorem RepL.get:∀ {ps:List PV} {vs:List V} {i:Nat} {p:PV},RepL K Z ps vs->ps[i]?=some p->∃ v,vs[i]?=some v/\Rep K Z p v
  | [],vs,i,p,h,e=>by simp at e
  | q::ps,vs,0,p,h,e=>by
    obtain ⟨v,r,rfl,h1,h2⟩:=h.inv
    simp at e; subst e
    exact ⟨v,rfl,h1⟩
  | q::ps,vs,i + 1,p,h,e=>by
    obtain ⟨v,r,rfl,h1,h2⟩:=h.inv
    obtain ⟨u,h3,h4⟩:=RepL.get (i:=i) (p:=p) h2 (by simpa using e)
    exact ⟨u,by simpa using h3,h4⟩
theorem RepL.getV {ps:List PV} {vs:List V} {i:Nat} {v:V} (h:RepL K Z ps vs) (e:vs[i]?=some v):∃ p,ps[i]?=some p/\Rep K Z p v:=by
  have hi:i < ps.length:=by rw [← h.length]; exact (List.getElem?_eq_some_iff.mp e).1
  obtain ⟨u,h1,h2⟩:=h.get (i:=i) (p:=ps[i]) (List.getElem?_eq_getElem hi)
  rw [e] at h1; cases h1
  exact ⟨_,List.getElem?_eq_getElem hi,h2⟩
theorem RepL.set {q:PV} {u:V} (hq:Rep K Z q u):∀ {ps:List PV} {vs:List V} (i:Nat),RepL K Z ps vs->RepL K Z (ps.set i q) (vs.set i u)
  | [],vs,i,h=>by have:=h.inv0; subst this; exact h
  | p::ps,vs,0,h=>by
    obtain ⟨v,r,rfl,h1,h2⟩:=h.inv
    exact RepL.cons hq h2
  | p::ps,vs,i + 1,h=>by
    obtain ⟨v,r,rfl,h1,h2⟩:=h.inv
    exact RepL.cons h1 (RepL.set hq i h2)
theorem RepL.take:∀ {ps:List PV} {vs:List V} (n:Nat),RepL K Z ps vs->RepL K Z (ps.take n) (vs.take n)
  | [],vs,n,h=>by have:=h.inv0; subst this; simp; exact .nil
  | p::ps,vs,0,h=>by simp; exact .nil
  | p::ps,vs,n + 1,h=>by
    obtain ⟨v,r,rfl,h1,h2⟩:=h.inv
    exact RepL.cons h1 (RepL.take n h2)
theorem RepL.drop:∀ {ps:List PV} {vs:List V} (n:Nat),RepL K Z ps vs->RepL K Z (ps.drop n) (vs.drop n)
  | [],vs,n,h=>by have:=h.inv0; subst this; simp; exact .nil
  | p::ps,vs,0,h=>h
  | p::ps,vs,n + 1,h=>by
    obtain ⟨v,r,rfl,h1,h2⟩:=h.inv
    exact RepL.drop n h2
end
inductive Lc where
  | sh (p:PV)
  | own (p:PV)
noncomputable def Lc.pv:Lc->PV
  | .sh p=>p
  | .own p=>p
noncomputable abbrev Mu:=List (Option PV)
structure Ev where
  vs:List (Option Lc)
  mu:Mu
noncomputable abbrev Pd:=List (V × Lc)
noncomputable def RepO (K:FG) (Z:ZG) (H:Hp) (a:Addr):PV->Prop
  | .lst ps=>∃ vs,H a=some (.lst vs)/\RepL K Z ps vs
  | .dk ks ps=>∃ kvs,H a=some (.dK kvs)/\kvs.map (·.1)=ks/\RepL K Z ps (kvs.map (·.2))
  | .dt ks ps=>∃ kvs,H a=some (.dT kvs)/\kvs.map (·.1)=ks/\RepL K Z ps (kvs.map (·.2))
  | .obj C ks ps=>∃ c dx fs,CN K C c/\H a=some (.ins c dx fs)/\fs.map (·.1)=ks/\RepL K Z ps (fs.map (·.2))
  | _=>False
noncomputable def VR (K:FG) (H0:Hp) (Z:ZG) (H:Hp) (v:Option V):Option Lc->Prop
  | none=>True
  | some (.sh p)=>∃ x,v=some x/\Rep K Z p x
  | some (.own p)=>∃ a,v=some (.ref a)/\RepO K Z H a p/\Z.z a=none/\H0 a=none
noncomputable def oad:Option V × Option Lc->Option Addr
  | (some (.ref a),some (.own _))=>some a
  | _=>none
noncomputable abbrev Sl:=List (Option V × Option Lc)
noncomputable def Slots (K:FG) (H0:Hp) (Z:ZG) (H:Hp) (L:Sl):Prop:=(∀ e ∈ L,VR K H0 Z H e.1 e.2)/\(L.filterMap oad).Nodup
noncomputable def cel (g:List Addr) (mu:Mu):Sl:=(g.map fun a=>some (V.ref a)).zip (mu.map fun o=>o.map Lc.own)
noncomputable def usd (g:List Addr) (mu:Mu):List Addr:=(cel g mu).filterMap oad
noncomputable def sl (g:List Addr) (σ:L2.St) (ρ:Ev) (pd:Pd):Sl:=cel g ρ.mu++(σ.zip ρ.vs++pd.map fun e=>(some e.1,some e.2))
noncomputable def immut:HO->Prop
  | .tup _=>True
  | .frz _ _=>True
  | _=>False
structure ZOk (H0:Hp) (Z0 Z:ZG) (H:Hp):Prop where
  zh:Same Z.z H
  h0:Same H0 H
  z0:ZLe Z0 Z
  new:∀ b o,Z.z b=some o->Z0.z b=some o\/H0 b=none\/immut o
noncomputable def SR (K:FG) (H0:Hp) (Z0:ZG) (σ:L2.St) (H:Hp) (ρ:Ev) (pd:Pd):Prop:=σ.length=ρ.vs.length/\∃ Z,ρ.mu.length=Z.g.length/\ZOk H0 Z0 Z H/\Slots K H0 Z H (sl Z.g σ ρ pd)
section
variable {K:FG} {H0 H H':Hp} {Z0 Z Z':ZG} {L L':Sl} {σ:L2.St} {ρ:Ev} {pd:Pd}
theorem Slots.sub (h:Slots K H0 Z H L) (s:List.Sublist L' L):Slots K H0 Z H L':=⟨fun e he=>h.1 e (s.subset he),h.2.sublist (s.filterMap oad)⟩
theorem Slots.perm (h:Slots K H0 Z H L) (s:List.Perm L' L):Slots K H0 Z H L':=⟨fun e he=>h.1 e (s.subset he),(s.filterMap oad).nodup_iff.mpr h.2⟩
theorem RepO.keep {a:Addr} {p:PV} (h:RepO K Z H a p) (z:ZLe Z Z') (e:H' a=H a):RepO K Z' H' a p:=by
  cases p with
  | lst ps=>obtain ⟨vs,h1,h2⟩:=h; exact ⟨vs,by rw [e]; exact h1,h2.mono z⟩
  | dk ks ps=>obtain ⟨vs,h1,h2,h3⟩:=h; exact ⟨vs,by rw [e]; exact h1,h2,h3.mono z⟩
  | dt ks ps=>obtain ⟨vs,h1,h2,h3⟩:=h; exact ⟨vs,by rw [e]; exact h1,h2,h3.mono z⟩
  | obj C ks ps=>obtain ⟨c,dx,fs,cn,h1,h2,h3⟩:=h; exact ⟨c,dx,fs,cn,by rw [e]; exact h1,h2,h3.mono z⟩
  | _=>exact h
theorem RepO.some {a:Addr} {p:PV} (h:RepO K Z H a p):∃ o,H a=some o/\¬ immut o:=by
  cases p with
  | lst ps=>obtain ⟨vs,h1,h2⟩:=h; exact ⟨_,h1,fun z=>z⟩
  | dk ks ps=>obtain ⟨vs,h1,h2,h3⟩:=h; exact ⟨_,h1,fun z=>z⟩
  | dt ks ps=>obtain ⟨vs,h1,h2,h3⟩:=h; exact ⟨_,h1,fun z=>z⟩
  | obj C ks ps=>obtain ⟨c,dx,fs,cn,h1,h2,h3⟩:=h; exact ⟨_,h1,fun z=>z⟩
  | _=>exact h.elim
theorem RepO.rep {a:Addr} {p:PV} (h:RepO K Z H a p) (z:ZLe Z Z') (e:Z'.z a=H a):Rep K Z' p (.ref a):=by
  cases p with
  | lst ps=>obtain ⟨vs,h1,h2⟩:=h; unfold Rep; exact ⟨a,vs,rfl,SqL.of (by rw [e]; exact h1),h2.mono z⟩
  | dk ks ps=>obtain ⟨vs,h1,h2,h3⟩:=h; unfold Rep; exact ⟨a,vs,rfl,by rw [e]; exact h1,h2,h3.mono z⟩
  | dt ks ps=>obtain ⟨vs,h1,h2,h3⟩:=h; unfold Rep; exact ⟨a,vs,rfl,by rw [e]; exact h1,h2,h3.mono z⟩
  | obj C ks ps=>obtain ⟨c,dx,fs,cn,h1,h2,h3⟩:=h; unfold Rep; exact ⟨a,c,dx,fs,rfl,cn,by rw [e]; exact h1,h2,h3.mono z⟩
  | _=>exact h.elim
theorem Slots.step (h:Slots K H0 Z H L) (z:ZLe Z Z') (hk:∀ e ∈ L,∀ a,oad e=some a->H' a=H a/\Z'.z a=none):Slots K H0 Z' H' L:=by
  refine ⟨fun e he=>?_,h.2⟩
  have q:=h.1 e he
  obtain ⟨v,l⟩:=e
  cases l with
  | none=>trivial
  | some l=>
    cases l with
    | sh p=>obtain ⟨x,e1,e2⟩:=q; exact ⟨x,e1,e2.mono z⟩
    | own p=>
      obtain ⟨a,e1,e2,e3,e4⟩:=q
      have e1':v=some (.ref a):=e1
      subst e1'
      obtain ⟨k1,k2⟩:=hk _ he a rfl
      exact ⟨a,rfl,e2.keep z k1,k2,e4⟩
theorem own_of (h:Slots K H0 Z H L) {e:Option V × Option Lc} (he:e ∈ L) {a:Addr} (ha:oad e=some a):Z.z a=none/\H0 a=none/\∃ o,H a=some o/\¬ immut o:=by
  obtain ⟨v,l⟩:=e
  have q:=h.1 _ he
  cases l with
  | none=>cases v with
    | none=>cases ha
    | some x=>cases x <;> cases ha
  | some l=>
    cases l with
    | sh p=>cases v with
      | none=>cases ha
      | some x=>cases x <;> cases ha
    | own p=>
      obtain ⟨b,e1,e2,e3,e4⟩:=q
      have e1':v=some (.ref b):=e1
      subst e1'
      cases ha
      exact ⟨e3,e4,e2.some⟩
theorem Slots.new (h:Slots K H0 Z H L) (zo:ZOk H0 Z0 Z H) {a:Addr} {o:HO} {p:PV} (ha:H a=none) (hp:RepO K Z (upd H a o) a p):ZOk H0 Z0 Z (upd H a o)/\Slots K H0 Z (upd H a o) ((some (.ref a),some (.own p))::L):=by
  have hz:Z.z a=none:=zo.zh.free ha
  have h0:H0 a=none:=zo.h0.free ha
  refine ⟨⟨fun b u e=>by rw [upd_ne (ne_of_none e hz)]; exact zo.zh b u e,fun b u e=>by rw [upd_ne (ne_of_none e h0)]; exact zo.h0 b u e,zo.z0,zo.new⟩,?_⟩
  have hne:∀ e ∈ L,∀ b,oad e=some b->b ≠ a:=fun e he b hb=>by
    obtain ⟨_,_,o',h3,_⟩:=own_of h he hb
    exact ne_of_none h3 ha
  have st:=h.step (Z':=Z) (H':=upd H a o) (ZLe.refl Z) fun e he b hb=>⟨upd_ne (hne e he b hb),(own_of h he hb).1⟩
  refine ⟨fun e he=>?_,?_⟩
  · rcases List.mem_cons.mp he with rfl | he
    · exact ⟨a,rfl,hp,hz,h0⟩
    · exact st.1 e he
  · show (a::L.filterMap oad).Nodup
    refine List.nodup_cons.mpr ⟨fun hm=>?_,st.2⟩
    obtain ⟨e,he,hb⟩:=List.mem_filterMap.mp hm
    exact hne e he a hb rfl
noncomputable abbrev ZG.put (Z:ZG) (a:Addr) (o:HO):ZG:=⟨upd Z.z a o,Z.g⟩
theorem Slots.newF (h:Slots K H0 Z H L) (zo:ZOk H0 Z0 Z H) {a:Addr} {o:HO} (ha:H a=none):ZOk H0 Z0 (Z.put a o) (upd H a o)/\ZLe Z (Z.put a o)/\Slots K H0 (Z.put a o) (upd H a o) L:=by
  have hz:Z.z a=none:=zo.zh.free ha
  have h0:H0 a=none:=zo.h0.free ha
  have sz:Same Z.z (upd Z.z a o):=fun b u e=>by rw [upd_ne (ne_of_none e hz)]; exact e
  have lz:ZLe Z (Z.put a o):=⟨sz,List.prefix_refl _⟩
  refine ⟨⟨fun b u e=>?_,fun b u e=>by rw [upd_ne (ne_of_none e h0)]; exact zo.h0 b u e,zo.z0.trans lz,fun b u e=>?_⟩,lz,?_⟩
  · have e:upd Z.z a o b=some u:=e
    unfold upd at e ⊢
    split
    · rename_i q; rw [if_pos q] at e; exact e
    · rename_i q; rw [if_neg q] at e; exact zo.zh b u e
  · have e:upd Z.z a o b=some u:=e
    unfold upd at e
    split at e
    · rename_i q; rw [q]; exact .inr (.inl h0)
    · exact zo.new b u e
  · refine h.step lz fun e he b hb=>?_
    obtain ⟨h1,h2,o',h3,_⟩:=own_of h he hb
    have hba:=ne_of_none h3 ha
    exact ⟨upd_ne hba,by show upd Z.z a o b=none; rw [upd_ne hba]; exact h1⟩
theorem Slots.freeze {v:Option V} {p:PV} (h:Slots K H0 Z H ((v,some (.own p))::L)) (zo:ZOk H0 Z0 Z H):∃ Z',ZLe Z Z'/\Z'.g=Z.g/\ZOk H0 Z0 Z' H/\Slots K H0 Z' H ((v,some (.sh p))::L):=by
  obtain ⟨a,e1,e2,e3,e4⟩:=h.1 _ List.mem_cons_self
  have e1':v=some (.ref a):=e1
  subst e1'
  obtain ⟨o,ho,_⟩:=e2.some
  have sz:Same Z.z (upd Z.z a o):=fun b u e=>by rw [upd_ne (ne_of_none e e3)]; exact e
  have lz:ZLe Z (Z.put a o):=⟨sz,List.prefix_refl _⟩
  have nd:(a::L.filterMap oad).Nodup:=h.2
  have hL:Slots K H0 Z H L:=h.sub (List.sublist_cons_self _ _)
  refine ⟨Z.put a o,lz,rfl,⟨fun b u e=>?_,zo.h0,zo.z0.trans lz,fun b u e=>?_⟩,fun e he=>?_,(List.nodup_cons.mp nd).2⟩
  · have e:upd Z.z a o b=some u:=e
    unfold upd at e
    split at e
    · rename_i q; cases e; rw [q]; exact ho
    · exact zo.zh b u e
  · have e:upd Z.z a o b=some u:=e
    unfold upd at e
    split at e
    · rename_i q; rw [q]; exact .inr (.inl e4)
    · exact zo.new b u e
  · rcases List.mem_cons.mp he with rfl | he
    · exact ⟨.ref a,rfl,e2.rep lz (by show upd Z.z a o a=_; rw [upd_same,ho])⟩
    · refine (hL.step (Z':=Z.put a o) (H':=H) lz fun e' he' b hb=>⟨rfl,?_⟩).1 e he
      have:b ≠ a:=fun q=>by
        rw [q] at hb
        exact (List.nodup_cons.mp nd).1 (List.mem_filterMap.mpr ⟨e',he',hb⟩)
      show upd Z.z a o b=none
      rw [upd_ne this]
      exact (own_of hL he' hb).1
theorem Slots.write {a:Addr} {p q:PV} {o:HO} (h:Slots K H0 Z H ((some (.ref a),some (.own p))::L)) (zo:ZOk H0 Z0 Z H) (hq:RepO K Z (upd H a o) a q):ZOk H0 Z0 Z (upd H a o)/\Slots K H0 Z (upd H a o) ((some (.ref a),some (.own q))::L):=by
  obtain ⟨b,e1,e2,e3,e4⟩:=h.1 _ List.mem_cons_self
  cases e1
  have nd:(a::L.filterMap oad).Nodup:=h.2
  have hL:Slots K H0 Z H L:=h.sub (List.sublist_cons_self _ _)
  refine ⟨⟨fun b u e=>by rw [upd_ne (ne_of_none e e3)]; exact zo.zh b u e,fun b u e=>by rw [upd_ne (ne_of_none e e4)]; exact zo.h0 b u e,zo.z0,zo.new⟩,fun e he=>?_,nd⟩
  rcases List.mem_cons.mp he with rfl | he
  · exact ⟨a,rfl,hq,e3,e4⟩
  · refine (hL.step (Z':=Z) (H':=upd H a o) (ZLe.refl Z) fun e' he' b hb=>⟨upd_ne fun q=>?_,(own_of hL he' hb).1⟩).1 e he
    rw [q] at hb
    exact (List.nodup_cons.mp nd).1 (List.mem_filterMap.mpr ⟨e',he',hb⟩)
end
variable {K:FG} {H0 H:Hp} {Z0:ZG} {σ:L2.St} {ρ:Ev} {pd:Pd}
theorem set_split {α:Type}:∀ {l:List α} {i:Nat} {a:α},l[i]?=some a->∃ R,List.Perm l (a::R)/\∀ b,List.Perm (l.set i b) (b::R)
  | [],i,a,h=>by simp at h
  | x::r,0,a,h=>by
    simp at h; subst h
    exact ⟨r,List.Perm.refl _,fun b=>List.Perm.refl _⟩
  | x::r,i + 1,a,h=>by
    obtain ⟨R,h1,h2⟩:=set_split (l:=r) (i:=i) (a:=a) (by simpa using h)
    refine ⟨x::R,(h1.cons x).trans (List.Perm.swap _ _ _),fun b=>?_⟩
    simp only [List.set_cons_succ]
    exact ((h2 b).cons x).trans (List.Perm.swap _ _ _)
theorem zip_set {α β:Type}:∀ (l:List α) (r:List β) (i:Nat) (a:α) (b:β),(l.set i a).zip (r.set i b)=(l.zip r).set i (a,b)
  | [],r,i,a,b=>by simp
  | x::l,[],i,a,b=>by simp
  | x::l,y::r,0,a,b=>by simp
  | x::l,y::r,i + 1,a,b=>by simp [zip_set l r i a b]
theorem zip_get {α β:Type}:∀ {l:List α} {r:List β} {i:Nat} {a:α} {b:β},l[i]?=some a->r[i]?=some b->(l.zip r)[i]?=some (a,b)
  | [],r,i,a,b,h,g=>by simp at h
  | x::l,[],i,a,b,h,g=>by simp at g
  | x::l,y::r,0,a,b,h,g=>by simp at h g; simp [h,g]
  | x::l,y::r,i + 1,a,b,h,g=>by
    have:=zip_get (l:=l) (r:=r) (i:=i) (by simpa using h) (by simpa using g)
    simpa using this
theorem set_same {α:Type}:∀ {l:List α} {i:Nat} {a:α},l[i]?=some a->l.set i a=l
  | [],i,a,h=>by simp at h
  | x::r,0,a,h=>by simp at h; subst h; simp
  | x::r,i + 1,a,h=>by simp [set_same (l:=r) (i:=i) (a:=a) (by simpa using h)]
noncomputable def Ev.set (ρ:Ev) (i:Nat) (x:Option Lc):Ev:=⟨ρ.vs.set i x,ρ.mu⟩
section
variable {K:FG} {H0 H H':Hp} {Z0 Z:ZG} {σ:L2.St} {ρ:Ev} {pd pd':Pd} {v w:V} {l:Lc} {p:PV} {L:Sl} {g:List Addr}
theorem sl_cons:List.Perm (sl g σ ρ ((v,l)::pd)) ((some v,some l)::sl g σ ρ pd):=by
  unfold sl
  exact (List.perm_middle.append_left _).trans List.perm_middle
theorem SR.top (h:SR K H0 Z0 σ H ρ ((v,l)::pd)):σ.length=ρ.vs.length/\∃ Z,ρ.mu.length=Z.g.length/\ZOk H0 Z0 Z H/\Slots K H0 Z H ((some v,some l)::sl Z.g σ ρ pd):=
  let ⟨e,Z,hg,z,s⟩:=h
  ⟨e,Z,hg,z,s.perm sl_cons.symm⟩
theorem SR.mk (e:σ.length=ρ.vs.length) (hg:ρ.mu.length=Z.g.length) (z:ZOk H0 Z0 Z H) (s:Slots K H0 Z H ((some v,some l)::sl Z.g σ ρ pd)):SR K H0 Z0 σ H ρ ((v,l)::pd):=⟨e,Z,hg,z,s.perm sl_cons⟩
theorem SR.pop (h:SR K H0 Z0 σ H ρ ((v,l)::pd)):SR K H0 Z0 σ H ρ pd:=
  let ⟨e,Z,hg,z,s⟩:=h.top
  ⟨e,Z,hg,z,s.sub (List.sublist_cons_self _ _)⟩
theorem SR.perm (h:SR K H0 Z0 σ H ρ pd) (q:List.Perm pd' pd):SR K H0 Z0 σ H ρ pd':=
  let ⟨e,Z,hg,z,s⟩:=h
  ⟨e,Z,hg,z,s.perm (((q.map _).append_left _).append_left _)⟩
theorem SR.swap {l2:Lc} (h:SR K H0 Z0 σ H ρ ((v,l)::(w,l2)::pd)):SR K H0 Z0 σ H ρ ((w,l2)::(v,l)::pd):=h.perm (List.Perm.swap _ _ _)
theorem SR.freeze (h:SR K H0 Z0 σ H ρ ((v,l)::pd)):SR K H0 Z0 σ H ρ ((v,.sh l.pv)::pd):=by
  cases l with
  | sh p=>exact h
  | own p=>
    obtain ⟨e,Z,hg,z,s⟩:=h.top
    obtain ⟨Z',_,eg,z',s'⟩:=s.freeze z
    refine .mk (Z:=Z') e (by rw [eg]; exact hg) z' ?_
    rw [eg]; exact s'
theorem SR.sh (h:SR K H0 Z0 σ H ρ ((v,.sh p)::pd)):σ.length=ρ.vs.length/\∃ Z,ρ.mu.length=Z.g.length/\ZOk H0 Z0 Z H/\Rep K Z p v/\Slots K H0 Z H (sl Z.g σ ρ pd):=by
  obtain ⟨e,Z,hg,z,s⟩:=h.top
  obtain ⟨x,e1,e2⟩:=s.1 _ List.mem_cons_self
  cases e1
  exact ⟨e,Z,hg,z,e2,s.sub (List.sublist_cons_self _ _)⟩
theorem SR.rep (h:SR K H0 Z0 σ H ρ ((v,.sh p)::pd)):∃ Z:ZG,Same Z.z H/\Rep K Z p v:=let ⟨_,Z,_,z,r,_⟩:=h.sh; ⟨Z,z.zh,r⟩
theorem SR.repH (h:SR K H0 Z0 σ H ρ ((v,.sh p)::pd)):∃ g,Rep K ⟨H,g⟩ p v:=let ⟨_,Z,_,z,r,_⟩:=h.sh; ⟨Z.g,r.mono (Z':=⟨H,Z.g⟩) ⟨z.zh,List.prefix_refl _⟩⟩
theorem Slots.consS (s:Slots K H0 Z H L) (r:Rep K Z p v):Slots K H0 Z H ((some v,some (.sh p))::L):=by
  refine ⟨fun e he=>?_,?_⟩
  · rcases List.mem_cons.mp he with rfl | he
    · exact ⟨v,rfl,r⟩
    · exact s.1 e he
  · have:oad (some v,some (Lc.sh p))=none:=by cases v <;> rfl
    rw [List.filterMap_cons_none this]
    exact s.2
theorem SR.scal (h:SR K H0 Z0 σ H ρ pd) (r:∀ Z,Rep K Z p v):SR K H0 Z0 σ H ρ ((v,.sh p)::pd):=
  let ⟨e,Z,hg,z,s⟩:=h
  .mk e hg z (s.consS (r Z))
theorem sl_var {i:Nat} {o:Option Lc} (el:σ.length=ρ.vs.length) (e:ρ.vs[i]?=some o):∃ R:Sl,∃ x,σ[i]?=some x/\(∀ g pd,List.Perm (sl g σ ρ pd) ((x,o)::(cel g ρ.mu++(R++pd.map fun e=>(some e.1,some e.2)))))/\
    ∀ g pd y o',List.Perm (sl g (σ.set i y) (ρ.set i o') pd) ((y,o')::(cel g ρ.mu++(R++pd.map fun e=>(some e.1,some e.2)))):=by
  have hi:i < σ.length:=by rw [el]; exact (List.getElem?_eq_some_iff.mp e).1
  have hσ:σ[i]?=some σ[i]:=List.getElem?_eq_getElem hi
  obtain ⟨R,h1,h2⟩:=set_split (zip_get hσ e)
  refine ⟨R,σ[i],hσ,fun g pd=>?_,fun g pd y o'=>?_⟩
  · unfold sl
    exact ((h1.append_right _).append_left _).trans List.perm_middle
  · unfold sl
    show List.Perm (cel g ρ.mu++((σ.set i y).zip (ρ.vs.set i o')++_)) _
    rw [zip_set]
    exact (((h2 _).append_right _).append_left _).trans List.perm_middle
theorem Ev.set_mu {i:Nat} {x:Option Lc}:(ρ.set i x).mu=ρ.mu:=rfl
theorem Ev.set_len {i:Nat} {x:Option Lc}:(ρ.set i x).vs.length=ρ.vs.length:=by show (ρ.vs.set i x).length=_; rw [List.length_set]
theorem SR.var {i:Nat} (h:SR K H0 Z0 σ H ρ pd) (e:ρ.vs[i]?=some (some l)):∃ v,σ[i]?=some (some v)/\SR K H0 Z0 σ H (ρ.set i (some (.sh l.pv))) ((v,.sh l.pv)::pd):=by
  obtain ⟨el,Z,hg,z,s⟩:=h
  obtain ⟨R,x,hσ,h1,h2⟩:=sl_var el e
  have s1:=s.perm (h1 Z.g pd).symm
  have el':σ.length=(ρ.set i (some (.sh l.pv))).vs.length:=by rw [Ev.set_len]; exact el
  have fin:∀ {Z':ZG} {v:V},Z'.g=Z.g->ZOk H0 Z0 Z' H->x=some v->Slots K H0 Z' H ((x,some (.sh l.pv))::(cel Z.g ρ.mu++(R++pd.map fun e=>(some e.1,some e.2))))->Rep K Z' l.pv v->SR K H0 Z0 σ H (ρ.set i (some (.sh l.pv))) ((v,.sh l.pv)::pd):=
    fun {Z' v} eg z ev s2 r=>by
      have p2:=h2 Z.g pd x (some (.sh l.pv))
      rw [set_same hσ] at p2
      refine .mk (Z:=Z') el' (by rw [eg,Ev.set_mu]; exact hg) z ?_
      rw [eg]
      exact (s2.perm p2).consS r
  cases l with
  | sh p=>
    obtain ⟨v,e1,e2⟩:=s1.1 _ List.mem_cons_self
    exact ⟨v,hσ.trans (congrArg some e1),fin rfl z e1 s1 e2⟩
  | own p=>
    obtain ⟨Z',sz,eg,z',s'⟩:=s1.freeze z
    obtain ⟨v,e1,e2⟩:=s'.1 _ List.mem_cons_self
    exact ⟨v,hσ.trans (congrArg some e1),fin eg z' e1 s' e2⟩
theorem SR.store {i:Nat} (h:SR K H0 Z0 σ H ρ ((v,l)::pd)) (hi:i < ρ.vs.length):SR K H0 Z0 (σ.set i (some v)) H (ρ.set i (some l)) pd:=by
  obtain ⟨el,Z,hg,z,s⟩:=h.top
  have hρ:ρ.vs[i]?=some ρ.vs[i]:=List.getElem?_eq_getElem hi
  obtain ⟨R,x,hσ,h1,h2⟩:=sl_var el hρ
  refine ⟨by rw [List.length_set,Ev.set_len]; exact el,Z,hg,z,?_⟩
  refine (Slots.sub (L:=(some v,some l)::((x,ρ.vs[i])::(cel Z.g ρ.mu++(R++pd.map fun e=>(some e.1,some e.2))))) (s.perm ((h1 Z.g pd).symm.cons _)) ?_).perm (h2 Z.g pd (some v) (some l))
  exact (List.sublist_cons_self _ _).cons_cons _
theorem SR.take {i:Nat} (h:SR K H0 Z0 σ H ρ pd) (e:ρ.vs[i]?=some (some l)):∃ v,σ[i]?=some (some v)/\SR K H0 Z0 σ H (ρ.set i none) ((v,l)::pd):=by
  obtain ⟨el,Z,hg,z,s⟩:=h
  obtain ⟨R,x,hσ,h1,h2⟩:=sl_var el e
  have s1:=s.perm (h1 Z.g pd).symm
  obtain ⟨v,hv⟩:∃ v,x=some v:=by
    have q:=s1.1 _ List.mem_cons_self
    cases l with
    | sh p=>obtain ⟨x,e1,_⟩:=q; exact ⟨x,e1⟩
    | own p=>obtain ⟨a,e1,_⟩:=q; exact ⟨_,e1⟩
  subst hv
  refine ⟨v,hσ,.mk (Z:=Z) (by rw [Ev.set_len]; exact el) hg z ?_⟩
  have p2:=h2 Z.g pd (some v) none
  rw [set_same hσ] at p2
  refine Slots.perm ?_ (p2.cons _)
  have ht:Slots K H0 Z H ((some v,none)::(some v,some l)::(cel Z.g ρ.mu++(R++pd.map fun e=>(some e.1,some e.2)))):=by
    refine ⟨fun e he=>?_,?_⟩
    · rcases List.mem_cons.mp he with rfl | he
      · trivial
      · exact s1.1 e he
    · have:oad (some v,none)=none:=by cases v <;> rfl
      rw [List.filterMap_cons_none this]
      exact s1.2
  exact ht.perm (List.Perm.swap _ _ _)
theorem SR.put {i:Nat} (h:SR K H0 Z0 σ H ρ ((v,l)::pd)) (e:σ[i]?=some (some v)):SR K H0 Z0 σ H (ρ.set i (some l)) pd:=by
  have hi:i < ρ.vs.length:=by rw [← h.1]; exact (List.getElem?_eq_some_iff.mp e).1
  have:=h.store hi
  rw [set_same e] at this
  exact this
end
noncomputable abbrev EF:=Ev->Option (Lc × Ev)
noncomputable abbrev TF:=Ev->Option (Bool × Ev)
noncomputable abbrev AF:=Ev->Option (List Lc × Ev)
inductive Fl where
  | nx (ρ:Ev)
  | rt (r:Lc) (ρ:Ev)
  | bk (ρ:Ev)
  | ct (ρ:Ev)
noncomputable abbrev SF:=Ev->Option Fl
noncomputable def tP (K:FG) (f:EF):TE:=fun σ H Q=>∃ H0 Z0 ρ pd r ρ',SR K H0 Z0 σ H ρ pd/\f ρ=some (r,ρ')/\∀ v H',SR K H0 Z0 σ H' ρ' ((v,r)::pd)->Q v H'
noncomputable def tPT (K:FG) (f:TF):TT:=fun σ H Q=>∃ H0 Z0 ρ pd b ρ',SR K H0 Z0 σ H ρ pd/\f ρ=some (b,ρ')/\∀ H',SR K H0 Z0 σ H' ρ' pd->Q b H'
noncomputable def tPA (K:FG) (f:AF):TA:=fun σ H Q=>∃ H0 Z0 ρ pd ls ρ',SR K H0 Z0 σ H ρ pd/\f ρ=some (ls,ρ')/\∀ vs H',vs.length=ls.length->SR K H0 Z0 σ H' ρ' (vs.zip ls++pd)->Q vs H'
noncomputable def FlOk (K:FG) (H0:Hp) (Z0:ZG) (pd:Pd) (D:Ends):Fl->Prop
  | .nx ρ'=>∀ σ' H',SR K H0 Z0 σ' H' ρ' pd->D.nx σ' H'
  | .rt r ρ'=>∀ v σ' H',SR K H0 Z0 σ' H' ρ' ((v,r)::pd)->D.rt v H'
  | .bk ρ'=>∀ σ' H',SR K H0 Z0 σ' H' ρ' pd->D.bk σ' H'
  | .ct ρ'=>∀ σ' H',SR K H0 Z0 σ' H' ρ' pd->D.ct σ' H'
noncomputable def tPs (K:FG) (g:SF):TS:=fun D σ H=>∃ H0 Z0 ρ pd fl,SR K H0 Z0 σ H ρ pd/\g ρ=some fl/\FlOk K H0 Z0 pd D fl
section
variable {X:Cx} {e:Expr} {es:List Expr} {st:Stmt} {sts:List Stmt}
theorem PE.imp {t t':TE} (h:PE X e t) (i:∀ σ H Q,t' σ H Q->t σ H Q):PE X e t':=fun pins s σ H Q I q=>h pins s σ H Q I (i σ H Q q)
theorem PT.imp {t t':TT} (h:PT X e t) (i:∀ σ H Q,t' σ H Q->t σ H Q):PT X e t':=fun pins s σ H Q I q=>h pins s σ H Q I (i σ H Q q)
theorem PW.imp {t t':TT} (h:PW X e t) (i:∀ σ H Q,t' σ H Q->t σ H Q):PW X e t':=fun wh pins s σ H Q I q=>h wh pins s σ H Q I (i σ H Q q)
theorem PA.imp {t t':TA} (h:PA X es t) (i:∀ σ H Q,t' σ H Q->t σ H Q):PA X es t':=fun pos pins s σ H Q I q=>h pos pins s σ H Q I (i σ H Q q)
theorem PS.imp {t t':TS} (h:PS X st t) (i:∀ D σ H,t' D σ H->t D σ H):PS X st t':=fun pins s σ H D I q=>h pins s σ H D I (i D σ H q)
theorem PSs.imp {t t':TS} (h:PSs X sts t) (i:∀ D σ H,t' D σ H->t D σ H):PSs X sts t':=fun pins s σ H D I q=>h pins s σ H D I (i D σ H q)
noncomputable def eVar (i:Nat):EF:=fun ρ=>match ρ.vs[i]? with
  | some (some l)=>some (.sh l.pv,ρ.set i (some (.sh l.pv)))
  | _=>none
noncomputable def eC (p:PV):EF:=fun ρ=>some (.sh p,ρ)
theorem qv {i:Nat} (h:PE X e (tVar i)):PE X e (tP X.K (eVar i)):=PE.imp h fun σ H Q q=>by
  obtain ⟨H0,Z0,ρ,pd,r,ρ',s,f,k⟩:=q
  unfold eVar at f
  split at f
  · rename_i l e1
    cases f
    obtain ⟨v,h1,h2⟩:=s.var e1
    exact ⟨v,h1,k v H h2⟩
  · cases f
theorem qc {p:PV} {v:V} (h:PE X e (tC v)) (r:∀ Z,Rep X.K Z p v):PE X e (tP X.K (eC p)):=PE.imp h fun σ H Q q=>by
  obtain ⟨H0,Z0,ρ,pd,l,ρ',s,f,k⟩:=q
  cases f
  exact k v H (s.scal r)
theorem rep_int {i:Int}:∀ Z,Rep K Z (.int i) (.int i):=fun Z=>by unfold Rep; rfl
theorem rep_str {i:Str}:∀ Z,Rep K Z (.str i) (.str i):=fun Z=>by unfold Rep; rfl
theorem rep_bl {i:Bool}:∀ Z,Rep K Z (.bl i) (.bl i):=fun Z=>by unfold Rep; rfl
theorem rep_non:∀ Z,Rep K Z .non .non:=fun Z=>by unfold Rep; rfl
noncomputable def OpS (K:FG) (r:R2) (g:PV->PV->Option Lc):Prop:=∀ H0 Z0 σ ρ pd H v w x y l Q,SR K H0 Z0 σ H ρ ((w,.sh y)::(v,.sh x)::pd)->g x y=some l->(∀ u H',SR K H0 Z0 σ H' ρ ((u,l)::pd)->Q u H')->r v w H Q
noncomputable def eOp (g:PV->PV->Option Lc) (fa fb:EF):EF:=fun ρ=>(fa ρ).bind fun x=>(fb x.2).bind fun y=>(g x.1.pv y.1.pv).map fun l=>(l,y.2)
theorem eOp_some {g:PV->PV->Option Lc} {fa fb:EF} {ρ ρ':Ev} {l:Lc} (h:eOp g fa fb ρ=some (l,ρ')):∃ x ρ1 y,fa ρ=some (x,ρ1)/\fb ρ1=some (y,ρ')/\g x.pv y.pv=some l:=by
  unfold eOp at h
  cases h1:fa ρ with
  | none=>rw [h1] at h; cases h
  | some x=>
    rw [h1,Option.bind_some] at h
    cases h2:fb x.2 with
    | none=>rw [h2] at h; cases h
    | some y=>
      rw [h2,Option.bind_some] at h
      cases h3:g x.1.pv y.1.pv with
      | none=>rw [h3] at h; cases h
      | some z=>
        rw [h3] at h
        cases h
        exact ⟨x.1,x.2,y.1,rfl,h2,h3⟩
theorem op_imp {r:R2} {g:PV->PV->Option Lc} (hs:OpS X.K r g) {fa fb:EF}:∀ σ H Q,tP X.K (eOp g fa fb) σ H Q->tOp r (tP X.K fa) (tP X.K fb) σ H Q:=fun σ H Q q=>by
  obtain ⟨H0,Z0,ρ,pd,l,ρ',s,f,k⟩:=q
  obtain ⟨x,ρ1,y,h1,h2,h3⟩:=eOp_some f
  refine ⟨H0,Z0,ρ,pd,x,ρ1,s,h1,fun v H1 s1=>⟨H0,Z0,ρ1,_,y,ρ',s1,h2,fun w H2 s2=>?_⟩⟩
  exact hs H0 Z0 σ ρ' pd H2 v w x.pv y.pv l Q (s2.freeze.swap.freeze.swap) h3 fun u H' s3=>k u H' s3
theorem qop {op:Operator} {a b:Expr} {pos:Pos} {r:R2} {g:PV->PV->Option Lc} {fa fb:EF} (ho:OpR X (binaryOp op) r) (hs:OpS X.K r g) (ha:PE X a (tP X.K fa)) (hb:PE X b (tP X.K fb)):PE X (.BinOp a op b pos) (tP X.K (eOp g fa fb)):=
  PE.imp (pe_op ho ha hb) (op_imp hs)
theorem qcmp {op:CmpOp} {a b:Expr} {pos:Pos} {r:R2} {g:PV->PV->Option Lc} {fa fb:EF} (ho:OpR X (compareOp op) r) (hs:OpS X.K r g) (ha:PE X a (tP X.K fa)) (hb:PE X b (tP X.K fb)) (hm:behindInMarks op b=false):PE X (.Compare a [op] [b] pos) (tP X.K (eOp g fa fb)):=
  PE.imp (pe_cmpR ho ha hb hm) (op_imp hs)
noncomputable def iOp (C:Int->Int->Bool) (g:Int->Int->PV):PV->PV->Option Lc
  | .int i,.int j=>if C i j=true then some (.sh (g i j)) else none
  | _,_=>none
theorem iOp_some {C:Int->Int->Bool} {g:Int->Int->PV} {x y:PV} {l:Lc} (h:iOp C g x y=some l):∃ i j,x=.int i/\y=.int j/\C i j=true/\l=.sh (g i j):=by
  cases x with
  | int i=>
    cases y with
    | int j=>
      have h':(if C i j=true then some (Lc.sh (g i j)) else none)=some l:=h
      split at h'
      · rename_i c; cases h'; exact ⟨i,j,rfl,rfl,c,rfl⟩
      · cases h'
    | _=>cases h
  | _=>cases h
theorem rep_int_inv {Z:ZG} {i:Int} {v:V} (h:Rep K Z (.int i) v):v=.int i:=by unfold Rep at h; exact h
theorem rep_str_inv {Z:ZG} {i:Str} {v:V} (h:Rep K Z (.str i) v):v=.str i:=by unfold Rep at h; exact h
theorem rep_bl_inv {Z:ZG} {i:Bool} {v:V} (h:Rep K Z (.bl i) v):v=.bl i:=by unfold Rep at h; exact h
theorem rep_non_inv {Z:ZG} {v:V} (h:Rep K Z .non v):v=.non:=by unfold Rep at h; exact h
theorem ops_I {C':Int->Int->Prop} {C:Int->Int->Bool} {gV:Int->Int->V} {g:Int->Int->PV} (hc:∀ i j,C i j=true->C' i j) (hg:∀ i j Z,Rep K Z (g i j) (gV i j)):OpS K (rI C' gV) (iOp C g):=by
  intro H0 Z0 σ ρ pd H v w x y l Q s e k
  obtain ⟨i,j,rfl,rfl,c,rfl⟩:=iOp_some e
  obtain ⟨_,rw'⟩:=s.repH
  obtain ⟨_,rv'⟩:=s.pop.repH
  have hw:=rep_int_inv rw'
  have hv:=rep_int_inv rv'
  exact ⟨i,j,hv,hw,hc i j c,k _ H (s.pop.pop.scal (hg i j))⟩
theorem ops_I0 {gV:Int->Int->V} {g:Int->Int->PV} (hg:∀ i j Z,Rep K Z (g i j) (gV i j)):OpS K (rI0 gV) (iOp (fun _ _=>true) g):=by
  intro H0 Z0 σ ρ pd H v w x y l Q s e k
  obtain ⟨i,j,rfl,rfl,c,rfl⟩:=iOp_some e
  obtain ⟨_,rw'⟩:=s.repH
  obtain ⟨_,rv'⟩:=s.pop.repH
  exact ⟨i,j,rep_int_inv rv',rep_int_inv rw',k _ H (s.pop.pop.scal (hg i j))⟩
end
section
variable {X:Cx}
section
variable {K:FG} {H0 H H':Hp} {Z0 Z:ZG} {σ:L2.St} {ρ:Ev} {pd pd':Pd} {v w:V} {l:Lc} {p:PV} {g:List Addr}
theorem SR.newO (h:SR K H0 Z0 σ H ρ pd) {a:Addr} {o:HO} (ha:H a=none) (hp:∀ Z,ZOk H0 Z0 Z H->Slots K H0 Z H (sl Z.g σ ρ pd)->RepO K Z (upd H a o) a p):SR K H0 Z0 σ (upd H a o) ρ ((.ref a,.own p)::pd):=by
  obtain ⟨e,Z,hg,z,s⟩:=h
  obtain ⟨z',s'⟩:=s.new z ha (hp Z z s)
  exact .mk e hg z' s'
theorem perm3 {α:Type} (A B C:List α):List.Perm (A++(B++C)) (B++(A++C)):=by
  rw [← List.append_assoc A B C,← List.append_assoc B A C]
  exact List.perm_append_comm.append_right _
theorem sl_app {pe:Pd}:List.Perm (sl g σ ρ (pe++pd)) (pe.map (fun e=>((some e.1:Option V),(some e.2:Option Lc)))++sl g σ ρ pd):=by
  unfold sl
  rw [List.map_append]
  exact ((perm3 _ _ _).append_left _).trans (perm3 _ _ _)
theorem SR.freezeAll:∀ {vs:List V} {ls:List Lc} {pd:Pd},SR K H0 Z0 σ H ρ (vs.zip ls++pd)->SR K H0 Z0 σ H ρ (vs.zip (ls.map fun l=>.sh l.pv)++pd)
  | [],ls,pd,h=>by simpa using h
  | v::vs,[],pd,h=>by simpa using h
  | v::vs,l::ls,pd,h=>by
    have h1:SR K H0 Z0 σ H ρ ((v,l)::(vs.zip ls++pd)):=h
    have h2:=h1.freeze.perm (pd':=vs.zip ls++((v,.sh l.pv)::pd)) List.perm_middle
    have h3:=SR.freezeAll h2
    exact h3.perm (pd':=(v,.sh l.pv)::(vs.zip (ls.map fun l=>.sh l.pv)++pd)) List.perm_middle.symm
theorem Slots.repl {L:Sl}:∀ {vs:List V} {ps:List PV},vs.length=ps.length->Slots K H0 Z H ((vs.zip (ps.map fun p=>Lc.sh p)).map (fun e=>(some e.1,some e.2))++L)->RepL K Z ps vs
  | [],[],_,_=>.nil
  | v::vs,p::ps,e,h=>by
    have h1:Slots K H0 Z H ((some v,some (.sh p))::((vs.zip (ps.map fun p=>Lc.sh p)).map (fun e=>(some e.1,some e.2))++L)):=h
    obtain ⟨x,e1,e2⟩:=h1.1 _ List.mem_cons_self
    cases e1
    exact RepL.cons e2 (Slots.repl (by simpa using e) (h1.sub (List.sublist_cons_self _ _)))
  | [],p::ps,e,_=>by simp at e
  | v::vs,[],e,_=>by simp at e
theorem SR.repl {vs:List V} {ls:List Lc} (h:SR K H0 Z0 σ H ρ (vs.zip ls++pd)) (e:vs.length=ls.length):σ.length=ρ.vs.length/\∃ Z,ρ.mu.length=Z.g.length/\ZOk H0 Z0 Z H/\RepL K Z (ls.map Lc.pv) vs/\Slots K H0 Z H (sl Z.g σ ρ pd):=by
  obtain ⟨el,Z,hg,z,s⟩:=h.freezeAll
  have hm:(ls.map fun l=>Lc.sh l.pv)=(ls.map Lc.pv).map fun p=>Lc.sh p:=by rw [List.map_map]; rfl
  rw [hm] at s
  have pm:List.Perm (sl Z.g σ ρ (vs.zip ((ls.map Lc.pv).map fun p=>Lc.sh p)++pd)) ((vs.zip ((ls.map Lc.pv).map fun p=>Lc.sh p)).map (fun e=>(some e.1,some e.2))++sl Z.g σ ρ pd):=sl_app
  have s':=s.perm pm.symm
  exact ⟨el,Z,hg,z,Slots.repl (by simpa using e) s',s'.sub (List.sublist_append_right _ _)⟩
end
theorem ln1 {α:Type} {l:List α} (h:l.length=1):∃ a,l=[a]:=List.length_eq_one_iff.mp h
theorem ln2 {α:Type} {l:List α} (h:l.length=2):∃ a b,l=[a,b]:=by
  cases l with
  | nil=>cases h
  | cons a l=>obtain ⟨b,rfl⟩:=ln1 (Nat.succ.inj h); exact ⟨a,b,rfl⟩
theorem ln3 {α:Type} {l:List α} (h:l.length=3):∃ a b c,l=[a,b,c]:=by
  cases l with
  | nil=>cases h
  | cons a l=>obtain ⟨b,c,rfl⟩:=ln2 (Nat.succ.inj h); exact ⟨a,b,c,rfl⟩
theorem ln4 {α:Type} {l:List α} (h:l.length=4):∃ a b c d,l=[a,b,c,d]:=by
  cases l with
  | nil=>cases h
  | cons a l=>obtain ⟨b,c,d,rfl⟩:=ln3 (Nat.succ.inj h); exact ⟨a,b,c,d,rfl⟩
theorem ln5 {α:Type} {l:List α} (h:l.length=5):∃ a b c d e,l=[a,b,c,d,e]:=by
  cases l with
  | nil=>cases h
  | cons a l=>obtain ⟨b,c,d,e,rfl⟩:=ln4 (Nat.succ.inj h); exact ⟨a,b,c,d,e,rfl⟩
noncomputable def aNil:AF:=fun ρ=>some ([],ρ)
noncomputable def aCons (f:EF) (g:AF):AF:=fun ρ=>(f ρ).bind fun x=>(g x.2).map fun y=>(x.1::y.1,y.2)
theorem qa_nil:PA X [] (tPA X.K aNil):=PA.imp pa_nil fun σ H Q q=>by
  obtain ⟨H0,Z0,ρ,pd,l,ρ',s,f,k⟩:=q
  cases f
  exact k [] H rfl s
theorem qa_cons {e:Expr} {es:List Expr} {f:EF} {g:AF} (ha:PE X e (tP X.K f)) (hr:PA X es (tPA X.K g)) (hs:starEach (e::es) X.env=(false,eval e X.env)::starEach es X.env:=by rfl):PA X (e::es) (tPA X.K (aCons f g)):=PA.imp (pa_cons ha hr hs) fun σ H Q q=>by
  obtain ⟨H0,Z0,ρ,pd,l,ρ',s,h,k⟩:=q
  unfold aCons at h
  cases h1:f ρ with
  | none=>rw [h1] at h; cases h
  | some x=>
    rw [h1,Option.bind_some] at h
    cases h2:g x.2 with
    | none=>rw [h2] at h; cases h
    | some y=>
      rw [h2] at h
      cases h
      refine ⟨H0,Z0,ρ,pd,x.1,x.2,s,h1,fun v H1 s1=>⟨H0,Z0,x.2,_,y.1,y.2,s1,h2,fun vs H2 e2 s2=>?_⟩⟩
      refine k (v::vs) H2 (by simp [e2]) (s2.perm (pd':=(v,x.1)::(vs.zip y.1++pd)) List.perm_middle.symm)
noncomputable def eLst (g:AF):EF:=fun ρ=>(g ρ).bind fun y=>if y.1.length<=1000 then some (.own (.lst (y.1.map Lc.pv)),y.2) else none
noncomputable def eTup (g:AF):EF:=fun ρ=>(g ρ).bind fun y=>if y.1.length<=1000 then some (.sh (.tup (y.1.map Lc.pv)),y.2) else none
theorem small {n:Nat} (h:n<=100000):n<=sizeLine:=by rw [sizeLine_eq]; omega
theorem qlst {es:List Expr} {g:AF} {pos:Pos} (h:PA X es (tPA X.K g)):PE X (.List es pos) (tP X.K (eLst g)):=PE.imp (pe_lst h) fun σ H Q q=>by
  obtain ⟨H0,Z0,ρ,pd,l,ρ',s,f,k⟩:=q
  unfold eLst at f
  cases h2:g ρ with
  | none=>rw [h2] at f; cases f
  | some y=>
    rw [h2,Option.bind_some] at f
    split at f
    · rename_i hl
      cases f
      refine ⟨H0,Z0,ρ,pd,y.1,y.2,s,h2,fun vs H2 e2 s2=>⟨small (by omega),fun p hp=>k _ _ ?_⟩⟩
      obtain ⟨el,Z,hg,z,r,sl'⟩:=s2.repl e2
      obtain ⟨z',s'⟩:=sl'.new (o:=.lst vs) (p:=.lst (y.1.map Lc.pv)) z hp ⟨vs,upd_same,r⟩
      exact .mk el hg z' s'
    · cases f
theorem qtup {es:List Expr} {g:AF} {x1} {pos:Pos} (h:PA X es (tPA X.K g)):PE X (.Tuple es x1 pos) (tP X.K (eTup g)):=PE.imp (pe_tup h) fun σ H Q q=>by
  obtain ⟨H0,Z0,ρ,pd,l,ρ',s,f,k⟩:=q
  unfold eTup at f
  cases h2:g ρ with
  | none=>rw [h2] at f; cases f
  | some y=>
    rw [h2,Option.bind_some] at f
    split at f
    · rename_i hl
      cases f
      refine ⟨H0,Z0,ρ,pd,y.1,y.2,s,h2,fun vs H2 e2 s2=>⟨small (by omega),fun p hp=>k _ _ ?_⟩⟩
      obtain ⟨el,Z,hg,z,r,sl'⟩:=s2.repl e2
      obtain ⟨z',sz,s'⟩:=sl'.newF (o:=.tup vs) z hp
      refine .mk (Z:=Z.put p (.tup vs)) el hg z' (s'.consS ?_)
      unfold Rep
      exact ⟨p,vs,rfl,SqT.of upd_same,r.mono sz⟩
    · cases f
noncomputable def tT (f:EF) (tr:PV->Option Bool):TF:=fun ρ=>(f ρ).bind fun x=>(tr x.1.pv).map fun b=>(b,x.2)
noncomputable def truP:PV->Option Bool
  | .non=>some false
  | .bl b=>some b
  | .int i=>some (i != 0)
  | .str x=>if x.length<=100000 then some ((x.length:Int) != 0) else none
  | .tup ps=>some (!ps.isEmpty)
  | .lst ps=>some (!ps.isEmpty)
  | .dk ks ps=>some (!ps.isEmpty)
  | _=>none
theorem truV {H:Hp} {g:List Addr} {p:PV} {v:V} {b:Bool} (r:Rep K ⟨H,g⟩ p v) (h:truP p=some b):TruV K v H b:=by
  cases p with
  | non=>have:=rep_non_inv r; subst this; cases h; exact rfl
  | bl c=>have:=rep_bl_inv r; subst this; cases h; exact rfl
  | int i=>have:=rep_int_inv r; subst this; cases h; exact rfl
  | str x=>
    have:=rep_str_inv r; subst this
    have h:(if x.length<=100000 then some ((x.length:Int) != 0) else none)=some b:=h
    split at h
    · rename_i hl; cases h; exact ⟨small hl,rfl⟩
    · cases h
  | tup ps=>
    unfold Rep at r
    obtain ⟨a,vs,rfl,h1,h2⟩:=r
    cases h
    refine .inr (.inl ⟨vs,h1,?_⟩)
    have:=h2.length
    cases ps <;> cases vs <;> simp at this <;> rfl
  | lst ps=>
    unfold Rep at r
    obtain ⟨a,vs,rfl,h1,h2⟩:=r
    cases h
    refine .inl ⟨vs,h1,?_⟩
    have:=h2.length
    cases ps <;> cases vs <;> simp at this <;> rfl
  | dk ks ps=>
    unfold Rep at r
    obtain ⟨a,kvs,rfl,h1,h3,h2⟩:=r
    cases h
    refine .inr (.inr ⟨kvs,h1,?_⟩)
    have:=h2.length
    cases ps <;> cases kvs <;> simp at this <;> rfl
  | _=>cases h
theorem tT_some {f:EF} {tr:PV->Option Bool} {ρ ρ':Ev} {b:Bool} (h:tT f tr ρ=some (b,ρ')):∃ x,f ρ=some (x,ρ')/\tr x.pv=some b:=by
  unfold tT at h
  cases h1:f ρ with
  | none=>rw [h1] at h; cases h
  | some x=>
    rw [h1,Option.bind_some] at h
    cases h2:tr x.1.pv with
    | none=>rw [h2] at h; cases h
    | some y=>rw [h2] at h; cases h; exact ⟨x.1,rfl,h2⟩
theorem qtruth {a:Expr} {f:EF} (ha:PE X a (tP X.K f)) (he:∀ whole,isTrue a X.env whole=(do let v ← whole; standAt a.pos; holding [v] (truthy v))):PT X a (tPT X.K (tT f truP)):=PT.imp (pt_truth ha he) fun σ H Q q=>by
  obtain ⟨H0,Z0,ρ,pd,b,ρ',s,f',k⟩:=q
  obtain ⟨x,h1,h2⟩:=tT_some f'
  refine ⟨H0,Z0,ρ,pd,x,ρ',s,h1,fun v H1 s1=>⟨b,truV s1.freeze.repH.choose_spec h2,k H1 s1.pop⟩⟩
noncomputable def blP:PV->Option Bool
  | .bl b=>some b
  | _=>none
theorem qtest {a:Expr} {f:EF} (ha:PT X a (tTest (tP X.K f))):PT X a (tPT X.K (tT f blP)):=PT.imp ha fun σ H Q q=>by
  obtain ⟨H0,Z0,ρ,pd,b,ρ',s,f',k⟩:=q
  obtain ⟨x,h1,h2⟩:=tT_some f'
  refine ⟨H0,Z0,ρ,pd,x,ρ',s,h1,fun v H1 s1=>⟨b,?_,k H1 s1.pop⟩⟩
  obtain ⟨_,r⟩:=s1.freeze.repH
  cases e:x.pv with
  | bl c=>rw [e] at h2 r; cases h2; exact rep_bl_inv r
  | _=>rw [e] at h2; cases h2
theorem qtcmp {op:CmpOp} {a b:Expr} {pos:Pos} {r:R2} {g:PV->PV->Option Lc} {fa fb:EF} (ho:OpR X (compareOp op) r) (hs:OpS X.K r g) (ha:PE X a (tP X.K fa)) (hb:PE X b (tP X.K fb)) (hm:behindInMarks op b=false):PT X (.Compare a [op] [b] pos) (tPT X.K (tT (eOp g fa fb) blP)):=
  qtest (PT.imp (pt_cmpR ho ha hb hm) fun σ H Q q=>op_imp hs σ H _ q)
noncomputable def tAndF (f g:TF):TF:=fun ρ=>(f ρ).bind fun x=>if x.1=true then g x.2 else some (false,x.2)
noncomputable def tOrF (f g:TF):TF:=fun ρ=>(f ρ).bind fun x=>if x.1=true then some (true,x.2) else g x.2
noncomputable def tNotF (f:TF):TF:=fun ρ=>(f ρ).map fun x=>(!x.1,x.2)
theorem and_imp {f g:TF}:∀ σ H Q,tPT X.K (tAndF f g) σ H Q->tAnd (tPT X.K f) (tPT X.K g) σ H Q:=fun σ H Q q=>by
  obtain ⟨H0,Z0,ρ,pd,b,ρ',s,h,k⟩:=q
  unfold tAndF at h
  cases h1:f ρ with
  | none=>rw [h1] at h; cases h
  | some x=>
    rw [h1,Option.bind_some] at h
    refine ⟨H0,Z0,ρ,pd,x.1,x.2,s,h1,fun H1 s1=>?_⟩
    dsimp only
    split
    · rename_i c; rw [if_pos c] at h; exact ⟨H0,Z0,x.2,pd,b,ρ',s1,h,k⟩
    · rename_i c; rw [if_neg c] at h; cases h; exact k H1 s1
theorem or_imp {f g:TF}:∀ σ H Q,tPT X.K (tOrF f g) σ H Q->tOr (tPT X.K f) (tPT X.K g) σ H Q:=fun σ H Q q=>by
  obtain ⟨H0,Z0,ρ,pd,b,ρ',s,h,k⟩:=q
  unfold tOrF at h
  cases h1:f ρ with
  | none=>rw [h1] at h; cases h
  | some x=>
    rw [h1,Option.bind_some] at h
    refine ⟨H0,Z0,ρ,pd,x.1,x.2,s,h1,fun H1 s1=>?_⟩
    dsimp only
    split
    · rename_i c; rw [if_pos c] at h; cases h; exact k H1 s1
    · rename_i c; rw [if_neg c] at h; exact ⟨H0,Z0,x.2,pd,b,ρ',s1,h,k⟩
theorem qw_and1 {a:Expr} {f:TF} {pos:Pos} (ha:PT X a (tPT X.K f)):PW X (.BoolOp .And [a] pos) (tPT X.K f):=pw_and1 ha
theorem qw_or1 {a:Expr} {f:TF} {pos:Pos} (ha:PT X a (tPT X.K f)):PW X (.BoolOp .Or [a] pos) (tPT X.K f):=pw_or1 ha
theorem qw_and {a b:Expr} {rest:List Expr} {f g:TF} {pos:Pos} (ha:PT X a (tPT X.K f)) (hb:PW X (.BoolOp .And (b::rest) pos) (tPT X.K g)):PW X (.BoolOp .And (a::b::rest) pos) (tPT X.K (tAndF f g)):=PW.imp (pw_and ha hb) and_imp
theorem qw_or {a b:Expr} {rest:List Expr} {f g:TF} {pos:Pos} (ha:PT X a (tPT X.K f)) (hb:PW X (.BoolOp .Or (b::rest) pos) (tPT X.K g)):PW X (.BoolOp .Or (a::b::rest) pos) (tPT X.K (tOrF f g)):=PW.imp (pw_or ha hb) or_imp
theorem qt_not {a:Expr} {f:TF} {pos:Pos} (ha:PT X a (tPT X.K f)):PT X (.UnaryOp .Not a pos) (tPT X.K (tNotF f)):=PT.imp (pt_not ha) fun σ H Q q=>by
  obtain ⟨H0,Z0,ρ,pd,b,ρ',s,h,k⟩:=q
  unfold tNotF at h
  cases h1:f ρ with
  | none=>rw [h1] at h; cases h
  | some x=>
    rw [h1] at h
    cases h
    exact ⟨H0,Z0,ρ,pd,x.1,x.2,s,h1,fun H1 s1=>k H1 s1⟩
noncomputable def eAnd (f g:EF):EF:=fun ρ=>(f ρ).bind fun x=>match x.1.pv with
  | .bl true=>g x.2
  | .bl false=>some (.sh (.bl false),x.2)
  | _=>none
noncomputable def eNot (f:EF):EF:=fun ρ=>(f ρ).bind fun x=>match x.1.pv with
  | .bl b=>some (.sh (.bl (!b)),x.2)
  | _=>none
theorem qone {op} {a:Expr} {f:EF} {pos:Pos} (h:PE X a (tP X.K f)):PE X (.BoolOp op [a] pos) (tP X.K f):=pe_one h
theorem qand {a b:Expr} {rest:List Expr} {f g:EF} {pos:Pos} (ha:PE X a (tP X.K f)) (hb:PE X (.BoolOp .And (b::rest) pos) (tP X.K g)):PE X (.BoolOp .And (a::b::rest) pos) (tP X.K (eAnd f g)):=PE.imp (pe_and ha hb) fun σ H Q q=>by
  obtain ⟨H0,Z0,ρ,pd,b,ρ',s,h,k⟩:=q
  unfold eAnd at h
  cases h1:f ρ with
  | none=>rw [h1] at h; cases h
  | some x=>
    rw [h1,Option.bind_some] at h
    refine ⟨H0,Z0,ρ,pd,x.1,x.2,s,h1,fun v H1 s1=>?_⟩
    obtain ⟨_,r⟩:=s1.freeze.repH
    split at h
    · rename_i e
      rw [e] at r
      refine ⟨true,rep_bl_inv r,?_⟩
      rw [if_pos rfl]
      exact ⟨H0,Z0,x.2,pd,b,ρ',s1.pop,h,k⟩
    · rename_i e
      rw [e] at r
      refine ⟨false,rep_bl_inv r,?_⟩
      rw [if_neg Bool.false_ne_true]
      cases h
      exact k _ H1 (s1.pop.scal rep_bl)
    · cases h
theorem qnot {a:Expr} {f:EF} {pos:Pos} (ha:PE X a (tP X.K f)):PE X (.UnaryOp .Not a pos) (tP X.K (eNot f)):=PE.imp (pe_not ha) fun σ H Q q=>by
  obtain ⟨H0,Z0,ρ,pd,b,ρ',s,h,k⟩:=q
  unfold eNot at h
  cases h1:f ρ with
  | none=>rw [h1] at h; cases h
  | some x=>
    rw [h1,Option.bind_some] at h
    refine ⟨H0,Z0,ρ,pd,x.1,x.2,s,h1,fun v H1 s1=>?_⟩
    obtain ⟨_,r⟩:=s1.freeze.repH
    split at h
    · rename_i c e
      rw [e] at r
      cases h
      exact ⟨c,rep_bl_inv r,k _ H1 (s1.pop.scal rep_bl)⟩
    · cases h
end
section
variable {X:Cx}
noncomputable def sNil:SF:=fun ρ=>some (.nx ρ)
noncomputable def sSeq (f g:SF):SF:=fun ρ=>(f ρ).bind fun x=>match x with
  | .nx ρ'=>g ρ'
  | y=>some y
theorem qss_nil:PSs X [] (tPs X.K sNil):=PSs.imp pss_nil fun D σ H q=>by
  obtain ⟨H0,Z0,ρ,pd,fl,s,h,k⟩:=q
  cases h
  exact k σ H s
theorem qss_cons {st:Stmt} {rest:List Stmt} {f g:SF} (h1:PS X st (tPs X.K f)) (h2:PSs X rest (tPs X.K g)):PSs X (st::rest) (tPs X.K (sSeq f g)):=PSs.imp (pss_cons h1 h2) fun D σ H q=>by
  obtain ⟨H0,Z0,ρ,pd,fl,s,h,k⟩:=q
  unfold sSeq at h
  cases e:f ρ with
  | none=>rw [e] at h; cases h
  | some x=>
    rw [e,Option.bind_some] at h
    refine ⟨H0,Z0,ρ,pd,x,s,e,?_⟩
    cases x with
    | nx ρ'=>exact fun σ' H' s'=>⟨H0,Z0,ρ',pd,fl,s',h,k⟩
    | rt r ρ'=>cases h; exact k
    | bk ρ'=>cases h; exact k
    | ct ρ'=>cases h; exact k
theorem qss_one {st:Stmt} {f:SF} (h1:PS X st (tPs X.K f)):PSs X [st] (tPs X.K f):=pss_one h1
noncomputable def sExpr (f:EF):SF:=fun ρ=>(f ρ).map fun x=>.nx x.2
theorem map_some {α β:Type} {o:Option α} {f:α->β} {b:β} (h:o.map f=some b):∃ a,o=some a/\f a=b:=by
  cases o with
  | none=>cases h
  | some a=>exact ⟨a,rfl,Option.some.inj h⟩
theorem bind_some {α β:Type} {o:Option α} {f:α->Option β} {b:β} (h:o.bind f=some b):∃ a,o=some a/\f a=some b:=by
  cases o with
  | none=>cases h
  | some a=>exact ⟨a,rfl,h⟩
theorem qs_expr {e:Expr} {pos:Pos} {f:EF} (he:PE X e (tP X.K f)) (hs:swapsWith e none pos.line X.env=pure false:=by rfl):PS X (.Expr e pos) (tPs X.K (sExpr f)):=PS.imp (ps_expr he hs) fun D σ H q=>by
  obtain ⟨H0,Z0,ρ,pd,fl,s,h,k⟩:=q
  obtain ⟨x,h1,rfl⟩:=map_some h
  exact ⟨H0,Z0,ρ,pd,x.1,x.2,s,h1,fun v H' s'=>k σ H' s'.pop⟩
noncomputable def sRet (f:EF):SF:=fun ρ=>(f ρ).map fun x=>.rt x.1 x.2
theorem qs_ret {e:Expr} {pos:Pos} {f:EF} (he:PE X e (tP X.K f)):PS X (.Return (some e) pos) (tPs X.K (sRet f)):=PS.imp (ps_ret he) fun D σ H q=>by
  obtain ⟨H0,Z0,ρ,pd,fl,s,h,k⟩:=q
  obtain ⟨x,h1,rfl⟩:=map_some h
  exact ⟨H0,Z0,ρ,pd,x.1,x.2,s,h1,fun v H' s'=>k v σ H' s'⟩
noncomputable def sRetV (i:Nat):SF:=fun ρ=>match ρ.vs[i]? with
  | some (some l)=>some (.rt l (ρ.set i none))
  | _=>none
theorem qs_retV {i:Nat} {e:Expr} {pos:Pos} (he:PE X e (tVar i)):PS X (.Return (some e) pos) (tPs X.K (sRetV i)):=PS.imp (ps_ret he) fun D σ H q=>by
  obtain ⟨H0,Z0,ρ,pd,fl,s,h,k⟩:=q
  unfold sRetV at h
  split at h
  · rename_i l e1
    cases h
    obtain ⟨v,h1,h2⟩:=s.take e1
    exact ⟨v,h1,k v σ H h2⟩
  · cases h
noncomputable def sIf (c:TF) (f g:SF):SF:=fun ρ=>(c ρ).bind fun x=>if x.1=true then f x.2 else g x.2
theorem qs_if {c:Expr} {a b:List Stmt} {fc:TF} {f g:SF} {pos:Pos} (hc:PT X c (tPT X.K fc)) (ha:PSs X a (tPs X.K f)) (hb:PSs X b (tPs X.K g)):PS X (.If c a b pos) (tPs X.K (sIf fc f g)):=PS.imp (ps_if hc ha hb) fun D σ H q=>by
  obtain ⟨H0,Z0,ρ,pd,fl,s,h,k⟩:=q
  obtain ⟨x,h1,h2⟩:=bind_some h
  refine ⟨H0,Z0,ρ,pd,x.1,x.2,s,h1,fun H1 s1=>?_⟩
  dsimp only
  split
  · rename_i c; rw [if_pos c] at h2; exact ⟨H0,Z0,x.2,pd,fl,s1,h2,k⟩
  · rename_i c; rw [if_neg c] at h2; exact ⟨H0,Z0,x.2,pd,fl,s1,h2,k⟩
noncomputable def sSet (i:Nat) (f:EF):SF:=fun ρ=>(f ρ).bind fun x=>if i < x.2.vs.length then some (.nx (x.2.set i (some x.1))) else none
theorem set_imp {i:Nat} {f:EF} {t:TS} (h:∀ D σ H,(tP X.K f σ H fun v H1=>D.nx (σ.set i (some v)) H1)->t D σ H):∀ D σ H,tPs X.K (sSet i f) D σ H->t D σ H:=fun D σ H q=>by
  obtain ⟨H0,Z0,ρ,pd,fl,s,h',k⟩:=q
  obtain ⟨x,h1,h2⟩:=bind_some h'
  split at h2
  · rename_i hl
    cases h2
    exact h D σ H ⟨H0,Z0,ρ,pd,x.1,x.2,s,h1,fun v H1 s1=>k _ _ (s1.store hl)⟩
  · cases h2
theorem qs_set {i:Nat} {x:Str} {e:Expr} {pos pos':Pos} {f:EF} (hN:X.N.Nodup) (hi:X.N[i]?=some x) (hx:L2.Loc X.env.scope x) (he:PE X e (tP X.K f)) (hs:swapsWith e (some (.Name x pos')) pos.line X.env=pure false:=by rfl) (hf:X.fn x=true\/X.env.scope.names.lookup x=some .local:=by first | exact .inl rfl | exact .inr rfl | assumption):
    PS X (.Assign [.Name x pos'] e pos) (tPs X.K (sSet i f)):=PS.imp (ps_set hN hi hx he hs hf) (set_imp fun D σ H q=>q)
noncomputable abbrev GF:=List PV->Mu->Option (Lc × Mu)
noncomputable def offg (H:Hp) (g:List Addr):Hp:=fun b=>if b ∈ g then none else H b
theorem offg_of {H:Hp} {g:List Addr} {b:Addr} {o:HO} (h:offg H g b=some o):H b=some o/\b ∉ g:=by
  unfold offg at h
  split at h
  · cases h
  · rename_i q; exact ⟨h,q⟩
theorem offg_mem {H:Hp} {g:List Addr} {b:Addr} (h:b ∈ g):offg H g b=none:=by unfold offg; rw [if_pos h]
theorem offg_not {H:Hp} {g:List Addr} {b:Addr} (h:b ∉ g):offg H g b=H b:=by unfold offg; rw [if_neg h]
noncomputable def ResR (K:FG) (H:Hp) (Z:ZG) (g:List Addr) (H':Hp) (mu':Mu) (v:V) (r:Lc):Prop:=∃ Z',mu'.length=Z'.g.length/\ZOk (offg H g) Z Z' H'/\Slots K (offg H g) Z' H' ((some v,some r)::cel Z'.g mu')
noncomputable def spP (K:FG) (n:Nat) (g:GF):Sp:=fun vs H Q _=>∃ (Z:ZG) (ps:List PV) (mu:Mu) (r:Lc) (mu':Mu),vs.length=n/\mu.length=Z.g.length/\Same Z.z H/\RepL K Z ps vs/\Slots K (offg H (usd Z.g mu)) Z H (cel Z.g mu)/\g ps mu=some (r,mu')/\∀ v H',ResR K H Z (usd Z.g mu) H' mu' v r->Q v H'
noncomputable def eCall (g:GF) (a:AF):EF:=fun ρ=>(a ρ).bind fun y=>(g (y.1.map Lc.pv) y.2.mu).map fun r=>(r.1,⟨y.2.vs,r.2⟩)
theorem cel_mem {g:List Addr} {mu:Mu} {e:Option V × Option Lc} (he:e ∈ cel g mu):∃ a,e.1=some (.ref a)/\(e.2=none\/∃ p,e.2=some (.own p)):=by
  unfold cel at he
  obtain ⟨v,l⟩:=e
  obtain ⟨h1,h2⟩:=List.of_mem_zip he
  obtain ⟨a,_,e1⟩:=List.mem_map.mp h1
  obtain ⟨o,_,e2⟩:=List.mem_map.mp h2
  refine ⟨a,e1.symm,?_⟩
  cases o with
  | none=>exact .inl e2.symm
  | some p=>exact .inr ⟨p,e2.symm⟩
theorem Slots.cells {Z:ZG} (hg:ρ.mu.length=Z.g.length) (s:Slots K H0 Z H (sl Z.g σ ρ pd)):Slots K (offg H (usd Z.g ρ.mu)) Z H (cel Z.g ρ.mu):=by
  have s1:Slots K H0 Z H (cel Z.g ρ.mu):=s.sub (List.sublist_append_left _ _)
  refine ⟨fun e he=>?_,s1.2⟩
  obtain ⟨a,h1,h2⟩:=cel_mem he
  obtain ⟨v,l⟩:=e
  have h1':v=some (.ref a):=h1
  subst h1'
  rcases h2 with h2 | ⟨p,h2⟩
  · have h2':l=none:=h2
    subst h2'; trivial
  · have h2':l=some (.own p):=h2
    subst h2'
    obtain ⟨b,e1,e2,e3,e4⟩:=s1.1 _ he
    cases e1
    exact ⟨a,rfl,e2,e3,offg_mem (List.mem_filterMap.mpr ⟨_,he,rfl⟩)⟩
theorem SR.called {H0 H H':Hp} {Z0 Z:ZG} {v:V} {r:Lc} {mu':Mu} (el:σ.length=ρ.vs.length) (hg:ρ.mu.length=Z.g.length) (z:ZOk H0 Z0 Z H) (s:Slots K H0 Z H (sl Z.g σ ρ pd)) (h:ResR K H Z (usd Z.g ρ.mu) H' mu' v r):SR K H0 Z0 σ H' ⟨ρ.vs,mu'⟩ ((v,r)::pd):=by
  obtain ⟨Z',hg',z',q⟩:=h
  have s1:Slots K H0 Z H (cel Z.g ρ.mu):=s.sub (List.sublist_append_left _ _)
  have s0:Slots K H0 Z H (σ.zip ρ.vs++pd.map fun e=>(some e.1,some e.2)):=s.sub (List.sublist_append_right _ _)
  have nd:(usd Z.g ρ.mu++(σ.zip ρ.vs++pd.map fun e=>(some e.1,some e.2)).filterMap oad).Nodup:=by
    have:=s.2
    unfold sl at this
    rw [List.filterMap_append] at this
    exact this
  have hc0:∀ a ∈ usd Z.g ρ.mu,H0 a=none:=fun a ha=>by
    obtain ⟨e,he,hb⟩:=List.mem_filterMap.mp ha
    exact (own_of s1 he hb).2.1
  have h0:Same H0 (offg H (usd Z.g ρ.mu)):=fun b o e=>by
    rw [offg_not fun hm=>by rw [hc0 b hm] at e; cases e]
    exact z.h0 b o e
  have z2:ZOk H0 Z0 Z' H':=⟨z'.zh,h0.trans z'.h0,z.z0.trans z'.z0,fun b o e=>by
    rcases z'.new b o e with e | e | e
    · exact z.new b o e
    · exact .inr (.inl (h0.free e))
    · exact .inr (.inr e)⟩
  have nog:∀ e ∈ (σ.zip ρ.vs++pd.map fun e=>((some e.1:Option V),(some e.2:Option Lc))),∀ a,oad e=some a->a ∉ usd Z.g ρ.mu/\offg H (usd Z.g ρ.mu) a=H a:=fun e he a ha=>by
    have hn:a ∉ usd Z.g ρ.mu:=fun hm=>(List.nodup_append.mp nd).2.2 a hm a (List.mem_filterMap.mpr ⟨e,he,ha⟩) rfl
    exact ⟨hn,offg_not hn⟩
  have hk:∀ e ∈ (σ.zip ρ.vs++pd.map fun e=>((some e.1:Option V),(some e.2:Option Lc))),∀ a,oad e=some a->H' a=H a/\Z'.z a=none:=fun e he a ha=>by
    obtain ⟨h1,h2,o,h3,h4⟩:=own_of s0 he ha
    obtain ⟨hn,ho⟩:=nog e he a ha
    have h5:=z'.h0 a o (by rw [ho]; exact h3)
    refine ⟨by rw [h3]; exact h5,?_⟩
    cases q:Z'.z a with
    | none=>rfl
    | some u=>
      rcases z'.new a u q with e | e | e
      · rw [h1] at e; cases e
      · rw [ho,h3] at e; cases e
      · have:=z'.zh a u q
        rw [h5] at this; cases this
        exact (h4 e).elim
  have s2:=s0.step z'.z0 hk
  have q':Slots K H0 Z' H' ((some v,some r)::cel Z'.g mu'):=by
    refine ⟨fun e he=>?_,q.2⟩
    have:=q.1 e he
    obtain ⟨w,l⟩:=e
    cases l with
    | none=>trivial
    | some l=>
      cases l with
      | sh p=>exact this
      | own p=>obtain ⟨a,e1,e2,e3,e4⟩:=this; exact ⟨a,e1,e2,e3,h0.free e4⟩
  have dis:∀ e ∈ ((some v,some r)::cel Z'.g mu'),∀ a,oad e=some a->∀ e' ∈ (σ.zip ρ.vs++pd.map fun e=>((some e.1:Option V),(some e.2:Option Lc))),oad e' ≠ some a:=fun e he a ha e' he' ha'=>by
    obtain ⟨_,h2,_⟩:=own_of q he ha
    obtain ⟨_,_,o,h3,_⟩:=own_of s0 he' ha'
    rw [(nog e' he' a ha').2,h3] at h2; cases h2
  refine .mk (Z:=Z') el hg' z2 ?_
  refine ⟨fun e he=>?_,?_⟩
  · rcases List.mem_cons.mp he with rfl | he
    · exact q'.1 _ List.mem_cons_self
    · rcases List.mem_append.mp he with he | he
      · exact q'.1 _ (List.mem_cons_of_mem _ he)
      · exact s2.1 e he
  · show (((some v,some r)::(cel Z'.g mu'++(σ.zip ρ.vs++pd.map fun e=>(some e.1,some e.2)))).filterMap oad).Nodup
    rw [← List.cons_append,List.filterMap_append]
    refine List.nodup_append.mpr ⟨q'.2,s2.2,fun a ha b hb e=>?_⟩
    subst e
    obtain ⟨e1,he1,h1⟩:=List.mem_filterMap.mp ha
    obtain ⟨e2,he2,h2⟩:=List.mem_filterMap.mp hb
    exact dis e1 he1 a h1 e2 he2 h2
theorem call_imp {n:Nat} {g:GF} {a:AF} {E:XK}:∀ σ H Q,(∃ H0 Z0 ρ pd r ρ',SR X.K H0 Z0 σ H ρ pd/\eCall g a ρ=some (r,ρ')/\(∀ ls ρ1,a ρ=some (ls,ρ1)->ls.length=n)/\∀ v H',SR X.K H0 Z0 σ H' ρ' ((v,r)::pd)->Q v H')->tCall (spP X.K n g) [] E (tPA X.K a) σ H Q:=fun σ H Q q=>by
  obtain ⟨H0,Z0,ρ,pd,r,ρ',s,h,hn,k⟩:=q
  obtain ⟨y,h1,h2⟩:=bind_some h
  obtain ⟨r',h3,h4⟩:=map_some h2
  cases h4
  refine ⟨H0,Z0,ρ,pd,y.1,y.2,s,h1,fun vs H2 e2 s2=>?_⟩
  obtain ⟨el,Z,hg,z,rl,sl'⟩:=s2.repl e2
  refine ⟨Z,y.1.map Lc.pv,y.2.mu,_,_,?_,hg,z.zh,?_,sl'.cells hg,h3,fun v H' rr=>k v H' (SR.called el hg z sl' rr)⟩
  · rw [List.append_nil,e2]; exact hn _ _ h1
  · rw [List.append_nil]; exact rl
end
section
variable {P:Program} {w:World} {K:FG} {mg:Str->Option Value} {base:Heap}
noncomputable def DefAt (K:FG) (mg:Str->Option Value) (x:Str) (st:Stmt) (ps:List Str):Prop:=∃ f fd,Fun K x x st f fd/\mg x=some (.ref f)/\Binds K fd ps []
noncomputable def DefOk (P:Program) (w:World) (K:FG) (mg:Str->Option Value) (base:Heap) (x:Str) (k:Nat) (ps:List Str) (sp:Sp):Prop:=∃ f fd,FnOk P w K mg base CX0 k f fd ps sp/\mg x=some (.ref f)/\PySem.W.keepIn K (.ref f)=true/\Binds K fd ps []
noncomputable def env0 (n:Nat) (ps:List PV) (mu:Mu):Ev:=⟨ps.map (fun p=>some (Lc.sh p))++List.replicate (n - ps.length) none,mu⟩
noncomputable def runP (n:Nat) (g:SF):GF:=fun ps mu=>(g (env0 n ps mu)).bind fun x=>match x with
  | .rt r ρ=>some (r,ρ.mu)
  | .nx ρ=>some (.sh .non,ρ.mu)
  | _=>none
theorem vr_list {Z:ZG} {L:Sl} (s:Slots K H0 Z H L):∀ {ps:List PV} {vs:List V},RepL K Z ps vs->Slots K H0 Z H ((vs.map some).zip (ps.map fun p=>some (Lc.sh p))++L)
  | [],vs,h=>by have:=h.inv0; subst this; simpa using s
  | p::ps,vs,h=>by
    obtain ⟨v,r,rfl,h1,h2⟩:=h.inv
    exact (vr_list s h2).consS h1
theorem nones {Z:ZG} {L:Sl} (s:Slots K H0 Z H L):∀ n:Nat,Slots K H0 Z H ((List.replicate n (none:Option V)).zip (List.replicate n (none:Option Lc))++L)
  | 0=>s
  | n + 1=>by
    rw [List.replicate_succ,List.replicate_succ,List.zip_cons_cons,List.cons_append]
    have ih:=nones s n
    refine ⟨fun e he=>?_,?_⟩
    · rcases List.mem_cons.mp he with rfl | he
      · trivial
      · exact ih.1 e he
    · rw [List.filterMap_cons_none rfl]; exact ih.2
theorem sr_start {H:Hp} {Z:ZG} {ps:List PV} {mu:Mu} {vs:List V} {N:List Str} (hg:mu.length=Z.g.length) (z:Same Z.z H) (r:RepL K Z ps vs) (c:Slots K (offg H (usd Z.g mu)) Z H (cel Z.g mu)):SR K (offg H (usd Z.g mu)) Z (L2.start N vs) H (env0 N.length ps mu) []:=by
  have hl:=r.length
  refine ⟨by simp [L2.start,env0,hl],Z,hg,⟨z,fun b o e=>(offg_of e).1,ZLe.refl _,fun b o e=>.inl e⟩,?_⟩
  unfold sl L2.start env0
  rw [List.zip_append (by simp [hl]),List.map_nil,List.append_nil,hl]
  exact (vr_list (nones c _) r).perm ((List.perm_append_comm).trans (by rw [List.append_assoc]))
theorem DefAt.ok {x:Str} {st:Stmt} {N ps:List Str} {k:Nat} {g:GF} (F:DefAt K mg x st ps) (S:FnScope N ps (defScope st))
    (h:∀ (f:Addr) (cdv:Value) (A:Around) (outer:List PySem.Env) (s:Shared) (H:Hp) (E:XK),Room k (A.deeper (envOfC x (defScope st) s.heap.objs.size f cdv))->
      ∃ g':SF,(∀ a mu,g a mu=runP N.length g' a mu)/\PSs (cxOf CX0 P w K mg base N x (defScope st) f cdv A outer s H E).nox (defBody st) (tPs K g')):DefOk P w K mg base x (k + 1) ps (spP K ps.length g):=by
  obtain ⟨f,fd,F,hm,hb⟩:=F
  refine ⟨f,fd,F.ok S (fun vs H Q E q=>?_) (fun cdv A outer s H vs Q E hr q=>?_),hm,F.kp,hb⟩
  · obtain ⟨Z,qs,mu,r,mu',e,_⟩:=q; exact e
  · obtain ⟨g',eg,b⟩:=h f cdv A outer s H E hr
    obtain ⟨Z,qs,mu,r,mu',e,hg,z,rl,c,hr',kk⟩:=q
    rw [eg] at hr'
    obtain ⟨fl,h1,h2⟩:=bind_some hr'
    refine ⟨_,b,offg H (usd Z.g mu),Z,_,[],fl,sr_start hg z rl c,h1,?_⟩
    cases fl with
    | rt r' ρ'=>
      cases h2
      intro v σ' H' s'
      obtain ⟨el,Z',hg',z',s''⟩:=s'.top
      refine kk v H' ⟨Z',hg',z',s''.sub ?_⟩
      exact (List.sublist_append_left _ _).cons_cons _
    | nx ρ'=>
      cases h2
      intro σ' H' s'
      obtain ⟨el,Z',hg',z',s''⟩:=s'
      exact kk .non H' ⟨Z',hg',z',(s''.sub (List.sublist_append_left _ _)).consS (rep_non _)⟩
    | bk ρ'=>cases h2
    | ct ρ'=>cases h2
end
section
variable {X:Cx}
theorem qcall {x:Str} {k:Nat} {ps:List Str} {g:GF} {e:Expr} {es:List Expr} {a:AF} {p pos:Pos} (D:DefOk X.prog X.w X.K X.mg X.base x k ps (spP X.K ps.length g)) (hr:Room k X.A) (hg:Gl X x)
    (ha:PA X (e::es) (tPA X.K a)) (hn:∀ ρ ls ρ1,a ρ=some (ls,ρ1)->ls.length=ps.length) (hdb:(x == ("__debug__" : Str))=false:=by decide) (he:starEach (e::es) X.env=(false,eval e X.env)::starEach es X.env:=by rfl) (hpl:(backTo pos (starEach es X.env)).any (·.1)=false:=by rfl):PE X (.Call (.Name x p) (e::es) [] pos) (tP X.K (eCall g a)):=by
  obtain ⟨f,fd,F,hm,hk,hb⟩:=D
  refine PE.imp (pe_call (E:=E0) F hr hg hm hk hb .nil pass0 ha hdb he hpl) fun σ H Q q=>?_
  obtain ⟨H0,Z0,ρ,pd,r,ρ',s,h,kk⟩:=q
  exact call_imp σ H Q ⟨H0,Z0,ρ,pd,r,ρ',s,h,fun ls ρ1 e=>hn ρ ls ρ1 e,kk⟩
end
section
variable {X:Cx}
section
variable {K:FG} {H0 H H':Hp} {Z0 Z:ZG} {σ:L2.St} {ρ:Ev} {pd pd':Pd} {v w:V} {l:Lc} {p:PV}
theorem SR.sub (h:SR K H0 Z0 σ H ρ pd') (q:List.Sublist pd pd'):SR K H0 Z0 σ H ρ pd:=
  let ⟨e,Z,hg,z,s⟩:=h
  ⟨e,Z,hg,z,s.sub ((List.Sublist.refl _).append ((List.Sublist.refl _).append (q.map _)))⟩
theorem SR.part {u:V} {q:PV} (h:SR K H0 Z0 σ H ρ ((v,.sh p)::pd)) (k:∀ Z:ZG,Same Z.z H->Rep K Z p v->Rep K Z q u):SR K H0 Z0 σ H ρ ((u,.sh q)::(v,.sh p)::pd):=by
  obtain ⟨e,Z,hg,z,s⟩:=h.top
  obtain ⟨x,e1,e2⟩:=s.1 _ List.mem_cons_self
  cases e1
  exact .mk e hg z ((s.perm sl_cons).consS (k Z z.zh e2))
end
noncomputable abbrev BF:=PV->Ev->Option Ev
noncomputable def GS (K:FG) (g:TG) (b:BF):Prop:=∀ H0 Z0 σ H ρ pd v p ρ' Q,SR K H0 Z0 σ H ρ ((v,.sh p)::pd)->b p ρ=some ρ'->(∀ σ',SR K H0 Z0 σ' H ρ' pd->Q σ' H)->g v σ H Q
noncomputable abbrev BFs:=List PV->Ev->Option Ev
noncomputable def GSs (K:FG) (g:TGs) (b:BFs):Prop:=∀ H0 Z0 σ H ρ pd vs ps ρ' Q,vs.length=ps.length->SR K H0 Z0 σ H ρ (vs.zip (ps.map Lc.sh)++pd)->b ps ρ=some ρ'->(∀ σ',SR K H0 Z0 σ' H ρ' pd->Q σ' H)->g vs σ H Q
noncomputable def bName (i:Nat):BF:=fun p ρ=>if i < ρ.vs.length then some (ρ.set i (some (.sh p))) else none
theorem gs_name {i:Nat}:GS K (gName i) (bName i):=by
  intro H0 Z0 σ H ρ pd v p ρ' Q s h k
  unfold bName at h
  split at h
  · rename_i hl; cases h; exact k _ (s.store hl)
  · cases h
noncomputable def bNil:BFs:=fun ps ρ=>match ps with
  | []=>some ρ
  | _=>none
noncomputable def bCons (b:BF) (bs:BFs):BFs:=fun ps ρ=>match ps with
  | p::r=>(b p ρ).bind fun ρ1=>bs r ρ1
  | []=>none
theorem gs_nil:GSs K gNil bNil:=by
  intro H0 Z0 σ H ρ pd vs ps ρ' Q e s h k
  cases ps with
  | nil=>
    cases h
    have:vs=[]:=List.eq_nil_of_length_eq_zero (by simpa using e)
    subst this
    exact ⟨rfl,k σ s⟩
  | cons p r=>cases h
theorem gs_cons {t:TG} {u:TGs} {b:BF} {bs:BFs} (h1:GS K t b) (h2:GSs K u bs):GSs K (gCons t u) (bCons b bs):=by
  intro H0 Z0 σ H ρ pd vs ps ρ' Q e s h k
  cases ps with
  | nil=>cases h
  | cons p r=>
    cases vs with
    | nil=>simp at e
    | cons v ws=>
      obtain ⟨ρ1,e1,e2⟩:=bind_some h
      refine ⟨v,ws,rfl,h1 H0 Z0 σ H ρ _ v p ρ1 _ s e1 fun σ' s'=>?_⟩
      exact h2 H0 Z0 σ' H ρ1 pd ws r ρ' Q (by simpa using e) s' e2 k
theorem zip_sh {Z:ZG} {L:Sl} (s:Slots K H0 Z H L):∀ {ps:List PV} {vs:List V},RepL K Z ps vs->Slots K H0 Z H ((vs.zip (ps.map Lc.sh)).map (fun e=>(some e.1,some e.2))++L)
  | [],vs,h=>by have:=h.inv0; subst this; simpa using s
  | p::ps,vs,h=>by
    obtain ⟨v,r,rfl,h1,h2⟩:=h.inv
    exact (zip_sh s h2).consS h1
theorem SR.items {Z0 Z:ZG} {vs:List V} {ps:List PV} (e:σ.length=ρ.vs.length) (hg:ρ.mu.length=Z.g.length) (z:ZOk H0 Z0 Z H) (r:RepL K Z ps vs) (s:Slots K H0 Z H (sl Z.g σ ρ pd)):SR K H0 Z0 σ H ρ (vs.zip (ps.map Lc.sh)++pd):=
  ⟨e,Z,hg,z,(zip_sh s r).perm sl_app⟩
noncomputable def sAsg (f:EF) (b:BF):SF:=fun ρ=>(f ρ).bind fun x=>(b x.1.pv x.2).map Fl.nx
theorem qs_asg {tg e:Expr} {f:EF} {g:TG} {b:BF} {pos:Pos} (he:PE X e (tP X.K f)) (hg:PG X tg g) (hb:GS X.K g b) (hs:swapsWithSole [tg] e pos.line X.env=pure false:=by rfl) (hw:swappedStores [tg] e X.env=pure none:=by rfl)
    (h1:(assignEach [tg] X.env).map (·.2)=[assign tg X.env]:=by rfl):PS X (.Assign [tg] e pos) (tPs X.K (sAsg f b)):=PS.imp (ps_asg he hg hs hw h1) fun D σ H q=>by
  obtain ⟨H0,Z0,ρ,pd,fl,s,h,k⟩:=q
  obtain ⟨x,h1,h2⟩:=bind_some h
  obtain ⟨ρ',h3,rfl⟩:=map_some h2
  exact ⟨H0,Z0,ρ,pd,x.1,x.2,s,h1,fun v H1 s1=>hb H0 Z0 σ H1 x.2 pd v _ ρ' D.nx s1.freeze h3 fun σ' s'=>k σ' H1 s'⟩
noncomputable def sPar (i j:Nat) (a:AF):SF:=fun ρ=>(a ρ).bind fun y=>match y.1 with
  | [l,m]=>if i < y.2.vs.length/\j < y.2.vs.length then some (.nx ((y.2.set i (some l)).set j (some m))) else none
  | _=>none
noncomputable def ItOk (K:FG) (H0:Hp) (Z0:ZG) (pd:Pd) (J:It) (xs:List PV):Prop:=∀ σ H ρ (i:Nat),SR K H0 Z0 σ H ρ pd->
  (∀ x,xs[i]?=some x->J.go i H/\∀ v H',J.yld i H v H'->SR K H0 Z0 σ H' ρ ((v,.sh x)::pd))/\(i=xs.length->J.stop i H)
noncomputable abbrev IF:=Ev->Option (List PV × Ev)
noncomputable def tPI (K:FG) (f:IF):TI:=fun σ H R=>∃ H0 Z0 ρ pd xs ρ',SR K H0 Z0 σ H ρ pd/\f ρ=some (xs,ρ')/\∀ J H' pd',SR K H0 Z0 σ H' ρ' pd'->ItOk K H0 Z0 pd' J xs->List.Sublist pd pd'->R J H'
theorem PI.imp {tg iter:Expr} {t t':TI} (h:PI X tg iter t) (i:∀ σ H R,t' σ H R->t σ H R):PI X tg iter t':=fun pins s σ H R I q=>h pins s σ H R I (i σ H R q)
noncomputable def iOf (f:EF) (g:PV->Option (List PV)):IF:=fun ρ=>(f ρ).bind fun x=>(g x.1.pv).map fun xs=>(xs,x.2)
theorem itok_list {H0:Hp} {a:Addr} {ps:List PV}:ItOk K H0 Z0 ((.ref a,.sh (.lst ps))::pd) (Itl K a) ps:=by
  intro σ H ρ i s
  obtain ⟨Z,z,r⟩:=s.rep
  unfold Rep at r
  obtain ⟨b,vs,e,h1,h2⟩:=r
  cases e
  have hq:=SqL.same z h1
  refine ⟨fun x hx=>?_,fun hl=>⟨vs,hq,by rw [h2.length]; omega⟩⟩
  obtain ⟨v,hv,rv⟩:=h2.get hx
  refine ⟨⟨vs,v,hq,hv⟩,fun v' H' y=>?_⟩
  obtain ⟨e',y⟩:=y
  subst e'
  have:=y vs hq
  rw [hv] at this; cases this
  refine s.part fun Z' z' r'=>?_
  unfold Rep at r'
  obtain ⟨b',vs',e',h1',h2'⟩:=r'
  cases e'
  have:vs'[i]?=some v:=y vs' (SqL.same z' h1')
  obtain ⟨p',hp',rp'⟩:=h2'.getV this
  rw [hx] at hp'; cases hp'
  exact rp'
theorem itok_tup {H0:Hp} {a:Addr} {ps:List PV}:ItOk K H0 Z0 ((.ref a,.sh (.tup ps))::pd) (Itt K a) ps:=by
  intro σ H ρ i s
  obtain ⟨Z,z,r⟩:=s.rep
  unfold Rep at r
  obtain ⟨b,vs,e,h1,h2⟩:=r
  cases e
  have hq:=SqT.same z h1
  refine ⟨fun x hx=>?_,fun hl=>⟨vs,hq,by rw [h2.length]; omega⟩⟩
  obtain ⟨v,hv,rv⟩:=h2.get hx
  refine ⟨⟨vs,v,hq,hv⟩,fun v' H' y=>?_⟩
  obtain ⟨e',y⟩:=y
  subst e'
  have:=y vs hq
  rw [hv] at this; cases this
  refine s.part fun Z' z' r'=>?_
  unfold Rep at r'
  obtain ⟨b',vs',e',h1',h2'⟩:=r'
  cases e'
  have:vs'[i]?=some v:=y vs' (SqT.same z' h1')
  obtain ⟨p',hp',rp'⟩:=h2'.getV this
  rw [hx] at hp'; cases hp'
  exact rp'
noncomputable def rngP (lo:Int) (n:Nat):List PV:=(List.range n).map fun i=>.int (lo + (i:Nat))
noncomputable def iRange1 (a:AF):IF:=fun ρ=>(a ρ).bind fun y=>match y.1.map Lc.pv with
  | [.int j]=>if -(2 ^ 62)<=j/\j < 2 ^ 62 then some (rngP 0 j.toNat,y.2) else none
  | _=>none
theorem itok_rng {H0:Hp} {lo:Int} {n:Nat}:ItOk K H0 Z0 pd (Itr lo n) (rngP lo n):=by
  intro σ H ρ i s
  refine ⟨fun x hx=>?_,fun hl=>?_⟩
  · have hi:i < n:=by
      have:=(List.getElem?_eq_some_iff.mp hx).1
      simpa [rngP] using this
    refine ⟨hi,fun v H' y=>?_⟩
    obtain ⟨rfl,rfl⟩:=y
    unfold rngP at hx
    rw [List.getElem?_map,List.getElem?_range hi] at hx
    cases hx
    exact s.scal rep_int
  · show n<=i
    simp [rngP] at hl
    omega
theorem SR.ints {vs:List V} {ls:List Lc} {ns:List Int} (s:SR K H0 Z0 σ H ρ (vs.zip ls++pd)) (e:vs.length=ls.length) (h:ls.map Lc.pv=ns.map PV.int):vs=ns.map V.int/\SR K H0 Z0 σ H ρ pd:=by
  obtain ⟨el,Z,hg,z,r,sl'⟩:=s.repl e
  refine ⟨?_,el,Z,hg,z,sl'⟩
  rw [h] at r
  clear h e s sl'
  induction ns generalizing vs with
  | nil=>exact r.inv0
  | cons n ns ih=>
    obtain ⟨v,w,rfl,h1,h2⟩:=r.inv
    rw [rep_int_inv h1,ih h2]
    rfl
theorem qi_range1 {tg a:Expr} {f:AF} {p pos:Pos} (hg:Gl X "range") (hm:X.mg "range" = none) (ha:PA X [a] (tPA X.K f)) (hs:starEach [a] X.env=[(false,eval a X.env)]:=by rfl):PI X tg (.Call (.Name "range" p) [a] [] pos) (tPI X.K (iRange1 f)):=PI.imp (pi_range1 hg hm ha hs) fun σ H R q=>by
  obtain ⟨H0,Z0,ρ,pd,xs,ρ',s,h,k⟩:=q
  obtain ⟨y,h1,h2⟩:=bind_some h
  refine ⟨H0,Z0,ρ,pd,y.1,y.2,s,h1,fun vs H1 e1 s1=>?_⟩
  split at h2
  · rename_i j e
    split at h2
    · rename_i hj
      cases h2
      obtain ⟨rfl,s2⟩:=s1.ints (ns:=[j]) e1 e
      exact ⟨j,rfl,hj.1,hj.2,k _ _ _ s2 itok_rng (List.Sublist.refl _)⟩
    · cases h2
  · cases h2
noncomputable def forP (b:BF) (body:SF):List PV->SF
  | [],ρ=>some (.nx ρ)
  | x::xs,ρ=>(b x ρ).bind fun ρ1=>(body ρ1).bind fun fl=>match fl with
    | .nx ρ'=>forP b body xs ρ'
    | .ct ρ'=>forP b body xs ρ'
    | .bk ρ'=>some (.nx ρ')
    | .rt r ρ'=>some (.rt r ρ')
noncomputable def sFor (f:IF) (b:BF) (body:SF):SF:=fun ρ=>(f ρ).bind fun y=>forP b body y.1 y.2
theorem cpsP {P:Prop} (h:∀ G:Prop,(P->G)->G):P:=h P id
noncomputable def FW (K:FG) (H0:Hp) (Z0:ZG) (pd:Pd) (b:BF) (fb:SF) (xs:List PV) (fl:Fl) (i m:Nat) (σ:L2.St) (H:Hp):Prop:=m=xs.length - i/\i<=xs.length/\∃ ρ,SR K H0 Z0 σ H ρ pd/\forP b fb (xs.drop i) ρ=some fl
theorem for_core {g:TG} {b:BF} {fb:SF} (hb:GS K g b) {J:It} {xs:List PV} {fl:Fl} {D:Ends} (it:ItOk K H0 Z0 pd J xs) (k:FlOk K H0 Z0 pd D fl) (s:SR K H0 Z0 σ H ρ pd) (h:forP b fb xs ρ=some fl):
    ∃ W:Nat->Nat->L2.St->Hp->Prop,(∃ m,W 0 m σ H)/\∀ i m σ H,W i m σ H->
      (J.stop i H/\D.nx σ H)\/(J.go i H/\∃ N:L2.St->Hp->Prop,(∀ σ' H',N σ' H'->∃ m',m' < m/\W (i + 1) m' σ' H')/\∀ x H',J.yld i H x H'->g x σ H' fun σ2 H2=>tPs K fb { D with nx:=N,ct:=N,bk:=D.nx } σ2 H2):=by
  refine ⟨FW K H0 Z0 pd b fb xs fl,⟨_,rfl,Nat.zero_le _,ρ,s,h⟩,fun i m σ' H' w=>?_⟩
  refine cpsP fun G kG=>?_
  obtain ⟨rfl,hi,ρ',s',h'⟩:=w
  obtain ⟨i1,i2⟩:=it σ' H' ρ' i s'
  by_cases hlt:i < xs.length
  · obtain ⟨go,yl⟩:=i1 _ (List.getElem?_eq_getElem hlt)
    rw [List.drop_eq_getElem_cons hlt] at h'
    obtain ⟨ρ1,e1,e2⟩:=bind_some h'
    obtain ⟨fl1,e3,e4⟩:=bind_some e2
    refine kG (.inr ⟨go,fun σ'' H''=>FW K H0 Z0 pd b fb xs fl (i + 1) (xs.length - (i + 1)) σ'' H'',fun σ'' H'' w=>⟨_,by omega,w⟩,fun x H2 hy=>hb H0 Z0 σ' H2 ρ' pd x _ ρ1 _ (yl x H2 hy) e1 fun σ2 s2=>⟨H0,Z0,ρ1,pd,fl1,s2,e3,?_⟩⟩)
    cases fl1 with
    | nx ρ2=>exact fun σ3 H3 s3=>⟨rfl,hlt,ρ2,s3,e4⟩
    | ct ρ2=>exact fun σ3 H3 s3=>⟨rfl,hlt,ρ2,s3,e4⟩
    | bk ρ2=>cases e4; exact k
    | rt r ρ2=>cases e4; exact k
  · have e:i=xs.length:=Nat.le_antisymm hi (Nat.le_of_not_lt hlt)
    subst e
    rw [List.drop_length] at h'
    cases h'
    exact kG (.inl ⟨i2 rfl,k σ' H' s'⟩)
theorem FlOk.imp {H0:Hp} {Z0 Z₁:ZG} {pd pd':Pd} {D:Ends} {fl:Fl} (k:FlOk K H0 Z0 pd D fl) (w:∀ {τ:L2.St} {J:Hp} {q:Ev},SR K H0 Z₁ τ J q pd'->SR K H0 Z0 τ J q pd) (w':∀ {τ:L2.St} {J:Hp} {q:Ev} {e:V × Lc},SR K H0 Z₁ τ J q (e::pd')->SR K H0 Z0 τ J q (e::pd)):FlOk K H0 Z₁ pd' D fl:=by
  cases fl with
  | rt r ρ=>exact fun v σ H s=>k v σ H (w' s)
  | _=>exact fun σ H s=>k σ H (w s)
theorem qs_for {tg iter:Expr} {body:List Stmt} {f:IF} {g:TG} {b:BF} {fb:SF} {pos:Pos} (hp:PassesOwn (model X.prog X.w) X.A X.env X.xe) (hc:X.calm=true) (hi:PI X tg iter (tPI X.K f)) (hg:PG X tg g) (hb':GS X.K g b) (hb:PSs X body (tPs X.K fb))
    (hs:∀ x,foldedSetIterable iter X.env x=pure x:=by intro _; rfl):PS X (.For tg iter body [] pos) (tPs X.K (sFor f b fb)):=PS.imp (ps_for hp hc hi hg hb hs) fun D σ H q=>by
  refine cpsP fun G kG=>?_
  obtain ⟨H0,Z0,ρ,pd,fl,s,h,k⟩:=q
  obtain ⟨y,h1,h2⟩:=bind_some h
  exact kG ⟨H0,Z0,ρ,pd,y.1,y.2,s,h1,fun J H1 pd' s1 it sub=>for_core hb' it (k.imp (fun s=>s.sub sub) fun s=>s.sub (sub.cons_cons _)) s1 h2⟩
noncomputable def whileP (c:TF) (body:SF):Nat->SF
  | 0,_=>none
  | n + 1,ρ=>(c ρ).bind fun x=>if x.1=true then (body x.2).bind fun fl=>match fl with
    | .nx ρ'=>whileP c body n ρ'
    | .ct ρ'=>whileP c body n ρ'
    | .bk ρ'=>some (.nx ρ')
    | .rt r ρ'=>some (.rt r ρ') else some (.nx x.2)
noncomputable def sWhile (n:Nat) (c:TF) (body:SF):SF:=whileP c body n
theorem qs_while (n:Nat) {c:Expr} {body:List Stmt} {fc:TF} {fb:SF} {pos:Pos} (hp:PassesOwn (model X.prog X.w) X.A X.env X.xe) (hc:PT X c (tPT X.K fc)) (hb:PSs X body (tPs X.K fb)):PS X (.While c body [] pos) (tPs X.K (sWhile n fc fb)):=PS.imp (ps_while hp hc hb) fun D σ H q=>by
  obtain ⟨H0,Z0,ρ,pd,fl,s,h,k⟩:=q
  refine ⟨fun m σ' H'=>∃ ρ',SR X.K H0 Z0 σ' H' ρ' pd/\whileP fc fb m ρ'=some fl,⟨n,ρ,s,h⟩,?_⟩
  rintro m σ' H' ⟨ρ',s',h'⟩
  cases m with
  | zero=>cases h'
  | succ m=>
    obtain ⟨x,e1,e2⟩:=bind_some h'
    refine ⟨H0,Z0,ρ',pd,x.1,x.2,s',e1,fun H1 s1=>?_⟩
    dsimp only
    split
    · rename_i hx
      rw [if_pos hx] at e2
      obtain ⟨fl1,e3,e4⟩:=bind_some e2
      refine ⟨fun σ'' H''=>∃ ρ'',SR X.K H0 Z0 σ'' H'' ρ'' pd/\whileP fc fb m ρ''=some fl,fun σ'' H'' q=>⟨m,Nat.lt_succ_self _,q⟩,H0,Z0,x.2,pd,fl1,s1,e3,?_⟩
      cases fl1 with
      | nx ρ2=>exact fun σ3 H3 s3=>⟨ρ2,s3,e4⟩
      | ct ρ2=>exact fun σ3 H3 s3=>⟨ρ2,s3,e4⟩
      | bk ρ2=>cases e4; exact fun σ3 H3 s3=>k σ3 H3 s3
      | rt r ρ2=>cases e4; exact fun v σ3 H3 s3=>k v σ3 H3 s3
    · rename_i hx
      rw [if_neg hx] at e2
      cases e2
      exact k σ' H1 s1
end
section
variable {K:FG} {H0 H H':Hp} {Z0 Z:ZG} {σ:L2.St} {ρ:Ev} {pd pe:Pd} {v w:V} {l:Lc} {p:PV} {g:List Addr}
noncomputable def Ev.app (ρ:Ev) (pe:Pd):Ev:=⟨ρ.vs++pe.map (fun x=>some x.2),ρ.mu⟩
theorem sl_shift (e:σ.length=ρ.vs.length):sl g (σ++pe.map fun x=>some x.1) (ρ.app pe) pd=sl g σ ρ (pe++pd):=by
  unfold sl Ev.app
  rw [List.zip_append e,List.map_append,List.append_assoc]
  congr 3
  induction pe with
  | nil=>rfl
  | cons a r ih=>simp [ih]
theorem SR.shift (h:SR K H0 Z0 σ H ρ (pe++pd)):SR K H0 Z0 (σ++pe.map fun x=>some x.1) H (ρ.app pe) pd:=by
  obtain ⟨e,Z,hg,z,s⟩:=h
  refine ⟨by simp [Ev.app,e],Z,hg,z,?_⟩
  rw [sl_shift e]
  exact s
theorem SR.unshift (e:σ.length=ρ.vs.length) (h:SR K H0 Z0 (σ++pe.map fun x=>some x.1) H (ρ.app pe) pd):SR K H0 Z0 σ H ρ (pe++pd):=by
  obtain ⟨_,Z,hg,z,s⟩:=h
  refine ⟨e,Z,hg,z,?_⟩
  rw [sl_shift e] at s
  exact s
theorem ItOk.more {J:It} {xs:List PV} (h:ItOk K H0 Z0 pd J xs):ItOk K H0 Z0 (pe++pd) J xs:=by
  intro σ H ρ i s
  obtain ⟨h1,h2⟩:=h _ H _ i s.shift
  refine ⟨fun x hx=>?_,h2⟩
  obtain ⟨g,y⟩:=h1 x hx
  refine ⟨g,fun v H' q=>?_⟩
  have s':=y v H' q
  have e:σ.length=ρ.vs.length:=s.1
  have s2:SR K H0 Z0 (σ++pe.map fun x=>some x.1) H' (ρ.app pe) ((v,.sh x)::pd):=s'
  exact (SR.unshift e s2).perm (pd':=(v,.sh x)::(pe++pd)) List.perm_middle.symm
noncomputable def asPd (σ:L2.St) (ρ:Ev):Pd:=(σ.zip ρ.vs).filterMap fun e=>match e with
  | (some v,some l)=>some (v,l)
  | _=>none
theorem asPd_slots:∀ {L:Sl},(∀ e ∈ L,e.2=none\/∃ v l,e=(some v,some l))->∀ {T:Sl},
    (Slots K H0 Z H (L++T) ↔ Slots K H0 Z H ((L.filterMap fun e=>match e with | (some v,some l)=>some (v,l) | _=>none).map (fun e=>((some e.1:Option V),(some e.2:Option Lc)))++T))
  | [],_,T=>by simp
  | (v,l)::L,h,T=>by
    have h':∀ e ∈ L,e.2=none\/∃ v l,e=(some v,some l):=fun e he=>h e (List.mem_cons_of_mem _ he)
    rcases h (v,l) List.mem_cons_self with e | ⟨v',l',e⟩
    · have e':l=none:=e
      subst e'
      have e1:((v,(none:Option Lc))::L).filterMap (fun e=>match e with | (some v,some l)=>some (v,l) | _=>none)=L.filterMap (fun e=>match e with | (some v,some l)=>some (v,l) | _=>none):=by
        rw [List.filterMap_cons_none]
        cases v <;> rfl
      rw [e1,← asPd_slots h' (T:=T)]
      have o1:oad (v,none)=none:=by
        cases v with
        | none=>rfl
        | some x=>cases x <;> rfl
      constructor
      · exact fun s=>s.sub (List.sublist_cons_self _ _)
      · intro s
        refine ⟨fun e he=>?_,?_⟩
        · rcases List.mem_cons.mp he with rfl | he
          · trivial
          · exact s.1 e he
        · rw [List.cons_append,List.filterMap_cons_none o1]
          exact s.2
    · cases e
      have e1:((some v',some l')::L).filterMap (fun e=>match e with | (some v,some l)=>some (v,l) | _=>none)=(v',l')::L.filterMap (fun e=>match e with | (some v,some l)=>some (v,l) | _=>none):=by
        rfl
      rw [e1]
      have ih1:=asPd_slots h' (T:=T++[(some v',some l')])
      have perm1:∀ A:Sl,List.Perm ((some v',some l')::(A++T)) (A++(T++[(some v',some l')])):=fun A=>by
        rw [← List.append_assoc]
        exact (List.perm_append_singleton _ _).symm
      constructor
      · intro s
        exact (ih1.mp (s.perm (perm1 L).symm)).perm (perm1 _)
      · intro s
        exact (ih1.mpr (s.perm (perm1 _).symm)).perm (perm1 L)
theorem SR.both (s:SR K H0 Z0 σ H ρ pd):∀ e ∈ σ.zip ρ.vs,e.2=none\/∃ v l,e=(some v,some l):=by
  obtain ⟨_,Z,_,z,s⟩:=s
  intro e he
  have q:=s.1 e (List.mem_append_right _ (List.mem_append_left _ he))
  obtain ⟨v,l⟩:=e
  cases l with
  | none=>exact .inl rfl
  | some l=>
    cases l with
    | sh p=>obtain ⟨x,e1,_⟩:=q; have e1':v=some x:=e1; subst e1'; exact .inr ⟨_,_,rfl⟩
    | own p=>obtain ⟨x,e1,_⟩:=q; have e1':v=some (.ref x):=e1; subst e1'; exact .inr ⟨_,_,rfl⟩
theorem out_slots (hb:∀ e ∈ σ.zip ρ.vs,e.2=none\/∃ v l,e=(some v,some l)):Slots K H0 Z H (sl g σ ρ pd) ↔ Slots K H0 Z H (cel g ρ.mu++(asPd σ ρ++pd).map fun e=>(some e.1,some e.2)):=by
  have h1:=asPd_slots (K:=K) (H0:=H0) (Z:=Z) (H:=H) hb (T:=(pd.map fun e=>(some e.1,some e.2))++cel g ρ.mu)
  have c1:List.Perm (sl g σ ρ pd) (σ.zip ρ.vs++((pd.map fun e=>(some e.1,some e.2))++cel g ρ.mu)):=by
    unfold sl
    rw [← List.append_assoc (σ.zip ρ.vs)]
    exact List.perm_append_comm
  have c2:List.Perm (cel g ρ.mu++(asPd σ ρ++pd).map fun e=>((some e.1:Option V),(some e.2:Option Lc))) ((asPd σ ρ).map (fun e=>(some e.1,some e.2))++((pd.map fun e=>(some e.1,some e.2))++cel g ρ.mu)):=by
    rw [List.map_append,← List.append_assoc ((asPd σ ρ).map _)]
    exact List.perm_append_comm
  exact ⟨fun s=>(h1.mp (s.perm c1.symm)).perm c2,fun s=>(h1.mpr (s.perm c2.symm)).perm c1⟩
theorem SR.back {σ':L2.St} {ρ':Ev} (el:σ.length=ρ.vs.length) (hb:∀ e ∈ σ.zip ρ.vs,e.2=none\/∃ v l,e=(some v,some l)) (s:SR K H0 Z0 σ' H ρ' (asPd σ ρ++pd)):SR K H0 Z0 σ H ⟨ρ.vs,ρ'.mu⟩ pd:=by
  obtain ⟨_,Z,hg,z,s⟩:=s
  refine ⟨el,Z,hg,z,(out_slots (ρ:=⟨ρ.vs,ρ'.mu⟩) hb).mpr ?_⟩
  exact s.sub ((List.Sublist.refl _).append (List.sublist_append_right _ _))
noncomputable def frzIx (ixs:List Nat) (ρ:Ev):Ev:=ixs.foldl (fun ρ i=>match ρ.vs[i]? with
  | some (some l)=>ρ.set i (some (.sh l.pv))
  | _=>ρ) ρ
theorem SR.frz:∀ {ixs:List Nat} {ρ:Ev},SR K H0 Z0 σ H ρ pd->SR K H0 Z0 σ H (frzIx ixs ρ) pd
  | [],ρ,s=>s
  | i::r,ρ,s=>by
    unfold frzIx
    rw [List.foldl_cons]
    refine SR.frz (ixs:=r) ?_
    split
    · rename_i l e
      obtain ⟨v,_,h2⟩:=s.var e
      exact h2.pop
    · exact s
noncomputable def isSh:Option Lc->Bool
  | some (.own _)=>false
  | _=>true
theorem frz_keep {j:Nat}:∀ {ixs:List Nat} {ρ:Ev},isSh (ρ.vs[j]?).join=true->isSh ((frzIx ixs ρ).vs[j]?).join=true
  | [],ρ,h=>h
  | i::r,ρ,h=>by
    unfold frzIx
    rw [List.foldl_cons]
    refine frz_keep (ixs:=r) ?_
    split
    · rename_i l e
      by_cases hij:i=j
      · subst hij
        have hi:=(List.getElem?_eq_some_iff.mp e).1
        show isSh ((ρ.vs.set i _)[i]?).join=true
        rw [List.getElem?_set_self hi]
        rfl
      · show isSh ((ρ.vs.set i _)[j]?).join=true
        rw [List.getElem?_set_ne hij]; exact h
    · exact h
theorem frz_sh {j:Nat}:∀ {ixs:List Nat} {ρ:Ev},j ∈ ixs->isSh ((frzIx ixs ρ).vs[j]?).join=true
  | [],ρ,h=>by cases h
  | i::r,ρ,h=>by
    unfold frzIx
    rw [List.foldl_cons]
    rcases List.mem_cons.mp h with e | h
    · subst e
      refine frz_keep (ixs:=r) ?_
      split
      · rename_i l e
        have hi:=(List.getElem?_eq_some_iff.mp e).1
        show isSh ((ρ.vs.set j _)[j]?).join=true
        rw [List.getElem?_set_self hi]
        rfl
      · rename_i hn
        cases q:ρ.vs[j]? with
        | none=>rfl
        | some o=>
          cases o with
          | none=>rfl
          | some l=>exact (hn l q).elim
    · exact frz_sh h
noncomputable def blkEnv (m:Nat) (ixs:List Nat) (ρ:Ev):Ev:=⟨List.replicate m none++ixs.map fun i=>(ρ.vs[i]?).join,ρ.mu⟩
theorem SR.block {m:Nat} {ixs:List Nat} (s:SR K H0 Z0 σ H ρ pd) (hs:∀ j ∈ ixs,isSh (ρ.vs[j]?).join=true):SR K H0 Z0 (sub0 m ixs σ) H (blkEnv m ixs ρ) (asPd σ ρ++pd):=by
  have hb:=s.both
  obtain ⟨el,Z,hg,z,so⟩:=s
  refine ⟨by simp [sub0,blkEnv],Z,hg,z,?_⟩
  have s3:=(out_slots hb).mp so
  have fin:Slots K H0 Z H ((ixs.map fun i=>(σ[i]?).join).zip (ixs.map fun i=>(ρ.vs[i]?).join)++(cel Z.g ρ.mu++(asPd σ ρ++pd).map fun e=>(some e.1,some e.2)))->Slots K H0 Z H (sl Z.g (sub0 m ixs σ) (blkEnv m ixs ρ) (asPd σ ρ++pd)):=fun h=>by
    unfold sl sub0 blkEnv
    rw [List.zip_append (by simp),List.append_assoc]
    refine (nones h m).perm ?_
    exact (perm3 _ _ _).trans ((perm3 _ _ _).append_left _)
  refine fin ?_
  clear fin
  induction ixs with
  | nil=>simpa using s3
  | cons i r ih=>
    have ih':=ih fun j hj=>hs j (List.mem_cons_of_mem _ hj)
    rw [List.map_cons,List.map_cons,List.zip_cons_cons,List.cons_append]
    have h1:=hs i List.mem_cons_self
    cases q:ρ.vs[i]? with
    | none=>
      refine ⟨fun e he=>?_,?_⟩
      · rcases List.mem_cons.mp he with rfl | he
        · trivial
        · exact ih'.1 e he
      · rw [List.filterMap_cons_none]
        · exact ih'.2
        · cases (σ[i]?).join with
          | none=>rfl
          | some x=>cases x <;> rfl
    | some o=>
      cases o with
      | none=>
        refine ⟨fun e he=>?_,?_⟩
        · rcases List.mem_cons.mp he with rfl | he
          · trivial
          · exact ih'.1 e he
        · rw [List.filterMap_cons_none]
          · exact ih'.2
          · cases (σ[i]?).join with
            | none=>rfl
            | some x=>cases x <;> rfl
      | some l=>
        rw [q] at h1
        cases l with
        | own p=>cases h1
        | sh p=>
          have hi:i < σ.length:=by rw [el]; exact (List.getElem?_eq_some_iff.mp q).1
          have hσ:σ[i]?=some σ[i]:=List.getElem?_eq_getElem hi
          have hm:=List.mem_of_getElem? (zip_get hσ q)
          obtain ⟨x,e1,e2⟩:=so.1 _ (List.mem_append_right _ (List.mem_append_left _ hm))
          have e1':σ[i]=some x:=e1
          have ej:(σ[i]?).join=some x:=by rw [hσ,e1']; rfl
          rw [ej]
          exact ih'.consS e2
end
theorem SR.pushO {v:V} {l:Lc} {a:Addr} {ws:List PV} (s:SR K H0 Z0 σ H ρ ((v,l)::(.ref a,.own (.lst ws))::pd)):
    ∃ us,H a=some (.lst us)/\us.length=ws.length/\SR K H0 Z0 σ (upd H a (.lst (us++[v]))) ρ ((.ref a,.own (.lst (ws++[l.pv])))::pd):=by
  obtain ⟨el,Z,hg,z,r,so⟩:=s.freeze.sh
  have so2:=so.perm sl_cons.symm
  obtain ⟨b,eb,⟨us,hu,hr⟩,_⟩:=so2.1 _ List.mem_cons_self
  cases eb
  refine ⟨us,hu,hr.length,?_⟩
  obtain ⟨z',s'⟩:=so2.write (o:=.lst (us++[v])) (q:=.lst (ws++[l.pv])) z ⟨us++[v],upd_same,hr.append (RepL.cons r .nil)⟩
  exact .mk el hg z' s'
noncomputable def compP (b:BF) (tc:TF) (te:EF):List PV->Ev->List PV->Option (List PV × Mu)
  | [],ρ,acc=>some (acc,ρ.mu)
  | x::xs,ρ,acc=>(b x ρ).bind fun ρ1=>(tc ρ1).bind fun c=>if c.1=true then (te c.2).bind fun v=>if acc.length < 100000 then compP b tc te xs v.2 (acc++[v.1.pv]) else none else compP b tc te xs c.2 acc
noncomputable def eComp (f:IF) (m:Nat) (ixs:List Nat) (b:BF) (tc:TF) (te:EF):EF:=fun ρ=>(f ρ).bind fun y=>(compP b tc te y.1 (blkEnv m ixs (frzIx ixs y.2)) []).map fun ys=>(.own (.lst ys.1),⟨(frzIx ixs y.2).vs,ys.2⟩)
noncomputable def CW (K:FG) (H0:Hp) (Z0:ZG) (b:BF) (tc:TF) (te:EF) (p:Addr) (PD:Pd) (xs:List PV) (zs:List PV × Mu) (i n:Nat) (σ':L2.St) (H':Hp):Prop:=
  n=xs.length - i/\i<=xs.length/\∃ ρi ws,SR K H0 Z0 σ' H' ρi ((.ref p,.own (.lst ws))::PD)/\compP b tc te (xs.drop i) ρi ws=some zs
theorem comp_step {g:TG} {b:BF} {tc:TF} {te:EF} (hb:GS K g b) {H0:Hp} {p:Addr} {PD:Pd} {J:It} {xs:List PV} {zs:List PV × Mu} {Q:VK}
    (it:∀ ws,ItOk K H0 Z0 ((.ref p,.own (.lst ws))::PD) J xs) (fin:∀ σ' H' ρi ws,SR K H0 Z0 σ' H' ρi ((.ref p,.own (.lst ws))::PD)->compP b tc te [] ρi ws=some zs->Q (.ref p) H') (i n:Nat) (σ':L2.St) (H':Hp) (w:CW K H0 Z0 b tc te p PD xs zs i n σ' H'):
    (J.stop i H'/\Q (.ref p) H')\/(J.go i H'/\∀ x H2,J.yld i H' x H2->g x σ' H2 fun σ3 H3=>tPT K tc σ3 H3 fun b' H4=>
      if b'=true then tP K te σ3 H4 fun v H5=>∃ ys,H5 p=some (.lst ys)/\ys.length < sizeLine/\∃ n',n' < n/\CW K H0 Z0 b tc te p PD xs zs (i + 1) n' σ3 (upd H5 p (.lst (ys++[v])))
      else ∃ n',n' < n/\CW K H0 Z0 b tc te p PD xs zs (i + 1) n' σ3 H4):=by
  refine cpsP fun G kG=>?_
  obtain ⟨rfl,hi,ρi,ws,s',h'⟩:=w
  obtain ⟨i1,i2⟩:=it ws σ' H' ρi i s'
  by_cases hlt:i < xs.length
  · obtain ⟨go,yl⟩:=i1 _ (List.getElem?_eq_getElem hlt)
    rw [List.drop_eq_getElem_cons hlt] at h'
    obtain ⟨ρ1,e1,e2⟩:=bind_some h'
    obtain ⟨c,e3,e4⟩:=bind_some e2
    have hn:xs.length - (i + 1) < xs.length - i:=by omega
    refine kG (.inr ⟨go,fun x H2 hy=>hb H0 Z0 σ' H2 ρi _ x _ ρ1 _ (yl x H2 hy) e1 fun σ2 s5=>⟨H0,Z0,ρ1,_,c.1,c.2,s5,e3,fun H4 s6=>?_⟩⟩)
    dsimp only
    split
    · rename_i hc
      refine cpsP fun G kG=>?_
      rw [if_pos hc] at e4
      obtain ⟨v,e5,e6⟩:=bind_some e4
      split at e6
      · rename_i hz
        refine kG ⟨H0,Z0,c.2,_,v.1,v.2,s6,e5,fun vv H5 s7=>?_⟩
        refine cpsP fun G kG=>?_
        obtain ⟨us,hu,hl,s8⟩:=s7.pushO
        exact kG ⟨us,hu,by rw [hl,sizeLine_eq]; omega,_,hn,rfl,hlt,v.2,_,s8,e6⟩
      · cases e6
    · rename_i hc
      rw [if_neg hc] at e4
      exact ⟨_,hn,rfl,hlt,c.2,ws,s6,e4⟩
  · have e:i=xs.length:=Nat.le_antisymm hi (Nat.le_of_not_lt hlt)
    subst e
    rw [List.drop_length] at h'
    exact kG (.inl ⟨i2 rfl,fin _ _ _ _ s' h'⟩)
theorem comp_imp {f:IF} {m:Nat} {ixs:List Nat} {g:TG} {b:BF} {tc:TF} {te:EF} (hb:GS K g b):∀ σ H Q,tP K (eComp f m ixs b tc te) σ H Q->tComp (tPI K f) m ixs g (tPT K tc) (tP K te) σ H Q:=fun σ H Q q=>by
  refine cpsP fun G kG=>?_
  obtain ⟨H0,Z0,ρ,pd,r,ρ',s,h,k⟩:=q
  obtain ⟨y,h1,h2⟩:=bind_some h
  obtain ⟨zs,h3,h4⟩:=map_some h2
  cases h4
  refine kG ⟨H0,Z0,ρ,pd,y.1,y.2,s,h1,fun J H1 pd' s1 it sub p hp=>?_⟩
  have s2:SR K H0 Z0 σ H1 (frzIx ixs y.2) pd':=s1.frz
  have s3:=s2.block (m:=m) (ixs:=ixs) fun j hj=>frz_sh hj
  have s4:SR K H0 Z0 (sub0 m ixs σ) (upd H1 p (.lst [])) (blkEnv m ixs (frzIx ixs y.2)) ((.ref p,.own (.lst []))::(asPd σ (frzIx ixs y.2)++pd')):=s3.newO hp fun Z _ _=>⟨[],upd_same,.nil⟩
  refine ⟨CW K H0 Z0 b tc te p (asPd σ (frzIx ixs y.2)++pd') y.1 zs,⟨_,rfl,Nat.zero_le _,_,[],s4,h3⟩,comp_step hb (fun ws=>ItOk.more (pe:=(.ref p,.own (.lst ws))::asPd σ (frzIx ixs y.2)) it) fun σ' H' ρi ws s' h'=>?_⟩
  cases h'
  have s5:SR K H0 Z0 σ' H' ρi (asPd σ (frzIx ixs y.2)++((.ref p,.own (.lst ws))::pd')):=s'.perm List.perm_middle
  exact k _ _ ((SR.back s2.1 s2.both s5).sub (sub.cons_cons _))
section
variable {X:Cx}
theorem qcomp (M F:List Str) (ixs:List Nat) {sc:Scope} {tg iter elt:Expr} {ifs:List Expr} {f:IF} {g:TG} {b:BF} {tc:TF} {te:EF} {pos:Pos} (hcalm:X.calm=true) (c:CompSc X M F ixs sc) (hi:PI X tg iter (tPI X.K f))
    (hg:∀ C fp s H,PG (cxComp X M F sc C fp s H) tg g) (hb:GS X.K g b) (hc:∀ C fp s H,PIfs (cxComp X M F sc C fp s H) ifs (tPT X.K tc)) (he:∀ C fp s H,PE (cxComp X M F sc C fp s H) elt (tP X.K te))
    (hs:∀ x,foldedSetIterable iter X.env x=pure x:=by intro _; rfl):PE X (.ListComp elt [⟨tg,iter,ifs,0⟩] sc pos) (tP X.K (eComp f M.length ixs b tc te)):=PE.imp (pe_comp M F ixs hcalm c hi hg hc he hs) (comp_imp hb)
theorem qs_setC {i:Nat} (M F:List Str) (ixs:List Nat) {x:Str} {sc:Scope} {tg iter elt:Expr} {ifs:List Expr} {f:IF} {g:TG} {b:BF} {tc:TF} {te:EF} {pos pos' pos2:Pos} (hN:X.N.Nodup) (hix:X.N[i]?=some x) (hx:X.env.scope.names.lookup x=some .local)
    (hcalm:X.calm=true) (c:CompSc X M F ixs sc) (hi:PI X tg iter (tPI X.K f))
    (hg:∀ C fp s H,PG (cxComp X M F sc C fp s H) tg g) (hb:GS X.K g b) (hc:∀ C fp s H,PIfs (cxComp X M F sc C fp s H) ifs (tPT X.K tc)) (he:∀ C fp s H,PE (cxComp X M F sc C fp s H) elt (tP X.K te))
    (hsw:swapsWith (.ListComp elt [⟨tg,iter,ifs,0⟩] sc pos) (some (.Name x pos')) pos2.line X.env=pure true:=by rfl)
    (hs:∀ x,foldedSetIterable iter X.env x=pure x:=by intro _; rfl):PS X (.Assign [.Name x pos'] (.ListComp elt [⟨tg,iter,ifs,0⟩] sc pos) pos2) (tPs X.K (sSet i (eComp f M.length ixs b tc te))):=
  PS.imp (ps_setC M F ixs hN hix hx hcalm c hi hg hc he hsw hs) (set_imp fun D σ H q=>comp_imp hb σ H _ q)
noncomputable def cTrue:TF:=fun ρ=>some (true,ρ)
theorem qifs_nil:PIfs X [] (tPT X.K cTrue):=fun pins s σ H Q I q=>pifs_nil pins s σ H Q I (by
  obtain ⟨H0,Z0,ρ,pd,b,ρ',s,h,k⟩:=q
  cases h
  exact k H s)
theorem qifs_one {c:Expr} {f:TF} (h:PT X c (tPT X.K f)):PIfs X [c] (tPT X.K f):=pifs_one h
end
noncomputable def eqDs (f:PV->PV->Option Bool):List PV->List PV->Option Bool
  | p::ps,q::qs=>(f p q).bind fun b=>(eqDs f ps qs).map fun c=>b && c
  | _,_=>some true
noncomputable def eqD:Nat->PV->PV->Option Bool
  | 0,_,_=>none
  | n + 1,p,q=>match p,q with
    | .tup ps,.tup qs=>(eqDs (eqD n) ps qs).map fun b=>b && (ps.length == qs.length)
    | .lst ps,.lst qs=>if ps.length=qs.length then eqDs (eqD n) ps qs else some false
    | .non,.non=>some true
    | .bl a,.bl b=>some (a == b)
    | .int a,.int b=>some (a == b)
    | .str a,.str b=>some (a == b)
    | .bl a,.int b=>some ((if a then 1 else 0) == b)
    | .int a,.bl b=>some (a == (if b then 1 else 0))
    | .non,.bl _=>some false
    | .non,.int _=>some false
    | .non,.str _=>some false
    | .non,.tup _=>some false
    | .non,.lst _=>some false
    | .bl _,.non=>some false
    | .bl _,.str _=>some false
    | .bl _,.tup _=>some false
    | .bl _,.lst _=>some false
    | .int _,.non=>some false
    | .int _,.str _=>some false
    | .int _,.tup _=>some false
    | .int _,.lst _=>some false
    | .str _,.non=>some false
    | .str _,.bl _=>some false
    | .str _,.int _=>some false
    | .str _,.tup _=>some false
    | .str _,.lst _=>some false
    | .tup _,.non=>some false
    | .tup _,.bl _=>some false
    | .tup _,.int _=>some false
    | .tup _,.str _=>some false
    | .tup _,.lst _=>some false
    | .lst _,.non=>some false
    | .lst _,.bl _=>some false
    | .lst _,.int _=>some false
    | .lst _,.str _=>some false
    | .lst _,.tup _=>some false
    | _,_=>none
theorem eqDs_at {f:PV->PV->Option Bool}:∀ {ps qs:List PV} {b:Bool},eqDs f ps qs=some b->(∀ (j:Nat) p q,ps[j]?=some p->qs[j]?=some q->f p q=some ((f (ps.getD j .non) (qs.getD j .non)).getD false))/\
    b=(List.range (min ps.length qs.length)).all fun j=>(f (ps.getD j .non) (qs.getD j .non)).getD false
  | [],qs,b,h=>by
    cases h
    exact ⟨fun j p q e=>by simp at e,by simp⟩
  | p::ps,[],b,h=>by
    cases h
    exact ⟨fun j p q _ e=>by simp at e,by simp⟩
  | p::ps,q::qs,b,h=>by
    obtain ⟨c,h1,h2⟩:=bind_some h
    obtain ⟨d,h3,rfl⟩:=map_some h2
    obtain ⟨i1,i2⟩:=eqDs_at h3
    refine ⟨fun j p' q' e1 e2=>?_,?_⟩
    · cases j with
      | zero=>
        simp at e1 e2
        subst e1 e2
        simp [h1]
      | succ j=>
        have:=i1 j p' q' (by simpa using e1) (by simpa using e2)
        simpa using this
    · have e:min (p::ps).length (q::qs).length=min ps.length qs.length + 1:=by simp only [List.length_cons]; omega
      rw [e,List.range_succ_eq_map,List.all_cons,List.all_map]
      have e0:(f ((p::ps).getD 0 .non) ((q::qs).getD 0 .non)).getD false=c:=by simp [h1]
      rw [e0,i2]
      rfl
theorem elts {Z:ZG} {ps:List PV} {vs:List V} {its:List Value} (r:RepL K Z ps vs) (rv:Vals vs its) {j:Nat} (h:j < its.length):∃ p v,ps[j]?=some p/\Rep K Z p v/\RelV v its[j]:=by
  have hl:=rv.length
  have hv:vs[j]?=some vs[j]:=List.getElem?_eq_getElem (by omega)
  obtain ⟨u,e1,e2⟩:=rv.get hv
  rw [List.getElem?_eq_getElem h] at e1
  cases e1
  obtain ⟨p,e3,e4⟩:=r.getV hv
  exact ⟨p,vs[j],e3,e4,e2⟩
section
open PySem.SeqAt
variable {X:Cx} {pins:List (Addr × Obj)} {σ:L2.St} {H:Hp} {s:Shared} {g:List Addr}
theorem tup_of (I:Inv X pins σ H s) {ps:List PV} {v:V} {u:Value} (r:Rep X.K ⟨H,g⟩ (.tup ps) v) (ru:RelV v u):∃ a vs its,u=.ref a/\SqT X.K H a vs/\RepL X.K ⟨H,g⟩ ps vs/\Vals vs its/\s.heap.IsTuple a its.toArray:=by
  unfold Rep at r
  obtain ⟨a,vs,rfl,h1,h2⟩:=r
  obtain ⟨its,r1,t1,_⟩:=I.tuple h1
  exact ⟨a,vs,its,ru,h1,h2,r1,t1⟩
theorem lst_of (I:Inv X pins σ H s) {ps:List PV} {v:V} {u:Value} (r:Rep X.K ⟨H,g⟩ (.lst ps) v) (ru:RelV v u):∃ a vs its,u=.ref a/\SqL X.K H a vs/\RepL X.K ⟨H,g⟩ ps vs/\Vals vs its/\s.heap.IsList a its.toArray:=by
  unfold Rep at r
  obtain ⟨a,vs,rfl,h1,h2⟩:=r
  obtain ⟨its,r1,t1,_⟩:=I.list h1
  exact ⟨a,vs,its,ru,h1,h2,r1,t1.isList⟩
noncomputable def kn:PV->Nat
  | .non=>0 | .bl _=>1 | .int _=>2 | .str _=>3 | .tup _=>4 | .lst _=>5 | _=>6
theorem kn4 {p:PV} (h:kn p=4):∃ ps,p=.tup ps:=by cases p <;> first | exact ⟨_,rfl⟩ | cases h
theorem kn5 {p:PV} (h:kn p=5):∃ ps,p=.lst ps:=by cases p <;> first | exact ⟨_,rfl⟩ | cases h
theorem eqD_l {n:Nat} {p q:PV} {b:Bool} (h:eqD (n + 1) p q=some b):kn p < 6:=by
  cases p <;> first | cases h; done | exact Nat.le.step (Nat.le.step (Nat.le.step (Nat.le.step (Nat.le.step .refl)))) | exact Nat.le.step (Nat.le.step (Nat.le.step (Nat.le.step .refl))) | exact Nat.le.step (Nat.le.step (Nat.le.step .refl)) | exact Nat.le.step (Nat.le.step .refl) | exact Nat.le.step .refl | exact Nat.le.refl
theorem eqD_r {n:Nat} {p q:PV} {b:Bool} (h:eqD (n + 1) p q=some b):kn q < 6:=by
  have no:eqD (n + 1) p q=none->kn q < 6:=fun e=>absurd (h.symm.trans e) (Option.some_ne_none b)
  cases q with
  | dk _ _=>exact no (by cases p <;> rfl)
  | dt _ _=>exact no (by cases p <;> rfl)
  | obj _ _ _=>exact no (by cases p <;> rfl)
  | df _ _=>exact no (by cases p <;> rfl)
  | dtf _ _=>exact no (by cases p <;> rfl)
  | ptr _=>exact no (by cases p <;> rfl)
  | _=>first | exact Nat.le.step (Nat.le.step (Nat.le.step (Nat.le.step (Nat.le.step .refl)))) | exact Nat.le.step (Nat.le.step (Nat.le.step (Nat.le.step .refl))) | exact Nat.le.step (Nat.le.step (Nat.le.step .refl)) | exact Nat.le.step (Nat.le.step .refl) | exact Nat.le.step .refl | exact Nat.le.refl
noncomputable def back:V->Option PV
  | .non=>some .non | .bl b=>some (.bl b) | .int i=>some (.int i) | .str x=>some (.str x) | _=>none
inductive Sh (K:FG) (Z:ZG) (v:V):PV->Prop
  | at {p:PV}:back v=some p->Sh K Z v p
  | tup {a:Addr} {ps:List PV} {vs:List V}:v=.ref a->SqT K Z.z a vs->RepL K Z ps vs->Sh K Z v (.tup ps)
  | lst {a:Addr} {ps:List PV} {vs:List V}:v=.ref a->SqL K Z.z a vs->RepL K Z ps vs->Sh K Z v (.lst ps)
theorem sh_of {Z:ZG} {v:V} {p:PV} (r:Rep K Z p v) (h:kn p < 6):Sh K Z v p:=by
  cases p with
  | non=>exact .at (congrArg back (rep_non_inv r))
  | bl b=>exact .at (congrArg back (rep_bl_inv r))
  | int b=>exact .at (congrArg back (rep_int_inv r))
  | str b=>exact .at (congrArg back (rep_str_inv r))
  | tup ps=>unfold Rep at r; obtain ⟨a,vs,e,h1,h2⟩:=r; exact .tup e h1 h2
  | lst ps=>unfold Rep at r; obtain ⟨a,vs,e,h1,h2⟩:=r; exact .lst e h1 h2
  | _=>exact absurd h (Nat.lt_irrefl 6)
inductive Tw (K:FG) (Z:ZG):PV->PV->Prop
  | at {v:V} {p:PV}:back v=some p->Tw K Z p p
  | tup {ps qs:List PV} {vs:List V}:RepL K Z ps vs->RepL K Z qs vs->Tw K Z (.tup ps) (.tup qs)
  | lst {ps qs:List PV} {vs:List V}:RepL K Z ps vs->RepL K Z qs vs->Tw K Z (.lst ps) (.lst qs)
theorem tl_no (I:Inv X pins σ H s) {a:Addr} {vs ws:List V} (h1:SqT X.K H a vs) (h3:SqL X.K H a ws):False:=by
  obtain ⟨its,r1,⟨o1,n1,g1,c1,_⟩,_⟩:=I.list h3
  obtain ⟨its2,r2,⟨o2,g2,c2,_⟩,_⟩:=I.tuple h1
  rw [g1] at g2
  cases g2
  rw [c1] at c2
  exact absurd c2 (by decide)
theorem back_ref {v:V} {a:Addr} {p:PV} (e:v=.ref a) (h:back v=some p):False:=by subst e; cases h
theorem Sh.two (I:Inv X pins σ H s) {p q:PV} {v:V} (h1:Sh X.K ⟨H,g⟩ v p) (h2:Sh X.K ⟨H,g⟩ v q):Tw X.K ⟨H,g⟩ p q:=by
  cases h1 with
  | «at» e=>
    cases h2 with
    | «at» e'=>exact (Option.some.inj (e.symm.trans e')) ▸ .at e
    | tup e'=>exact (back_ref e' e).elim
    | lst e'=>exact (back_ref e' e).elim
  | tup e k1 k2=>
    cases h2 with
    | «at» e'=>exact (back_ref e e').elim
    | tup e' m1 m2=>exact .tup k2 (I.tuple_inj k1 (V.ref.inj (e'.symm.trans e) ▸ m1) ▸ m2)
    | lst e' m1=>exact (tl_no I k1 (V.ref.inj (e'.symm.trans e) ▸ m1)).elim
  | lst e k1 k2=>
    cases h2 with
    | «at» e'=>exact (back_ref e e').elim
    | tup e' m1=>exact (tl_no I m1 (V.ref.inj (e.symm.trans e') ▸ k1)).elim
    | lst e' m1 m2=>exact .lst k2 (I.list_inj k1 (V.ref.inj (e'.symm.trans e) ▸ m1) ▸ m2)
theorem eqD_at {n:Nat} {v:V} {p:PV} {b:Bool} (e:back v=some p) (h:eqD (n + 1) p p=some b):b=true:=by
  cases v with
  | non=>cases e; cases h; rfl
  | bl z=>cases e; cases h; exact beq_self_eq_true z
  | int z=>cases e; cases h; exact beq_self_eq_true z
  | str z=>cases e; cases h; exact beq_self_eq_true z
  | _=>cases e
theorem eqDs_self {f:PV->PV->Option Bool} {Z:ZG} (ih:∀ (p q:PV) (v:V) (b:Bool),Rep K Z p v->Rep K Z q v->f p q=some b->b=true):∀ {ps qs:List PV} {vs:List V} {c:Bool},RepL K Z ps vs->RepL K Z qs vs->eqDs f ps qs=some c->c=true
  | [],qs,vs,c,a,b,h=>by cases h; rfl
  | p::ps,[],vs,c,a,b,h=>by cases h; rfl
  | p::ps,q::qs,vs,c,a,b,h=>by
    obtain ⟨w1,r1,e1,e2,e3⟩:=a.inv
    obtain ⟨w2,r2,f1,f2,f3⟩:=b.inv
    obtain ⟨g1,g2⟩:=List.cons.inj (e1.symm.trans f1)
    subst g1 g2
    obtain ⟨c,h1,h2⟩:=bind_some h
    obtain ⟨d,h3,rfl⟩:=map_some h2
    rw [ih _ _ _ _ e2 f2 h1,eqDs_self ih e3 f3 h3]
    rfl
theorem eqDs_det {f:PV->PV->Option Bool} {Z:ZG} (ih:∀ (p q r:PV) (v:V) (b c:Bool),Rep K Z p v->Rep K Z q v->f p r=some b->f q r=some c->b=c):∀ {ps qs rs:List PV} {vs:List V} {b c:Bool},RepL K Z ps vs->RepL K Z qs vs->eqDs f ps rs=some b->eqDs f qs rs=some c->b=c
  | [],[],rs,vs,b,c,_,_,h,k=>Option.some.inj (h.symm.trans k)
  | [],q::qs,rs,vs,b,c,a,b',h,k=>by
    obtain ⟨_,_,e,_⟩:=b'.inv
    exact absurd (a.inv0.symm.trans e) (by simp)
  | p::ps,[],rs,vs,b,c,a,b',h,k=>by
    obtain ⟨_,_,e,_⟩:=a.inv
    exact absurd (b'.inv0.symm.trans e) (by simp)
  | p::ps,q::qs,[],vs,b,c,a,b',h,k=>Option.some.inj (h.symm.trans k)
  | p::ps,q::qs,r::rs,vs,b,c,a,b',h,k=>by
    obtain ⟨w1,r1,e1,e2,e3⟩:=a.inv
    obtain ⟨w2,r2,f1,f2,f3⟩:=b'.inv
    obtain ⟨g1,g2⟩:=List.cons.inj (e1.symm.trans f1)
    subst g1 g2
    obtain ⟨x1,h1,h2⟩:=bind_some h
    obtain ⟨d1,h3,rfl⟩:=map_some h2
    obtain ⟨x2,k1,k2⟩:=bind_some k
    obtain ⟨d2,k3,rfl⟩:=map_some k2
    rw [ih _ _ _ _ _ _ e2 f2 h1 k1,eqDs_det ih e3 f3 h3 k3]
theorem eq_self (I:Inv X pins σ H s):∀ (n:Nat) {p q:PV} {v:V} {b:Bool},Rep X.K ⟨H,g⟩ p v->Rep X.K ⟨H,g⟩ q v->eqD n p q=some b->b=true
  | 0,p,q,v,b,_,_,h=>by cases h
  | n + 1,p,q,v,b,rp,rq,h=>by
    cases Sh.two I (sh_of rp (eqD_l h)) (sh_of rq (eqD_r h)) with
    | «at» e=>exact eqD_at e h
    | tup h2 h4=>
      obtain ⟨c,h5,rfl⟩:=map_some h
      rw [eqDs_self (fun _ _ _ _=>eq_self I n) h2 h4 h5,h2.length.symm.trans h4.length,beq_self_eq_true]
      rfl
    | lst h2 h4=>exact eqDs_self (fun _ _ _ _=>eq_self I n) h2 h4 ((if_pos (h2.length.symm.trans h4.length)).symm.trans h)
inductive U (s:Shared):PV->Value->Prop
  | non:U s .non .none
  | bl {b:Bool}:U s (.bl b) (.bool b)
  | int {i:Int} {t}:U s (.int i) (.int i t)
  | str {x:Str} {t}:U s (.str x) (.str x t)
  | tup {ps:List PV} {a:Addr} {its}:s.heap.IsTuple a its->U s (.tup ps) (.ref a)
  | lst {ps:List PV} {a:Addr} {its}:s.heap.IsList a its->U s (.lst ps) (.ref a)
theorem u_of (I:Inv X pins σ H s) {p:PV} {v:V} {u:Value} (r:Rep X.K ⟨H,g⟩ p v) (ru:RelV v u) (h:kn p < 6):U s p u:=by
  cases p with
  | non=>cases rep_non_inv r; cases ru; exact .non
  | bl b=>cases rep_bl_inv r; cases ru; exact .bl
  | int b=>cases rep_int_inv r; obtain ⟨t,rfl⟩:=ru; exact .int
  | str b=>cases rep_str_inv r; obtain ⟨t,rfl⟩:=ru; exact .str
  | tup ps=>obtain ⟨a,vs,its,rfl,_,_,_,x⟩:=tup_of I r ru; exact .tup x
  | lst ps=>obtain ⟨a,vs,its,rfl,_,_,_,x⟩:=lst_of I r ru; exact .lst x
  | _=>exact absurd h (Nat.lt_irrefl 6)
noncomputable def E3 (A:Around) (s:Shared) (x y:Value) (b:Bool):Prop:=EqAt A s x y b/\RcAt A s x y b/\RcNeAt A s x y (!b)
theorem E3.of {A:Around} {s:Shared} {x y:Value} {b c:Bool} (h:some c=some b) (e:EqAt A s x y c) (r:RcAt A s x y c) (q:RcNeAt A s x y (!c)):E3 A s x y b:=Option.some.inj h ▸ ⟨e,r,q⟩
noncomputable def two (p q:PV):Bool:=kn p == kn q && Nat.ble 4 (kn p)
theorem eq_flat {A:Around} {p q:PV} {u1 u2:Value} {n:Nat} {b:Bool} (hu:A.units < cLine) (h1:U s p u1) (h2:U s q u2) (e:two p q=false) (h:eqD (n + 1) p q=some b):E3 A s u1 u2 b:=by
  cases h1 with
  | non=>
    cases h2 with
    | non=>exact E3.of h (EqAt.same .none) RcAt.none_none RcNeAt.none_none
    | bl=>exact E3.of h (EqAt.none_bool _) (RcAt.none_bool _) (RcNeAt.none_bool _)
    | int=>exact E3.of h (EqAt.none_int _ _) (RcAt.none_int _ _) (RcNeAt.none_int _ _)
    | str=>exact E3.of h (EqAt.none_str _ _) (RcAt.none_str _ _) (RcNeAt.none_str _ _)
    | tup x2=>exact E3.of h (EqAt.none_tuple x2 hu) (RcAt.none_tuple x2 hu) (RcNeAt.none_tuple x2 hu)
    | lst x2=>exact E3.of h (EqAt.none_list x2 hu) (RcAt.none_list x2 hu) (RcNeAt.none_list x2 hu)
  | bl=>
    cases h2 with
    | non=>exact E3.of h (EqAt.bool_none _) (RcAt.bool_none _) (RcNeAt.bool_none _)
    | bl=>exact E3.of h (EqAt.bool_bool _ _) (RcAt.bool_bool _ _) (RcNeAt.bool_bool _ _)
    | int=>exact E3.of h (EqAt.bool_int _ _ _) (RcAt.bool_int _ _ _) (RcNeAt.bool_int _ _ _)
    | str=>exact E3.of h (EqAt.bool_str _ _ _) (RcAt.bool_str _ _ _) (RcNeAt.bool_str _ _ _)
    | tup x2=>exact E3.of h (EqAt.bool_tuple _ x2 hu) (RcAt.bool_tuple _ x2 hu) (RcNeAt.bool_tuple _ x2 hu)
    | lst x2=>exact E3.of h (EqAt.bool_list _ x2 hu) (RcAt.bool_list _ x2 hu) (RcNeAt.bool_list _ x2 hu)
  | int=>
    cases h2 with
    | non=>exact E3.of h (EqAt.int_none _ _) (RcAt.int_none _ _) (RcNeAt.int_none _ _)
    | bl=>exact E3.of h (EqAt.int_bool _ _ _) (RcAt.int_bool _ _ _) (RcNeAt.int_bool _ _ _)
    | int=>exact E3.of h (EqAt.int_int _ _ _ _) (RcAt.int_int _ _ _ _) (RcNeAt.int_int _ _ _ _)
    | str=>exact E3.of h (EqAt.int_str _ _ _ _) (RcAt.int_str _ _ _ _) (RcNeAt.int_str _ _ _ _)
    | tup x2=>exact E3.of h (EqAt.int_tuple _ _ x2 hu) (RcAt.int_tuple _ _ x2 hu) (RcNeAt.int_tuple _ _ x2 hu)
    | lst x2=>exact E3.of h (EqAt.int_list _ _ x2 hu) (RcAt.int_list _ _ x2 hu) (RcNeAt.int_list _ _ x2 hu)
  | str=>
    cases h2 with
    | non=>exact E3.of h (EqAt.str_none _ _) (RcAt.str_none _ _) (RcNeAt.str_none _ _)
    | bl=>exact E3.of h (EqAt.str_bool _ _ _) (RcAt.str_bool _ _ _) (RcNeAt.str_bool _ _ _)
    | int=>exact E3.of h (EqAt.str_int _ _ _ _) (RcAt.str_int _ _ _ _) (RcNeAt.str_int _ _ _ _)
    | str=>exact E3.of h (EqAt.str_str _ _ _ _) (RcAt.str_str _ _ _ _) (RcNeAt.str_str _ _ _ _)
    | tup x2=>exact E3.of h (EqAt.str_tuple _ _ x2 hu) (RcAt.str_tuple _ _ x2 hu) (RcNeAt.str_tuple _ _ x2 hu)
    | lst x2=>exact E3.of h (EqAt.str_list _ _ x2 hu) (RcAt.str_list _ _ x2 hu) (RcNeAt.str_list _ _ x2 hu)
  | tup x1=>
    cases h2 with
    | non=>exact E3.of h (EqAt.tuple_none x1 hu) (RcAt.tuple_none x1 hu) (RcNeAt.tuple_none x1 hu)
    | bl=>exact E3.of h (EqAt.tuple_bool _ x1 hu) (RcAt.tuple_bool _ x1 hu) (RcNeAt.tuple_bool _ x1 hu)
    | int=>exact E3.of h (EqAt.tuple_int _ _ x1 hu) (RcAt.tuple_int _ _ x1 hu) (RcNeAt.tuple_int _ _ x1 hu)
    | str=>exact E3.of h (EqAt.tuple_str _ _ x1 hu) (RcAt.tuple_str _ _ x1 hu) (RcNeAt.tuple_str _ _ x1 hu)
    | tup x2=>cases e
    | lst x2=>exact E3.of h (EqAt.tuple_list x1 x2 hu) (RcAt.tuple_list x1 x2 hu) (RcNeAt.tuple_list x1 x2 hu)
  | lst x1=>
    cases h2 with
    | non=>exact E3.of h (EqAt.list_none x1 hu) (RcAt.list_none x1 hu) (RcNeAt.list_none x1 hu)
    | bl=>exact E3.of h (EqAt.list_bool _ x1 hu) (RcAt.list_bool _ x1 hu) (RcNeAt.list_bool _ x1 hu)
    | int=>exact E3.of h (EqAt.list_int _ _ x1 hu) (RcAt.list_int _ _ x1 hu) (RcNeAt.list_int _ _ x1 hu)
    | str=>exact E3.of h (EqAt.list_str _ _ x1 hu) (RcAt.list_str _ _ x1 hu) (RcNeAt.list_str _ _ x1 hu)
    | tup x2=>exact E3.of h (EqAt.list_tuple x1 x2 hu) (RcAt.list_tuple x1 x2 hu) (RcNeAt.list_tuple x1 x2 hu)
    | lst x2=>cases e
theorem relv_ref {v:V} {a:Addr} (r:RelV v (.ref a)):v=.ref a:=by
  cases v with
  | ref b=>cases r; rfl
  | non=>cases r
  | bl _=>cases r
  | ty _=>cases r
  | _=>obtain ⟨t,e⟩:=r; cases e
theorem eq_fin (I:Inv X pins σ H s) {n:Nat} {p q:PV} {a1 a2:Addr} {b:Bool} {A:Around} (rp:Rep X.K ⟨H,g⟩ p (.ref a1)) (rq:Rep X.K ⟨H,g⟩ q (.ref a2)) (h:eqD n p q=some b) (rc:RcAt A s (.ref a1) (.ref a2) b):EqAt A s (.ref a1) (.ref a2) b:=by
  by_cases ea:a1=a2
  · subst ea
    exact eq_self I n rp rq h ▸ EqAt.same _
  · exact EqAt.of_refs ea rc
theorem eq_at (I:Inv X pins σ H s):∀ (n:Nat) {p q:PV} {v w:V} {u1 u2:Value} {b:Bool},Rep X.K ⟨H,g⟩ p v->Rep X.K ⟨H,g⟩ q w->RelV v u1->RelV w u2->eqD n p q=some b->∀ A:Around,A.units + n < cLine->
    EqAt A s u1 u2 b/\RcAt A s u1 u2 b/\RcNeAt A s u1 u2 (!b)
  | 0,p,q,v,w,u1,u2,b,_,_,_,_,h,_,_=>by cases h
  | n + 1,p,q,v,w,u1,u2,b,rp,rq,r1,r2,h,A,hA=>by
    have hu:A.units < cLine:=Nat.lt_of_le_of_lt (Nat.le_add_right _ _) hA
    have hin:A.in1.units + n < cLine:=by show A.units + 1 + n < cLine; omega
    have item:∀ {ps qs:List PV} {vs ws:List V} {its its2:List Value} {c:Bool},RepL X.K ⟨H,g⟩ ps vs->Vals vs its->RepL X.K ⟨H,g⟩ qs ws->Vals ws its2->eqDs (eqD n) ps qs=some c->
        ∀ j (h1:j < its.toArray.size) (h2:j < its2.toArray.size),EqAt A.in1 s its.toArray[j] its2.toArray[j] ((eqD n (ps.getD j .non) (qs.getD j .non)).getD false):=fun {ps qs vs ws its its2 c} a b c' d e j h1 h2=>by
      obtain ⟨p,v,e1,e2,e3⟩:=elts a b (j:=j) (by simpa using h1)
      obtain ⟨q,w,f1,f2,f3⟩:=elts c' d (j:=j) (by simpa using h2)
      have:=(eqDs_at e).1 j p q e1 f1
      exact (eq_at I n e2 f2 e3 f3 this A.in1 hin).1
    cases e:two p q with
    | false=>exact eq_flat hu (u_of I rp r1 (eqD_l h)) (u_of I rq r2 (eqD_r h)) e h
    | true=>
      have e':kn p=kn q/\4<=kn p:=by unfold two at e; simpa using e
      have hk:=eqD_l h
      rcases (by omega:kn p=4\/kn p=5) with hp | hp
      · obtain ⟨ps,rfl⟩:=kn4 hp
        obtain ⟨qs,rfl⟩:=kn4 (e'.1.symm.trans hp)
        clear e e' hk hp
        obtain ⟨a1,vs1,its1,rfl,q1,l1,rv1,x1⟩:=tup_of I rp r1
        obtain ⟨a2,vs2,its2,rfl,q2,l2,rv2,x2⟩:=tup_of I rq r2
        have e1:=relv_ref r1
        have e2:=relv_ref r2
        subst e1 e2
        obtain ⟨c,h5,rfl⟩:=map_some h
        have it:=item l1 rv1 l2 rv2 h5
        have z1:its1.toArray.size=ps.length:=by rw [List.size_toArray,← rv1.length,l1.length]
        have z2:its2.toArray.size=qs.length:=by rw [List.size_toArray,← rv2.length,l2.length]
        have rc:=RcAt.tuples x1 x2 hu it
        have rn:=RcNeAt.tuples x1 x2 hu it
        rw [z1,z2,← (eqDs_at h5).2] at rc rn
        exact ⟨eq_fin I rp rq h rc,rc,rn⟩
      · obtain ⟨ps,rfl⟩:=kn5 hp
        obtain ⟨qs,rfl⟩:=kn5 (e'.1.symm.trans hp)
        clear e e' hk hp
        obtain ⟨a1,vs1,its1,rfl,q1,l1,rv1,x1⟩:=lst_of I rp r1
        obtain ⟨a2,vs2,its2,rfl,q2,l2,rv2,x2⟩:=lst_of I rq r2
        have e1:=relv_ref r1
        have e2:=relv_ref r2
        subst e1 e2
        have z1:its1.toArray.size=ps.length:=by rw [List.size_toArray,← rv1.length,l1.length]
        have z2:its2.toArray.size=qs.length:=by rw [List.size_toArray,← rv2.length,l2.length]
        by_cases hl:ps.length=qs.length
        · have h':=(if_pos hl).symm.trans h
          have it:=item l1 rv1 l2 rv2 h'
          have hz:=(z1.trans hl).trans z2.symm
          have rc:=RcAt.lists x1 x2 hz hu it
          have rn:=RcNeAt.lists x1 x2 hz hu it
          rw [z1,← (show min ps.length qs.length=ps.length by rw [← hl,Nat.min_self]),← (eqDs_at h').2] at rc rn
          exact ⟨eq_fin I rp rq h rc,rc,rn⟩
        · have h':=Option.some.inj ((if_neg hl).symm.trans h)
          subst h'
          have hz:(its1.toArray.size != its2.toArray.size)=true:=by rw [z1,z2]; exact bne_iff_ne.mpr hl
          have rc:=RcAt.lists_lengths x1 x2 hz hu
          exact ⟨eq_fin I rp rq h rc,rc,RcNeAt.lists_lengths x1 x2 hz hu⟩
end
section
open PySem.SeqAt
variable {X:Cx} {pins:List (Addr × Obj)} {σ:L2.St} {H:Hp} {s:Shared} {g:List Addr}
theorem eqD_tup {n:Nat} {ps:List PV} {r:PV} {b:Bool} (h:eqD (n + 1) (.tup ps) r=some b):b=false\/∃ rs,r=.tup rs:=by
  cases r with
  | tup rs=>exact .inr ⟨rs,rfl⟩
  | _=>cases h <;> exact .inl rfl
theorem eqD_lst {n:Nat} {ps:List PV} {r:PV} {b:Bool} (h:eqD (n + 1) (.lst ps) r=some b):b=false\/∃ rs,r=.lst rs:=by
  cases r with
  | lst rs=>exact .inr ⟨rs,rfl⟩
  | _=>cases h <;> exact .inl rfl
theorem eq_det (I:Inv X pins σ H s):∀ (n:Nat) {p q r:PV} {v:V} {b c:Bool},Rep X.K ⟨H,g⟩ p v->Rep X.K ⟨H,g⟩ q v->eqD n p r=some b->eqD n q r=some c->b=c
  | 0,p,q,r,v,b,c,_,_,h,_=>by cases h
  | n + 1,p,q,r,v,b,c,rp,rq,h,k=>by
    cases Sh.two I (sh_of rp (eqD_l h)) (sh_of rq (eqD_l k)) with
    | «at» e=>exact Option.some.inj (h.symm.trans k)
    | @tup ps qs _ h2 h4=>
      have el:ps.length=qs.length:=h2.length.symm.trans h4.length
      rcases eqD_tup h with rfl | ⟨rs,rfl⟩
      · rcases eqD_tup k with rfl | ⟨rs,rfl⟩
        · rfl
        · obtain ⟨c1,h5,e1⟩:=map_some h
          obtain ⟨c2,k5,rfl⟩:=map_some k
          rw [← eqDs_det (f:=eqD n) (fun _ _ _ _ _ _=>eq_det I n) h2 h4 h5 k5,← el,e1]
      · obtain ⟨c1,h5,rfl⟩:=map_some h
        obtain ⟨c2,k5,rfl⟩:=map_some k
        rw [eqDs_det (f:=eqD n) (fun _ _ _ _ _ _=>eq_det I n) h2 h4 h5 k5,el]
    | @lst ps qs _ h2 h4=>
      have el:ps.length=qs.length:=h2.length.symm.trans h4.length
      have main:∀ rs,r=.lst rs->b=c:=fun rs e=>by
        subst e
        by_cases hl:qs.length=rs.length
        · exact eqDs_det (f:=eqD n) (fun _ _ _ _ _ _=>eq_det I n) h2 h4 ((if_pos (el.trans hl)).symm.trans h) ((if_pos hl).symm.trans k)
        · exact Option.some.inj ((((if_neg fun e=>hl (el.symm.trans e)).symm.trans h).symm.trans ((if_neg hl).symm.trans k)))
      rcases eqD_lst h with e1 | ⟨rs,e⟩
      · rcases eqD_lst k with e2 | ⟨rs,e⟩
        · exact e1.trans e2.symm
        · exact main rs e
      · exact main rs e
noncomputable def inDs (f:PV->PV->Option Bool) (x:PV):List PV->Option Bool
  | []=>some false
  | q::qs=>(f q x).bind fun b=>(inDs f x qs).map fun c=>b || c
theorem inDs_at {f:PV->PV->Option Bool} {x:PV}:∀ {qs:List PV} {b:Bool},inDs f x qs=some b->(∀ q ∈ qs,∃ c,f q x=some c)/\b=qs.any fun q=>(f q x).getD false
  | [],b,h=>by cases h; exact ⟨fun q hq=>by simp at hq,rfl⟩
  | q::qs,b,h=>by
    obtain ⟨c,h1,h2⟩:=bind_some h
    obtain ⟨d,h3,rfl⟩:=map_some h2
    obtain ⟨i1,i2⟩:=inDs_at h3
    refine ⟨fun q' hq=>?_,?_⟩
    · rcases List.mem_cons.mp hq with rfl | hq
      · exact ⟨c,h1⟩
      · exact i1 q' hq
    · rw [List.any_cons,h1,Option.getD_some,← i2]
open Classical in
noncomputable def worth (K:FG) (Z:ZG) (x:PV) (qs:List PV) (vs:List V) (its:List Value) (u:Value):Bool:=
  if h:∃ (j:Nat) (q:PV),qs[j]?=some q/\its[j]?=some u then (eqD 150 h.choose_spec.choose x).getD false else false
theorem worth_at (I:Inv X pins σ H s) {x:PV} {xv:V} {xu:Value} {qs:List PV} {vs:List V} {its:List Value} (r:RepL X.K ⟨H,g⟩ qs vs) (rv:Vals vs its) (hx:∀ q ∈ qs,∃ c,eqD 150 q x=some c) {j:Nat} {q:PV} {u:Value} (e1:qs[j]?=some q) (e2:its[j]?=some u):
    worth X.K ⟨H,g⟩ x qs vs its u=(eqD 150 q x).getD false:=by
  have h:∃ (j:Nat) (q:PV),qs[j]?=some q/\its[j]?=some u:=⟨j,q,e1,e2⟩
  unfold worth
  rw [dif_pos h]
  obtain ⟨f1,f2⟩:=h.choose_spec.choose_spec
  generalize h.choose_spec.choose=q' at f1 f2
  generalize h.choose=j' at f1 f2
  obtain ⟨v1,g1,g2⟩:=r.get e1
  obtain ⟨v2,k1,k2⟩:=r.get f1
  obtain ⟨u1,m1,m2⟩:=rv.get g1
  obtain ⟨u2,n1,n2⟩:=rv.get k1
  rw [e2] at m1; cases m1
  rw [f2] at n1; cases n1
  have ev:=RelV.inj m2 n2
  subst ev
  obtain ⟨c1,h1⟩:=hx q (List.mem_of_getElem? e1)
  obtain ⟨c2,h2⟩:=hx q' (List.mem_of_getElem? f1)
  rw [h1,h2,eq_det I 150 k2 g2 h2 h1]
theorem worth_eq (I:Inv X pins σ H s) {x:PV} {xv:V} {xu:Value} {qs:List PV} {vs:List V} {its:List Value} (rx:Rep X.K ⟨H,g⟩ x xv) (ru:RelV xv xu) (r:RepL X.K ⟨H,g⟩ qs vs) (rv:Vals vs its) (hx:∀ q ∈ qs,∃ c,eqD 150 q x=some c) {A:Around} (hA:A.units + 150 < cLine):
    ∀ u,u ∈ its.toArray->EqAt A s u xu (worth X.K ⟨H,g⟩ x qs vs its u):=fun u hu=>by
  have hu':u ∈ its:=by simpa using hu
  obtain ⟨j,hj,e⟩:=List.getElem_of_mem hu'
  have e2:its[j]?=some u:=by rw [List.getElem?_eq_getElem hj,e]
  have hl:=rv.length
  have hlr:=r.length
  have e1:qs[j]?=some (qs[j]'(by omega)):=List.getElem?_eq_getElem _
  rw [worth_at (xv:=xv) (xu:=xu) I r rv hx e1 e2]
  obtain ⟨v1,g1,g2⟩:=r.get e1
  obtain ⟨u1,m1,m2⟩:=rv.get g1
  rw [e2] at m1; cases m1
  obtain ⟨c1,h1⟩:=hx _ (List.mem_of_getElem? e1)
  rw [h1]
  exact (eq_at I 150 g2 rx m2 ru h1 A hA).1
theorem worth_any (I:Inv X pins σ H s) {x:PV} {xv:V} {xu:Value} {qs:List PV} {vs:List V} {its:List Value} (r:RepL X.K ⟨H,g⟩ qs vs) (rv:Vals vs its) (hx:∀ q ∈ qs,∃ c,eqD 150 q x=some c):
    its.toArray.any (worth X.K ⟨H,g⟩ x qs vs its)=qs.any fun q=>(eqD 150 q x).getD false:=by
  have hl:its.length=qs.length:=by rw [← rv.length,r.length]
  have key:its.map (worth X.K ⟨H,g⟩ x qs vs its)=qs.map fun q=>(eqD 150 q x).getD false:=by
    apply List.ext_getElem?
    intro j
    rw [List.getElem?_map,List.getElem?_map]
    by_cases hj:j < its.length
    · have e2:=List.getElem?_eq_getElem hj
      have e1:qs[j]?=some (qs[j]'(by omega)):=List.getElem?_eq_getElem _
      rw [e2,e1,Option.map_some,Option.map_some,worth_at (xv:=xv) (xu:=xu) I r rv hx e1 e2]
    · rw [List.getElem?_eq_none (by omega),List.getElem?_eq_none (by omega)]
      rfl
  rw [show its.toArray.any (worth X.K ⟨H,g⟩ x qs vs its)=its.any (worth X.K ⟨H,g⟩ x qs vs its) by simp]
  have a1:its.any (worth X.K ⟨H,g⟩ x qs vs its)=(its.map (worth X.K ⟨H,g⟩ x qs vs its)).any id:=by simp [List.any_map]
  have a2:(qs.any fun q=>(eqD 150 q x).getD false)=(qs.map fun q=>(eqD 150 q x).getD false).any id:=by simp [List.any_map]
  rw [a1,a2,key]
end
section
variable {X:Cx}
theorem SR.rep2 {v w:V} {p q:PV} (h:SR K H0 Z0 σ H ρ ((w,.sh q)::(v,.sh p)::pd)):∃ Z:ZG,Same Z.z H/\Rep K Z p v/\Rep K Z q w:=by
  obtain ⟨_,Z,_,z,r,s⟩:=h.sh
  obtain ⟨x,e1,e2⟩:=(s.perm sl_cons.symm).1 _ List.mem_cons_self
  cases e1
  exact ⟨Z,z.zh,e2,r⟩
theorem SR.rep2H {v w:V} {p q:PV} (h:SR K H0 Z0 σ H ρ ((w,.sh q)::(v,.sh p)::pd)):∃ g,Rep K ⟨H,g⟩ p v/\Rep K ⟨H,g⟩ q w:=by
  obtain ⟨Z,z,a,b⟩:=h.rep2
  exact ⟨Z.g,a.mono (Z':=⟨H,Z.g⟩) ⟨z,List.prefix_refl _⟩,b.mono (Z':=⟨H,Z.g⟩) ⟨z,List.prefix_refl _⟩⟩
noncomputable def rEqP (K:FG) (neg:Bool):R2:=fun x y H Q=>∃ g p q b,Rep K ⟨H,g⟩ p x/\Rep K ⟨H,g⟩ q y/\eqD 150 p q=some b/\Q (.bl (if neg then !b else b)) H
theorem op_eqP {k:Nat} (hr:Room k X.A):OpR X (compareOp .Eq) (rEqP X.K false):=by
  intro pins s σ H x y v u Q I rx ry h
  obtain ⟨g,p,q,b,rp,rq,e,k'⟩:=h
  have hA:X.A.units + 150 < cLine:=by have:=hr.un; omega
  obtain ⟨_,rc,_⟩:=eq_at I 150 rp rq rx ry e X.A hA
  exact rc _ _ _ _ ⟨.bl b,H,I,rfl,k'⟩
theorem op_neP {k:Nat} (hr:Room k X.A):OpR X (compareOp .NotEq) (rEqP X.K true):=by
  intro pins s σ H x y v u Q I rx ry h
  obtain ⟨g,p,q,b,rp,rq,e,k'⟩:=h
  have hA:X.A.units + 150 < cLine:=by have:=hr.un; omega
  obtain ⟨_,_,rn⟩:=eq_at I 150 rp rq rx ry e X.A hA
  exact rn _ _ _ _ ⟨.bl (!b),H,I,rfl,k'⟩
noncomputable def eqP (p q:PV):Option Lc:=(eqD 150 p q).map fun b=>.sh (.bl b)
noncomputable def neP (p q:PV):Option Lc:=(eqD 150 p q).map fun b=>.sh (.bl (!b))
theorem ops_eq:OpS K (rEqP K false) eqP:=by
  intro H0 Z0 σ ρ pd H v w x y l Q s e k
  obtain ⟨b,e1,rfl⟩:=map_some e
  obtain ⟨g,r1,r2⟩:=s.rep2H
  exact ⟨g,x,y,b,r1,r2,e1,k _ H (s.pop.pop.scal rep_bl)⟩
theorem ops_ne:OpS K (rEqP K true) neP:=by
  intro H0 Z0 σ ρ pd H v w x y l Q s e k
  obtain ⟨b,e1,rfl⟩:=map_some e
  obtain ⟨g,r1,r2⟩:=s.rep2H
  exact ⟨g,x,y,b,r1,r2,e1,k _ H (s.pop.pop.scal rep_bl)⟩
noncomputable def rInP (K:FG) (neg:Bool):R2:=fun x y H Q=>(∃ g p qs b,Rep K ⟨H,g⟩ p x/\(Rep K ⟨H,g⟩ (.lst qs) y\/Rep K ⟨H,g⟩ (.tup qs) y)/\inDs (eqD 150) p qs=some b/\Q (.bl (if neg then !b else b)) H)\/
  ∃ i j,x=.str i/\y=.str j/\Q (.bl (if neg then (Builtin.Str.occurrences j i 0 j.length 1).isEmpty else !(Builtin.Str.occurrences j i 0 j.length 1).isEmpty)) H
theorem op_inP {k:Nat} (hr:Room k X.A):OpR X (compareOp .In) (rInP X.K false):=by
  intro pins s σ H x y v u Q I rx ry h
  have hA:X.A.in1.units + 150 < cLine:=by have:=hr.un; show X.A.units + 1 + 150 < cLine; omega
  rcases h with ⟨g,p,qs,b,rp,rq,e,k'⟩ | ⟨i,j,rfl,rfl,k'⟩
  · obtain ⟨i1,i2⟩:=inDs_at e
    rcases rq with rq | rq
    · obtain ⟨a,vs,its,rfl,q1,l1,rv1,t1⟩:=lst_of I rq ry
      refine SeqAt.in_listAt (worth X.K ⟨H,g⟩ p qs vs its) t1 (worth_eq I rp rx l1 rv1 i1 hA) ⟨.bl b,H,I,?_,k'⟩
      rw [worth_any (xv:=x) (xu:=v) I l1 rv1 i1,← i2]
      rfl
    · obtain ⟨a,vs,its,rfl,q1,l1,rv1,t1⟩:=tup_of I rq ry
      refine SeqAt.in_tupleAt (worth X.K ⟨H,g⟩ p qs vs its) t1 (worth_eq I rp rx l1 rv1 i1 hA) ⟨.bl b,H,I,?_,k'⟩
      rw [worth_any (xv:=x) (xu:=v) I l1 rv1 i1,← i2]
      rfl
  · exact op_in_str pins s σ H (.str i) (.str j) v u Q I rx ry ⟨i,j,rfl,rfl,k'⟩
noncomputable def isIn (x y:PV):Option Bool:=match y with
  | .lst qs=>inDs (eqD 150) x qs
  | .tup qs=>inDs (eqD 150) x qs
  | .str j=>match x with
    | .str i=>some (!(Builtin.Str.occurrences j i 0 j.length 1).isEmpty)
    | _=>none
  | _=>none
noncomputable def inP (p q:PV):Option Lc:=(isIn p q).map fun b=>.sh (.bl b)
theorem ops_in {neg:Bool}:OpS K (rInP K neg) (fun p q=>(isIn p q).map fun b=>.sh (.bl (if neg then !b else b))):=by
  intro H0 Z0 σ ρ pd H v w x y l Q s e k
  obtain ⟨b,e1,rfl⟩:=map_some e
  obtain ⟨g,r1,r2⟩:=s.rep2H
  cases y with
  | lst qs=>exact .inl ⟨g,x,qs,b,r1,.inl r2,e1,k _ H (s.pop.pop.scal rep_bl)⟩
  | tup qs=>exact .inl ⟨g,x,qs,b,r1,.inr r2,e1,k _ H (s.pop.pop.scal rep_bl)⟩
  | str j=>
    cases x with
    | str i=>
      have e1':=Option.some.inj e1
      subst e1'
      refine .inr ⟨i,j,rep_str_inv r1,rep_str_inv r2,?_⟩
      have:=k (.bl (if neg then (Builtin.Str.occurrences j i 0 j.length 1).isEmpty else !(Builtin.Str.occurrences j i 0 j.length 1).isEmpty)) H
      refine this (s.pop.pop.scal fun Z=>?_)
      cases neg <;> simp [Rep]
    | _=>cases e1
  | _=>cases e1
theorem ops_inT:OpS K (rInP K false) inP:=ops_in
noncomputable def isNon:PV->Bool
  | .non=>true
  | _=>false
noncomputable def isNP (p q:PV):Option Lc:=match q with
  | .non=>some (.sh (.bl (isNon p)))
  | _=>none
theorem non_iff {Z:ZG} {p:PV} {v:V} (r:Rep K Z p v):decide (v=.non)=isNon p:=by
  cases p with
  | non=>have:=rep_non_inv r; subst this; rfl
  | bl b=>have:=rep_bl_inv r; subst this; rfl
  | int b=>have:=rep_int_inv r; subst this; rfl
  | str b=>have:=rep_str_inv r; subst this; rfl
  | tup ps=>unfold Rep at r; obtain ⟨a,vs,rfl,_⟩:=r; rfl
  | lst ps=>unfold Rep at r; obtain ⟨a,vs,rfl,_⟩:=r; rfl
  | dk ks ps=>unfold Rep at r; obtain ⟨a,vs,rfl,_⟩:=r; rfl
  | dt ks ps=>unfold Rep at r; obtain ⟨a,vs,rfl,_⟩:=r; rfl
  | obj c ks ps=>unfold Rep at r; obtain ⟨a,c,dx,fs,rfl,_⟩:=r; rfl
  | df ks ps=>unfold Rep at r; obtain ⟨a,o,kvs,rfl,_⟩:=r; rfl
  | dtf ks ps=>unfold Rep at r; obtain ⟨a,o,kvs,rfl,_⟩:=r; rfl
  | ptr n=>unfold Rep at r; obtain ⟨a,rfl,_⟩:=r; rfl
theorem ops_isN:OpS K (fun x y H Q=>y=.non/\Q (.bl (decide (x=.non))) H) isNP:=by
  intro H0 Z0 σ ρ pd H v w x y l Q s e k
  obtain ⟨g,r1,r2⟩:=s.rep2H
  cases y with
  | non=>
    have e':=Option.some.inj e
    subst e'
    refine ⟨rep_non_inv r2,?_⟩
    rw [non_iff r1]
    exact k _ H (s.pop.pop.scal rep_bl)
  | _=>cases e
noncomputable def ltP:=iOp (fun _ _=>true) fun i j=>.bl (decide (i < j))
noncomputable def gtP:=iOp (fun _ _=>true) fun i j=>.bl (decide (j < i))
theorem ops_lt:OpS K (rI0 fun i j=>.bl (decide (i < j))) ltP:=ops_I0 fun _ _ _=>rep_bl _
theorem ops_gt:OpS K (rI0 fun i j=>.bl (decide (j < i))) gtP:=ops_I0 fun _ _ _=>rep_bl _
noncomputable def subP:=iOp (fun _ _=>true) fun i j=>.int (i - j)
noncomputable def modP:=iOp (fun _ j=>decide (0 < j)) fun i j=>.int (i % j)
noncomputable def fdivP:=iOp (fun _ j=>decide (0 < j/\j < 1073741824)) fun i j=>.int (i / j)
noncomputable def mulP:=iOp (fun i j=>decide ((-(2 ^ 64) < i/\i < 2 ^ 64)\/(-(2 ^ 64) < j/\j < 2 ^ 64))) fun i j=>.int (i * j)
noncomputable def powP:=iOp (fun i j=>decide (0<=j/\j<=1000000/\i.natAbs < 2 ^ 64)) fun i j=>.int (i ^ j.toNat)
theorem ops_sub:OpS K (rI0 fun i j=>.int (i - j)) subP:=ops_I0 fun _ _ _=>rep_int _
theorem ops_mod:OpS K (rI (fun _ j=>0 < j) fun i j=>.int (i % j)) modP:=ops_I (fun _ _ h=>of_decide_eq_true h) fun _ _ _=>rep_int _
theorem ops_fdiv:OpS K (rI CDiv fun i j=>.int (i / j)) fdivP:=ops_I (fun i j h=>(of_decide_eq_true h:0 < j/\j < 1073741824)) fun _ _ _=>rep_int _
theorem ops_mul:OpS K (rI CMul fun i j=>.int (i * j)) mulP:=ops_I (fun i j h=>(of_decide_eq_true h:(-(2 ^ 64) < i/\i < 2 ^ 64)\/(-(2 ^ 64) < j/\j < 2 ^ 64))) fun _ _ _=>rep_int _
theorem ops_pow:OpS K (rI CPow fun i j=>.int (i ^ j.toNat)) powP:=ops_I (fun i j h=>(of_decide_eq_true h:0<=j/\j<=1000000/\i.natAbs < 2 ^ 64)) fun _ _ _=>rep_int _
noncomputable def rAdd (K:FG):R2:=fun x y H Q=>rI0 (fun i j=>.int (i + j)) x y H Q\/(∃ i j,x=.str i/\y=.str j/\i.length + j.length<=sizeLine/\Q (.str (i++j)) H)\/
  (∃ a b xs ys,x=.ref a/\y=.ref b/\SqL K H a xs/\SqL K H b ys/\xs.length + ys.length<=sizeLine/\∀ p,H p=none->Q (.ref p) (upd H p (.lst (xs++ys))))\/rCatT K x y H Q
theorem op_addP:OpR X (binaryOp .Add) (rAdd X.K):=op_add.or (op_add_str.or (op_catS.or op_catT))
noncomputable def addP:PV->PV->Option Lc
  | .int i,.int j=>some (.sh (.int (i + j)))
  | .str i,.str j=>if i.length + j.length<=100000 then some (.sh (.str (i++j))) else none
  | .lst ps,.lst qs=>if ps.length + qs.length<=100000 then some (.own (.lst (ps++qs))) else none
  | .tup (p::ps),.tup qs=>if ps.length + qs.length<=10000 then some (.sh (.tup (p::ps++qs))) else none
  | _,_=>none
theorem ite_some {α:Type} {c:Prop} [Decidable c] {a b:α} (e:(if c then some a else none)=some b):c/\a=b:=by
  split at e
  · rename_i h
    exact ⟨h,Option.some.inj e⟩
  · cases e
theorem addP_sh {x y:PV} {l:Lc} (e:addP x y=some l):(∃ i j,x=.int i/\y=.int j/\l=.sh (.int (i + j)))\/(∃ i j,x=.str i/\y=.str j/\i.length + j.length<=100000/\l=.sh (.str (i++j)))
    \/ (∃ ps qs,x=.lst ps/\y=.lst qs/\ps.length + qs.length<=100000/\l=.own (.lst (ps++qs)))\/∃ p ps qs,x=.tup (p::ps)/\y=.tup qs/\ps.length + qs.length<=10000/\l=.sh (.tup (p::ps++qs)):=by
  unfold addP at e
  split at e
  · cases e
    exact .inl ⟨_,_,rfl,rfl,rfl⟩
  · obtain ⟨h,e⟩:=ite_some e
    exact .inr (.inl ⟨_,_,rfl,rfl,h,e.symm⟩)
  · obtain ⟨h,e⟩:=ite_some e
    exact .inr (.inr (.inl ⟨_,_,rfl,rfl,h,e.symm⟩))
  · obtain ⟨h,e⟩:=ite_some e
    exact .inr (.inr (.inr ⟨_,_,_,rfl,rfl,h,e.symm⟩))
  · cases e
theorem ops_add:OpS K (rAdd K) addP:=by
  intro H0 Z0 σ ρ pd H v w x y l Q s e k
  obtain ⟨g,r1,r2⟩:=s.rep2H
  rcases addP_sh e with ⟨i,j,rfl,rfl,rfl⟩ | ⟨i,j,rfl,rfl,hl,rfl⟩ | ⟨ps,qs,rfl,rfl,hl,rfl⟩ | ⟨p,ps,qs,rfl,rfl,hl,rfl⟩
  · exact .inl ⟨i,j,rep_int_inv r1,rep_int_inv r2,k _ H (s.pop.pop.scal rep_int)⟩
  · exact .inr (.inl ⟨i,j,rep_str_inv r1,rep_str_inv r2,small hl,k _ H (s.pop.pop.scal rep_str)⟩)
  · obtain ⟨el,Z,hg,z,rq,s1⟩:=s.sh
    have s2:=s1.perm sl_cons.symm
    obtain ⟨_,e1,rp⟩:=s2.1 _ List.mem_cons_self
    cases e1
    unfold Rep at rp rq
    obtain ⟨a,xs,rfl,h1,h2⟩:=rp
    obtain ⟨b,ys,rfl,h3,h4⟩:=rq
    refine .inr (.inr (.inl ⟨a,b,xs,ys,rfl,rfl,SqL.same z.zh h1,SqL.same z.zh h3,by rw [h2.length,h4.length]; exact small hl,fun p hp=>k _ _ ?_⟩))
    obtain ⟨z',s'⟩:=(s2.sub (List.sublist_cons_self _ _)).new (o:=.lst (xs++ys)) (p:=.lst (ps++qs)) z hp ⟨xs++ys,upd_same,h2.append h4⟩
    exact .mk el hg z' s'
  · obtain ⟨el,Z,hg,z,rq,s1⟩:=s.sh
    have s2:=s1.perm sl_cons.symm
    obtain ⟨_,e1,rp⟩:=s2.1 _ List.mem_cons_self
    cases e1
    unfold Rep at rp rq
    obtain ⟨a,xs,rfl,h1,h2⟩:=rp
    obtain ⟨b,ys,rfl,h3,h4⟩:=rq
    have hx:xs ≠ []:=fun h=>by have:=h2.length; rw [h] at this; simp at this
    have hz:=h2.length
    have hz':=h4.length
    rw [List.length_cons] at hz
    refine .inr (.inr (.inr ⟨a,b,xs,ys,rfl,rfl,SqT.same z.zh h1,SqT.same z.zh h3,hx,small (by omega),fun h=>?_,fun h q hq=>?_⟩))
    · subst h
      have:qs=[]:=List.eq_nil_of_length_eq_zero hz'.symm
      subst this
      rw [List.append_nil] at k
      exact k _ H s.pop
    · have s3:=s2.sub (List.sublist_cons_self _ _)
      obtain ⟨z',sz,s'⟩:=s3.newF (o:=.tup (xs++ys)) z hq
      refine k _ _ (.mk (Z:=Z.put q (.tup (xs++ys))) el hg z' (s'.consS ?_))
      unfold Rep
      exact ⟨q,xs++ys,rfl,SqT.of upd_same,(h2.append h4).mono sz⟩
noncomputable def ixP:PV->PV->Option Lc
  | .lst ps,.int i=>(atI ps i).map .sh
  | .tup ps,.int i=>(atI ps i).map .sh
  | .str x,.int i=>if x.length<=100000 then (atI x.cps.toList i).map fun c=>.sh (.str ⟨#[c]⟩) else none
  | _,_=>none
theorem atI_len {α β:Type} {l:List α} {r:List β} {i:Int} {x:α} (h:atI l i=some x) (e:r.length=l.length):∃ (j:Nat),l[j]?=some x/\∀ y,r[j]?=some y->atI r i=some y:=by
  unfold atI at h
  obtain ⟨j,h1,h2⟩:=bind_some h
  refine ⟨j,h2,fun y hy=>?_⟩
  unfold atI
  rw [e,h1]
  exact hy
theorem ixP_sh {x y:PV} {l:Lc} (e:ixP x y=some l):∃ i,y=.int i/\((∃ ps,(x=.lst ps\/x=.tup ps)/\(atI ps i).map Lc.sh=some l)\/∃ t c,x=.str t/\t.length<=100000/\atI t.cps.toList i=some c/\l=.sh (.str ⟨#[c]⟩)):=by
  unfold ixP at e
  split at e
  · exact ⟨_,rfl,.inl ⟨_,.inl rfl,e⟩⟩
  · exact ⟨_,rfl,.inl ⟨_,.inr rfl,e⟩⟩
  · split at e
    · rename_i h
      obtain ⟨c,h1,rfl⟩:=map_some e
      exact ⟨_,rfl,.inr ⟨_,c,rfl,h,h1,rfl⟩⟩
    · cases e
  · cases e
theorem ops_ix:OpS K (rIx K) ixP:=by
  intro H0 Z0 σ ρ pd H v w x y l Q s e k
  obtain ⟨i,rfl,hx⟩:=ixP_sh e
  obtain ⟨el,Z,hg,z,r2,s1⟩:=s.sh
  have s2:=s1.perm sl_cons.symm
  obtain ⟨_,e1,r1⟩:=s2.1 _ List.mem_cons_self
  cases e1
  have s3:=s2.sub (List.sublist_cons_self _ _)
  have ew:=rep_int_inv r2
  rcases hx with ⟨ps,hx,h0⟩ | ⟨x,c,rfl,hl,h1,rfl⟩
  · obtain ⟨p,h1,rfl⟩:=map_some h0
    rcases hx with rfl | rfl
    · unfold Rep at r1
      obtain ⟨a,vs,rfl,h2,h3⟩:=r1
      obtain ⟨j,e1,e2⟩:=atI_len h1 h3.length
      obtain ⟨u,e3,e4⟩:=h3.get e1
      exact .inl ⟨a,vs,i,u,rfl,ew,SqL.same z.zh h2,e2 u e3,k _ H (.mk el hg z (s3.consS e4))⟩
    · unfold Rep at r1
      obtain ⟨a,vs,rfl,h2,h3⟩:=r1
      obtain ⟨j,e1,e2⟩:=atI_len h1 h3.length
      obtain ⟨u,e3,e4⟩:=h3.get e1
      exact .inr (.inl ⟨a,vs,i,u,rfl,ew,SqT.same z.zh h2,e2 u e3,k _ H (.mk el hg z (s3.consS e4))⟩)
  · exact .inr (.inr ⟨x,i,c,rep_str_inv r1,ew,small hl,h1,k _ H (s.pop.pop.scal rep_str)⟩)
noncomputable def cutP (ps:List PV) (lo hi:Option Int):List PV:=(ps.drop (HT.sIx ps.length 0 lo)).take (HT.sIx ps.length ps.length hi - HT.sIx ps.length 0 lo)
noncomputable abbrev OF:=Ev->Option (Option Int × Ev)
noncomputable def tPO (K:FG) (f:OF):TO:=fun σ H Q=>∃ H0 Z0 ρ pd r ρ',SR K H0 Z0 σ H ρ pd/\f ρ=some (r,ρ')/\∀ H',SR K H0 Z0 σ H' ρ' pd->Q r H'
theorem PO.imp {e:Option Expr} {t t':TO} (h:PO X e t) (i:∀ σ H Q,t' σ H Q->t σ H Q):PO X e t':=fun pins s σ H Q I q=>h pins s σ H Q I (i σ H Q q)
noncomputable def oNone:OF:=fun ρ=>some (none,ρ)
noncomputable def oSome (f:EF):OF:=fun ρ=>(f ρ).bind fun x=>match x.1.pv with
  | .int i=>some (some i,x.2)
  | _=>none
theorem qo_none:PO X none (tPO X.K oNone):=PO.imp po_none fun σ H Q q=>by
  obtain ⟨H0,Z0,ρ,pd,r,ρ',s,h,k⟩:=q
  cases h
  exact k H s
theorem qo_some {e:Expr} {f:EF} (h:PE X e (tP X.K f)):PO X (some e) (tPO X.K (oSome f)):=PO.imp (po_some h) fun σ H Q q=>by
  obtain ⟨H0,Z0,ρ,pd,r,ρ',s,h,k⟩:=q
  obtain ⟨x,h1,h2⟩:=bind_some h
  refine ⟨H0,Z0,ρ,pd,x.1,x.2,s,h1,fun v H1 s1=>?_⟩
  obtain ⟨_,r1⟩:=s1.freeze.repH
  cases e:x.1.pv with
  | int i=>
    rw [e] at h2 r1
    cases h2
    exact ⟨i,rep_int_inv r1,k H1 s1.pop⟩
  | _=>rw [e] at h2; cases h2
theorem RepL.cut {Z:ZG} {ps:List PV} {vs:List V} {lo hi:Option Int} (h:RepL K Z ps vs):RepL K Z (cutP ps lo hi) (cutV vs lo hi):=by
  unfold cutP cutV
  rw [h.length]
  exact (h.drop _).take _
noncomputable def CallS (K:FG) (r:List V->Hp->VK->Prop) (g:List PV->Option Lc):Prop:=∀ H0 Z0 σ ρ pd H vs ps l Q,vs.length=ps.length->SR K H0 Z0 σ H ρ (vs.zip (ps.map Lc.sh)++pd)->g ps=some l->(∀ u H',SR K H0 Z0 σ H' ρ ((u,l)::pd)->Q u H')->r vs H Q
noncomputable def eB (g:List PV->Option Lc) (a:AF):EF:=fun ρ=>(a ρ).bind fun y=>(g (y.1.map Lc.pv)).map fun l=>(l,y.2)
theorem cb_imp {r:List V->Hp->VK->Prop} {g:List PV->Option Lc} (hs:CallS X.K r g) {a:AF}:∀ σ H Q,tP X.K (eB g a) σ H Q->tCB r (tPA X.K a) σ H Q:=fun σ H Q q=>by
  obtain ⟨H0,Z0,ρ,pd,l,ρ',s,f,k⟩:=q
  obtain ⟨y,h1,h2⟩:=bind_some f
  obtain ⟨l',h3,h4⟩:=map_some h2
  cases h4
  refine ⟨H0,Z0,ρ,pd,y.1,y.2,s,h1,fun vs H2 e2 s2=>?_⟩
  have s3:=s2.freezeAll
  have hm:(y.1.map fun l=>Lc.sh l.pv)=(y.1.map Lc.pv).map Lc.sh:=by rw [List.map_map]; rfl
  rw [hm] at s3
  exact hs H0 Z0 σ y.2 pd H2 vs (y.1.map Lc.pv) _ Q (by simpa using e2) s3 h3 k
theorem qcallB {x:Str} {id:String} {r:List V->Hp->VK->Prop} {g:List PV->Option Lc} {e:Expr} {es:List Expr} {a:AF} {p pos:Pos} (hc:CallR X (.builtin id) r) (hs:CallS X.K r g) (h:PE X (.Call (.Name x p) (e::es) [] pos) (tCB r (tPA X.K a))):PE X (.Call (.Name x p) (e::es) [] pos) (tP X.K (eB g a)):=PE.imp h (cb_imp hs)
theorem CallS.one {r:List V->Hp->VK->Prop} {g:PV->Option Lc} (h:∀ H0 Z0 σ ρ pd H v p l Q,SR K H0 Z0 σ H ρ ((v,.sh p)::pd)->g p=some l->(∀ u H',SR K H0 Z0 σ H' ρ ((u,l)::pd)->Q u H')->r [v] H Q):
    CallS K r (fun ps=>match ps with | [p]=>g p | _=>none):=by
  intro H0 Z0 σ ρ pd H vs ps l Q e s hg k
  match ps,vs,e,s,hg with
  | [p],[v],_,s,hg=>exact h H0 Z0 σ ρ pd H v p l Q s hg k
  | [p],[],e,_,_=>simp at e
  | [p],_::_::_,e,_,_=>simp at e
  | [],_,_,_,hg=>cases hg
  | _::_::_,_,_,_,hg=>cases hg
noncomputable def lenP:PV->Option Lc
  | .str x=>if x.length<=100000 then some (.sh (.int x.length)) else none
  | .lst ps=>some (.sh (.int ps.length))
  | .tup ps=>some (.sh (.int ps.length))
  | _=>none
noncomputable abbrev len1:List PV->Option Lc:=fun ps=>match ps with | [p]=>lenP p | _=>none
theorem cs_len:CallS K (fun xs H Q=>∃ x n,xs=[x]/\LenV K x H n/\Q (.int n) H) len1:=CallS.one fun H0 Z0 σ ρ pd H v p l Q s e k=>by
  obtain ⟨_,r⟩:=s.repH
  cases p with
  | str x=>
    have e':(if x.length<=100000 then some (Lc.sh (.int x.length)) else none)=some l:=e
    split at e'
    · rename_i hl
      cases e'
      have:=rep_str_inv r
      subst this
      exact ⟨_,x.length,rfl,⟨small hl,rfl⟩,k _ H (s.pop.scal rep_int)⟩
    · cases e'
  | lst ps=>
    cases e
    unfold Rep at r
    obtain ⟨a,vs,rfl,h1,h2⟩:=r
    exact ⟨_,ps.length,rfl,.inl ⟨vs,h1,h2.length.symm⟩,k _ H (s.pop.scal rep_int)⟩
  | tup ps=>
    cases e
    unfold Rep at r
    obtain ⟨a,vs,rfl,h1,h2⟩:=r
    exact ⟨_,ps.length,rfl,.inr ⟨vs,h1,h2.length.symm⟩,k _ H (s.pop.scal rep_int)⟩
  | _=>cases e
noncomputable def listP:PV->Option Lc
  | .lst ps=>some (.own (.lst ps))
  | .tup ps=>some (.own (.lst ps))
  | _=>none
noncomputable abbrev list1:List PV->Option Lc:=fun ps=>match ps with | [p]=>listP p | _=>none
theorem cs_list:CallS K (fun xs H Q=>∃ p ys,xs=[.ref p]/\(SqL K H p ys\/SqT K H p ys)/\∀ l,H l=none->Q (.ref l) (upd H l (.lst ys))) list1:=CallS.one fun H0 Z0 σ ρ pd H v p l Q s e k=>by
  obtain ⟨el,Z,hg,z,r,s1⟩:=s.sh
  cases p with
  | lst ps=>
    cases e
    unfold Rep at r
    obtain ⟨a,vs,rfl,h1,h2⟩:=r
    refine ⟨a,vs,rfl,.inl (SqL.same z.zh h1),fun q hq=>k _ _ ?_⟩
    obtain ⟨z',s'⟩:=s1.new (o:=.lst vs) (p:=.lst ps) z hq ⟨_,upd_same,h2⟩
    exact .mk el hg z' s'
  | tup ps=>
    cases e
    unfold Rep at r
    obtain ⟨a,vs,rfl,h1,h2⟩:=r
    refine ⟨a,vs,rfl,.inr (SqT.same z.zh h1),fun q hq=>k _ _ ?_⟩
    obtain ⟨z',s'⟩:=s1.new (o:=.lst vs) (p:=.lst ps) z hq ⟨_,upd_same,h2⟩
    exact .mk el hg z' s'
  | _=>cases e
end
section
variable {X:Cx}
theorem Ev.set_set {i:Nat} {x y:Option Lc}:(ρ.set i x).set i y=ρ.set i y:=by
  show Ev.mk ((ρ.vs.set i x).set i y) ρ.mu=_
  rw [List.set_set]
  rfl
theorem SR.takeO {i:Nat} {ws:List PV} (s:SR K H0 Z0 σ H ρ pd) (e:ρ.vs[i]?=some (some (.own (.lst ws)))):
    ∃ a,σ[i]?=some (some (.ref a))/\(∃ us,H a=some (.lst us))/\SR K H0 Z0 σ H (ρ.set i none) ((.ref a,.own (.lst ws))::pd):=by
  obtain ⟨v,e1,s1⟩:=s.take e
  obtain ⟨_,Z,_,z,so⟩:=s1.top
  obtain ⟨a,ea,⟨us,hu,_⟩,_⟩:=so.1 _ List.mem_cons_self
  have ea':v=.ref a:=Option.some.inj ea
  subst ea'
  exact ⟨a,e1,⟨us,hu⟩,s1⟩
noncomputable def sApp (i:Nat) (f:EF):SF:=fun ρ=>match ρ.vs[i]? with
  | some (some (.own (.lst _)))=>(f ρ).bind fun y=>match y.2.vs[i]? with
    | some (some (.own (.lst ws)))=>if ws.length < 100000 then some (.nx (y.2.set i (some (.own (.lst (ws++[y.1.pv])))))) else none
    | _=>none
  | _=>none
theorem qs_app {i:Nat} {o e:Expr} {f:EF} {apos cpos pos:Pos} (h:PS X (.Expr (.Call (.Attribute o "append" apos) [e] [] cpos) pos) (tDrop (tBM X.K "list" rAppend (tVar i) (tPA X.K (aCons f aNil))))):
    PS X (.Expr (.Call (.Attribute o "append" apos) [e] [] cpos) pos) (tPs X.K (sApp i f)):=PS.imp h fun D σ H q=>by
  obtain ⟨H0,Z0,ρ,pd,fl,s,h,k⟩:=q
  unfold sApp at h
  split at h
  · rename_i ws0 e0
    obtain ⟨y,h1,h2⟩:=bind_some h
    obtain ⟨a,ea,⟨us,hu⟩,_⟩:=s.takeO e0
    refine ⟨.ref a,ea,.inl ⟨rfl,us,SqL.of hu⟩,H0,Z0,ρ,pd,[y.1],y.2,s,?_,fun vs H2 e2 s2=>?_⟩
    · unfold aCons aNil
      rw [h1]
      rfl
    · obtain ⟨v1,rfl⟩:=ln1 e2
      split at h2
      · rename_i ws e3
        split at h2
        · rename_i hz
          cases h2
          obtain ⟨a',ea',_,s3⟩:=SR.takeO s2 e3
          rw [ea] at ea'; cases ea'
          have s4:SR X.K H0 Z0 σ H2 (y.2.set i none) ((v1,y.1)::(.ref a,.own (.lst ws))::pd):=s3.swap
          obtain ⟨us2,hu2,hl,s5⟩:=s4.pushO
          refine ⟨a,us2,v1,rfl,rfl,hu2,by rw [hl,sizeLine_eq]; omega,k σ _ ?_⟩
          have s6:=s5.put ea
          rw [Ev.set_set] at s6
          exact s6
        · cases h2
      · cases h2
  · cases h
theorem SR.extO {v:V} {ps:List PV} {a:Addr} {ws:List PV} (s:SR K H0 Z0 σ H ρ ((v,.sh (.lst ps))::(.ref a,.own (.lst ws))::pd)):
    ∃ b us zs,v=.ref b/\SqL K H b zs/\H a=some (.lst us)/\us.length=ws.length/\zs.length=ps.length/\SR K H0 Z0 σ (upd H a (.lst (us++zs))) ρ ((.ref a,.own (.lst (ws++ps)))::pd):=by
  obtain ⟨el,Z,hg,z,r,so⟩:=s.sh
  unfold Rep at r
  obtain ⟨b,zs,rfl,h1,h2⟩:=r
  have so2:=so.perm sl_cons.symm
  obtain ⟨_,eb,⟨us,hu,hr⟩,_⟩:=so2.1 _ List.mem_cons_self
  cases eb
  refine ⟨b,us,zs,rfl,SqL.same z.zh h1,hu,hr.length,h2.length,?_⟩
  obtain ⟨z',s'⟩:=so2.write (o:=.lst (us++zs)) (q:=.lst (ws++ps)) z ⟨us++zs,upd_same,hr.append h2⟩
  exact .mk el hg z' s'
noncomputable def sExt (i:Nat) (f:EF):SF:=fun ρ=>match ρ.vs[i]? with
  | some (some (.own (.lst _)))=>(f ρ).bind fun y=>match y.1.pv,y.2.vs[i]? with
    | .lst ps,some (some (.own (.lst ws)))=>if ws.length + ps.length<=100000 then some (.nx (y.2.set i (some (.own (.lst (ws++ps)))))) else none
    | _,_=>none
  | _=>none
theorem qs_ext {i:Nat} {o e:Expr} {f:EF} {apos cpos pos:Pos} (h:PS X (.Expr (.Call (.Attribute o "extend" apos) [e] [] cpos) pos) (tDrop (tBM X.K "list" (rExtendS X.K) (tVar i) (tPA X.K (aCons f aNil))))):
    PS X (.Expr (.Call (.Attribute o "extend" apos) [e] [] cpos) pos) (tPs X.K (sExt i f)):=PS.imp h fun D σ H q=>by
  obtain ⟨H0,Z0,ρ,pd,fl,s,h,k⟩:=q
  unfold sExt at h
  split at h
  · rename_i ws0 e0
    obtain ⟨y,h1,h2⟩:=bind_some h
    obtain ⟨a,ea,⟨us,hu⟩,_⟩:=s.takeO e0
    refine ⟨.ref a,ea,.inl ⟨rfl,us,SqL.of hu⟩,H0,Z0,ρ,pd,[y.1],y.2,s,?_,fun vs H2 e2 s2=>?_⟩
    · unfold aCons aNil
      rw [h1]
      rfl
    · obtain ⟨v1,rfl⟩:=ln1 e2
      split at h2
      · rename_i ps ws ep e3
        split at h2
        · rename_i hz
          cases h2
          obtain ⟨a',ea',_,s3⟩:=SR.takeO s2 e3
          rw [ea] at ea'; cases ea'
          have s4:SR X.K H0 Z0 σ H2 (y.2.set i none) ((v1,.sh y.1.pv)::(.ref a,.own (.lst ws))::pd):=s3.swap.freeze
          rw [ep] at s4
          obtain ⟨b,us2,zs,rfl,hb,hu2,hl,hl2,s5⟩:=s4.extO
          refine ⟨a,b,us2,zs,rfl,rfl,hu2,hb,by rw [hl,hl2]; exact small hz,k σ _ ?_⟩
          have s6:=s5.put ea
          rw [Ev.set_set] at s6
          exact s6
        · cases h2
      · cases h2
  · cases h
theorem SR.setO {v:V} {p:PV} {a:Addr} {ws:List PV} {j:Nat} (s:SR K H0 Z0 σ H ρ ((v,.sh p)::(.ref a,.own (.lst ws))::pd)):
    ∃ us,H a=some (.lst us)/\us.length=ws.length/\SR K H0 Z0 σ (upd H a (.lst (us.set j v))) ρ ((.ref a,.own (.lst (ws.set j p)))::pd):=by
  obtain ⟨el,Z,hg,z,r,so⟩:=s.sh
  have so2:=so.perm sl_cons.symm
  obtain ⟨_,eb,⟨us,hu,hr⟩,_⟩:=so2.1 _ List.mem_cons_self
  cases eb
  refine ⟨us,hu,hr.length,?_⟩
  obtain ⟨z',s'⟩:=so2.write (o:=.lst (us.set j v)) (q:=.lst (ws.set j p)) z ⟨us.set j v,upd_same,hr.set r j⟩
  exact .mk el hg z' s'
noncomputable def sSetI (i:Nat) (fi fv:EF):SF:=fun ρ=>(fv ρ).bind fun x=>match x.2.vs[i]? with
  | some (some (.own (.lst _)))=>(fi x.2).bind fun y=>match y.1.pv,y.2.vs[i]? with
    | .int k,some (some (.own (.lst ws)))=>(ixN ws.length k).map fun j=>.nx (y.2.set i (some (.own (.lst (ws.set j x.1.pv)))))
    | _,_=>none
  | _=>none
theorem cel_split {g:List Addr} {mu:Mu} {n:Nat} {a:Addr} {o:Option PV} (hg:g[n]?=some a) (hm:mu[n]?=some o):∃ R:Sl,List.Perm (cel g mu) ((some (.ref a),o.map Lc.own)::R)/\∀ o',List.Perm (cel g (mu.set n o')) ((some (.ref a),o'.map Lc.own)::R):=by
  have h1:(g.map fun a=>some (V.ref a))[n]?=some (some (.ref a)):=by rw [List.getElem?_map,hg]; rfl
  have h2:(mu.map fun o=>o.map Lc.own)[n]?=some (o.map Lc.own):=by rw [List.getElem?_map,hm]; rfl
  obtain ⟨R,p1,p2⟩:=set_split (zip_get h1 h2)
  refine ⟨R,p1,fun o'=>?_⟩
  have:=p2 (some (.ref a),o'.map Lc.own)
  rw [← zip_set,set_same h1] at this
  unfold cel
  rw [List.map_set]
  exact this
theorem SR.cellO {v:V} {n:Nat} {p:PV} (s:SR K H0 Z0 σ H ρ ((v,.sh (.ptr n))::pd)) (hm:ρ.mu[n]?=some (some p)):
    ∃ a,v=.ref a/\SR K H0 Z0 σ H ⟨ρ.vs,ρ.mu.set n none⟩ ((.ref a,.own p)::(.ref a,.sh (.ptr n))::pd):=by
  obtain ⟨el,Z,hg,z,r,so⟩:=s.sh
  have r0:=r
  unfold Rep at r
  obtain ⟨a,rfl,ha⟩:=r
  obtain ⟨R,p1,p2⟩:=cel_split ha hm
  refine ⟨a,rfl,.mk (Z:=Z) el (by simpa using hg) z ?_⟩
  have so2:Slots K H0 Z H ((some (.ref a),some (.own p))::(R++(σ.zip ρ.vs++pd.map fun e=>(some e.1,some e.2)))):=so.perm (p1.append_right _).symm
  have so3:Slots K H0 Z H ((some (.ref a),none)::(some (.ref a),some (.own p))::(R++(σ.zip ρ.vs++pd.map fun e=>(some e.1,some e.2)))):=by
    refine ⟨fun e he=>?_,?_⟩
    · rcases List.mem_cons.mp he with rfl | he
      · trivial
      · exact so2.1 e he
    · rw [List.filterMap_cons_none rfl]; exact so2.2
  have so4:Slots K H0 Z H ((some (.ref a),some (.own p))::sl Z.g σ ⟨ρ.vs,ρ.mu.set n none⟩ pd):=(so3.perm (List.Perm.swap _ _ _)).perm (List.Perm.cons _ ((p2 none).append_right _))
  exact ((so4.consS r0).perm (List.Perm.swap _ _ _)).perm (List.Perm.cons _ sl_cons)
theorem SR.cellP {a:Addr} {n:Nat} {q:PV} (s:SR K H0 Z0 σ H ρ ((.ref a,.own q)::(.ref a,.sh (.ptr n))::pd)) (hm:ρ.mu[n]?=some none):SR K H0 Z0 σ H ⟨ρ.vs,ρ.mu.set n (some q)⟩ pd:=by
  obtain ⟨el,Z,hg,z,r,so⟩:=s.swap.sh
  unfold Rep at r
  obtain ⟨b,eb,ha⟩:=r
  cases eb
  obtain ⟨R,p1,p2⟩:=cel_split ha hm
  have so2:=so.perm sl_cons.symm
  refine ⟨el,Z,by simpa using hg,z,?_⟩
  have p3:List.Perm (sl Z.g σ ρ pd) ((some (.ref a),none)::(R++(σ.zip ρ.vs++pd.map fun e=>(some e.1,some e.2)))):=p1.append_right _
  have so3:=so2.perm (p3.symm.cons _)
  have so4:=so3.sub (L':=(some (.ref a),some (.own q))::(R++(σ.zip ρ.vs++pd.map fun e=>(some e.1,some e.2)))) ((List.sublist_cons_self _ _).cons_cons _)
  exact so4.perm ((p2 (some q)).append_right _)
noncomputable def sSetC (fo fi fv:EF):SF:=fun ρ=>(fv ρ).bind fun x=>(fo x.2).bind fun o=>(fi o.2).bind fun y=>match o.1.pv,y.1.pv with
  | .ptr n,.int k=>match y.2.mu[n]? with
    | some (some (.lst ws))=>(ixN ws.length k).map fun j=>.nx ⟨y.2.vs,y.2.mu.set n (some (.lst (ws.set j x.1.pv)))⟩
    | _=>none
  | _,_=>none
theorem qs_setC' {o ix e:Expr} {fo fi fv:EF} {tpos pos:Pos} (h:PS X (.Assign [.Subscript o ix tpos] e pos) (tAsg (tP X.K fv) (gSub (tP X.K fo) (tP X.K fi) rSetL))):PS X (.Assign [.Subscript o ix tpos] e pos) (tPs X.K (sSetC fo fi fv)):=PS.imp h fun D σ H q=>by
  obtain ⟨H0,Z0,ρ,pd,fl,s,h,k⟩:=q
  obtain ⟨x,h1,h2⟩:=bind_some h
  obtain ⟨o,h3,h4⟩:=bind_some h2
  obtain ⟨y,h5,h6⟩:=bind_some h4
  refine ⟨H0,Z0,ρ,pd,x.1,x.2,s,h1,fun v H1 s1=>⟨H0,Z0,x.2,_,o.1,o.2,s1.freeze,h3,fun w H2 s2=>⟨H0,Z0,o.2,_,y.1,y.2,s2.freeze,h5,fun t H3 s3=>?_⟩⟩⟩
  split at h6
  · rename_i n kk en ek
    split at h6
    · rename_i ws em
      obtain ⟨j,h7,rfl⟩:=map_some h6
      obtain ⟨_,rt'⟩:=s3.freeze.repH
      rw [ek] at rt'
      have et:=rep_int_inv rt'
      have s4:=s3.pop
      rw [en] at s4
      obtain ⟨a,rfl,s5⟩:=s4.cellO em
      have s6:SR X.K H0 Z0 σ H3 ⟨y.2.vs,y.2.mu.set n none⟩ ((v,.sh x.1.pv)::(.ref a,.own (.lst ws))::(.ref a,.sh (.ptr n))::pd):=s5.perm ((List.Perm.swap _ _ _).trans ((List.Perm.swap _ _ _).cons _))
      obtain ⟨us,hu,hl,s7⟩:=s6.setO (j:=j)
      have hn:n < y.2.mu.length:=(List.getElem?_eq_some_iff.mp em).1
      have s8:=s7.cellP (by show (y.2.mu.set n none)[n]?=_; rw [List.getElem?_set_self hn])
      refine ⟨a,us,kk,j,rfl,et,hu,by rw [hl]; exact h7,k σ _ ?_⟩
      have e8:(y.2.mu.set n none).set n (some (.lst (ws.set j x.1.pv)))=y.2.mu.set n (some (.lst (ws.set j x.1.pv))):=List.set_set ..
      have s9:SR X.K H0 Z0 σ (upd H3 a (.lst (us.set j v))) ⟨y.2.vs,(y.2.mu.set n none).set n (some (.lst (ws.set j x.1.pv)))⟩ pd:=s8
      rw [e8] at s9
      exact s9
    · cases h6
  · cases h6
noncomputable def eIx (fa fb:EF):EF:=fun ρ=>(fa ρ).bind fun x=>(fb x.2).bind fun y=>match x.1.pv,y.1.pv with
  | .ptr n,.int k=>match y.2.mu[n]? with
    | some (some (.lst ws))=>(atI ws k).map fun p=>(.sh p,y.2)
    | _=>none
  | p,q=>(ixP p q).map fun l=>(l,y.2)
theorem qix' {a b:Expr} {pos:Pos} {fa fb:EF} (ha:PE X a (tP X.K fa)) (hb:PE X b (tP X.K fb)) (hm:PlainIx b):PE X (.Subscript a b pos) (tP X.K (eIx fa fb)):=PE.imp (pe_ix ix_seq ha hb hm) fun σ H Q q=>by
  obtain ⟨H0,Z0,ρ,pd,l,ρ',s,f,k⟩:=q
  obtain ⟨x,h1,h2⟩:=bind_some f
  obtain ⟨y,h3,h4⟩:=bind_some h2
  refine ⟨H0,Z0,ρ,pd,x.1,x.2,s,h1,fun v H1 s1=>⟨H0,Z0,x.2,_,y.1,y.2,s1,h3,fun w H2 s2=>?_⟩⟩
  have s3:=s2.freeze.swap.freeze.swap
  split at h4
  · rename_i n kk en ek
    split at h4
    · rename_i ws em
      obtain ⟨p,h5,h6⟩:=map_some h4
      cases h6
      rw [en,ek] at s3
      obtain ⟨_,rw'⟩:=s3.repH
      have ew:=rep_int_inv rw'
      obtain ⟨a,rfl,s5⟩:=s3.pop.cellO em
      obtain ⟨el,Z,hg,z,so⟩:=s5.top
      obtain ⟨_,ea,⟨us,hu,hr⟩,_⟩:=so.1 _ List.mem_cons_self
      cases ea
      obtain ⟨j,e1,e2⟩:=atI_len h5 hr.length
      obtain ⟨u,e3,e4⟩:=hr.get e1
      refine .inl ⟨a,us,kk,u,rfl,ew,SqL.of hu,e2 u e3,k u H2 ?_⟩
      have s6:SR X.K H0 Z0 σ H2 ⟨y.2.vs,y.2.mu.set n none⟩ ((u,.sh p)::(.ref a,.own (.lst ws))::(.ref a,.sh (.ptr n))::pd):=.mk (Z:=Z) el hg z ((so.perm sl_cons).consS e4)
      have hn:n < y.2.mu.length:=(List.getElem?_eq_some_iff.mp em).1
      have s7:SR X.K H0 Z0 σ H2 ⟨y.2.vs,y.2.mu.set n none⟩ ((.ref a,.own (.lst ws))::(.ref a,.sh (.ptr n))::(u,.sh p)::pd):=s6.perm (((List.Perm.swap _ _ _).cons _).trans (List.Perm.swap _ _ _))
      have s8:=s7.cellP (by show (y.2.mu.set n none)[n]?=_; rw [List.getElem?_set_self hn])
      have e8:(y.2.mu.set n none).set n (some (.lst ws))=y.2.mu:=by rw [List.set_set]; exact set_same em
      have s9:SR X.K H0 Z0 σ H2 ⟨y.2.vs,(y.2.mu.set n none).set n (some (.lst ws))⟩ ((u,.sh p)::pd):=s8
      rw [e8] at s9
      exact s9
    · cases h4
  · obtain ⟨l',h5,h6⟩:=map_some h4
    cases h6
    exact ops_ix H0 Z0 σ y.2 pd H2 v w x.1.pv y.1.pv _ Q s3 h5 k
noncomputable def eNewC (g:AF):EF:=fun ρ=>(eLst g ρ).bind fun x=>match x.1 with
  | .own p=>some (.sh (.ptr x.2.mu.length),⟨x.2.vs,x.2.mu++[some p]⟩)
  | _=>none
theorem qcellN {es:List Expr} {g:AF} {pos:Pos} (h:PE X (.List es pos) (tP X.K (eLst g))):PE X (.List es pos) (tP X.K (eNewC g)):=PE.imp h fun σ H Q q=>by
  obtain ⟨H0,Z0,ρ,pd,l,ρ',s,f,k⟩:=q
  obtain ⟨x,h1,h2⟩:=bind_some f
  refine ⟨H0,Z0,ρ,pd,x.1,x.2,s,h1,fun v H1 s1=>?_⟩
  split at h2
  · rename_i p ep
    cases h2
    rw [ep] at s1
    obtain ⟨el,Z,hg,z,so⟩:=s1.top
    obtain ⟨a,ea,ra,za,ha0⟩:=so.1 _ List.mem_cons_self
    have ea':v=.ref a:=Option.some.inj ea
    subst ea'
    have lz:ZLe Z ⟨Z.z,Z.g++[a]⟩:=⟨Same.refl _,List.prefix_append _ _⟩
    have so2:=so.step (Z':=⟨Z.z,Z.g++[a]⟩) (H':=H1) lz fun e he b hb=>⟨rfl,(own_of so he hb).1⟩
    refine k _ H1 (.mk (Z:=⟨Z.z,Z.g++[a]⟩) el (by simp [hg]) ⟨z.zh,z.h0,z.z0.trans lz,z.new⟩ (Slots.consS ?_ ?_))
    · refine so2.perm ?_
      have ec:cel (Z.g++[a]) (x.2.mu++[some p])=cel Z.g x.2.mu++[(some (.ref a),some (.own p))]:=by
        unfold cel
        rw [List.map_append,List.map_append,List.zip_append (by simp [hg])]
        rfl
      unfold sl
      show List.Perm (cel (Z.g++[a]) (x.2.mu++[some p])++_) _
      rw [ec,List.append_assoc]
      exact List.perm_middle
    · unfold Rep
      exact ⟨a,rfl,by show (Z.g++[a])[x.2.mu.length]?=some a; rw [hg,List.getElem?_append_right (Nat.le_refl _)]; simp⟩
  · cases h2
mutual
noncomputable def flatP:PV->Bool
  | .non=>true
  | .bl _=>true
  | .int _=>true
  | .str _=>true
  | .tup ps=>flatPs ps
  | _=>false
noncomputable def flatPs:List PV->Bool
  | []=>true
  | p::ps=>flatP p && flatPs ps
end
noncomputable def flatL:Lc->Bool
  | .sh p=>flatP p
  | .own (.lst ps)=>flatPs ps
  | _=>false
noncomputable def peekV:Option Lc->Option Lc
  | some l=>some (.sh l.pv)
  | none=>none
noncomputable def Ev.peek (ρ:Ev):Ev:=⟨ρ.vs.map peekV,ρ.mu.map fun _=>none⟩
noncomputable def eRead (f:EF):EF:=fun ρ=>(f ρ.peek).bind fun x=>if flatL x.1=true then some (x.1,ρ) else none
noncomputable def tRead (f:TF):TF:=fun ρ=>(f ρ.peek).map fun x=>(x.1,ρ)
noncomputable def zb:Option HO->Option HO->Option HO->Option HO
  | some (.tup vs),_,_=>some (.tup vs)
  | some (.frz o u),_,_=>some (.frz o u)
  | some _,z,_=>z
  | none,_,z=>z
noncomputable def zback (H:Hp) (Z Z':ZG):ZG:=⟨fun b=>zb (H b) (Z.z b) (Z'.z b),Z.g⟩
theorem zback_tup {H H':Hp} {Z Z':ZG} (hh:Same H H') (zh:Same Z'.z H') {a:Addr} {vs:List V} (h:SqT K Z'.z a vs):SqT K (zback H Z Z').z a vs:=by
  rcases h with (h | ⟨o,h⟩) | h
  · refine .inl (.inl ?_)
    show zb (H a) (Z.z a) (Z'.z a)=_
    cases q:H a with
    | none=>exact h
    | some o=>
      have e1:=hh a o q
      rw [zh a _ h] at e1
      cases e1
      rfl
  · refine .inl (.inr ⟨o,?_⟩)
    show zb (H a) (Z.z a) (Z'.z a)=_
    cases q:H a with
    | none=>exact h
    | some o'=>
      have e1:=hh a o' q
      rw [zh a _ h] at e1
      cases e1
      rfl
  · exact .inr h
mutual
theorem flat_rep {H H':Hp} {Z Z':ZG} (hh:Same H H') (zh:Same Z'.z H'):∀ {p:PV} {v:V},flatP p=true->Rep K Z' p v->Rep K (zback H Z Z') p v
  | .non,v,_,h=>by unfold Rep at h ⊢; exact h
  | .bl _,v,_,h=>by unfold Rep at h ⊢; exact h
  | .int _,v,_,h=>by unfold Rep at h ⊢; exact h
  | .str _,v,_,h=>by unfold Rep at h ⊢; exact h
  | .tup ps,v,f,h=>by
    unfold Rep at h ⊢
    obtain ⟨a,vs,e,h1,h2⟩:=h
    unfold flatP at f
    exact ⟨a,vs,e,zback_tup hh zh h1,flat_repL hh zh f h2⟩
  | .lst _,v,f,_=>by unfold flatP at f; cases f
  | .dk _ _,v,f,_=>by unfold flatP at f; cases f
  | .dt _ _,v,f,_=>by unfold flatP at f; cases f
  | .obj _ _ _,v,f,_=>by unfold flatP at f; cases f
  | .df _ _,v,f,_=>by unfold flatP at f; cases f
  | .dtf _ _,v,f,_=>by unfold flatP at f; cases f
  | .ptr _,v,f,_=>by unfold flatP at f; cases f
theorem flat_repL {H H':Hp} {Z Z':ZG} (hh:Same H H') (zh:Same Z'.z H'):∀ {ps:List PV} {vs:List V},flatPs ps=true->RepL K Z' ps vs->RepL K (zback H Z Z') ps vs
  | [],vs,_,h=>by unfold RepL at h ⊢; exact h
  | p::ps,vs,f,h=>by
    obtain ⟨v,r,rfl,h1,h2⟩:=h.inv
    unfold flatPs at f
    rw [Bool.and_eq_true] at f
    exact RepL.cons (flat_rep hh zh f.1 h1) (flat_repL hh zh f.2 h2)
end
theorem SR.lookB (s:SR K H0 Z0 σ H ρ pd):
    ∃ Z,(σ.length=ρ.vs.length/\ρ.mu.length=Z.g.length/\ZLe Z ⟨H,Z.g⟩/\Slots K H0 Z H (sl Z.g σ ρ pd))/\(∀ H' v r ρ1,SR K H ⟨H,Z.g⟩ σ H' ρ1 [(v,r)]->flatL r=true->SR K H0 Z0 σ H' ρ ((v,r)::pd))/\∀ H' ρ1,SR K H ⟨H,Z.g⟩ σ H' ρ1 []->SR K H0 Z0 σ H' ρ pd:=by
  obtain ⟨el,Z,hg,z,so⟩:=s
  have lz:ZLe Z ⟨H,Z.g⟩:=⟨z.zh,List.prefix_refl _⟩
  have back:∀ {H':Hp} {Z':ZG},ZOk H ⟨H,Z.g⟩ Z' H'->ZOk H0 Z0 (zback H Z Z') H'/\Slots K H0 (zback H Z Z') H' (sl Z.g σ ρ pd):=fun {H' Z'} z'=>by
    have zz:ZLe Z (zback H Z Z'):=⟨fun b o e=>by
      show zb (H b) (Z.z b) (Z'.z b)=_
      have hb:=z.zh b o e
      rw [hb]
      cases o <;> first | rfl | exact e,List.prefix_refl _⟩
    have cas:∀ b o,(zback H Z Z').z b=some o->(∃ u,H b=some u/\((immut u/\o=u)\/Z.z b=some o))\/(H b=none/\Z'.z b=some o):=fun b o e=>by
      have e:zb (H b) (Z.z b) (Z'.z b)=some o:=e
      cases q:H b with
      | none=>rw [q] at e; exact .inr ⟨rfl,e⟩
      | some u=>
        rw [q] at e
        refine .inl ⟨u,rfl,?_⟩
        cases u with
        | tup vs=>cases e; exact .inl ⟨trivial,rfl⟩
        | frz o' u=>cases e; exact .inl ⟨trivial,rfl⟩
        | _=>exact .inr e
    refine ⟨⟨fun b o e=>?_,z.h0.trans z'.h0,z.z0.trans zz,fun b o e=>?_⟩,?_⟩
    · rcases cas b o e with ⟨u,hu,⟨_,rfl⟩ | hz⟩ | ⟨_,hz⟩
      · exact z'.h0 b _ hu
      · exact z'.h0 b o (z.zh b o hz)
      · exact z'.zh b o hz
    · rcases cas b o e with ⟨u,hu,⟨hi,rfl⟩ | hz⟩ | ⟨hn,hz⟩
      · exact .inr (.inr hi)
      · exact z.new b o hz
      · exact .inr (.inl (z.h0.free hn))
    · refine so.step zz fun e he a ha=>?_
      obtain ⟨h1,h2,o,h3,h4⟩:=own_of so he ha
      refine ⟨by rw [h3]; exact z'.h0 a o h3,?_⟩
      show zb (H a) (Z.z a) (Z'.z a)=_
      rw [h3]
      cases o with
      | tup vs=>exact (h4 trivial).elim
      | frz o u=>exact (h4 trivial).elim
      | _=>exact h1
  refine ⟨Z,⟨el,hg,lz,so⟩,fun H' v r ρ1 s1 hf=>?_,fun H' ρ1 s1=>?_⟩
  · obtain ⟨_,Z',hg',z',s2⟩:=s1.top
    obtain ⟨zo,ss⟩:=back z'
    have q:=s2.1 _ List.mem_cons_self
    refine .mk (Z:=zback H Z Z') el hg zo ?_
    cases r with
    | sh p=>
      obtain ⟨x,e1,e2⟩:=q
      cases e1
      exact ss.consS (flat_rep z'.h0 z'.zh hf e2)
    | own p=>
      obtain ⟨a,e1,e2,e3,e4⟩:=q
      have e1':v=.ref a:=Option.some.inj e1
      subst e1'
      cases p with
      | lst ps=>
        obtain ⟨vs,g1,g2⟩:=e2
        refine ⟨fun e he=>?_,?_⟩
        · rcases List.mem_cons.mp he with rfl | he
          · refine ⟨a,rfl,⟨vs,g1,flat_repL z'.h0 z'.zh hf g2⟩,?_,z.h0.free e4⟩
            show zb (H a) (Z.z a) (Z'.z a)=_
            rw [e4]
            exact e3
          · exact ss.1 e he
        · show (a::(sl Z.g σ ρ pd).filterMap oad).Nodup
          refine List.nodup_cons.mpr ⟨fun hm=>?_,ss.2⟩
          obtain ⟨e,he,hb⟩:=List.mem_filterMap.mp hm
          obtain ⟨_,_,o,h3,_⟩:=own_of so he hb
          rw [h3] at e4; cases e4
      | _=>cases hf
  · obtain ⟨_,Z',hg',z',s2⟩:=s1
    obtain ⟨zo,ss⟩:=back z'
    exact ⟨el,zback H Z Z',hg,zo,ss⟩
theorem SR.peeked {H:Hp} {Z:ZG} {pk:Option Lc->Option Lc} (el:σ.length=ρ.vs.length) (hg:ρ.mu.length=Z.g.length)
    (hs:∀ v o,(v,o) ∈ σ.zip ρ.vs->pk o=none\/∃ x p,pk o=some (.sh p)/\v=some x/\Rep K ⟨H,Z.g⟩ p x):SR K H ⟨H,Z.g⟩ σ H ⟨ρ.vs.map pk,ρ.mu.map fun _=>none⟩ []:=by
  have key:∀ v l,(v,l) ∈ sl Z.g σ ⟨ρ.vs.map pk,ρ.mu.map fun _=>none⟩ []->l=none\/∃ x p,l=some (.sh p)/\v=some x/\Rep K ⟨H,Z.g⟩ p x:=fun v l he=>by
    rcases List.mem_append.mp he with he | he
    · obtain ⟨_,h2⟩:=List.of_mem_zip he
      obtain ⟨o,ho,e2⟩:=List.mem_map.mp h2
      obtain ⟨o',_,e3⟩:=List.mem_map.mp ho
      subst e3
      exact .inl e2.symm
    · rw [List.map_nil,List.append_nil] at he
      have he:(v,l) ∈ σ.zip (ρ.vs.map pk):=he
      rw [List.zip_map_right] at he
      obtain ⟨e,he2,e1⟩:=List.mem_map.mp he
      cases e1
      exact hs _ _ he2
  refine ⟨by simp [el],⟨H,Z.g⟩,by simp [hg],⟨Same.refl _,Same.refl _,ZLe.refl _,fun b o e=>.inl e⟩,fun e he=>?_,?_⟩
  · obtain ⟨v,l⟩:=e
    rcases key v l he with rfl | ⟨x,p,rfl,rfl,r⟩
    · trivial
    · exact ⟨x,rfl,r⟩
  · have:(sl Z.g σ ⟨ρ.vs.map pk,ρ.mu.map fun _=>none⟩ []).filterMap oad=[]:=by
      rw [List.filterMap_eq_nil_iff]
      intro e he
      obtain ⟨v,l⟩:=e
      rcases key v l he with rfl | ⟨x,p,rfl,rfl,_⟩
      · cases v with
        | none=>rfl
        | some x=>cases x <;> rfl
      · cases x <;> rfl
    show ((sl Z.g σ ⟨ρ.vs.map pk,ρ.mu.map fun _=>none⟩ []).filterMap oad).Nodup
    rw [this]
    exact List.nodup_nil
theorem SR.look (s:SR K H0 Z0 σ H ρ pd):
    ∃ Zt,SR K H Zt σ H ρ.peek []/\(∀ H' v r ρ1,SR K H Zt σ H' ρ1 [(v,r)]->flatL r=true->SR K H0 Z0 σ H' ρ ((v,r)::pd))/\∀ H' ρ1,SR K H Zt σ H' ρ1 []->SR K H0 Z0 σ H' ρ pd:=by
  obtain ⟨Z,⟨el,hg,lz,so⟩,b1,b2⟩:=s.lookB
  refine ⟨_,SR.peeked (pk:=peekV) el hg fun v o he=>?_,b1,b2⟩
  have q:=so.1 _ (List.mem_append_right _ (List.mem_append_left _ he))
  match o,q with
  | none,_=>exact .inl rfl
  | some (.sh p),⟨x,e1,e2⟩=>exact .inr ⟨x,p,rfl,e1,e2.mono lz⟩
  | some (.own p),⟨a,e1,e2,_,_⟩=>exact .inr ⟨.ref a,p,rfl,e1,e2.rep lz rfl⟩
noncomputable def resP (mu:Mu):PV->PV
  | .ptr n=>match mu[n]? with
    | some (some p)=>p
    | _=>.ptr n
  | p=>p
noncomputable def peekC (mu:Mu):Option Lc->Option Lc
  | some l=>some (.sh (resP mu l.pv))
  | none=>none
noncomputable def Ev.peekC (ρ:Ev):Ev:=⟨ρ.vs.map (PL.peekC ρ.mu),ρ.mu.map fun _=>none⟩
theorem read_imp {f:EF}:∀ σ H Q,tP K (eRead f) σ H Q->tP K f σ H Q:=fun σ H Q q=>by
  obtain ⟨H0,Z0,ρ,pd,r,ρ',s,h,k⟩:=q
  obtain ⟨x,h1,h2⟩:=bind_some h
  obtain ⟨Zt,s1,b1,_⟩:=s.look
  split at h2
  · rename_i hf
    cases h2
    exact ⟨H,Zt,ρ.peek,[],x.1,x.2,s1,h1,fun v H' s2=>k v H' (b1 H' v x.1 x.2 s2 hf)⟩
  · cases h2
theorem qread {e:Expr} {f:EF} (h:PE X e (tP X.K f)):PE X e (tP X.K (eRead f)):=PE.imp h read_imp
theorem qtread {e:Expr} {f:TF} (h:PT X e (tPT X.K f)):PT X e (tPT X.K (tRead f)):=PT.imp h fun σ H Q q=>by
  obtain ⟨H0,Z0,ρ,pd,r,ρ',s,h,k⟩:=q
  obtain ⟨x,h1,h2⟩:=map_some h
  cases h2
  obtain ⟨Zt,s1,_,b2⟩:=s.look
  exact ⟨H,Zt,ρ.peek,[],x.1,x.2,s1,h1,fun H' s2=>k H' (b2 H' x.2 s2)⟩
end
noncomputable def Itstr (x:Str):It:=⟨fun i _=>i < x.cps.size,fun i H v H'=>H'=H/\∃ c,x.cps[i]?=some c/\v=.str ⟨#[c]⟩,fun i _=>i=x.cps.size⟩
theorem turn_str {P:Program} {w:World} {tg:Expr} (it:Addr) (x:Str) {St:Nat->Heap->Prop} (W:∀ A':Around,A'.handled=none->Walks P w A' it [it] [it] x.cps.size (SignAt x) St)
    (hob:∀ i h,St i h->∃ o,h.get? it=some o/\∀ v,o.data ≠ .cell v) (slf:∀ (A:Around) (i:Nat) (s:Shared) (Q:Value->Shared->Prop) (E:Value->Shared->Prop),St i s.heap->Q (.ref it) s->wpAny (model P w) A (pyIter (.ref it)) Q E s):Turn P w K tg (Itstr x) [it] it St where
  mem:=by simp
  obj:=fun i h st b hb=>by
    have e:b=it:=by simpa using hb
    subst e
    exact hob i h st
  keep:=fun i h h' st k=>(W {} rfl).frame i h h' st k
  item:=by
    intro X hP hw hK hc i pins s σ H E I hf st hg
    subst hP hw hK
    obtain ⟨f0,f1,f2,f3,f4,f5⟩:=hf it (by simp)
    refine (W X.A (I.ok.hd hc)).item i s _ E hg st fun v h' tk hv st' hk=>?_
    obtain ⟨c,u,e1,rfl⟩:=hv
    have I1:Inv X pins σ H { s with heap:=h',toks:=tk }:=I.turned (fun b o hb e=>hk b o (by simpa using hb) e) f0 f1 f3 f4 f5
    refine ⟨_,rfl,?_⟩
    have fin:∃ x_1 H',Inv X pins σ H' { s with heap:=h',toks:=tk }/\RelV x_1 (.str ⟨#[c]⟩ u)/\(Itstr x).yld i H x_1 H'/\St (i + 1) h'/\∀ b ∈ [it],H' b=none:=⟨.str ⟨#[c]⟩,H,I1,⟨u,rfl⟩,⟨rfl,c,e1,rfl⟩,st',fun b hb=>(hf b hb).1⟩
    unfold letOwnedTupleGo
    cases tg <;> exact wpAny_pure fin
  done:=by
    intro X hP hw hK hc i pins s σ H E I hf st hg
    subst hP hw hK
    obtain ⟨f0,f1,f2,f3,f4,f5⟩:=hf it (by simp)
    have hg:i=x.cps.size:=hg
    subst hg
    exact (W X.A (I.ok.hd hc)).done s _ E st fun h' tk hk=>⟨rfl,I.turned (fun b o hb e=>hk b o (by simpa using hb) e) f0 f1 f3 f4 f5⟩
  self:=fun A i s Q E st h=>slf A i s Q E st h
section
variable {X:Cx}
noncomputable def signs (x:Str):List PV:=x.cps.toList.map fun c=>.str ⟨#[c]⟩
noncomputable def strP:PV->Option (List PV)
  | .str x=>some (signs x)
  | _=>none
theorem itok_str {H0:Hp} {x:Str}:ItOk K H0 Z0 pd (Itstr x) (signs x):=by
  intro σ H ρ i s
  refine ⟨fun p hp=>?_,fun hl=>?_⟩
  · unfold signs at hp
    rw [List.getElem?_map] at hp
    obtain ⟨c,hc,rfl⟩:=map_some hp
    have hi:=(List.getElem?_eq_some_iff.mp hc).1
    refine ⟨(show i < x.cps.size by simpa using hi),fun v H' y=>?_⟩
    obtain ⟨rfl,c',hc',rfl⟩:=y
    have:c'=c:=by
      rw [Array.getElem?_toList] at hc
      rw [hc] at hc'
      exact (Option.some.inj hc').symm
    subst this
    exact s.scal rep_str
  · show i=x.cps.size
    simpa [signs] using hl
noncomputable def boolsOf:List PV->Option (List Bool)
  | []=>some []
  | .bl b::r=>(boolsOf r).map (b::·)
  | _=>none
noncomputable def allP:PV->Option Lc
  | .lst ps=>(boolsOf ps).map fun bs=>.sh (.bl (bs.all id))
  | _=>none
noncomputable abbrev all1:List PV->Option Lc:=fun ps=>match ps with | [p]=>allP p | _=>none
noncomputable def tyN:PV->Option String
  | .non=>some "NoneType"
  | .bl _=>some "bool"
  | .int _=>some "int"
  | .str _=>some "str"
  | .tup _=>some "tuple"
  | .lst _=>some "list"
  | _=>none
noncomputable def isTy (p:PV) (C:String):Option Bool:=(tyN p).bind fun T=>if (Value.type T == Value.type C)=true then some true else if PySem.W.kitMeta C=true then (fastBuiltinMro T).map fun x=>x.contains (.type C) else none
theorem isTy_kit {p:PV} {T C:String} {b:Bool} (h1:tyN p=some T) (h:isTy p C=some b):PySem.W.kitOne K (.type T) (.type C)=some b:=by
  unfold isTy at h
  rw [h1,Option.bind_some] at h
  exact h
theorem call_isinst:CallR X (.builtin "isinstance") (fun xs H Q=>∃ x C g p b,xs=[x,.ty C]/\Rep X.K ⟨H,g⟩ p x/\isTy p C=some b/\Q (.bl b) H):=by
  intro pins s σ H xs us Q I r h
  obtain ⟨x,C,g,p,b,rfl,rp,e,q⟩:=h
  obtain ⟨u,w',rfl,ru,rw'⟩:=vals2 r
  cases rw'
  have fin:∀ tk,EP X pins σ Q (.bool b) { s with toks:=tk }:=fun tk=>⟨.bl b,H,I.tok tk,rfl,q⟩
  cases p with
  | non=>have:=rep_non_inv rp; subst this; cases ru; exact PySem.W.kia_one PySem.W.kitx_none I.kIn trivial (isTy_kit rfl e) (by intro z; cases z) fin
  | bl c=>have:=rep_bl_inv rp; subst this; cases ru; exact PySem.W.kia_one PySem.W.kitx_bool I.kIn trivial (isTy_kit rfl e) (by intro z; cases z) fin
  | int i=>have:=rep_int_inv rp; subst this; obtain ⟨t,rfl⟩:=ru; exact PySem.W.kia_one PySem.W.kitx_int I.kIn trivial (isTy_kit rfl e) (by intro z; cases z) fin
  | str i=>have:=rep_str_inv rp; subst this; obtain ⟨t,rfl⟩:=ru; exact PySem.W.kia_one PySem.W.kitx_str I.kIn trivial (isTy_kit rfl e) (by intro z; cases z) fin
  | tup ps=>
    obtain ⟨a,vs,its,rfl,_,_,_,o,t1,t2,_⟩:=tup_of I rp ru
    exact PySem.W.kia_one (t:=.type "tuple") PySem.W.kitx_tuple I.kIn ⟨o,t1,t2⟩ (isTy_kit rfl e) (by intro z; cases z) fin
  | lst ps=>
    obtain ⟨a,vs,its,rfl,_,_,_,o,t1,t2,_⟩:=lst_of I rp ru
    exact PySem.W.kia_one (t:=.type "list") PySem.W.kitx_list I.kIn ⟨o,t1,t2⟩ (isTy_kit rfl e) (by intro z; cases z) fin
  | _=>cases e
noncomputable def eIs (C:String) (f:EF):EF:=fun ρ=>(f ρ).bind fun x=>(isTy x.1.pv C).map fun b=>(.sh (.bl b),x.2)
theorem qis {C:String} {f:EF} {e c:Expr} {pp pos:Pos} (h:PE X (.Call (.Name "isinstance" pp) [e,c] [] pos) (tCB (fun xs H Q=>∃ x C g p b,xs=[x,.ty C]/\Rep X.K ⟨H,g⟩ p x/\isTy p C=some b/\Q (.bl b) H) (tCons (tP X.K f) (tCons (tC (.ty C)) tNil)))):
    PE X (.Call (.Name "isinstance" pp) [e,c] [] pos) (tP X.K (eIs C f)):=PE.imp h fun σ H Q q=>by
  obtain ⟨H0,Z0,ρ,pd,r,ρ',s,h,k⟩:=q
  obtain ⟨x,h1,h2⟩:=bind_some h
  obtain ⟨b,h3,h4⟩:=map_some h2
  cases h4
  refine ⟨H0,Z0,ρ,pd,x.1,x.2,s,h1,fun v H1 s1=>?_⟩
  obtain ⟨g,r1⟩:=s1.freeze.repH
  exact ⟨v,C,g,_,b,rfl,r1,h3,k _ H1 (s1.pop.scal rep_bl)⟩
noncomputable def strsOf:List PV->Option (List Str)
  | []=>some []
  | .str x::r=>(strsOf r).map (x::·)
  | _=>none
theorem strs_rep {Z:ZG}:∀ {ps:List PV} {xs:List Str} {vs:List V},strsOf ps=some xs->RepL K Z ps vs->vs=xs.map V.str
  | [],xs,vs,h,r=>by cases h; exact r.inv0
  | p::ps,xs,vs,h,r=>by
    cases p with
    | str b=>
      obtain ⟨cs,h1,rfl⟩:=map_some h
      obtain ⟨v,w,rfl,r1,r2⟩:=r.inv
      rw [rep_str_inv r1,strs_rep h1 r2]
      rfl
    | _=>cases h
theorem strsAre_of:∀ {xs:List Str} {its:List Value},Vals (xs.map V.str) its->StrsAre its xs
  | [],_,.nil=>.nil
  | x::xs,_,.cons r t=>by
    obtain ⟨tk,rfl⟩:=r
    exact .cons _ _ (strsAre_of t)
theorem mt_join:MtM X "str.join" (fun x xs H Q=>∃ (z:Str) (p:Addr) (ys:List Str),x=.str z/\xs=[.ref p]/\SqL X.K H p (ys.map V.str)/\(ys.map (·.length)).sum + ys.length * z.length<=16777216/\Q (.str (Txt.join z ys)) H):=by
  intro pins s σ H x vs v us Q I rx rv h
  obtain ⟨z,p,ys,rfl,rfl,hq,hz,q⟩:=h
  obtain ⟨t,rfl⟩:=rx
  obtain ⟨u,rfl,ru⟩:=rv.one
  cases ru
  obtain ⟨its,rvs,pl,_⟩:=I.list hq
  exact join_list pl.isList (by simpa using strsAre_of rvs) hz fun t' k=>⟨.str _,H,I.tok k,⟨t',rfl⟩,q⟩
noncomputable def eJoin (f:EF) (a:AF):EF:=fun ρ=>(f ρ).bind fun x=>(a x.2).bind fun y=>match x.1.pv,y.1.map Lc.pv with
  | .str z,[.lst ps]=>(strsOf ps).bind fun xs=>if (xs.map (·.length)).sum + xs.length * z.length<=100000 then some (.sh (.str (Txt.join z xs)),y.2) else none
  | _,_=>none
theorem qjoin {o e:Expr} {f:EF} {a:AF} {apos cpos:Pos} (h:PE X (.Call (.Attribute o "join" apos) [e] [] cpos) (tBM X.K "str" (fun x xs H Q=>∃ (z:Str) (p:Addr) (ys:List Str),x=.str z/\xs=[.ref p]/\SqL X.K H p (ys.map V.str)/\(ys.map (·.length)).sum + ys.length * z.length<=16777216/\Q (.str (Txt.join z ys)) H) (tP X.K f) (tPA X.K a))):
    PE X (.Call (.Attribute o "join" apos) [e] [] cpos) (tP X.K (eJoin f a)):=PE.imp h fun σ H Q q=>by
  obtain ⟨H0,Z0,ρ,pd,r,ρ',s,h,k⟩:=q
  obtain ⟨x,h1,h2⟩:=bind_some h
  obtain ⟨y,h3,h4⟩:=bind_some h2
  refine ⟨H0,Z0,ρ,pd,x.1,x.2,s,h1,fun v H1 s1=>?_⟩
  split at h4
  · rename_i z ps ez ep
    obtain ⟨xs,h5,h6⟩:=bind_some h4
    split at h6
    · rename_i hz
      cases h6
      obtain ⟨_,rz⟩:=s1.freeze.repH
      rw [ez] at rz
      have:=rep_str_inv rz
      subst this
      refine ⟨rfl,H0,Z0,x.2,pd,y.1,y.2,s1.pop,h3,fun vs H2 e2 s2=>?_⟩
      obtain ⟨el,Z,hg,zz,rl,ss⟩:=s2.repl e2
      rw [ep] at rl
      obtain ⟨w,rr,rfl,r1,r2⟩:=rl.inv
      have:=r2.inv0
      subst this
      unfold Rep at r1
      obtain ⟨b,ws,rfl,g1,g2⟩:=r1
      have:=strs_rep h5 g2
      subst this
      exact ⟨z,b,xs,rfl,rfl,SqL.same zz.zh g1,by omega,k _ H2 (.mk (Z:=Z) el hg zz (ss.consS (rep_str _)))⟩
    · cases h6
  · cases h4
end
section
variable {prog:Program} {w:World} {A:Around} {E:Value->Shared->Prop} {s:Shared}
theorem draw_list {it t:Addr} {items:Array Value} (hne:t ≠ it):∀ (n i:Nat) (s:Shared) (Q:List Value->Shared->Prop),s.heap.IsListIter it t i->s.heap.IsList t items->i + n<=items.size->
    (∀ h',h'.IsListIter it t (i + n)->Heap.SameBut it s.heap h'->Q ((items.toList.drop i).take n) { s with heap:=h' })->wpAny (model prog w) A (draw (.ref it) n) Q E s
  | 0,i,s,Q,hit,_,_,hQ=>by
    show wpAny _ _ (pure []) Q E s
    exact wpAny_pure (by simpa using hQ s.heap hit (Heap.SameBut.refl ..))
  | n + 1,i,s,Q,hit,ht,hle,hQ=>by
    have hlt:i < items.size:=by omega
    show wpAny _ _ (pyNext (.ref it) >>= _) Q E s
    refine wpAny_bind (wpAny_pyNext_list_item hit ht (x:=items[i]) (by simp [hlt]) fun h₁ hit₁ hs₁=>?_)
    refine wpAny_bind (wpAny_holding (draw_list hne n (i + 1) _ _ hit₁ (ht.extBut hs₁.extBut hne) (by omega) fun h₂ hit₂ hs₂=>wpAny_pure ?_))
    have hd:items.toList.drop i=items[i]::items.toList.drop (i + 1):=by simp [List.drop_eq_getElem_cons,hlt]
    have:=hQ h₂ (by rw [show i + (n + 1)=i + 1 + n by omega]; exact hit₂) (hs₁.trans hs₂)
    rw [hd,List.take_succ_cons] at this
    exact this
theorem unpackItems_list {t:Addr} {items:Array Value} {Q:List Value->Shared->Prop} (hh:A.handled=none) (ht:s.heap.IsList t items)
    (hQ:∀ h',Heap.ExtBut s.heap.objs.size s.heap h'->Q items.toList { s with heap:=h' }):wpAny (model prog w) A (unpackItems (.ref t) items.size none) Q E s:=by
  have hlt:t ≠ s.heap.objs.size:=by obtain ⟨o,ho,_⟩:=ht; exact Nat.ne_of_lt (Heap.lt_size ho)
  unfold unpackItems
  refine wpAny_bind ?_
  · unfold notIterableAtAll
    refine wpAny_bind (wpAny_specialOf ht.typeIs slot_list_iter.lookup ?_)
    refine wpAny_pure ?_
    simp only [Bool.false_eq_true,if_false]
    refine wpAny_bind (wpAny_holding (wpAny_pyIter_list ht ?_))
    refine wpAny_bind (wpAny_holding (draw_list hlt items.size 0 _ _ ⟨_,Heap.get?_push_size _ rfl,rfl,rfl⟩ (by obtain ⟨o,g1,g2⟩:=ht; exact ⟨o,Heap.get?_push_of_some _ g1,g2⟩) (by omega) fun h₁ hit₁ hs₁=>?_))
    have hall:List.take items.size (List.drop 0 items.toList)=items.toList:=by
      rw [List.drop_zero]; exact List.take_of_length_le (by simp)
    rw [hall]
    rw [if_neg (by simp)]
    have ht₁:h₁.IsList t items:=Heap.IsList.extBut (by obtain ⟨o,g1,g2⟩:=ht; exact ⟨o,Heap.get?_push_of_some _ g1,g2⟩) hs₁.extBut hlt
    refine wpAny_bind (wpAny_holding (wpAny_pyNext_list_end hh hit₁ ht₁ (by simp) fun h₂ he₂=>?_))
    simp only [Option.isSome_none,Bool.false_eq_true,if_false]
    refine wpAny_pure (hQ h₂ fun b o hb e=>he₂ b o hb (hs₁.extBut b o hb (Heap.get?_push_of_some _ e)))
end
section
variable {X:Cx} {pos:Pos}
noncomputable def gSeq (K:FG) (n:Nat) (t:TGs):TG:=fun v σ H Q=>∃ a xs,v=.ref a/\(SqT K H a xs\/SqL K H a xs)/\xs.length=n/\t xs σ H Q
theorem pg_seq {es:List Expr} {k:Nat} {t:TGs} {n:Nat} (hc:X.calm=true) (h:PGs X es t)
    (hn:(assignEach es X.env).length=n:=by rfl) (hst:(assignEach es X.env).findIdx? (·.1)=none:=by rfl):PG X (.Tuple es k pos) (gSeq X.K n t):=by
  intro pins s σ H v u Q I r hw
  obtain ⟨a,xs,e1,hq,hl,hw⟩:=hw
  rcases hq with hq | hq
  · exact pg_tup hc h hn hst pins s σ H v u Q I r ⟨a,xs,e1,hq,hl,hw⟩
  · subst e1
    cases r
    obtain ⟨its,rv,ht,hz⟩:=I.list hq
    rw [assign_Tuple]
    refine wpAny_bind (wpAny_standAt ?_)
    unfold unpack
    have hsz:(assignEach es X.env).length=its.toArray.size:=by simp [hn,← hl,rv.length]
    rw [hsz,hst]
    refine wpAny_bind (wpAny_holding (unpackItems_list (I.ok.hd hc) ht.isList fun h' hx=>?_))
    have I1:Inv X pins σ H { s with heap:=h' }:=I.kept (t':=s.toks) fun b o e=>hx b o (Nat.ne_of_lt (Heap.lt_size e)) e
    exact h pins _ σ H xs _ Q I1 (by simpa using rv) hw
noncomputable def bSeq (n:Nat) (bs:BFs):BF:=fun p ρ=>match p with
  | .tup ps=>if ps.length=n then bs ps ρ else none
  | .lst ps=>if ps.length=n then bs ps ρ else none
  | _=>none
theorem gs_seq {n:Nat} {t:TGs} {bs:BFs} (h1:GSs K t bs):GS K (gSeq K n t) (bSeq n bs):=by
  intro H0 Z0 σ H ρ pd v p ρ' Q s h k
  cases p with
  | tup ps=>
    have h':(if ps.length=n then bs ps ρ else none)=some ρ':=h
    split at h'
    · rename_i hn
      obtain ⟨e,Z,hg,z,r,sl'⟩:=s.sh
      unfold Rep at r
      obtain ⟨a,vs,rfl,h2,h3⟩:=r
      exact ⟨a,vs,rfl,.inl (SqT.same z.zh h2),by rw [h3.length]; exact hn,h1 H0 Z0 σ H ρ pd vs ps ρ' Q h3.length (SR.items e hg z h3 sl') h' k⟩
    · cases h'
  | lst ps=>
    have h':(if ps.length=n then bs ps ρ else none)=some ρ':=h
    split at h'
    · rename_i hn
      obtain ⟨e,Z,hg,z,r,sl'⟩:=s.sh
      unfold Rep at r
      obtain ⟨a,vs,rfl,h2,h3⟩:=r
      exact ⟨a,vs,rfl,.inr (SqL.same z.zh h2),by rw [h3.length]; exact hn,h1 H0 Z0 σ H ρ pd vs ps ρ' Q h3.length (SR.items e hg z h3 sl') h' k⟩
    · cases h'
  | _=>cases h
noncomputable def iAny (K:FG) (tl:TE):TI:=fun σ H R=>tl σ H fun x H1=>(∃ a,x=.ref a/\(∃ xs,SqL K H1 a xs)/\R (Itl K a) H1)\/(∃ a,x=.ref a/\(∃ xs,SqT K H1 a xs)/\R (Itt K a) H1)\/∃ z,x=.str z/\R (Itstr z) H1
theorem pi_any {tg l:Expr} {tl:TE} (hl:PE X l tl):PI X tg l (iAny X.K tl):=by
  intro pins s σ H R I h
  have at':∀ (v:Value) (s1:Shared) (x:V) (H1:Hp),Inv X pins σ H1 s1->RelV x v->((∃ a,x=.ref a/\(∃ xs,SqL X.K H1 a xs)/\R (Itl X.K a) H1)\/(∃ a,x=.ref a/\(∃ xs,SqT X.K H1 a xs)/\R (Itt X.K a) H1)\/∃ z,x=.str z/\R (Itstr z) H1)->
      wpAny (model X.prog X.w) X.A (pyIter v) (PIE X pins σ tg R) X.xe s1:=fun v s1 x H1 I1 r1 q=>by
    have fp:∀ b,b ∈ [s1.heap.objs.size]->FpOk X pins H1 b:=fun b hb=>by
      have e:b=s1.heap.objs.size:=by simpa using hb
      subst e
      exact I1.fpOk (Nat.le_refl _) (I1.hok.fresh (Nat.le_refl _))
    rcases q with ⟨a,rfl,⟨xs,hq⟩,q⟩ | ⟨a,rfl,⟨xs,hq⟩,q⟩ | ⟨z,rfl,q⟩
    · cases r1
      obtain ⟨its,rv,p,hz⟩:=I1.list hq
      exact wpAny_pyIter_list p.isList ⟨s1.heap.objs.size,[s1.heap.objs.size],_,_,H1,rfl,I1.kept (t':=s1.toks) fun b o e=>Heap.get?_push_of_some _ e,turn_list a _,⟨_,Heap.get?_push_size _ rfl,rfl,rfl⟩,fp,q⟩
    · cases r1
      obtain ⟨its,rv,p,hz⟩:=I1.tuple hq
      exact wpAny_pyIter_tuple p ⟨s1.heap.objs.size,[s1.heap.objs.size],_,_,H1,rfl,I1.kept (t':=s1.toks) fun b o e=>Heap.get?_push_of_some _ e,turn_tuple a _,⟨_,Heap.get?_push_size _ rfl,rfl,rfl⟩,fp,q⟩
    · obtain ⟨t,rfl⟩:=r1
      have kp:∀ (o:Obj),Inv X pins σ H1 { s1 with heap:=s1.heap.push o }:=fun o=>I1.kept (t':=s1.toks) fun b u e=>Heap.get?_push_of_some _ e
      have ob:∀ {n:String} (i:Nat) (h:Heap),h.IsStrIter s1.heap.objs.size n z t i->∃ o,h.get? s1.heap.objs.size=some o/\∀ v,o.data ≠ .cell v:=fun i h st=>by
        obtain ⟨o,ho,_,hd⟩:=st
        exact ⟨o,ho,fun v e=>by rw [hd] at e; cases e⟩
      cases ha:z.cps.all (· < 128)
      · exact wpAny_pyIter_wide ha ⟨s1.heap.objs.size,[s1.heap.objs.size],_,Itstr z,H1,rfl,kp _,turn_str _ z (fun A' hA=>Walks.strWide hA _ z t) ob (fun A i s Q E st h=>wpAny_pyIter_striter_wide st h),⟨_,Heap.get?_push_size _ rfl,rfl,rfl⟩,fp,q⟩
      · exact wpAny_pyIter_ascii ha ⟨s1.heap.objs.size,[s1.heap.objs.size],_,Itstr z,H1,rfl,kp _,turn_str _ z (fun A' hA=>Walks.strAscii hA _ z t) ob (fun A i s Q E st h=>wpAny_pyIter_striter_ascii st h),⟨_,Heap.get?_push_size _ rfl,rfl,rfl⟩,fp,q⟩
  exact thn (hl pins s σ H _ I h) fun v s1 ⟨x,H1,I1,r1,q⟩=>at' v s1 x H1 I1 r1 q
noncomputable def walkP:PV->Option (List PV)
  | .lst ps=>some ps
  | .tup ps=>some ps
  | .str x=>some (signs x)
  | _=>none
theorem qi_any {tg l:Expr} {f:EF} (hl:PE X l (tP X.K f)):PI X tg l (tPI X.K (iOf f walkP)):=PI.imp (pi_any hl) fun σ H R q=>by
  obtain ⟨H0,Z0,ρ,pd,xs,ρ',s,h,k⟩:=q
  obtain ⟨x,h1,h2⟩:=bind_some h
  obtain ⟨ys,h3,h4⟩:=map_some h2
  cases h4
  refine ⟨H0,Z0,ρ,pd,x.1,x.2,s,h1,fun v H1 s1=>?_⟩
  have s2:=s1.freeze
  cases e:x.1.pv with
  | lst ps=>
    rw [e] at h3 s2
    cases h3
    obtain ⟨Z,z,r⟩:=s2.rep
    unfold Rep at r
    obtain ⟨b,vs,rfl,h1',h2'⟩:=r
    exact .inl ⟨b,rfl,⟨vs,SqL.same z h1'⟩,k _ _ _ s2 itok_list (List.sublist_cons_self _ _)⟩
  | tup ps=>
    rw [e] at h3 s2
    cases h3
    obtain ⟨Z,z,r⟩:=s2.rep
    unfold Rep at r
    obtain ⟨b,vs,rfl,h1',h2'⟩:=r
    exact .inr (.inl ⟨b,rfl,⟨vs,SqT.same z h1'⟩,k _ _ _ s2 itok_tup (List.sublist_cons_self _ _)⟩)
  | str z=>
    rw [e] at h3 s2
    cases h3
    obtain ⟨_,r⟩:=s2.repH
    exact .inr (.inr ⟨z,rep_str_inv r,k _ _ _ s2.pop itok_str (List.Sublist.refl _)⟩)
  | _=>rw [e] at h3; cases h3
end
section
variable {P:Program} {w:World} {K:FG} {mg:Str->Option Value} {base:Heap}
noncomputable def Blt (mg:Str->Option Value) (L:List Str):Prop:=∀ x ∈ L,mg x=none
theorem ok_zero {x:Str} {st:Stmt} {ps:List Str} {k:Nat} (F:DefAt K mg x st ps):DefOk P w K mg base x k ps (spP K ps.length fun _ _=>none):=by
  obtain ⟨f,fd,F,hm,hb⟩:=F
  have no:∀ vs H Q E,¬ spP K ps.length (fun _ _=>none) vs H Q E:=fun vs H Q E h=>by
    obtain ⟨_,_,_,_,_,_,_,_,_,_,h,_⟩:=h
    cases h
  exact ⟨f,fd,⟨fun vs H Q E h=>absurd h (no vs H Q E),fun A outer s H args us vs Q E _ _ _ _ h=>absurd h (no vs H Q E)⟩,hm,F.kp,hb⟩
noncomputable def spLaw (K:FG):Sp:=fun vs H Q _=>∃ (a:Addr) (ns:List Int),vs=[.ref a]/\SqL K H a (ns.map V.int)/\ns.length<=63/\∀ H',Q (.bl true) H'
theorem law_of {f:Addr} {fd:FuncData} {k:Nat} {g:GF} (F:FnOk P w K mg base CX0 k f fd ["_law_script"] (spP K 1 g)) (h:∀ ns:List Int,ns.length<=63->∃ mu',g [.lst (ns.map PV.int)] []=some (.sh (.bl true),mu')):FnOk P w K mg base CX0 k f fd ["_law_script"] (spLaw K):=
  F.imp fun vs H Q E q=>by
    obtain ⟨a,ns,rfl,hs,hl,k⟩:=q
    obtain ⟨mu',e⟩:=h ns hl
    refine ⟨⟨H,[]⟩,[.lst (ns.map PV.int)],[],_,mu',rfl,rfl,Same.refl _,RepL.cons ?_ .nil,⟨fun e he=>(by cases he),List.nodup_nil⟩,e,fun v H' r=>?_⟩
    · unfold Rep
      refine ⟨a,ns.map V.int,rfl,hs,?_⟩
      clear hs e hl
      induction ns with
      | nil=>exact .nil
      | cons n r ih=>exact RepL.cons (rep_int _) ih
    · obtain ⟨Z',_,_,s⟩:=r
      obtain ⟨x,e1,e2⟩:=s.1 _ List.mem_cons_self
      cases e1
      rw [rep_bl_inv e2]
      exact k H'
end
theorem al_nil:∀ ρ ls ρ1,aNil ρ=some (ls,ρ1)->ls.length=0:=fun ρ ls ρ1 h=>by cases h; rfl
theorem al_cons {f:EF} {g:AF} {n:Nat} (h:∀ ρ ls ρ1,g ρ=some (ls,ρ1)->ls.length=n):∀ ρ ls ρ1,aCons f g ρ=some (ls,ρ1)->ls.length=n + 1:=fun ρ ls ρ1 e=>by
  obtain ⟨x,h1,h2⟩:=bind_some e
  obtain ⟨y,h3,h4⟩:=map_some h2
  cases h4
  rw [List.length_cons,h _ _ _ h3]
theorem cs_mk {X:Cx} {M F:List Str} {ixs:List Nat} {sc:Scope} (S:Scope) (hS:X.env.scope=S) (kind:sc.kind=.function) (locs:∀ y ∈ sc.names,y.2=.local->sc.names.lookup y.1=some .local) (nocell:∀ y ∈ sc.names,y.2 ≠ .cell)
    (own:∀ p ∈ sc.names,p.2=.free->S.names.lookup p.1=some .cell\/S.names.lookup p.1=some .free) (frs:∀ x ∈ F,sc.names.lookup x=some .free) (ix:ixs.map (fun i=>X.N[i]?)=F.map some) (visM:∀ x ∈ M,sc.names.lookup x=some .local):CompSc X M F ixs sc:=by
  refine ⟨kind,locs,nocell,fun p hp e=>by rw [hS]; exact own p hp e,frs,?_,fun j i h=>?_,visM⟩
  · have:=congrArg List.length ix
    simpa using this
  · have h2:(ixs.map (fun i=>X.N[i]?))[j]?=some X.N[i]?:=by rw [List.getElem?_map,h]; rfl
    rw [ix,List.getElem?_map] at h2
    cases q:F[j]? with
    | none=>rw [q] at h2; cases h2
    | some x=>rw [q] at h2; exact (Option.some.inj h2).symm
section
variable {P:Program} {w:World} {K:FG} {mg:Str->Option Value} {base:Heap}
theorem Fun.okP {x:Str} {st:Stmt} {N ps:List Str} {k:Nat} {g:GF} {f:Addr} {fd:FuncData} (F:Fun K x x st f fd) (S:FnScope N ps (defScope st))
    (h:∀ (cdv:Value) (A:Around) (outer:List PySem.Env) (s:Shared) (H:Hp) (E:XK),Room k (A.deeper (envOfC x (defScope st) s.heap.objs.size f cdv))->
      ∃ g':SF,(∀ a mu,g a mu=runP N.length g' a mu)/\PSs (cxOf CX0 P w K mg base N x (defScope st) f cdv A outer s H E).nox (defBody st) (tPs K g')):FnOk P w K mg base CX0 (k + 1) f fd ps (spP K ps.length g):=by
  refine F.ok S (fun vs H Q E q=>?_) (fun cdv A outer s H vs Q E hr q=>?_)
  · obtain ⟨Z,qs,mu,r,mu',e,_⟩:=q; exact e
  · obtain ⟨g',eg,b⟩:=h cdv A outer s H E hr
    obtain ⟨Z,qs,mu,r,mu',e,hg,z,rl,c,hr',kk⟩:=q
    rw [eg] at hr'
    obtain ⟨fl,h1,h2⟩:=bind_some hr'
    refine ⟨_,b,offg H (usd Z.g mu),Z,_,[],fl,sr_start hg z rl c,h1,?_⟩
    cases fl with
    | rt r' ρ'=>
      cases h2
      intro v σ' H' s'
      obtain ⟨el,Z',hg',z',s''⟩:=s'.top
      refine kk v H' ⟨Z',hg',z',s''.sub ?_⟩
      exact (List.sublist_append_left _ _).cons_cons _
    | nx ρ'=>
      cases h2
      intro σ' H' s'
      obtain ⟨el,Z',hg',z',s''⟩:=s'
      exact kk .non H' ⟨Z',hg',z',(s''.sub (List.sublist_append_left _ _)).consS (rep_non _)⟩
    | bk ρ'=>cases h2
    | ct ρ'=>cases h2
end
section
variable {X:Cx}
end
theorem addP_int (a b:Int):addP (.int a) (.int b)=some (.sh (.int (a + b))):=rfl
theorem modP_int {a b:Int} (h:0 < b):modP (.int a) (.int b)=some (.sh (.int (a % b))):=by
  show (if decide (0 < b)=true then _ else _)=_
  rw [if_pos (decide_eq_true h)]
theorem fdivP_int {a b:Int} (h:0 < b) (h2:b < 1073741824):fdivP (.int a) (.int b)=some (.sh (.int (a / b))):=by
  show (if decide (0 < b/\b < 1073741824)=true then _ else _)=_
  rw [if_pos (decide_eq_true ⟨h,h2⟩)]
theorem mulP_l {a b:Int} (h:-18446744073709551616 < a) (h2:a < 18446744073709551616):mulP (.int a) (.int b)=some (.sh (.int (a * b))):=by
  show (if decide ((-(2 ^ 64) < a/\a < 2 ^ 64)\/(-(2 ^ 64) < b/\b < 2 ^ 64))=true then _ else _)=_
  rw [if_pos (decide_eq_true (.inl ⟨by omega,by omega⟩))]
theorem mulP_r {a b:Int} (h:-18446744073709551616 < b) (h2:b < 18446744073709551616):mulP (.int a) (.int b)=some (.sh (.int (a * b))):=by
  show (if decide ((-(2 ^ 64) < a/\a < 2 ^ 64)\/(-(2 ^ 64) < b/\b < 2 ^ 64))=true then _ else _)=_
  rw [if_pos (decide_eq_true (.inr ⟨by omega,by omega⟩))]
theorem eOp_eq {g:PV->PV->Option Lc} {fa fb:EF} {ρ ρ1 ρ2:Ev} {x y l:Lc} (h1:fa ρ=some (x,ρ1)) (h2:fb ρ1=some (y,ρ2)) (h3:g x.pv y.pv=some l):eOp g fa fb ρ=some (l,ρ2):=by
  unfold eOp
  rw [h1,Option.bind_some,h2,Option.bind_some,h3]
  rfl
theorem atI_some {α:Type} {l:List α} {i:Int} (h0:0<=i) (h1:i < l.length):∃ x,atI l i=some x/\l[i.toNat]?=some x:=by
  have hi:i.toNat < l.length:=by omega
  refine ⟨l[i.toNat],?_,List.getElem?_eq_getElem hi⟩
  unfold atI ixN
  rw [if_pos h0,if_pos h1,Option.bind_some,List.getElem?_eq_getElem hi]
theorem mem_rng {lo:Int} {n:Nat} {p:PV} (h:p ∈ rngP lo n):∃ i:Nat,i < n/\p=.int (lo + i):=by
  unfold rngP at h
  obtain ⟨i,hi,rfl⟩:=List.mem_map.mp h
  exact ⟨i,List.mem_range.mp hi,rfl⟩
theorem sSeq_nx {f g:SF} {ρ ρ':Ev} (h:f ρ=some (.nx ρ')):sSeq f g ρ=g ρ':=by unfold sSeq; rw [h,Option.bind_some]
theorem sSeq_rt {f g:SF} {ρ ρ':Ev} {r:Lc} (h:f ρ=some (.rt r ρ')):sSeq f g ρ=some (.rt r ρ'):=by unfold sSeq; rw [h,Option.bind_some]
theorem sSet_eq {i:Nat} {f:EF} {ρ ρ1:Ev} {l:Lc} (h:f ρ=some (l,ρ1)) (hi:i < ρ1.vs.length):sSet i f ρ=some (.nx (ρ1.set i (some l))):=by unfold sSet; rw [h,Option.bind_some,if_pos hi]
theorem sIf_t {c:TF} {f g:SF} {ρ ρ1:Ev} (h:c ρ=some (true,ρ1)):sIf c f g ρ=f ρ1:=by unfold sIf; rw [h,Option.bind_some,if_pos rfl]
theorem sIf_f {c:TF} {f g:SF} {ρ ρ1:Ev} (h:c ρ=some (false,ρ1)):sIf c f g ρ=g ρ1:=by unfold sIf; rw [h,Option.bind_some,if_neg Bool.false_ne_true]
theorem sRet_eq {f:EF} {ρ ρ1:Ev} {l:Lc} (h:f ρ=some (l,ρ1)):sRet f ρ=some (.rt l ρ1):=by unfold sRet; rw [h]; rfl
theorem sFor_eq {f:IF} {b:BF} {body:SF} {ρ ρ1:Ev} {xs:List PV} (h:f ρ=some (xs,ρ1)):sFor f b body ρ=forP b body xs ρ1:=by unfold sFor; rw [h,Option.bind_some]
theorem runP_rt {n:Nat} {g:SF} {ps:List PV} {mu:Mu} {r:Lc} (h:g (env0 n ps mu)=some (.rt r ρ)):runP n g ps mu=some (r,ρ.mu):=by unfold runP; rw [h,Option.bind_some]
theorem runP_nx {n:Nat} {g:SF} {ps:List PV} {mu:Mu} (h:g (env0 n ps mu)=some (.nx ρ)):runP n g ps mu=some (.sh .non,ρ.mu):=by unfold runP; rw [h,Option.bind_some]
theorem eCall_eq {g:GF} {a:AF} {ρ ρ1:Ev} {ls:List Lc} {r:Lc} {mu:Mu} (h:a ρ=some (ls,ρ1)) (h2:g (ls.map Lc.pv) ρ1.mu=some (r,mu)):eCall g a ρ=some (r,⟨ρ1.vs,mu⟩):=by unfold eCall; rw [h,Option.bind_some,h2]; rfl
theorem aCons_eq {f:EF} {a:AF} {ρ ρ1 ρ2:Ev} {l:Lc} {ls:List Lc} (h:f ρ=some (l,ρ1)) (h2:a ρ1=some (ls,ρ2)):aCons f a ρ=some (l::ls,ρ2):=by unfold aCons; rw [h,Option.bind_some,h2]; rfl
theorem eB_eq {g:List PV->Option Lc} {a:AF} {ρ ρ1:Ev} {ls:List Lc} {r:Lc} (h:a ρ=some (ls,ρ1)) (h2:g (ls.map Lc.pv)=some r):eB g a ρ=some (r,ρ1):=by unfold eB; rw [h,Option.bind_some,h2]; rfl
theorem eComp_eq {f:IF} {m:Nat} {ixs:List Nat} {b:BF} {tc:TF} {te:EF} {ρ ρ1:Ev} {xs ys:List PV} {mu:Mu} (h:f ρ=some (xs,ρ1)) (h2:compP b tc te xs (blkEnv m ixs (frzIx ixs ρ1)) []=some (ys,mu)):eComp f m ixs b tc te ρ=some (.own (.lst ys),⟨(frzIx ixs ρ1).vs,mu⟩):=by unfold eComp; rw [h,Option.bind_some,h2]; rfl
theorem iOf_eq {f:EF} {g:PV->Option (List PV)} {ρ ρ1:Ev} {l:Lc} {xs:List PV} (h:f ρ=some (l,ρ1)) (h2:g l.pv=some xs):iOf f g ρ=some (xs,ρ1):=by unfold iOf; rw [h,Option.bind_some,h2]; rfl
theorem iRange1_eq {a:AF} {ρ ρ1:Ev} {l:Lc} {n:Int} (h:a ρ=some ([l],ρ1)) (hl:l.pv=.int n) (h1:-4611686018427387904<=n) (h2:n < 4611686018427387904):iRange1 a ρ=some (rngP 0 n.toNat,ρ1):=by
  unfold iRange1
  rw [h,Option.bind_some]
  show (match [l.pv] with | [.int j]=>_ | _=>_)=_
  rw [hl]
  show (if -(2 ^ 62)<=n/\n < 2 ^ 62 then _ else _)=_
  rw [if_pos ⟨by omega,by omega⟩]
theorem tRead_eq {f:TF} {ρ ρ1:Ev} {b:Bool} (h:f ρ.peek=some (b,ρ1)):tRead f ρ=some (b,ρ):=by unfold tRead; rw [h]; rfl
theorem eRead_eq {f:EF} {ρ ρ1:Ev} {l:Lc} (h:f ρ.peek=some (l,ρ1)) (hf:flatL l=true):eRead f ρ=some (l,ρ):=by unfold eRead; rw [h,Option.bind_some,if_pos hf]
theorem tT_eq {f:EF} {tr:PV->Option Bool} {ρ ρ1:Ev} {l:Lc} {b:Bool} (h:f ρ=some (l,ρ1)) (h2:tr l.pv=some b):tT f tr ρ=some (b,ρ1):=by unfold tT; rw [h,Option.bind_some,h2]; rfl
theorem eJoin_eq {f:EF} {a:AF} {ρ ρ1 ρ2:Ev} {l m:Lc} {z:Str} {ps:List PV} {xs:List Str} (h:f ρ=some (l,ρ1)) (h2:a ρ1=some ([m],ρ2)) (hl:l.pv=.str z) (hm:m.pv=.lst ps) (hx:strsOf ps=some xs) (hs:(xs.map (·.length)).sum + xs.length * z.length<=100000):eJoin f a ρ=some (.sh (.str (Txt.join z xs)),ρ2):=by
  unfold eJoin
  rw [h,Option.bind_some,h2,Option.bind_some,hl]
  show (match PV.str z,[m.pv] with | .str z,[.lst ps]=>_ | _,_=>_)=_
  rw [hm]
  show (strsOf ps).bind _=_
  rw [hx,Option.bind_some,if_pos hs]
theorem join_len {z:Str} {xs:List Str}:(Txt.join z xs).length<=(xs.map (·.length)).sum + xs.length * z.length:=by
  unfold Txt.join
  rw [StrLaws.glued_eq_join]
  exact StrLaws.join_length_le z xs
section
variable {f g:SF} {ρ ρ1 ρ2 ρ':Ev} {R:Option Fl} {l m r:Lc} {fa fb fc:EF} {c d:TF} {a:AF} {b:Bool}
theorem seq_go (h:f ρ=some (.nx ρ')) (h2:g ρ'=R):sSeq f g ρ=R:=(sSeq_nx h).trans h2
theorem set_go {i:Nat} (h:fa ρ=some (l,ρ1)) (hi:Nat.blt i ρ1.vs.length=true) (e:ρ1.set i (some l)=ρ'):sSet i fa ρ=some (.nx ρ'):=by
  rw [sSet_eq h (by simpa using hi),e]
theorem ret_go (h:fa ρ=some (l,ρ1)):sRet fa ρ=some (.rt l ρ1):=sRet_eq h
theorem expr_go (h:fa ρ=some (l,ρ1)):sExpr fa ρ=some (.nx ρ1):=by unfold sExpr; rw [h]; rfl
theorem op_go {o:PV->PV->Option Lc} {p q:PV} (h1:fa ρ=some (l,ρ1)) (hx:l.pv=p) (h2:fb ρ1=some (m,ρ2)) (hy:m.pv=q) (h3:o p q=some r):eOp o fa fb ρ=some (r,ρ2):=eOp_eq h1 h2 (by rw [hx,hy]; exact h3)
theorem call_go {G:GF} {ls:List Lc} {ps:List PV} {mu:Mu} {v:List (Option Lc)} {mu1:Mu} (h:a ρ=some (ls,ρ1)) (hp:ls.map Lc.pv=ps) (hv:ρ1.vs=v) (hm:ρ1.mu=mu1) (h2:G ps mu1=some (r,mu)):eCall G a ρ=some (r,⟨v,mu⟩):=by
  subst hp hv hm
  exact eCall_eq h h2
theorem b_go {G:List PV->Option Lc} {ls:List Lc} {ps:List PV} (h:a ρ=some (ls,ρ1)) (hp:ls.map Lc.pv=ps) (h2:G ps=some r):eB G a ρ=some (r,ρ1):=by
  subst hp
  exact eB_eq h h2
theorem cons_go {ls:List Lc} (h:fa ρ=some (l,ρ1)) (h2:a ρ1=some (ls,ρ2)):aCons fa a ρ=some (l::ls,ρ2):=aCons_eq h h2
theorem tT_go {tr:PV->Option Bool} {p:PV} (h:fa ρ=some (l,ρ1)) (hp:l.pv=p) (h2:tr p=some b):tT fa tr ρ=some (b,ρ1):=by
  subst hp
  exact tT_eq h h2
theorem not_go (h:c ρ=some (b,ρ1)):tNotF c ρ=some (!b,ρ1):=by unfold tNotF; rw [h]; rfl
theorem and_go {b2:Bool} (h:c ρ=some (b,ρ1)) (h2:d ρ1=some (b2,ρ1)):tAndF c d ρ=some (b && b2,ρ1):=by
  unfold tAndF
  rw [h,Option.bind_some]
  cases b with
  | true=>rw [if_pos rfl,h2]; rfl
  | false=>rfl
theorem or_go {b2:Bool} (h:c ρ=some (b,ρ1)) (h2:d ρ1=some (b2,ρ1)):tOrF c d ρ=some (b || b2,ρ1):=by
  unfold tOrF
  rw [h,Option.bind_some]
  cases b with
  | true=>rfl
  | false=>rw [if_neg Bool.false_ne_true,h2]; rfl
theorem tread_go (h:c ρ.peek=some (b,ρ1)):tRead c ρ=some (b,ρ):=tRead_eq h
theorem eread_go (h:fa ρ.peek=some (l,ρ1)) (hf:flatL l=true):eRead fa ρ=some (l,ρ):=eRead_eq h hf
theorem lst_go {ls:List Lc} {ps:List PV} (h:a ρ=some (ls,ρ1)) (hl:Nat.ble ls.length 1000=true) (hp:ls.map Lc.pv=ps):eLst a ρ=some (.own (.lst ps),ρ1):=by
  subst hp
  unfold eLst
  rw [h,Option.bind_some,if_pos (by simpa using hl)]
theorem tup_go {ls:List Lc} {ps:List PV} (h:a ρ=some (ls,ρ1)) (hl:Nat.ble ls.length 1000=true) (hp:ls.map Lc.pv=ps):eTup a ρ=some (.sh (.tup ps),ρ1):=by
  subst hp
  unfold eTup
  rw [h,Option.bind_some,if_pos (by simpa using hl)]
theorem ix_go {p q:PV} (h1:fa ρ=some (l,ρ1)) (hx:l.pv=p) (h2:fb ρ1=some (m,ρ2)) (hy:m.pv=q) (hn:∀ n,p ≠ .ptr n) (h3:ixP p q=some r):eIx fa fb ρ=some (r,ρ2):=by
  subst hx hy
  unfold eIx
  rw [h1,Option.bind_some,h2,Option.bind_some]
  split
  · rename_i n k e1 e2
    exact (hn n e1).elim
  · rw [h3]; rfl
theorem ixc_go {n:Nat} {k:Int} {ws:List PV} {p:PV} (h1:fa ρ=some (l,ρ1)) (hx:l.pv=.ptr n) (h2:fb ρ1=some (m,ρ2)) (hy:m.pv=.int k) (hm:ρ2.mu[n]?=some (some (.lst ws))) (h3:atI ws k=some p):eIx fa fb ρ=some (.sh p,ρ2):=by
  unfold eIx
  rw [h1,Option.bind_some,h2,Option.bind_some,hx,hy]
  show (match ρ2.mu[n]? with | some (some (.lst ws))=>_ | _=>_)=_
  rw [hm]
  show (atI ws k).map _=_
  rw [h3]
  rfl
theorem setc_go {fo fi fv:EF} {n:Nat} {k:Int} {ws:List PV} {j:Nat} {x o y:Lc} {ρ3:Ev} {p:PV} (h1:fv ρ=some (x,ρ1)) (hxp:x.pv=p) (h2:fo ρ1=some (o,ρ2)) (hx:o.pv=.ptr n) (h3:fi ρ2=some (y,ρ3)) (hy:y.pv=.int k) (hm:ρ3.mu[n]?=some (some (.lst ws))) (h4:ixN ws.length k=some j):sSetC fo fi fv ρ=some (.nx ⟨ρ3.vs,ρ3.mu.set n (some (.lst (ws.set j p)))⟩):=by
  subst hxp
  unfold sSetC
  rw [h1,Option.bind_some,h2,Option.bind_some,h3,Option.bind_some,hx,hy]
  show (match ρ3.mu[n]? with | some (some (.lst ws))=>_ | _=>_)=_
  rw [hm]
  show (ixN ws.length k).map _=_
  rw [h4]
  rfl
theorem app_go {i:Nat} {ws0 ws:List PV} {p:PV} (h0:ρ.vs[i]?=some (some (.own (.lst ws0)))) (h:fa ρ=some (l,ρ1)) (hp:l.pv=p) (h1:ρ1.vs[i]?=some (some (.own (.lst ws)))) (hz:ws.length < 100000) (e:ρ1.set i (some (.own (.lst (ws++[p]))))=ρ'):sApp i fa ρ=some (.nx ρ'):=by
  subst hp
  unfold sApp
  rw [h0]
  show (fa ρ).bind _=_
  rw [h,Option.bind_some]
  show (match ρ1.vs[i]? with | some (some (.own (.lst ws)))=>_ | _=>_)=_
  rw [h1]
  show (if ws.length < 100000 then _ else _)=_
  rw [if_pos hz,e]
theorem ext_go {i:Nat} {ws0 ws ps:List PV} (h0:ρ.vs[i]?=some (some (.own (.lst ws0)))) (h:fa ρ=some (l,ρ1)) (hp:l.pv=.lst ps) (h1:ρ1.vs[i]?=some (some (.own (.lst ws)))) (hz:ws.length + ps.length<=100000) (e:ρ1.set i (some (.own (.lst (ws++ps))))=ρ'):sExt i fa ρ=some (.nx ρ'):=by
  unfold sExt
  rw [h0]
  show (fa ρ).bind _=_
  rw [h,Option.bind_some,hp]
  show (match PV.lst ps,ρ1.vs[i]? with | .lst ps,some (some (.own (.lst ws)))=>_ | _,_=>_)=_
  rw [h1]
  show (if ws.length + ps.length<=100000 then _ else _)=_
  rw [if_pos hz,e]
theorem for_go {F:IF} {B:BF} {body:SF} {xs:List PV} (h:F ρ=some (xs,ρ1)) (h2:forP B body xs ρ1=R):sFor F B body ρ=R:=(sFor_eq h).trans h2
theorem iof_go {G:PV->Option (List PV)} {p:PV} {xs:List PV} (h:fa ρ=some (l,ρ1)) (hp:l.pv=p) (h2:G p=some xs):iOf fa G ρ=some (xs,ρ1):=by
  subst hp
  exact iOf_eq h h2
theorem modP_go {x y:PV} {p q:Int} (hx:x=.int p) (hy:y=.int q) (h:0 < q):modP x y=some (.sh (.int (p % q))):=by subst hx hy; exact modP_int h
theorem mulP_gor {x y:PV} {p q:Int} (hx:x=.int p) (hy:y=.int q) (h:-18446744073709551616 < q) (h2:q < 18446744073709551616):mulP x y=some (.sh (.int (p * q))):=by subst hx hy; exact mulP_r h h2
end
section
variable {X:Cx}
noncomputable def eSeal (f:EF):EF:=fun ρ=>(f ρ).bind fun x=>match x.1 with
  | .own p=>some (.sh (.ptr x.2.mu.length),⟨x.2.vs,x.2.mu++[some p]⟩)
  | _=>none
theorem qseal {e:Expr} {f:EF} (h:PE X e (tP X.K f)):PE X e (tP X.K (eSeal f)):=PE.imp h fun σ H Q q=>by
  obtain ⟨H0,Z0,ρ,pd,l,ρ',s,f,k⟩:=q
  obtain ⟨x,h1,h2⟩:=bind_some f
  refine ⟨H0,Z0,ρ,pd,x.1,x.2,s,h1,fun v H1 s1=>?_⟩
  split at h2
  · rename_i p ep
    cases h2
    rw [ep] at s1
    obtain ⟨el,Z,hg,z,so⟩:=s1.top
    obtain ⟨a,ea,ra,za,ha0⟩:=so.1 _ List.mem_cons_self
    have ea':v=.ref a:=Option.some.inj ea
    subst ea'
    have lz:ZLe Z ⟨Z.z,Z.g++[a]⟩:=⟨Same.refl _,List.prefix_append _ _⟩
    have so2:=so.step (Z':=⟨Z.z,Z.g++[a]⟩) (H':=H1) lz fun e he b hb=>⟨rfl,(own_of so he hb).1⟩
    refine k _ H1 (.mk (Z:=⟨Z.z,Z.g++[a]⟩) el (by simp [hg]) ⟨z.zh,z.h0,z.z0.trans lz,z.new⟩ (Slots.consS ?_ ?_))
    · refine so2.perm ?_
      have ec:cel (Z.g++[a]) (x.2.mu++[some p])=cel Z.g x.2.mu++[(some (.ref a),some (.own p))]:=by
        unfold cel
        rw [List.map_append,List.map_append,List.zip_append (by simp [hg])]
        rfl
      unfold sl
      show List.Perm (cel (Z.g++[a]) (x.2.mu++[some p])++_) _
      rw [ec,List.append_assoc]
      exact List.perm_middle
    · unfold Rep
      exact ⟨a,rfl,by show (Z.g++[a])[x.2.mu.length]?=some a; rw [hg,List.getElem?_append_right (Nat.le_refl _)]; simp⟩
  · cases h2
noncomputable def eOpen (f:EF):EF:=fun ρ=>(f ρ).bind fun x=>match x.1 with
  | .sh (.ptr n)=>match x.2.mu[n]? with
    | some (some p)=>some (.own p,⟨x.2.vs,x.2.mu.set n none⟩)
    | _=>none
  | _=>none
theorem qopen {e:Expr} {f:EF} (h:PE X e (tP X.K f)):PE X e (tP X.K (eOpen f)):=PE.imp h fun σ H Q q=>by
  obtain ⟨H0,Z0,ρ,pd,l,ρ',s,f,k⟩:=q
  obtain ⟨x,h1,h2⟩:=bind_some f
  refine ⟨H0,Z0,ρ,pd,x.1,x.2,s,h1,fun v H1 s1=>?_⟩
  split at h2
  · rename_i n en
    split at h2
    · rename_i p em
      cases h2
      rw [en] at s1
      obtain ⟨a,rfl,s2⟩:=s1.cellO em
      exact k _ H1 (s2.sub ((List.sublist_cons_self _ _).cons_cons _))
    · cases h2
  · cases h2
end
section
variable {X:Cx}
noncomputable def eSlx (f:EF) (lo hi:OF):EF:=fun ρ=>(f ρ).bind fun x=>(lo x.2).bind fun y=>(hi y.2).bind fun z=>match x.1.pv with
  | .lst ps=>some (.own (.lst (cutP ps y.1 z.1)),z.2)
  | .str t=>if t.length<=100000 then some (.sh (.str (txtCut t y.1 z.1)),z.2) else none
  | _=>none
theorem qslicex {e:Expr} {lo hi:Option Expr} {p2 pos:Pos} {f:EF} {fl fh:OF} (he:PE X e (tP X.K f)) (hl:PO X lo (tPO X.K fl)) (hu:PO X hi (tPO X.K fh)):PE X (.Subscript e (.Slice lo hi none p2) pos) (tP X.K (eSlx f fl fh)):=PE.imp (pe_slice (sl_list.or sl_str) he hl hu) fun σ H Q q=>by
  obtain ⟨H0,Z0,ρ,pd,r,ρ',s,h,k⟩:=q
  obtain ⟨x,h1,h2⟩:=bind_some h
  obtain ⟨y,h3,h4⟩:=bind_some h2
  obtain ⟨z,h5,h6⟩:=bind_some h4
  refine ⟨H0,Z0,ρ,pd,x.1,x.2,s,h1,fun v H1 s1=>⟨H0,Z0,x.2,_,y.1,y.2,s1.freeze,h3,fun H2 s2=>⟨H0,Z0,y.2,_,z.1,z.2,s2,h5,fun H3 s3=>?_⟩⟩⟩
  cases e:x.1.pv with
  | lst ps=>
    rw [e] at h6 s3
    cases h6
    obtain ⟨el,Z,hg,zz,r1,s4⟩:=s3.sh
    unfold Rep at r1
    obtain ⟨a,vs,rfl,g1,g2⟩:=r1
    refine .inl ⟨a,vs,rfl,SqL.same zz.zh g1,fun p hp=>k _ _ ?_⟩
    obtain ⟨z',s'⟩:=s4.new (o:=.lst (cutV vs y.1 z.1)) (p:=.lst (cutP ps y.1 z.1)) zz hp ⟨_,upd_same,g2.cut⟩
    exact .mk el hg z' s'
  | str t=>
    rw [e] at h6 s3
    have h6':(if t.length<=100000 then some (Lc.sh (.str (txtCut t y.1 z.1)),z.2) else none)=some (r,ρ'):=h6
    split at h6'
    · rename_i hz
      cases h6'
      obtain ⟨_,r1⟩:=s3.repH
      unfold Rep at r1
      exact .inr ⟨t,r1,small hz,k _ H3 (s3.pop.scal rep_str)⟩
    · cases h6'
  | _=>rw [e] at h6; cases h6
theorem CallS.two {r:List V->Hp->VK->Prop} {g:PV->PV->Option Lc} (h:∀ H0 Z0 σ ρ pd H v w p q l Q,SR K H0 Z0 σ H ρ ((v,.sh p)::(w,.sh q)::pd)->g p q=some l->(∀ u H',SR K H0 Z0 σ H' ρ ((u,l)::pd)->Q u H')->r [v,w] H Q):
    CallS K r (fun ps=>match ps with | [p,q]=>g p q | _=>none):=by
  intro H0 Z0 σ ρ pd H vs ps l Q e s hg k
  match ps,vs,e,s,hg with
  | [p,q],[v,w],_,s,hg=>exact h H0 Z0 σ ρ pd H v w p q l Q s hg k
  | [p,q],[],e,_,_=>simp at e
  | [p,q],[_],e,_,_=>simp at e
  | [p,q],_::_::_::_,e,_,_=>simp at e
  | [],_,_,_,hg=>cases hg
  | [_],_,_,_,hg=>cases hg
  | _::_::_::_,_,_,_,hg=>cases hg
noncomputable def minP:PV->PV->Option Lc
  | .int i,.int j=>some (.sh (.int (if j < i then j else i)))
  | _,_=>none
noncomputable def maxP:PV->PV->Option Lc
  | .int i,.int j=>some (.sh (.int (if j > i then j else i)))
  | _,_=>none
noncomputable abbrev min2:List PV->Option Lc:=fun ps=>match ps with | [p,q]=>minP p q | _=>none
noncomputable abbrev max2:List PV->Option Lc:=fun ps=>match ps with | [p,q]=>maxP p q | _=>none
theorem cs_min:CallS K (fun xs H Q=>∃ i j,xs=[.int i,.int j]/\Q (.int (if j < i then j else i)) H) min2:=CallS.two fun H0 Z0 σ ρ pd H v w p q l Q s e k=>by
  obtain ⟨_,r1,r2⟩:=s.rep2H
  unfold minP at e
  split at e
  · cases e
    have a:=rep_int_inv r1
    have b:=rep_int_inv r2
    subst a b
    exact ⟨_,_,rfl,k _ H (s.pop.pop.scal rep_int)⟩
  · cases e
theorem cs_max:CallS K (fun xs H Q=>∃ i j,xs=[.int i,.int j]/\Q (.int (if j > i then j else i)) H) max2:=CallS.two fun H0 Z0 σ ρ pd H v w p q l Q s e k=>by
  obtain ⟨_,r1,r2⟩:=s.rep2H
  unfold maxP at e
  split at e
  · cases e
    have a:=rep_int_inv r1
    have b:=rep_int_inv r2
    subst a b
    exact ⟨_,_,rfl,k _ H (s.pop.pop.scal rep_int)⟩
  · cases e
theorem SR.popO {a:Addr} {ws:List PV} {p:PV} (s:SR K H0 Z0 σ H ρ ((.ref a,.own (.lst ws))::pd)) (hp:ws[ws.length - 1]?=some p):
    ∃ us y,H a=some (.lst us)/\us[us.length - 1]?=some y/\SR K H0 Z0 σ (upd H a (.lst us.dropLast)) ρ ((.ref a,.own (.lst ws.dropLast))::(y,.sh p)::pd):=by
  obtain ⟨el,Z,hg,z,so⟩:=s.top
  obtain ⟨b,eb,⟨us,hu,hr⟩,_⟩:=so.1 _ List.mem_cons_self
  cases eb
  obtain ⟨y,hy,ry⟩:=hr.get hp
  have hl:=hr.length
  refine ⟨us,y,hu,by rw [hl]; exact hy,?_⟩
  have hd:RepL K Z ws.dropLast us.dropLast:=by
    rw [List.dropLast_eq_take,List.dropLast_eq_take,hl]
    exact hr.take _
  obtain ⟨z',s'⟩:=so.write (o:=.lst us.dropLast) (q:=.lst ws.dropLast) z ⟨us.dropLast,upd_same,hd⟩
  have s2:=(s'.consS (v:=y) (p:=p) ry).perm (List.Perm.swap (some y,some (Lc.sh p)) (some (V.ref a),some (Lc.own (.lst ws.dropLast))) _)
  exact .mk (Z:=Z) el hg z' (s2.perm (sl_cons.cons _))
noncomputable def ePop (i:Nat):EF:=fun ρ=>match ρ.vs[i]? with
  | some (some (.own (.lst ws)))=>(ws[ws.length - 1]?).map fun p=>(.sh p,ρ.set i (some (.own (.lst ws.dropLast))))
  | _=>none
theorem qpop {i:Nat} {o:Expr} {apos cpos:Pos} (h:PE X (.Call (.Attribute o "pop" apos) [] [] cpos) (tBM0 X.K "list" rPop (tVar i))):PE X (.Call (.Attribute o "pop" apos) [] [] cpos) (tP X.K (ePop i)):=PE.imp h fun σ H Q q=>by
  obtain ⟨H0,Z0,ρ,pd,r,ρ',s,h,k⟩:=q
  unfold ePop at h
  split at h
  · rename_i ws e0
    obtain ⟨p,h1,h2⟩:=map_some h
    cases h2
    obtain ⟨a,ea,⟨us,hu⟩,s1⟩:=s.takeO e0
    obtain ⟨us2,y,hu2,hy,s2⟩:=s1.popO h1
    refine ⟨.ref a,ea,.inl ⟨rfl,us,SqL.of hu⟩,a,us2,y,rfl,rfl,hu2,hy,k _ _ ?_⟩
    have s3:=s2.put ea
    rw [Ev.set_set] at s3
    exact s3
  · cases h
end
section
variable {X:Cx}
noncomputable def enumP (ps:List PV):List PV:=ps.zipIdx.map fun x=>.tup [.int (x.2:Nat),x.1]
theorem enumP_get {ps:List PV} {i:Nat}:(enumP ps)[i]?=ps[i]?.map fun p=>.tup [.int (i:Nat),p]:=by
  unfold enumP
  rw [List.getElem?_map,List.getElem?_zipIdx]
  cases ps[i]? <;> simp
theorem enumP_len {ps:List PV}:(enumP ps).length=ps.length:=by unfold enumP; simp
theorem itok_enum {H0:Hp} {a:Addr} {ps:List PV}:ItOk K H0 Z0 ((.ref a,.sh (.lst ps))::pd) (Ite K a) (enumP ps):=by
  intro σ H ρ i s
  obtain ⟨el,Z,hg,z,r,so⟩:=s.sh
  have r0:=r
  unfold Rep at r
  obtain ⟨b,vs,e,h1,h2⟩:=r
  cases e
  have hq:=SqL.same z.zh h1
  refine ⟨fun x hx=>?_,fun hl=>⟨vs,hq,by rw [h2.length]; rw [enumP_len] at hl; omega⟩⟩
  rw [enumP_get] at hx
  obtain ⟨p,hp,rfl⟩:=map_some hx
  obtain ⟨v,hv,rv⟩:=h2.get hp
  refine ⟨⟨vs,v,hq,hv⟩,fun v' H' y=>?_⟩
  obtain ⟨T,y,hT,rfl,rfl,hy⟩:=y
  have e1:=hy vs hq
  rw [hv] at e1
  cases e1
  obtain ⟨z',lz,so'⟩:=(so.consS r0).newF z (a:=T) (o:=.tup [.int (i:Nat),v]) hT
  refine .mk (Z:=Z.put T (.tup [.int (i:Nat),v])) el hg z' (Slots.perm (Slots.consS so' ?_) (sl_cons.cons _))
  unfold Rep
  exact ⟨T,[.int (i:Nat),v],rfl,.inl (.inl (by show upd Z.z T _ T=_; rw [upd_same])),RepL.cons (rep_int _) (RepL.cons (rv.mono lz) .nil)⟩
noncomputable def iEnumF (f:EF):IF:=fun ρ=>(f ρ).bind fun x=>match x.1.pv with
  | .lst ps=>some (enumP ps,x.2)
  | _=>none
theorem qi_enum {a:Expr} {f:EF} {p pos:Pos} {elts:List Expr} {x1} {tpos:Pos} (hg:Gl X "enumerate") (hm:X.mg "enumerate" = none) (ha:PA X [a] (tPA X.K (aCons f aNil))) (hs:starEach [a] X.env=[(false,eval a X.env)]:=by rfl):PI X (.Tuple elts x1 tpos) (.Call (.Name "enumerate" p) [a] [] pos) (tPI X.K (iEnumF f)):=PI.imp (pi_enum hg hm ha hs) fun σ H R q=>by
  obtain ⟨H0,Z0,ρ,pd,xs,ρ',s,h,k⟩:=q
  obtain ⟨x,h1,h2⟩:=bind_some h
  refine ⟨H0,Z0,ρ,pd,[x.1],x.2,s,?_,fun vs H1 e1 s1=>?_⟩
  · unfold aCons aNil
    rw [h1]
    rfl
  · obtain ⟨v,rfl⟩:=ln1 e1
    have s2:SR X.K H0 Z0 σ H1 x.2 ((v,.sh x.1.pv)::pd):=SR.freeze s1
    cases e:x.1.pv with
    | lst ps=>
      rw [e] at h2 s2
      cases h2
      obtain ⟨Z,z,r⟩:=s2.rep
      unfold Rep at r
      obtain ⟨b,us,rfl,h1',h2'⟩:=r
      exact ⟨b,rfl,⟨us,SqL.same z h1'⟩,k _ _ _ s2 itok_enum (List.sublist_cons_self _ _)⟩
    | _=>rw [e] at h2; cases h2
end
section
variable {X:Cx}
noncomputable abbrev PD:=List (Key × PV)
noncomputable def valP:PD->Key->Option PV
  | [],_=>none
  | kv::r,k=>if kv.1=k then some kv.2 else valP r k
noncomputable def replP (k:Key) (v:PV):PD->PD
  | []=>[]
  | kv::r=>(if kv.1=k then (kv.1,v) else kv)::replP k v r
noncomputable def putP (l:PD) (k:Key) (v:PV):PD:=match valP l k with
  | some _=>replP k v l
  | none=>l++[(k,v)]
noncomputable def keyP:PV->Option Key
  | .int i=>some (.inl i)
  | .str x=>some (.inr x)
  | _=>none
noncomputable def dkP (l:PD):PV:=.dk (l.map (·.1)) (l.map (·.2))
noncomputable def RepD (K:FG) (Z:ZG):PD->List (Key × V)->Prop:=Paired fun p q=>p.1=q.1/\Rep K Z p.2 q.2
section
variable {K:FG} {Z Z':ZG}
theorem repD_mk:∀ {kvs:List (Key × V)} {ks:List Key} {ps:List PV},kvs.map (·.1)=ks->RepL K Z ps (kvs.map (·.2))->RepD K Z (ks.zip ps) kvs
  | [],ks,ps,h1,h2=>by
    subst h1
    exact .nil
  | kv::r,ks,ps,h1,h2=>by
    subst h1
    cases ps with
    | nil=>have:=h2.inv0; simp at this
    | cons p ps=>
      obtain ⟨v,r',e,h3,h4⟩:=h2.inv
      rw [List.map_cons] at e
      injection e with e1 e2
      subst e1 e2
      rw [List.map_cons,List.zip_cons_cons]
      exact .cons ⟨rfl,h3⟩ (repD_mk rfl h4)
theorem RepD.keys:∀ {l:PD} {kvs:List (Key × V)},RepD K Z l kvs->kvs.map (·.1)=l.map (·.1)
  | _,_,.nil=>rfl
  | _,_,.cons h t=>by rw [List.map_cons,List.map_cons,h.1,RepD.keys t]
theorem RepD.len:∀ {l:PD} {kvs:List (Key × V)},RepD K Z l kvs->kvs.length=l.length
  | _,_,.nil=>rfl
  | _,_,.cons h t=>by rw [List.length_cons,List.length_cons,RepD.len t]
theorem RepD.val {k:Key}:∀ {l:PD} {kvs:List (Key × V)},RepD K Z l kvs->(∀ p,valP l k=some p->∃ v,valV kvs k=some v/\Rep K Z p v)/\(valP l k=none->valV kvs k=none)
  | _,_,.nil=>⟨fun p h=>(by cases h),fun _=>rfl⟩
  | p::l,q::kvs,.cons h t=>by
    have ih:=RepD.val (k:=k) t
    by_cases e:p.1=k
    · have e':q.1=k:=by rw [← h.1]; exact e
      refine ⟨fun x hx=>⟨q.2,valV_pos e',?_⟩,fun hx=>?_⟩
      · unfold valP at hx; rw [if_pos e] at hx; cases hx; exact h.2
      · unfold valP at hx; rw [if_pos e] at hx; cases hx
    · have e':¬ q.1=k:=by rw [← h.1]; exact e
      rw [valV_neg e']
      unfold valP
      rw [if_neg e]
      exact ih
theorem key_rep {p:PV} {k:Key} {v:V} (h:keyP p=some k) (r:Rep K Z p v):v=kV k:=by
  cases p with
  | int i=>cases h; exact rep_int_inv r
  | str x=>cases h; exact rep_str_inv r
  | _=>cases h
end
noncomputable def eIy (fa fb:EF):EF:=fun ρ=>(fa ρ).bind fun x=>(fb x.2).bind fun y=>match x.1.pv with
  | .dk ks ps=>(keyP y.1.pv).bind fun k=>(valP (ks.zip ps) k).map fun p=>(.sh p,y.2)
  | .df ks ps=>(keyP y.1.pv).bind fun k=>(valP (ks.zip ps) k).map fun p=>(.sh p,y.2)
  | _=>eIx (fun _=>some x) (fun _=>some y) ρ
theorem ix_core {ρ ρ0 ρ':Ev} {v w:V} {x y:Lc × Ev} {l:Lc} {Q:VK} (hy:y.2=ρ) (s3:SR X.K H0 Z0 σ H ρ ((w,.sh y.1.pv)::(v,.sh x.1.pv)::pd)) (h:eIx (fun _=>some x) (fun _=>some y) ρ0=some (l,ρ')) (k:∀ u H',SR X.K H0 Z0 σ H' ρ' ((u,l)::pd)->Q u H'):rIx X.K v w H Q:=by
  unfold eIx at h
  rw [Option.bind_some,Option.bind_some] at h
  subst hy
  split at h
  · rename_i n kk en ek
    split at h
    · rename_i ws em
      obtain ⟨p,h5,h6⟩:=map_some h
      cases h6
      rw [en,ek] at s3
      obtain ⟨_,rw'⟩:=s3.repH
      have ew:=rep_int_inv rw'
      obtain ⟨a,rfl,s5⟩:=s3.pop.cellO em
      obtain ⟨el,Z,hg,z,so⟩:=s5.top
      obtain ⟨_,ea,⟨us,hu,hr⟩,_⟩:=so.1 _ List.mem_cons_self
      cases ea
      obtain ⟨j,e1,e2⟩:=atI_len h5 hr.length
      obtain ⟨u,e3,e4⟩:=hr.get e1
      refine .inl ⟨a,us,kk,u,rfl,ew,SqL.of hu,e2 u e3,k u H ?_⟩
      have s6:SR X.K H0 Z0 σ H ⟨y.2.vs,y.2.mu.set n none⟩ ((u,.sh p)::(.ref a,.own (.lst ws))::(.ref a,.sh (.ptr n))::pd):=.mk (Z:=Z) el hg z ((so.perm sl_cons).consS e4)
      have hn:n < y.2.mu.length:=(List.getElem?_eq_some_iff.mp em).1
      have s7:SR X.K H0 Z0 σ H ⟨y.2.vs,y.2.mu.set n none⟩ ((.ref a,.own (.lst ws))::(.ref a,.sh (.ptr n))::(u,.sh p)::pd):=s6.perm (((List.Perm.swap _ _ _).cons _).trans (List.Perm.swap _ _ _))
      have s8:=s7.cellP (by show (y.2.mu.set n none)[n]?=_; rw [List.getElem?_set_self hn])
      have e8:(y.2.mu.set n none).set n (some (.lst ws))=y.2.mu:=by rw [List.set_set]; exact set_same em
      have s9:SR X.K H0 Z0 σ H ⟨y.2.vs,(y.2.mu.set n none).set n (some (.lst ws))⟩ ((u,.sh p)::pd):=s8
      rw [e8] at s9
      exact s9
    · cases h
  · obtain ⟨l',h5,h6⟩:=map_some h
    cases h6
    exact ops_ix H0 Z0 σ y.2 pd H v w x.1.pv y.1.pv _ Q s3 h5 k
theorem qiy {a b:Expr} {pos:Pos} {fa fb:EF} (hu:X.A.units + 1 < cLine) (ha:PE X a (tP X.K fa)) (hb:PE X b (tP X.K fb)) (hm:PlainIx b):PE X (.Subscript a b pos) (tP X.K (eIy fa fb)):=PE.imp (pe_ix (ix_seq.or (ix_dict hu)) ha hb hm) fun σ H Q q=>by
  obtain ⟨H0,Z0,ρ,pd,l,ρ',s,f,k⟩:=q
  obtain ⟨x,h1,h2⟩:=bind_some f
  obtain ⟨y,h3,h4⟩:=bind_some h2
  refine ⟨H0,Z0,ρ,pd,x.1,x.2,s,h1,fun v H1 s1=>⟨H0,Z0,x.2,_,y.1,y.2,s1,h3,fun w H2 s2=>?_⟩⟩
  have s3:=s2.freeze.swap.freeze.swap
  split at h4
  · rename_i ks ps en
    obtain ⟨kk,h5,h6⟩:=bind_some h4
    obtain ⟨p,h7,h8⟩:=map_some h6
    cases h8
    obtain ⟨_,rw'⟩:=s3.repH
    have ew:=key_rep h5 rw'
    have s4:=s3.pop
    rw [en] at s4
    obtain ⟨Z,z,r⟩:=s4.rep
    unfold Rep at r
    obtain ⟨b',kvs,rfl,g1,g2,g3⟩:=r
    obtain ⟨u,hu',ru⟩:=(repD_mk g2 g3).val.1 p h7
    have e1:=z _ _ g1
    refine .inr ⟨b',u,rfl,.inl ⟨kvs,kk,.inl e1,ew,hu'.symm⟩,k u H2 ?_⟩
    refine (s4.part (u:=u) (q:=p) fun Z' z' r'=>?_).sub ((List.sublist_cons_self _ _).cons_cons _)
    unfold Rep at r'
    obtain ⟨b2,kvs2,eb,g1',g2',g3'⟩:=r'
    cases eb
    have e2:=z' _ _ g1'
    rw [e1] at e2
    cases e2
    obtain ⟨u2,hu2,ru2⟩:=(repD_mk g2' g3').val.1 p h7
    rw [hu'] at hu2
    cases hu2
    exact ru2
  · rename_i ks ps en
    obtain ⟨kk,h5,h6⟩:=bind_some h4
    obtain ⟨p,h7,h8⟩:=map_some h6
    cases h8
    obtain ⟨_,rw'⟩:=s3.repH
    have ew:=key_rep h5 rw'
    have s4:=s3.pop
    rw [en] at s4
    obtain ⟨Z,z,r⟩:=s4.rep
    unfold Rep at r
    obtain ⟨b',ob,kvs,rfl,g1,g2,g3⟩:=r
    obtain ⟨u,hu',ru⟩:=(repD_mk g2 g3).val.1 p h7
    have e1:=z _ _ g1
    refine .inr ⟨b',u,rfl,.inl ⟨kvs,kk,.inr ⟨ob,e1⟩,ew,hu'.symm⟩,k u H2 ?_⟩
    refine (s4.part (u:=u) (q:=p) fun Z' z' r'=>?_).sub ((List.sublist_cons_self _ _).cons_cons _)
    unfold Rep at r'
    obtain ⟨b2,ob2,kvs2,eb,g1',g2',g3'⟩:=r'
    cases eb
    have e2:=z' _ _ g1'
    rw [e1] at e2
    cases e2
    obtain ⟨u2,hu2,ru2⟩:=(repD_mk g2' g3').val.1 p h7
    rw [hu'] at hu2
    cases hu2
    exact ru2
  · exact .inl (ix_core rfl s3 h4 k)
noncomputable def sSetD (i:Nat) (fi fv:EF):SF:=fun ρ=>(fv ρ).bind fun x=>match x.2.vs[i]? with
  | some (some (.own (.dk _ _)))=>(fi x.2).bind fun y=>match keyP y.1.pv,y.2.vs[i]? with
    | some k,some (some (.own (.dk ks ps)))=>if ks.length < 100000 then some (.nx (y.2.set i (some (.own (dkP (putP (ks.zip ps) k x.1.pv)))))) else none
    | _,_=>none
  | _=>none
noncomputable def sAppC (fo fv:EF):SF:=fun ρ=>(fo ρ).bind fun o=>match o.1.pv with
  | .ptr n=>match o.2.mu[n]? with
    | some (some (.lst _))=>(fv o.2).bind fun y=>match y.2.mu[n]? with
      | some (some (.lst ws))=>if ws.length < 100000 then some (.nx ⟨y.2.vs,y.2.mu.set n (some (.lst (ws++[y.1.pv])))⟩) else none
      | _=>none
    | _=>none
  | _=>none
theorem qs_appC {o e:Expr} {fo fv:EF} {apos cpos pos:Pos} (h:PS X (.Expr (.Call (.Attribute o "append" apos) [e] [] cpos) pos) (tDrop (tBM X.K "list" rAppend (tP X.K fo) (tPA X.K (aCons fv aNil))))):
    PS X (.Expr (.Call (.Attribute o "append" apos) [e] [] cpos) pos) (tPs X.K (sAppC fo fv)):=PS.imp h fun D σ H q=>by
  obtain ⟨H0,Z0,ρ,pd,fl,s,h,k⟩:=q
  obtain ⟨o',h1,h2⟩:=bind_some h
  refine ⟨H0,Z0,ρ,pd,o'.1,o'.2,s,h1,fun v H1 s1=>?_⟩
  split at h2
  · rename_i n en
    split at h2
    · rename_i ws0 em0
      obtain ⟨y,h3,h4⟩:=bind_some h2
      have s2:=s1.freeze
      rw [en] at s2
      obtain ⟨a,rfl,s5⟩:=s2.cellO em0
      obtain ⟨_,Z,_,z,so⟩:=s5.top
      obtain ⟨_,ea,⟨us,hu,_⟩,_⟩:=so.1 _ List.mem_cons_self
      cases ea
      refine ⟨.inl ⟨rfl,us,SqL.of hu⟩,H0,Z0,o'.2,_,[y.1],y.2,s2,?_,fun vs H2 e2 sv=>?_⟩
      · unfold aCons aNil
        rw [h3]
        rfl
      · obtain ⟨v1,rfl⟩:=ln1 e2
        split at h4
        · rename_i ws em
          split at h4
          · rename_i hz
            cases h4
            have s3:SR X.K H0 Z0 σ H2 y.2 ((v1,.sh y.1.pv)::(.ref a,.sh (.ptr n))::pd):=SR.freeze sv
            obtain ⟨a',ea',s6⟩:=s3.swap.cellO em
            cases ea'
            have s7:SR X.K H0 Z0 σ H2 ⟨y.2.vs,y.2.mu.set n none⟩ ((v1,.sh y.1.pv)::(.ref a,.own (.lst ws))::(.ref a,.sh (.ptr n))::pd):=s6.perm ((List.Perm.swap _ _ _).trans ((List.Perm.swap _ _ _).cons _))
            obtain ⟨us2,hu2,hl,s8⟩:=s7.pushO
            have hn:n < y.2.mu.length:=(List.getElem?_eq_some_iff.mp em).1
            have s9:=s8.cellP (by show (y.2.mu.set n none)[n]?=_; rw [List.getElem?_set_self hn])
            refine ⟨a,us2,v1,rfl,rfl,hu2,by rw [hl,sizeLine_eq]; omega,k σ _ ?_⟩
            have e8:(y.2.mu.set n none).set n (some (.lst (ws++[y.1.pv])))=y.2.mu.set n (some (.lst (ws++[y.1.pv]))):=List.set_set ..
            have s10:SR X.K H0 Z0 σ (upd H2 a (.lst (us2++[v1]))) ⟨y.2.vs,(y.2.mu.set n none).set n (some (.lst (ws++[y.1.pv])))⟩ pd:=s9
            rw [e8] at s10
            exact s10
          · cases h4
        · cases h4
    · cases h2
  · cases h2
noncomputable def flatV:List (V × V)->List V
  | []=>[]
  | p::r=>p.1::p.2::flatV r
noncomputable def eLen (f:EF):EF:=fun ρ=>(f ρ).bind fun x=>match x.1.pv with
  | .ptr n=>match x.2.mu[n]? with
    | some (some (.lst ws))=>some (.sh (.int (ws.length:Nat)),x.2)
    | _=>none
  | p=>(lenP p).map fun l=>(l,x.2)
theorem qlen {x:Str} {e:Expr} {f:EF} {p pos:Pos} (h:PE X (.Call (.Name x p) [e] [] pos) (tCB (fun xs H Q=>∃ x n,xs=[x]/\LenV X.K x H n/\Q (.int n) H) (tPA X.K (aCons f aNil)))):PE X (.Call (.Name x p) [e] [] pos) (tP X.K (eLen f)):=PE.imp h fun σ H Q q=>by
  obtain ⟨H0,Z0,ρ,pd,l,ρ',s,ff,k⟩:=q
  obtain ⟨y,h1,h2⟩:=bind_some ff
  refine ⟨H0,Z0,ρ,pd,[y.1],y.2,s,?_,fun vs H1 e1 s1=>?_⟩
  · unfold aCons aNil
    rw [h1]
    rfl
  · obtain ⟨v,rfl⟩:=ln1 e1
    have s2:SR X.K H0 Z0 σ H1 y.2 ((v,.sh y.1.pv)::pd):=SR.freeze s1
    split at h2
    · rename_i n en
      split at h2
      · rename_i ws em
        cases h2
        rw [en] at s2
        obtain ⟨a,rfl,s5⟩:=s2.cellO em
        obtain ⟨_,Z,_,z,so⟩:=s5.top
        obtain ⟨_,ea,⟨us,hu,hr⟩,_⟩:=so.1 _ List.mem_cons_self
        cases ea
        exact ⟨.ref a,ws.length,rfl,.inl ⟨us,SqL.of hu,hr.length.symm⟩,k _ H1 (s2.pop.scal rep_int)⟩
      · cases h2
    · obtain ⟨l',h3,h4⟩:=map_some h2
      cases h4
      exact cs_len H0 Z0 σ y.2 pd H1 [v] [y.1.pv] _ Q rfl s2 h3 k
end
open PySem.SeqAt
section
variable {X:Cx}
noncomputable def eqDk (n:Nat):PD->PD->Option Bool
  | [],_=>some true
  | kv::r,lb=>match valP lb kv.1 with
    | none=>some false
    | some q=>(eqD n kv.2 q).bind fun e=>(eqDk n r lb).map fun c=>e && c
noncomputable def eqDict (n:Nat) (la lb:PD):Option Bool:=if la.length=lb.length then eqDk n la lb else some false
theorem hits_of {pins:List (Addr × Obj)} {H:Hp} {s:Shared} {g:List Addr} (I:Inv X pins σ H s) {n:Nat} {A:Around} (hA:A.units + n < cLine) {lb:PD} {kb:List (Key × V)} {vb:List (Key × Value)} (rb:RepD X.K ⟨H,g⟩ lb kb) (qb:KV kb vb):
    ∀ {la:PD} {ka:List (Key × V)} {va:List (Key × Value)} {b:Bool},RepD X.K ⟨H,g⟩ la ka->KV ka va->eqDk n la lb=some b->PySem.W.KeqHits A s vb va b
  | _,_,va,b,.nil,qa,h=>by
    cases h
    cases (show Paired _ [] va from qa)
    exact .nil
  | p::la,q::ka,va,b,.cons hpq t,qa,h=>by
    cases (show Paired _ (q::ka) va from qa) with
    | @cons _ u _ vr e qr=>
      obtain ⟨u1,u2⟩:=u
      have ek:p.1=u1:=hpq.1.trans e.1
      unfold eqDk at h
      have rel:=qb.val p.1
      cases hv:valP lb p.1 with
      | none=>
        rw [hv] at h
        cases h
        rw [rb.val.2 hv] at rel
        refine .miss ?_
        rw [← ek]
        cases hx:valueAt vb p.1 with
        | none=>rfl
        | some y=>rw [hx] at rel; exact rel.elim
      | some q'=>
        rw [hv] at h
        obtain ⟨e1,h1,h2⟩:=bind_some h
        obtain ⟨c,h3,h4⟩:=map_some h2
        subst h4
        obtain ⟨v',hv',rv'⟩:=rb.val.1 q' hv
        rw [hv'] at rel
        cases hx:valueAt vb p.1 with
        | none=>rw [hx] at rel; exact rel.elim
        | some y=>
          rw [hx] at rel
          refine .hit (y:=y) (by rw [← ek]; exact hx) (eq_at I n hpq.2 rv' e.2 rel h1 A hA).1 (hits_of I hA rb qb t qr h3)
noncomputable def rEqK (K:FG) (neg:Bool):R2:=fun x y H Q=>∃ g ks ps js qs b,Rep K ⟨H,g⟩ (.dk ks ps) x/\Rep K ⟨H,g⟩ (.dk js qs) y/\eqDict 150 (ks.zip ps) (js.zip qs)=some b/\Q (.bl (if neg then !b else b)) H
theorem eqK_at {pins:List (Addr × Obj)} {H:Hp} {s:Shared} {g:List Addr} (I:Inv X pins σ H s) (hA:X.A.in1.units + 150 < cLine) {ks js:List Key} {ps qs:List PV} {x y:V} {v u:Value} {b:Bool}
    (r1:Rep X.K ⟨H,g⟩ (.dk ks ps) x) (r2:Rep X.K ⟨H,g⟩ (.dk js qs) y) (rx:RelV x v) (ry:RelV y u) (e:eqDict 150 (ks.zip ps) (js.zip qs)=some b):
    ∃ a a' va vb r,v=.ref a/\u=.ref a'/\(a == sysModules)=false/\(a' == sysModules)=false/\s.heap.DictOf (mixKind X.prog X.w) a va/\s.heap.DictOf (mixKind X.prog X.w) a' vb/\(va.length=vb.length->PySem.W.KeqHits X.A.in1 s vb va r)/\(va.length == vb.length && r)=b:=by
  unfold Rep at r1 r2
  obtain ⟨a,ka,rfl,h1,h2,h3⟩:=r1
  obtain ⟨a',kb,rfl,h1',h2',h3'⟩:=r2
  cases rx
  cases ry
  obtain ⟨_,d1,va,q1,dd1⟩:=dk_of I.hok h1
  obtain ⟨_,d2,vb,q2,dd2⟩:=dk_of I.hok h1'
  have ra:=repD_mk h2 h3
  have rb:=repD_mk h2' h3'
  have la:va.length=(ks.zip ps).length:=by rw [← q1.length,ra.len]
  have lb:vb.length=(js.zip qs).length:=by rw [← q2.length,rb.len]
  unfold eqDict at e
  split at e
  · rename_i hl
    refine ⟨a,a',va,vb,b,rfl,rfl,d1,d2,dd1,dd2,fun _=>hits_of I hA rb q2 ra q1 e,?_⟩
    rw [la,lb,hl]
    simp
  · rename_i hl
    cases e
    refine ⟨a,a',va,vb,false,rfl,rfl,d1,d2,dd1,dd2,fun z=>(hl (by rw [← la,← lb]; exact z)).elim,by simp⟩
theorem op_eqK {k:Nat} (hr:Room k X.A):OpR X (compareOp .Eq) (rEqK X.K false):=by
  intro pins s σ H x y v u Q I rx ry h
  obtain ⟨g,ks,ps,js,qs,b,r1,r2,e,k'⟩:=h
  have hA:X.A.in1.units + 150 < cLine:=by have:=hr.un; show X.A.units + 1 + 150 < cLine; omega
  obtain ⟨a,a',va,vb,r,rfl,rfl,d1,d2,dd1,dd2,hits,eb⟩:=eqK_at I hA r1 r2 rx ry e
  refine PySem.W.keq_eq d1 d2 dd1 dd2 (by have:=hr.un; omega) hits ?_
  rw [eb]
  exact ⟨.bl b,H,I,rfl,k'⟩
theorem op_neK {k:Nat} (hr:Room k X.A):OpR X (compareOp .NotEq) (rEqK X.K true):=by
  intro pins s σ H x y v u Q I rx ry h
  obtain ⟨g,ks,ps,js,qs,b,r1,r2,e,k'⟩:=h
  have hA:X.A.in1.units + 150 < cLine:=by have:=hr.un; show X.A.units + 1 + 150 < cLine; omega
  obtain ⟨a,a',va,vb,r,rfl,rfl,d1,d2,dd1,dd2,hits,eb⟩:=eqK_at I hA r1 r2 rx ry e
  refine PySem.W.keq_ne d1 d2 dd1 dd2 (by have:=hr.un; omega) hits ?_
  rw [eb]
  exact ⟨.bl (!b),H,I,rfl,k'⟩
noncomputable def eqY (p q:PV):Option Lc:=match p,q with
  | .dk ks ps,.dk js qs=>(eqDict 150 (ks.zip ps) (js.zip qs)).map fun b=>.sh (.bl b)
  | p,q=>eqP p q
noncomputable def neY (p q:PV):Option Lc:=match p,q with
  | .dk ks ps,.dk js qs=>(eqDict 150 (ks.zip ps) (js.zip qs)).map fun b=>.sh (.bl (!b))
  | p,q=>neP p q
noncomputable def rEqY (K:FG) (neg:Bool):R2:=fun x y H Q=>rEqP K neg x y H Q\/rEqK K neg x y H Q
theorem op_eqY {k:Nat} (hr:Room k X.A):OpR X (compareOp .Eq) (rEqY X.K false):=(op_eqP hr).or (op_eqK hr)
theorem op_neY {k:Nat} (hr:Room k X.A):OpR X (compareOp .NotEq) (rEqY X.K true):=(op_neP hr).or (op_neK hr)
theorem ops_eqY:OpS K (rEqY K false) eqY:=by
  intro H0 Z0 σ ρ pd H v w x y l Q s e k
  unfold eqY at e
  split at e
  · obtain ⟨b,e1,rfl⟩:=map_some e
    obtain ⟨g,r1,r2⟩:=s.rep2H
    exact .inr ⟨g,_,_,_,_,b,r1,r2,e1,k _ H (s.pop.pop.scal rep_bl)⟩
  · exact .inl (ops_eq H0 Z0 σ ρ pd H v w _ _ l Q s e k)
theorem ops_neY:OpS K (rEqY K true) neY:=by
  intro H0 Z0 σ ρ pd H v w x y l Q s e k
  unfold neY at e
  split at e
  · obtain ⟨b,e1,rfl⟩:=map_some e
    obtain ⟨g,r1,r2⟩:=s.rep2H
    exact .inr ⟨g,_,_,_,_,b,r1,r2,e1,k _ H (s.pop.pop.scal rep_bl)⟩
  · exact .inl (ops_ne H0 Z0 σ ρ pd H v w _ _ l Q s e k)
end
section
variable {X:Cx}
noncomputable def zipP (ps qs:List PV):List PV:=List.zipWith (fun p q=>.tup [p,q]) ps qs
theorem zipP_get {ps qs:List PV} {i:Nat} {x:PV} (h:(zipP ps qs)[i]?=some x):∃ p q,ps[i]?=some p/\qs[i]?=some q/\x=.tup [p,q]:=by
  unfold zipP at h
  rw [List.getElem?_zipWith] at h
  cases h1:ps[i]? with
  | none=>rw [h1] at h; cases h
  | some p=>
    cases h2:qs[i]? with
    | none=>rw [h1,h2] at h; cases h
    | some q=>rw [h1,h2] at h; cases h; exact ⟨p,q,rfl,rfl,rfl⟩
theorem zipP_len {ps qs:List PV}:(zipP ps qs).length=min ps.length qs.length:=by unfold zipP; simp
end
end PL
namespace L2
open PySem PySem.Spec PyProof.Rows
variable {pins:List (Addr × Obj)} {E:Value->Shared->Prop} {s:Shared} {A:Around} {w:World} {P:Program}
section
variable {X:Cx}
end
end L2
namespace PL
open PySem PySem.Spec PyProof.Rows L2
variable {K:FG} {H0 H:Hp} {Z0:ZG} {σ:L2.St} {ρ:Ev} {pd:Pd}
section
variable {X:Cx}
end
section
variable {X:Cx}
end
section
variable {X:Cx}
section
variable {K:FG} {Z Z':ZG}
end
end
section
variable {X:Cx}
end
section
variable {X:Cx}
section
variable {K:FG} {Z Z':ZG}
end
theorem SR.cellB {pd pe:Pd} {a:Addr} {n:Nat} {p:PV} (hm:ρ.mu[n]?=some (some p)) (s:SR K H0 Z0 σ H ⟨ρ.vs,ρ.mu.set n none⟩ ((.ref a,.own p)::(.ref a,.sh (.ptr n))::pd)):SR K H0 Z0 σ H ρ pd:=by
  have hn:n < ρ.mu.length:=(List.getElem?_eq_some_iff.mp hm).1
  have s8:=s.cellP (by show (ρ.mu.set n none)[n]?=_; rw [List.getElem?_set_self hn])
  have e8:(ρ.mu.set n none).set n (some p)=ρ.mu:=by rw [List.set_set]; exact set_same hm
  have s9:SR K H0 Z0 σ H ⟨ρ.vs,(ρ.mu.set n none).set n (some p)⟩ pd:=s8
  rw [e8] at s9
  exact s9
end
section
variable {P:Program} {w:World} {K:FG} {mg:Str->Option Value} {base:Heap}
end
section
variable {X:Cx}
theorem SR.toCell {a:Addr} {p:PV} (s:SR K H0 Z0 σ H ρ ((.ref a,.own p)::pd)):SR K H0 Z0 σ H ⟨ρ.vs,ρ.mu++[some p]⟩ ((.ref a,.sh (.ptr ρ.mu.length))::pd):=by
  obtain ⟨el,Z,hg,z,so⟩:=s.top
  have lz:ZLe Z ⟨Z.z,Z.g++[a]⟩:=⟨Same.refl _,List.prefix_append _ _⟩
  have so2:=so.step (Z':=⟨Z.z,Z.g++[a]⟩) (H':=H) lz fun e he b hb=>⟨rfl,(own_of so he hb).1⟩
  refine .mk (Z:=⟨Z.z,Z.g++[a]⟩) el (by simp [hg]) ⟨z.zh,z.h0,z.z0.trans lz,z.new⟩ (Slots.consS ?_ ?_)
  · refine so2.perm ?_
    have ec:cel (Z.g++[a]) (ρ.mu++[some p])=cel Z.g ρ.mu++[(some (.ref a),some (.own p))]:=by
      unfold cel
      rw [List.map_append,List.map_append,List.zip_append (by simp [hg])]
      rfl
    unfold sl
    show List.Perm (cel (Z.g++[a]) (ρ.mu++[some p])++_) _
    rw [ec,List.append_assoc]
    exact List.perm_middle
  · unfold Rep
    exact ⟨a,rfl,by show (Z.g++[a])[ρ.mu.length]?=some a; rw [hg,List.getElem?_append_right (Nat.le_refl _)]; simp⟩
end
section
variable {X:Cx}
end
end PL
namespace L2
open PySem PySem.Spec PyProof.Rows
variable {pins:List (Addr × Obj)} {E:Value->Shared->Prop} {s:Shared} {A:Around} {w:World} {P:Program}
section
variable {X:Cx}
end
end L2
namespace PL
open PySem PySem.Spec PyProof.Rows L2
variable {K:FG} {H0 H:Hp} {Z0:ZG} {σ:L2.St} {ρ:Ev} {pd:Pd}
section
variable {X:Cx}
end
section
variable {X:Cx}
theorem RepL.rev {Z:ZG}:∀ {ps:List PV} {vs:List V},RepL K Z ps vs->RepL K Z ps.reverse vs.reverse
  | [],vs,h=>by
    have e:=h.inv0
    subst e
    exact h
  | p::ps,vs,h=>by
    obtain ⟨w,r,rfl,e2,e3⟩:=h.inv
    rw [List.reverse_cons,List.reverse_cons]
    exact (RepL.rev e3).append (RepL.cons e2 RepL.nil)
theorem SR.wrO {a:Addr} {ws ws':List PV} {f:List V->List V} (hf:∀ {Z us},RepL K Z ws us->RepL K Z ws' (f us))
    (s:SR K H0 Z0 σ H ρ ((.ref a,.own (.lst ws))::pd)):∃ us,H a=some (.lst us)/\SR K H0 Z0 σ (upd H a (.lst (f us))) ρ ((.ref a,.own (.lst ws'))::pd):=by
  obtain ⟨el,Z,hg,z,so⟩:=s.top
  obtain ⟨b,eb,⟨us,hu,hr⟩,_⟩:=so.1 _ List.mem_cons_self
  cases eb
  refine ⟨us,hu,?_⟩
  obtain ⟨z',s'⟩:=so.write (o:=.lst (f us)) (q:=.lst ws') z ⟨f us,upd_same,hf hr⟩
  exact .mk (Z:=Z) el hg z' s'
end
end PL
namespace L2
open PySem PySem.Spec PyProof.Rows
variable {pins:List (Addr × Obj)} {E:Value->Shared->Prop} {s:Shared} {A:Around} {w:World} {P:Program}
section
variable {X:Cx}
noncomputable def pk {α:Type} (xs:List α) (lo hi st:Option Int):List α:=
  (sliceRange (sliceBounds lo hi st xs.length).1 (sliceBounds lo hi st xs.length).2.1 (sliceBounds lo hi st xs.length).2.2).filterMap fun i=>xs[i]?
end
end L2
namespace PL
open PySem PySem.Spec PyProof.Rows L2
variable {K:FG} {H0 H:Hp} {Z0:ZG} {σ:L2.St} {ρ:Ev} {pd:Pd}
section
variable {X:Cx}
end
section
variable {X:Cx}
end
section
variable {X:Cx}
theorem SR.lstAt {v:V} {n:Nat} {ps:List PV} (s:SR K H0 Z0 σ H ρ ((v,.sh (.ptr n))::pd)) (hm:ρ.mu[n]?=some (some (.lst ps))):
    ∃ a vs,v=.ref a/\H a=some (.lst vs)/\vs.length=ps.length/\∀ (i:Nat) p,ps[i]?=some p->∃ u,vs[i]?=some u/\SR K H0 Z0 σ H ρ ((u,.sh p)::(v,.sh (.ptr n))::pd):=by
  have sdup:SR K H0 Z0 σ H ρ ((v,.sh (.ptr n))::(v,.sh (.ptr n))::pd):=s.part fun Z _ r=>r
  obtain ⟨a,rfl,s5⟩:=sdup.cellO hm
  obtain ⟨el,Z,hg,z,so⟩:=s5.top
  obtain ⟨_,ea,⟨vs,hu,hr⟩,_⟩:=so.1 _ List.mem_cons_self
  cases ea
  refine ⟨a,vs,rfl,hu,hr.length,fun i p hp=>?_⟩
  obtain ⟨u,h1,h2⟩:=hr.get hp
  refine ⟨u,h1,?_⟩
  have s6:SR K H0 Z0 σ H ⟨ρ.vs,ρ.mu.set n none⟩ ((u,.sh p)::(.ref a,.own (.lst ps))::(.ref a,.sh (.ptr n))::(.ref a,.sh (.ptr n))::pd):=.mk (Z:=Z) el hg z ((so.perm sl_cons).consS h2)
  have s7:SR K H0 Z0 σ H ⟨ρ.vs,ρ.mu.set n none⟩ ((.ref a,.own (.lst ps))::(.ref a,.sh (.ptr n))::(u,.sh p)::(.ref a,.sh (.ptr n))::pd):=s6.perm (((List.Perm.swap _ _ _).cons _).trans (List.Perm.swap _ _ _))
  exact SR.cellB (pe:=pd) hm s7
noncomputable def Holds (o:Option Nat) (ps:List PV) (ρ:Ev):Prop:=∀ n,o=some n->ρ.mu[n]?=some (some (.lst ps))
noncomputable def ItC (K:FG) (H0:Hp) (Z0:ZG) (pd:Pd) (J:It) (o:Option Nat) (ps:List PV):Prop:=∀ σ H ρ (i:Nat),SR K H0 Z0 σ H ρ pd->Holds o ps ρ->
  (∀ x,ps[i]?=some x->J.go i H/\∀ v H',J.yld i H v H'->SR K H0 Z0 σ H' ρ ((v,.sh x)::pd))/\(i=ps.length->J.stop i H)
theorem itc_list {H0:Hp} {a:Addr} {n:Nat} {ps:List PV}:ItC K H0 Z0 ((.ref a,.sh (.ptr n))::pd) (Itl K a) (some n) ps:=by
  intro σ H ρ i s hm
  obtain ⟨b,vs,e,hH,hl,hg⟩:=s.lstAt (hm n rfl)
  cases e
  refine ⟨fun x hx=>?_,fun h=>⟨vs,SqL.of hH,by omega⟩⟩
  obtain ⟨u,h1,s2⟩:=hg i x hx
  refine ⟨⟨vs,u,SqL.of hH,h1⟩,fun v' H' y=>?_⟩
  obtain ⟨e',y⟩:=y
  subst e'
  have:=y vs (SqL.of hH)
  rw [h1] at this; cases this
  exact s2
noncomputable abbrev IFC:=Ev->Option (Option Nat × List PV × Ev)
noncomputable def iCell (f:EF):IFC:=fun ρ=>(f ρ).bind fun x=>match x.1.pv with
  | .lst ps=>some (none,ps,x.2)
  | .ptr n=>match x.2.mu[n]? with
    | some (some (.lst ps))=>some (some n,ps,x.2)
    | _=>none
  | _=>none
noncomputable def tPIC (K:FG) (f:IFC):TI:=fun σ H R=>∃ H0 Z0 ρ pd o xs ρ',SR K H0 Z0 σ H ρ pd/\f ρ=some (o,xs,ρ')/\∀ J H' pd',SR K H0 Z0 σ H' ρ' pd'->ItC K H0 Z0 pd' J o xs->List.Sublist pd pd'->R J H'
theorem qi_cell {tg l:Expr} {f:EF} (hl:PE X l (tP X.K f)):PI X tg l (tPIC X.K (iCell f)):=PI.imp (pi_list hl) fun σ H R q=>by
  obtain ⟨H0,Z0,ρ,pd,n,xs,ρ',s,h,k⟩:=q
  obtain ⟨x,h1,h2⟩:=bind_some h
  refine ⟨H0,Z0,ρ,pd,x.1,x.2,s,h1,fun v H1 s1=>?_⟩
  have s2:=s1.freeze
  split at h2
  · rename_i ps en
    cases h2
    rw [en] at s2
    obtain ⟨Z,z,r⟩:=s2.rep
    unfold Rep at r
    obtain ⟨b,vs,rfl,h1',h2'⟩:=r
    exact ⟨b,rfl,⟨vs,SqL.same z h1'⟩,k _ _ _ s2 (fun σ H ρ i s _=>itok_list σ H ρ i s) (List.sublist_cons_self _ _)⟩
  · rename_i m en
    split at h2
    · rename_i ps em
      cases h2
      rw [en] at s2
      obtain ⟨a,vs,rfl,hH,_,_⟩:=s2.lstAt em
      exact ⟨a,rfl,⟨vs,SqL.of hH⟩,k _ _ _ s2 itc_list (List.sublist_cons_self _ _)⟩
    · cases h2
  · cases h2
open Classical in
noncomputable def forC (o:Option Nat) (ps:List PV) (b:BF) (body:SF):List PV->SF
  | [],ρ=>if Holds o ps ρ then some (.nx ρ) else none
  | x::xs,ρ=>if Holds o ps ρ then (b x ρ).bind fun ρ1=>(body ρ1).bind fun fl=>match fl with
    | .nx ρ'=>forC o ps b body xs ρ'
    | .ct ρ'=>forC o ps b body xs ρ'
    | .bk ρ'=>some (.nx ρ')
    | .rt r ρ'=>some (.rt r ρ') else none
noncomputable def sForC (f:IFC) (b:BF) (body:SF):SF:=fun ρ=>(f ρ).bind fun y=>forC y.1 y.2.1 b body y.2.1 y.2.2
theorem ite_of {α:Type} {c:Prop} {_:Decidable c} {o:Option α} {r:α} (h:(if c then o else none)=some r):c/\o=some r:=by
  split at h
  · rename_i hc
    exact ⟨hc,h⟩
  · cases h
theorem qs_forC {tg iter:Expr} {body:List Stmt} {f:IFC} {g:TG} {b:BF} {fb:SF} {pos:Pos} (hp:PassesOwn (model X.prog X.w) X.A X.env X.xe) (hc:X.calm=true) (hi:PI X tg iter (tPIC X.K f)) (hg:PG X tg g) (hb':GS X.K g b) (hb:PSs X body (tPs X.K fb))
    (hs:∀ x,foldedSetIterable iter X.env x=pure x:=by intro _; rfl):PS X (.For tg iter body [] pos) (tPs X.K (sForC f b fb)):=PS.imp (ps_for hp hc hi hg hb hs) fun D σ H q=>by
  obtain ⟨H0,Z0,ρ,pd,fl,s,h,k⟩:=q
  obtain ⟨⟨n,ps,ρ0⟩,h1,h2⟩:=bind_some h
  have h2:forC n ps b fb ps ρ0=some fl:=h2
  refine ⟨H0,Z0,ρ,pd,n,ps,ρ0,s,h1,fun J H1 pd' s1 it sub=>?_⟩
  refine ⟨fun i m σ' H'=>m=ps.length - i/\i<=ps.length/\∃ ρ',SR X.K H0 Z0 σ' H' ρ' pd'/\forC n ps b fb (ps.drop i) ρ'=some fl,⟨_,rfl,Nat.zero_le _,ρ0,s1,h2⟩,?_⟩
  rintro i m σ' H' ⟨rfl,hi,ρ',s',h'⟩
  by_cases hlt:i < ps.length
  · have hx:ps[i]?=some ps[i]:=List.getElem?_eq_getElem hlt
    rw [List.drop_eq_getElem_cons hlt] at h'
    unfold forC at h'
    obtain ⟨hm,h'⟩:=ite_of h'
    obtain ⟨i1,_⟩:=it σ' H' ρ' i s' hm
    obtain ⟨go,yl⟩:=i1 _ hx
    obtain ⟨ρ1,e1,e2⟩:=bind_some h'
    obtain ⟨fl1,e3,e4⟩:=bind_some e2
    refine .inr ⟨go,fun σ'' H''=>∃ ρ'',SR X.K H0 Z0 σ'' H'' ρ'' pd'/\forC n ps b fb (ps.drop (i + 1)) ρ''=some fl,fun σ'' H'' ⟨ρ'',s'',h''⟩=>⟨ps.length - (i + 1),by omega,rfl,hlt,ρ'',s'',h''⟩,fun x H2 hy=>?_⟩
    refine hb' H0 Z0 σ' H2 ρ' pd' x _ ρ1 _ (yl x H2 hy) e1 fun σ2 s2=>?_
    refine ⟨H0,Z0,ρ1,pd',fl1,s2,e3,?_⟩
    cases fl1 with
    | nx ρ2=>exact fun σ3 H3 s3=>⟨ρ2,s3,e4⟩
    | ct ρ2=>exact fun σ3 H3 s3=>⟨ρ2,s3,e4⟩
    | bk ρ2=>cases e4; exact fun σ3 H3 s3=>k σ3 H3 (s3.sub sub)
    | rt r ρ2=>cases e4; exact fun v σ3 H3 s3=>k v σ3 H3 (s3.sub (sub.cons_cons _))
  · have e:i=ps.length:=by omega
    subst e
    rw [List.drop_length] at h'
    unfold forC at h'
    obtain ⟨hm,h'⟩:=ite_of h'
    cases h'
    obtain ⟨_,i2⟩:=it σ' H' ρ' ps.length s' hm
    exact .inl ⟨i2 rfl,k σ' H' (s'.sub sub)⟩
theorem forC_nx {o:Option Nat} {ps:List PV} {b:BF} {body:SF} {x:PV} {xs:List PV} {ρ ρ1 ρ2:Ev} {r:Fl} (hm:Holds o ps ρ) (e1:b x ρ=some ρ1) (e2:body ρ1=some (.nx ρ2)) (e3:forC o ps b body xs ρ2=some r):forC o ps b body (x::xs) ρ=some r:=by
  unfold forC
  rw [if_pos hm,e1]
  show (body ρ1).bind _=_
  rw [e2]
  exact e3
theorem forC_end {o:Option Nat} {ps:List PV} {b:BF} {body:SF} (hm:Holds o ps ρ):forC o ps b body [] ρ=some (.nx ρ):=by
  unfold forC
  rw [if_pos hm]
noncomputable def sealV (i:Nat) (ρ:Ev):Option Ev:=match ρ.vs[i]? with
  | some (some (.own (.lst ws)))=>some ⟨ρ.vs.set i (some (.sh (.ptr ρ.mu.length))),ρ.mu++[some (.lst ws)]⟩
  | _=>none
noncomputable def sSealV (i:Nat) (f:SF):SF:=fun ρ=>(sealV i ρ).bind f
theorem SR.sealV {ρ ρ':Ev} {i:Nat} (s:SR K H0 Z0 σ H ρ pd) (h:PL.sealV i ρ=some ρ'):SR K H0 Z0 σ H ρ' pd:=by
  unfold PL.sealV at h
  split at h
  · rename_i ws e0
    cases h
    obtain ⟨a,ea,_,s1⟩:=s.takeO e0
    have s2:=s1.toCell.put ea
    have e:(ρ.vs.set i none).set i (some (Lc.sh (.ptr ρ.mu.length)))=ρ.vs.set i (some (.sh (.ptr ρ.mu.length))):=List.set_set _
    have s3:SR K H0 Z0 σ H ⟨(ρ.vs.set i none).set i (some (Lc.sh (.ptr ρ.mu.length))),ρ.mu++[some (.lst ws)]⟩ pd:=s2
    rw [e] at s3
    exact s3
  · cases h
theorem qs_seal {i:Nat} {st:Stmt} {f:SF} (h:PS X st (tPs X.K f)):PS X st (tPs X.K (sSealV i f)):=PS.imp h fun D σ H q=>by
  obtain ⟨H0,Z0,ρ,pd,fl,s,h,k⟩:=q
  obtain ⟨ρ1,h1,h2⟩:=bind_some h
  exact ⟨H0,Z0,ρ1,pd,fl,s.sealV h1,h2,k⟩
end
noncomputable def resD (mu:Mu):Nat->PV->PV
  | 0,p=>p
  | k + 1,.ptr n=>match mu[n]? with
    | some (some p)=>resD mu k p
    | _=>.ptr n
  | k + 1,.tup ps=>.tup (ps.map (resD mu k))
  | k + 1,.lst ps=>.lst (ps.map (resD mu k))
  | _ + 1,p=>p
theorem repl_map {Z:ZG} {f:PV->PV} (hf:∀ p x,Rep K Z p x->Rep K Z (f p) x):∀ {ps:List PV} {vs:List V},RepL K Z ps vs->RepL K Z (ps.map f) vs
  | [],vs,h=>h
  | p::ps,vs,h=>by
    obtain ⟨v,r,rfl,h1,h2⟩:=h.inv
    exact RepL.cons (hf p v h1) (repl_map hf h2)
theorem resD_rep {Z:ZG} (so:Slots K H0 Z H (sl Z.g σ ρ pd)) (lz:ZLe Z ⟨H,Z.g⟩):∀ (k:Nat) (p:PV) (x:V),Rep K ⟨H,Z.g⟩ p x->Rep K ⟨H,Z.g⟩ (resD ρ.mu k p) x
  | 0,p,x,r=>r
  | k + 1,p,x,r=>by
    cases p with
    | ptr n=>
      show Rep K ⟨H,Z.g⟩ (match ρ.mu[n]? with | some (some p)=>resD ρ.mu k p | _=>.ptr n) x
      split
      · rename_i q hq
        unfold Rep at r
        obtain ⟨a,rfl,ha⟩:=r
        have hc:(some (V.ref a),some (Lc.own q)) ∈ cel Z.g ρ.mu:=List.mem_of_getElem? (zip_get (i:=n) (by rw [List.getElem?_map,ha]; rfl) (by rw [List.getElem?_map,hq]; rfl))
        obtain ⟨b,e1,e2,_,_⟩:=so.1 _ (List.mem_append_left _ hc)
        cases e1
        exact resD_rep so lz k q _ (e2.rep lz rfl)
      · exact r
    | tup ps=>
      show Rep K ⟨H,Z.g⟩ (.tup (ps.map (resD ρ.mu k))) x
      unfold Rep at r ⊢
      obtain ⟨a,vs,e,h1,h2⟩:=r
      exact ⟨a,vs,e,h1,repl_map (resD_rep so lz k) h2⟩
    | lst ps=>
      show Rep K ⟨H,Z.g⟩ (.lst (ps.map (resD ρ.mu k))) x
      unfold Rep at r ⊢
      obtain ⟨a,vs,e,h1,h2⟩:=r
      exact ⟨a,vs,e,h1,repl_map (resD_rep so lz k) h2⟩
    | _=>exact r
noncomputable def peekD (mu:Mu):Option Lc->Option Lc
  | some l=>some (.sh (resD mu 40 l.pv))
  | none=>none
noncomputable def Ev.peekD (ρ:Ev):Ev:=⟨ρ.vs.map (PL.peekD ρ.mu),ρ.mu.map fun _=>none⟩
theorem SR.lookD (s:SR K H0 Z0 σ H ρ pd):
    ∃ Zt,SR K H Zt σ H ρ.peekD []/\(∀ H' v r ρ1,SR K H Zt σ H' ρ1 [(v,r)]->flatL r=true->SR K H0 Z0 σ H' ρ ((v,r)::pd))/\∀ H' ρ1,SR K H Zt σ H' ρ1 []->SR K H0 Z0 σ H' ρ pd:=by
  obtain ⟨Z,⟨el,hg,lz,so⟩,b1,b2⟩:=s.lookB
  refine ⟨_,SR.peeked (pk:=peekD ρ.mu) el hg fun v o he=>?_,b1,b2⟩
  have q:=so.1 _ (List.mem_append_right _ (List.mem_append_left _ he))
  match o,q with
  | none,_=>exact .inl rfl
  | some (.sh p),⟨x,e1,e2⟩=>exact .inr ⟨x,_,rfl,e1,resD_rep so lz 40 _ _ (e2.mono lz)⟩
  | some (.own p),⟨a,e1,e2,_,_⟩=>exact .inr ⟨.ref a,_,rfl,e1,resD_rep so lz 40 _ _ (e2.rep lz rfl)⟩
section
variable {X:Cx}
noncomputable def eReadD (f:EF):EF:=fun ρ=>(f ρ.peekD).bind fun x=>if flatL x.1=true then some (x.1,ρ) else none
theorem qreadD {e:Expr} {f:EF} (h:PE X e (tP X.K f)):PE X e (tP X.K (eReadD f)):=PE.imp h fun σ H Q q=>by
  obtain ⟨H0,Z0,ρ,pd,r,ρ',s,h,k⟩:=q
  obtain ⟨x,h1,h2⟩:=bind_some h
  obtain ⟨Zt,s1,b1,_⟩:=s.lookD
  split at h2
  · rename_i hf
    cases h2
    exact ⟨H,Zt,ρ.peekD,[],x.1,x.2,s1,h1,fun v H' s2=>k v H' (b1 H' v x.1 x.2 s2 hf)⟩
  · cases h2
theorem readd_go {f:EF} {l:Lc} {ρ ρ1:Ev} (h:f ρ.peekD=some (l,ρ1)) (hf:flatL l=true):eReadD f ρ=some (l,ρ):=by
  unfold eReadD
  rw [h,Option.bind_some,if_pos hf]
noncomputable def ePopC (fo:EF):EF:=fun ρ=>(fo ρ).bind fun o=>match o.1.pv with
  | .ptr n=>match o.2.mu[n]? with
    | some (some (.lst ws))=>(ws[ws.length - 1]?).map fun p=>(.sh p,⟨o.2.vs,o.2.mu.set n (some (.lst ws.dropLast))⟩)
    | _=>none
  | _=>none
theorem qpopC {o:Expr} {fo:EF} {apos cpos:Pos} (h:PE X (.Call (.Attribute o "pop" apos) [] [] cpos) (tBM0 X.K "list" rPop (tP X.K fo))):PE X (.Call (.Attribute o "pop" apos) [] [] cpos) (tP X.K (ePopC fo)):=PE.imp h fun σ H Q q=>by
  obtain ⟨H0,Z0,ρ,pd,r,ρ',s,h,k⟩:=q
  obtain ⟨o',h1,h2⟩:=bind_some h
  refine ⟨H0,Z0,ρ,pd,o'.1,o'.2,s,h1,fun v H1 s1=>?_⟩
  split at h2
  · rename_i n en
    split at h2
    · rename_i ws em
      obtain ⟨p,h3,h4⟩:=map_some h2
      cases h4
      have s2:=s1.freeze
      rw [en] at s2
      obtain ⟨a,rfl,s5⟩:=s2.cellO em
      obtain ⟨_,Z,_,z,so⟩:=s5.top
      obtain ⟨_,ea,⟨us,hu,_⟩,_⟩:=so.1 _ List.mem_cons_self
      cases ea
      obtain ⟨us2,y,hu2,hy,s6⟩:=s5.popO h3
      have hn:n < o'.2.mu.length:=(List.getElem?_eq_some_iff.mp em).1
      have s7:=(s6.perm (pd':=(.ref a,.own (.lst ws.dropLast))::(.ref a,.sh (.ptr n))::(y,.sh p)::pd) ((List.Perm.swap _ _ _).cons _)).cellP (by show (o'.2.mu.set n none)[n]?=_; rw [List.getElem?_set_self hn])
      refine ⟨.inl ⟨rfl,us,SqL.of hu⟩,a,us2,y,rfl,rfl,hu2,hy,k _ _ ?_⟩
      have e8:(o'.2.mu.set n none).set n (some (.lst ws.dropLast))=o'.2.mu.set n (some (.lst ws.dropLast)):=List.set_set ..
      rw [show (⟨o'.2.vs,o'.2.mu.set n (some (.lst ws.dropLast))⟩:Ev)=⟨o'.2.vs,(o'.2.mu.set n none).set n (some (.lst ws.dropLast))⟩ by rw [e8]]
      exact s7
    · cases h2
  · cases h2
noncomputable def sRevC (fo:EF):SF:=fun ρ=>(fo ρ).bind fun o=>match o.1.pv with
  | .ptr n=>match o.2.mu[n]? with
    | some (some (.lst ws))=>some (.nx ⟨o.2.vs,o.2.mu.set n (some (.lst ws.reverse))⟩)
    | _=>none
  | _=>none
theorem qs_revC {o:Expr} {fo:EF} {apos cpos pos:Pos} (h:PS X (.Expr (.Call (.Attribute o "reverse" apos) [] [] cpos) pos) (tDrop (tBM0 X.K "list" rReverse (tP X.K fo)))):
    PS X (.Expr (.Call (.Attribute o "reverse" apos) [] [] cpos) pos) (tPs X.K (sRevC fo)):=PS.imp h fun D σ H q=>by
  obtain ⟨H0,Z0,ρ,pd,fl,s,h,k⟩:=q
  obtain ⟨o',h1,h2⟩:=bind_some h
  refine ⟨H0,Z0,ρ,pd,o'.1,o'.2,s,h1,fun v H1 s1=>?_⟩
  split at h2
  · rename_i n en
    split at h2
    · rename_i ws em
      cases h2
      have s2:=s1.freeze
      rw [en] at s2
      obtain ⟨a,rfl,s5⟩:=s2.cellO em
      obtain ⟨_,Z,_,z,so⟩:=s5.top
      obtain ⟨_,ea,⟨us,hu,_⟩,_⟩:=so.1 _ List.mem_cons_self
      cases ea
      obtain ⟨us2,hu2,s6⟩:=s5.wrO (f:=List.reverse) (ws':=ws.reverse) fun h=>h.rev
      have hn:n < o'.2.mu.length:=(List.getElem?_eq_some_iff.mp em).1
      have s7:=s6.cellP (by show (o'.2.mu.set n none)[n]?=_; rw [List.getElem?_set_self hn])
      refine ⟨.inl ⟨rfl,us,SqL.of hu⟩,a,us2,rfl,rfl,hu2,k σ _ ?_⟩
      have e8:(o'.2.mu.set n none).set n (some (.lst ws.reverse))=o'.2.mu.set n (some (.lst ws.reverse)):=List.set_set ..
      rw [show (⟨o'.2.vs,o'.2.mu.set n (some (.lst ws.reverse))⟩:Ev)=⟨o'.2.vs,(o'.2.mu.set n none).set n (some (.lst ws.reverse))⟩ by rw [e8]]
      exact s7
    · cases h2
  · cases h2
end
section
variable {X:Cx}
theorem itok_rev {H0:Hp} {a:Addr} {ps:List PV}:ItOk K H0 Z0 ((.ref a,.sh (.lst ps))::pd) (Itv K a ps.length) ps.reverse:=by
  intro σ H ρ i s
  obtain ⟨Z,z,r⟩:=s.rep
  unfold Rep at r
  obtain ⟨b,vs,e,h1,h2⟩:=r
  cases e
  have hq:=SqL.same z h1
  refine ⟨fun x hx=>?_,fun hl=>⟨by rw [hl,List.length_reverse],vs,hq,h2.length⟩⟩
  have hi:i < ps.length:=by
    have:=(List.getElem?_eq_some_iff.mp hx).1
    rwa [List.length_reverse] at this
  have hx':ps[ps.length - 1 - i]?=some x:=by rw [← List.getElem?_reverse hi]; exact hx
  refine ⟨⟨hi,vs,hq,h2.length⟩,fun v' H' y=>?_⟩
  obtain ⟨e',y⟩:=y
  subst e'
  refine s.part fun Z' z' r'=>?_
  unfold Rep at r'
  obtain ⟨b',vs',e',h1',h2'⟩:=r'
  cases e'
  obtain ⟨p',hp',rp'⟩:=h2'.getV (y vs' (SqL.same z' h1'))
  rw [hx'] at hp'
  cases hp'
  exact rp'
noncomputable def iRevF (f:EF):IF:=fun ρ=>(f ρ).bind fun x=>match x.1.pv with
  | .lst ps=>some (ps.reverse,x.2)
  | _=>none
theorem qi_rev {tg a:Expr} {f:EF} {p pos:Pos} (hg:Gl X "reversed") (hm:X.mg "reversed" = none) (ha:PA X [a] (tPA X.K (aCons f aNil))) (hs:starEach [a] X.env=[(false,eval a X.env)]:=by rfl):PI X tg (.Call (.Name "reversed" p) [a] [] pos) (tPI X.K (iRevF f)):=PI.imp (pi_rev hg hm ha hs) fun σ H R q=>by
  obtain ⟨H0,Z0,ρ,pd,xs,ρ',s,h,k⟩:=q
  obtain ⟨x,h1,h2⟩:=bind_some h
  refine ⟨H0,Z0,ρ,pd,[x.1],x.2,s,?_,fun vs H1 e1 s1=>?_⟩
  · unfold aCons aNil
    rw [h1]
    rfl
  · obtain ⟨v,rfl⟩:=ln1 e1
    have s2:SR X.K H0 Z0 σ H1 x.2 ((v,.sh x.1.pv)::pd):=SR.freeze s1
    cases e:x.1.pv with
    | lst ps=>
      rw [e] at h2 s2
      cases h2
      obtain ⟨Z,z,r⟩:=s2.rep
      unfold Rep at r
      obtain ⟨b,us,rfl,h1',h2'⟩:=r
      refine ⟨b,us,rfl,SqL.same z h1',?_⟩
      rw [h2'.length]
      exact k _ _ _ s2 itok_rev (List.sublist_cons_self _ _)
    | _=>rw [e] at h2; cases h2
noncomputable def isAny (p:PV):List String->Option Bool
  | []=>(tyN p).map fun _=>false
  | C::r=>match isTy p C with
    | some true=>some true
    | some false=>isAny p r
    | none=>none
theorem isAny_kit {p:PV} {T:String} (h1:tyN p=some T):∀ {Cs:List String} {b:Bool},isAny p Cs=some b->PySem.W.kitAny K (.type T) (Cs.map Value.type)=some b
  | [],b,h=>by
    unfold isAny at h
    rw [h1] at h
    exact h
  | C::r,b,h=>by
    unfold isAny at h
    show (match PySem.W.kitOne K (.type T) (.type C) with | some true=>some true | some false=>PySem.W.kitAny K (.type T) (r.map Value.type) | none=>none)=some b
    cases e:isTy p C with
    | none=>rw [e] at h; cases h
    | some c=>
      rw [e] at h
      rw [isTy_kit h1 e]
      cases c with
      | true=>exact h
      | false=>exact isAny_kit h1 h
noncomputable def rIsT (K:FG):List V->Hp->VK->Prop:=fun xs H Q=>∃ x t Cs g p b,xs=[x,.ref t]/\H t=some (.tup (Cs.map V.ty))/\Rep K ⟨H,g⟩ p x/\isAny p Cs=some b/\Q (.bl b) H
theorem ty_vals:∀ {Cs:List String} {its:List Value},Vals (Cs.map V.ty) its->its=Cs.map Value.type
  | [],its,h=>by cases h; rfl
  | C::r,its,h=>by
    cases h with
    | cons a b=>cases a; rw [ty_vals b]; rfl
theorem call_isinstT:CallR X (.builtin "isinstance") (rIsT X.K):=by
  intro pins s σ H xs us Q I r h
  obtain ⟨x,t,Cs,g,p,b,rfl,ht,rp,e,q⟩:=h
  obtain ⟨u,w',rfl,ru,rw'⟩:=vals2 r
  cases rw'
  have fin:∀ tk,EP X pins σ Q (.bool b) { s with toks:=tk }:=fun tk=>⟨.bl b,H,I.tok tk,rfl,q⟩
  obtain ⟨its,rv,⟨o,hp,hc,n,hd⟩,_⟩:=I.tuple (SqT.of ht)
  have ei:=ty_vals rv
  subst ei
  obtain ⟨oc,od,oD,os⟩:=o
  have hc':oc=.type "tuple" := hc
  have hd':oD=.seq (Cs.map Value.type).toArray n:=hd
  subst hc' hd'
  cases p with
  | non=>have:=rep_non_inv rp; subst this; cases ru; exact PySem.W.kia_tup PySem.W.kitx_none I.kIn trivial hp (isAny_kit rfl e) (by intro z; cases z) fin
  | bl c=>have:=rep_bl_inv rp; subst this; cases ru; exact PySem.W.kia_tup PySem.W.kitx_bool I.kIn trivial hp (isAny_kit rfl e) (by intro z; cases z) fin
  | int i=>have:=rep_int_inv rp; subst this; obtain ⟨t,rfl⟩:=ru; exact PySem.W.kia_tup PySem.W.kitx_int I.kIn trivial hp (isAny_kit rfl e) (by intro z; cases z) fin
  | str i=>have:=rep_str_inv rp; subst this; obtain ⟨t,rfl⟩:=ru; exact PySem.W.kia_tup PySem.W.kitx_str I.kIn trivial hp (isAny_kit rfl e) (by intro z; cases z) fin
  | tup ps=>
    obtain ⟨a,vs,its,rfl,_,_,_,o,t1,t2,_⟩:=tup_of I rp ru
    exact PySem.W.kia_tup (t:=.type "tuple") PySem.W.kitx_tuple I.kIn ⟨o,t1,t2⟩ hp (isAny_kit rfl e) (by intro z; cases z) fin
  | lst ps=>
    obtain ⟨a,vs,its,rfl,_,_,_,o,t1,t2,_⟩:=lst_of I rp ru
    exact PySem.W.kia_tup (t:=.type "list") PySem.W.kitx_list I.kIn ⟨o,t1,t2⟩ hp (isAny_kit rfl e) (by intro z; cases z) fin
  | _=>cases Cs <;> cases e
noncomputable def eIsT (Cs:List String) (f:EF):EF:=fun ρ=>(f ρ).bind fun x=>(isAny x.1.pv Cs).map fun b=>(.sh (.bl b),x.2)
noncomputable def tTys:List String->TA
  | []=>tNil
  | C::r=>tCons (tC (.ty C)) (tTys r)
theorem tTys_imp {Q:List V->Hp->Prop} {H:Hp}:∀ {Cs:List String},Q (Cs.map V.ty) H->tTys Cs σ H Q
  | [],h=>h
  | C::r,h=>tTys_imp (Q:=fun xs H2=>Q (V.ty C::xs) H2) (Cs:=r) h
theorem qisT {Cs:List String} {f:EF} {e c:Expr} {pp pos:Pos} (h:PE X (.Call (.Name "isinstance" pp) [e,c] [] pos) (tCB (rIsT X.K) (tCons (tP X.K f) (tCons (tTup (tTys Cs)) tNil)))) (hc:Cs.length<=1000:=by decide):
    PE X (.Call (.Name "isinstance" pp) [e,c] [] pos) (tP X.K (eIsT Cs f)):=PE.imp h fun σ H Q q=>by
  obtain ⟨H0,Z0,ρ,pd,r,ρ',s,h,k⟩:=q
  obtain ⟨x,h1,h2⟩:=bind_some h
  obtain ⟨b,h3,h4⟩:=map_some h2
  cases h4
  refine ⟨H0,Z0,ρ,pd,x.1,x.2,s,h1,fun v H1 s1=>?_⟩
  refine tTys_imp (Cs:=Cs) ⟨by rw [List.length_map]; exact small (by omega),fun t ht=>?_⟩
  have s2:=s1.freeze
  obtain ⟨el,Z,hg,z,r1,so⟩:=s2.sh
  obtain ⟨z',lz,so'⟩:=(so.consS r1).newF z (a:=t) (o:=.tup (Cs.map V.ty)) ht
  have s3:SR X.K H0 Z0 σ (upd H1 t (.tup (Cs.map V.ty))) x.2 ((v,.sh x.1.pv)::pd):=.mk (Z:=Z.put t (.tup (Cs.map V.ty))) el hg z' so'
  obtain ⟨g,r2⟩:=s3.repH
  exact ⟨v,t,Cs,g,_,b,rfl,upd_same,r2,h3,k _ _ (s3.pop.scal rep_bl)⟩
noncomputable def eSlT (f:EF) (fl fh:OF):EF:=fun ρ=>(f ρ).bind fun x=>(fl x.2).bind fun y=>(fh y.2).bind fun z=>match x.1.pv with
  | .tup ps=>if HT.sIx ps.length 0 y.1=0/\HT.sIx ps.length ps.length z.1=ps.length then none else some (.sh (.tup (cutP ps y.1 z.1)),z.2)
  | _=>none
theorem qsliceT {e:Expr} {lo hi:Option Expr} {p2 pos:Pos} {f:EF} {fl fh:OF} (he:PE X e (tP X.K f)) (hl:PO X lo (tPO X.K fl)) (hu:PO X hi (tPO X.K fh)):PE X (.Subscript e (.Slice lo hi none p2) pos) (tP X.K (eSlT f fl fh)):=PE.imp (pe_slice sl_tup he hl hu) fun σ H Q q=>by
  obtain ⟨H0,Z0,ρ,pd,r,ρ',s,h,k⟩:=q
  obtain ⟨x,h1,h2⟩:=bind_some h
  obtain ⟨y,h3,h4⟩:=bind_some h2
  obtain ⟨z,h5,h6⟩:=bind_some h4
  refine ⟨H0,Z0,ρ,pd,x.1,x.2,s,h1,fun v H1 s1=>⟨H0,Z0,x.2,_,y.1,y.2,s1.freeze,h3,fun H2 s2=>⟨H0,Z0,y.2,_,z.1,z.2,s2,h5,fun H3 s3=>?_⟩⟩⟩
  cases e:x.1.pv with
  | tup ps=>
    rw [e] at h6 s3
    have h6:(if HT.sIx ps.length 0 y.1=0/\HT.sIx ps.length ps.length z.1=ps.length then none else some (Lc.sh (.tup (cutP ps y.1 z.1)),z.2))=some (r,ρ'):=h6
    split at h6
    · cases h6
    · rename_i hw
      cases h6
      obtain ⟨el,Z,hg,zz,r1,s4⟩:=s3.sh
      unfold Rep at r1
      obtain ⟨a,vs,rfl,g1,g2⟩:=r1
      refine ⟨a,vs,rfl,SqT.same zz.zh g1,by rw [g2.length]; exact hw,fun p hp=>k _ _ ?_⟩
      obtain ⟨z',lz,s'⟩:=s4.newF zz (a:=p) (o:=.tup (cutV vs y.1 z.1)) hp
      refine .mk (Z:=Z.put p (.tup (cutV vs y.1 z.1))) el hg z' (s'.consS ?_)
      unfold Rep
      exact ⟨p,_,rfl,SqT.of upd_same,g2.cut.mono lz⟩
  | _=>rw [e] at h6; cases h6
noncomputable def eMelt (f:EF):EF:=fun ρ=>(f ρ).bind fun x=>match x.1.pv with
  | .tup ps=>match ps.getLast? with
    | some (.ptr n)=>match x.2.mu[n]? with
      | some (some (.lst ws))=>some (.sh (.tup (ps.dropLast++[.lst ws])),⟨x.2.vs,x.2.mu.set n none⟩)
      | _=>none
    | _=>none
  | _=>none
theorem RepL.split {Z:ZG}:∀ {ps:List PV} {q:PV} {vs:List V},RepL K Z (ps++[q]) vs->∃ us u,vs=us++[u]/\RepL K Z ps us/\Rep K Z q u
  | [],q,vs,h=>by
    obtain ⟨v,r,rfl,h1,h2⟩:=RepL.inv (p:=q) (ps:=[]) h
    have:=h2.inv0
    subst this
    exact ⟨[],v,rfl,.nil,h1⟩
  | p::ps,q,vs,h=>by
    obtain ⟨v,r,rfl,h1,h2⟩:=RepL.inv (p:=p) (ps:=ps++[q]) h
    obtain ⟨us,u,rfl,h3,h4⟩:=RepL.split h2
    exact ⟨v::us,u,rfl,RepL.cons h1 h3,h4⟩
theorem SR.melt {v:V} {n:Nat} {ps ws:List PV} (s:SR K H0 Z0 σ H ρ ((v,.sh (.tup (ps++[.ptr n])))::pd)) (hm:ρ.mu[n]?=some (some (.lst ws))):
    SR K H0 Z0 σ H ⟨ρ.vs,ρ.mu.set n none⟩ ((v,.sh (.tup (ps++[.lst ws])))::pd):=by
  obtain ⟨el,Z,hg,z,r,so⟩:=s.sh
  unfold Rep at r
  obtain ⟨t,vs,rfl,h1,h2⟩:=r
  obtain ⟨us,u,rfl,h3,h4⟩:=h2.split
  unfold Rep at h4
  obtain ⟨a,rfl,ha⟩:=h4
  obtain ⟨R,p1,p2⟩:=cel_split ha hm
  have so2:Slots K H0 Z H ((some (.ref a),some (.own (.lst ws)))::(R++(σ.zip ρ.vs++pd.map fun e=>(some e.1,some e.2)))):=so.perm (p1.append_right _).symm
  obtain ⟨Z',lz,eg,z',so3⟩:=so2.freeze z
  obtain ⟨x,ex,rx⟩:=so3.1 _ List.mem_cons_self
  cases ex
  have so4:Slots K H0 Z' H (R++(σ.zip ρ.vs++pd.map fun e=>(some e.1,some e.2))):=so3.sub (List.sublist_cons_self _ _)
  have so5:Slots K H0 Z' H ((some (.ref a),none)::(R++(σ.zip ρ.vs++pd.map fun e=>(some e.1,some e.2)))):=by
    refine ⟨fun e he=>?_,?_⟩
    · rcases List.mem_cons.mp he with rfl | he
      · trivial
      · exact so4.1 e he
    · rw [List.filterMap_cons_none rfl]; exact so4.2
  have so6:Slots K H0 Z' H (sl Z'.g σ ⟨ρ.vs,ρ.mu.set n none⟩ pd):=by
    rw [eg]
    exact so5.perm ((p2 none).append_right _)
  refine .mk (Z:=Z') el (by rw [eg]; simpa using hg) z' (so6.consS ?_)
  unfold Rep
  exact ⟨t,us++[.ref a],rfl,SqT.same lz.1 h1,(h3.mono lz).append (RepL.cons rx .nil)⟩
theorem qmelt {e:Expr} {f:EF} (h:PE X e (tP X.K f)):PE X e (tP X.K (eMelt f)):=PE.imp h fun σ H Q q=>by
  obtain ⟨H0,Z0,ρ,pd,l,ρ',s,f,k⟩:=q
  obtain ⟨x,h1,h2⟩:=bind_some f
  refine ⟨H0,Z0,ρ,pd,x.1,x.2,s,h1,fun v H1 s1=>?_⟩
  split at h2
  · rename_i ps ep
    split at h2
    · rename_i n en
      split at h2
      · rename_i ws em
        cases h2
        have s2:=s1.freeze
        rw [ep] at s2
        have eps:ps=ps.dropLast++[.ptr n]:=by
          obtain ⟨ys,hy⟩:=List.getLast?_eq_some_iff.mp en
          rw [hy,List.dropLast_concat]
        rw [eps] at s2
        exact k v H1 (s2.melt em)
      · cases h2
    · cases h2
  · cases h2
noncomputable def sqV:Bool->List PV->PV
  | true,ps=>.lst ps
  | false,ps=>.tup ps
theorem rep_sq {Z:ZG} {k:Bool} {ps:List PV} {v:V} (r:Rep K Z (sqV k ps) v):∃ a vs,v=.ref a/\SqK k K Z.z a vs/\RepL K Z ps vs:=by
  cases k
  · unfold sqV Rep at r; exact r
  · unfold sqV Rep at r; exact r
theorem SqK.same {Z Z':Hp} {k:Bool} {a:Addr} {vs:List V} (s:Same Z Z') (h:SqK k K Z a vs):SqK k K Z' a vs:=by
  cases k
  · exact SqT.same s h
  · exact SqL.same s h
theorem itok_zip2 {H0:Hp} {k:Bool} {a b:Addr} {ps qs:List PV}:ItOk K H0 Z0 ((.ref a,.sh (sqV k ps))::(.ref b,.sh (sqV k qs))::pd) (Itz2 k K a b) (zipP ps qs):=by
  intro σ H ρ i s
  obtain ⟨el,Z,hg,z,rl,so⟩:=SR.repl (vs:=[.ref a,.ref b]) (ls:=[.sh (sqV k ps),.sh (sqV k qs)]) (pd:=pd) s rfl
  obtain ⟨_,_,ev,r,rl⟩:=rl.inv
  cases ev
  obtain ⟨_,_,ev,r',_⟩:=rl.inv
  cases ev
  have r0:Rep K Z (sqV k ps) (.ref a):=r
  have r0':Rep K Z (sqV k qs) (.ref b):=r'
  obtain ⟨a',vs,e,h1,h2⟩:=rep_sq r0
  obtain ⟨b',ws,e',h1',h2'⟩:=rep_sq r0'
  cases e
  cases e'
  have hq:=SqK.same z.zh h1
  have hr:=SqK.same z.zh h1'
  refine ⟨fun x hx=>?_,fun hl=>⟨vs,ws,hq,hr,?_⟩⟩
  · obtain ⟨p,q,hp,hq',rfl⟩:=zipP_get hx
    obtain ⟨v,hv,rv⟩:=h2.get hp
    obtain ⟨u,hu,ru⟩:=h2'.get hq'
    refine ⟨⟨vs,ws,v,u,hq,hr,hv,hu⟩,fun v' H' y=>?_⟩
    obtain ⟨T,y1,y2,hT,rfl,rfl,hy1,hy2⟩:=y
    have e1:=hy1 vs hq
    rw [hv] at e1
    cases e1
    have e2:=hy2 ws hr
    rw [hu] at e2
    cases e2
    obtain ⟨z',lz,so'⟩:=((so.consS r0').consS r0).newF z (a:=T) (o:=.tup [v,u]) hT
    refine .mk (Z:=Z.put T (.tup [v,u])) el hg z' (Slots.perm (Slots.consS so' ?_) ((sl_cons.trans (sl_cons.cons _)).cons _))
    unfold Rep
    exact ⟨T,[v,u],rfl,.inl (.inl (by show upd Z.z T _ T=_; rw [upd_same])),RepL.cons (rv.mono lz) (RepL.cons (ru.mono lz) .nil)⟩
  · rw [zipP_len] at hl
    rw [h2.length,h2'.length]
    omega
noncomputable def iZip2F (f g:EF):IF:=fun ρ=>(f ρ).bind fun x=>(g x.2).bind fun y=>match x.1.pv,y.1.pv with
  | .lst ps,.lst qs=>some (zipP ps qs,y.2)
  | .tup ps,.tup qs=>some (zipP ps qs,y.2)
  | _,_=>none
theorem zip2_sh {α:Type} {p q:PV} {w r:α} {zs:List PV} (h:(match p,q with
  | .lst ps,.lst qs=>some (zipP ps qs,w)
  | .tup ps,.tup qs=>some (zipP ps qs,w)
  | _,_=>none)=some (zs,r)):∃ k ps qs,p=sqV k ps/\q=sqV k qs/\zs=zipP ps qs/\w=r:=by
  split at h
  · rename_i ps qs; cases h; exact ⟨true,ps,qs,rfl,rfl,rfl,rfl⟩
  · rename_i ps qs; cases h; exact ⟨false,ps,qs,rfl,rfl,rfl,rfl⟩
  · cases h
theorem qi_zip2 {a b:Expr} {f g:EF} {p pos:Pos} {elts:List Expr} {x1} {tpos:Pos} (hg:Gl X "zip") (hm:X.mg "zip" = none) (ha:PA X [a,b] (tPA X.K (aCons f (aCons g aNil)))) (hs:starEach [a,b] X.env=(false,eval a X.env)::starEach [b] X.env:=by rfl) (hs2:(backTo pos (starEach [b] X.env)).any (·.1)=false:=by rfl):PI X (.Tuple elts x1 tpos) (.Call (.Name "zip" p) [a,b] [] pos) (tPI X.K (iZip2F f g)):=PI.imp (pi_zip2 hg hm ha hs hs2) fun σ H R q=>by
  obtain ⟨H0,Z0,ρ,pd,xs,ρ',s,h,k⟩:=q
  obtain ⟨x,h1,h2⟩:=bind_some h
  obtain ⟨y,h3,h4⟩:=bind_some h2
  refine ⟨H0,Z0,ρ,pd,[x.1,y.1],y.2,s,?_,fun vs H1 e1 s1=>?_⟩
  · unfold aCons aNil
    rw [h1]
    simp only [Option.bind_some,h3,Option.map_some]
  · obtain ⟨v,u,rfl⟩:=ln2 e1
    have s2:SR X.K H0 Z0 σ H1 y.2 ((v,.sh x.1.pv)::(u,.sh y.1.pv)::pd):=SR.freezeAll (vs:=[v,u]) (ls:=[x.1,y.1]) s1
    obtain ⟨kk,ps,qs,e,e',rfl,rfl⟩:=zip2_sh h4
    rw [e,e'] at s2
    obtain ⟨Z,z,r,r'⟩:=s2.rep2
    obtain ⟨b',us,rfl,g1',g2'⟩:=rep_sq r
    obtain ⟨a',vs',rfl,g1,g2⟩:=rep_sq r'
    exact ⟨kk,a',b',rfl,⟨_,SqK.same z g1⟩,⟨_,SqK.same z g1'⟩,k _ _ _ s2 itok_zip2 ((List.sublist_cons_self _ _).cons _)⟩
end
section
variable {X:Cx}
noncomputable def eCallD (g:GF) (a:AF):EF:=fun ρ=>(a ρ).bind fun y=>(g ((y.1.map Lc.pv).map (resD y.2.mu 40)) (y.2.mu.map fun _=>none)).bind fun r=>if flatL r.1=true then some (r.1,y.2) else none
theorem slots_none {Z:ZG} {L:Sl} (h:∀ e ∈ L,e.2=none):Slots K H0 Z H L:=by
  refine ⟨fun e he=>?_,?_⟩
  · obtain ⟨v,l⟩:=e
    have:l=none:=h _ he
    subst this
    trivial
  · have:L.filterMap oad=[]:=by
      rw [List.filterMap_eq_nil_iff]
      intro e he
      obtain ⟨v,l⟩:=e
      have:l=none:=h _ he
      subst this
      cases v with
      | none=>rfl
      | some x=>cases x <;> rfl
    rw [this]
    exact List.nodup_nil
theorem cel_none {g:List Addr} {mu:Mu}:∀ e ∈ cel g (mu.map fun _=>none),e.2=none:=fun e he=>by
  obtain ⟨v,l⟩:=e
  obtain ⟨_,h2⟩:=List.of_mem_zip he
  obtain ⟨o,ho,e2⟩:=List.mem_map.mp h2
  obtain ⟨o',_,e3⟩:=List.mem_map.mp ho
  subst e3
  exact e2.symm
theorem callD_imp {n:Nat} {g:GF} {a:AF} {E:XK} (hn:∀ ρ ls ρ1,a ρ=some (ls,ρ1)->ls.length=n):∀ σ H Q,tP X.K (eCallD g a) σ H Q->tCall (spP X.K n g) [] E (tPA X.K a) σ H Q:=fun σ H Q q=>by
  obtain ⟨H0,Z0,ρ,pd,r,ρ',s,h,k⟩:=q
  obtain ⟨y,h1,h2⟩:=bind_some h
  obtain ⟨⟨r1,mu'⟩,h3,h4⟩:=bind_some h2
  split at h4
  · rename_i hf
    cases h4
    refine ⟨H0,Z0,ρ,pd,y.1,y.2,s,h1,fun vs H2 e2 s2=>?_⟩
    have s3:=s2.freezeAll
    obtain ⟨Z,⟨el,hg,lz,so⟩,b1,_⟩:=s3.lookB
    have hm:(y.1.map fun l=>Lc.sh l.pv)=(y.1.map Lc.pv).map fun p=>Lc.sh p:=by rw [List.map_map]; rfl
    have so0:=so
    rw [hm] at so0
    have rl:RepL X.K Z (y.1.map Lc.pv) vs:=Slots.repl (by simpa using e2) (so0.perm sl_app.symm)
    have rl2:=repl_map (resD_rep so lz 40) (rl.mono lz)
    have z1:ZOk H2 ⟨H2,Z.g⟩ ⟨H2,Z.g⟩ H2:=⟨Same.refl _,Same.refl _,ZLe.refl _,fun b o e=>.inl e⟩
    have hs:Slots X.K H2 ⟨H2,Z.g⟩ H2 (sl Z.g σ ⟨y.2.vs.map fun _=>none,y.2.mu.map fun _=>none⟩ []):=slots_none fun e he=>by
      rcases List.mem_append.mp he with he | he
      · exact cel_none e he
      · rw [List.map_nil,List.append_nil] at he
        obtain ⟨v,l⟩:=e
        obtain ⟨o,_,e3⟩:=List.mem_map.mp (List.of_mem_zip he).2
        exact e3.symm
    refine ⟨⟨H2,Z.g⟩,(y.1.map Lc.pv).map (resD y.2.mu 40),y.2.mu.map fun _=>none,r1,mu',?_,by simpa using hg,Same.refl _,?_,slots_none cel_none,h3,fun v H' rr=>k v H' ?_⟩
    · rw [List.append_nil,e2]; exact hn _ _ _ h1
    · rw [List.append_nil]; exact rl2
    · have s4:=SR.called (ρ:=⟨y.2.vs.map fun _=>none,y.2.mu.map fun _=>none⟩) (Z:=⟨H2,Z.g⟩) (by simpa using el) (by simpa using hg) z1 hs rr
      exact (b1 H' v r1 _ s4 hf).sub ((List.sublist_append_right _ _).cons_cons _)
  · cases h4
theorem qcallD {x:Str} {k:Nat} {ps:List Str} {g:GF} {e:Expr} {es:List Expr} {a:AF} {p pos:Pos} (D:DefOk X.prog X.w X.K X.mg X.base x k ps (spP X.K ps.length g)) (hr:Room k X.A) (hg:Gl X x)
    (ha:PA X (e::es) (tPA X.K a)) (hn:∀ ρ ls ρ1,a ρ=some (ls,ρ1)->ls.length=ps.length) (hdb:(x == ("__debug__" : Str))=false:=by decide) (he:starEach (e::es) X.env=(false,eval e X.env)::starEach es X.env:=by rfl) (hpl:(backTo pos (starEach es X.env)).any (·.1)=false:=by rfl):PE X (.Call (.Name x p) (e::es) [] pos) (tP X.K (eCallD g a)):=by
  obtain ⟨f,fd,F,hm,hk,hb⟩:=D
  exact PE.imp (pe_call (E:=E0) F hr hg hm hk hb .nil pass0 ha hdb he hpl) (callD_imp hn)
theorem calld_go {G:GF} {a:AF} {ρ ρ1:Ev} {ls:List Lc} {ps:List PV} {r:Lc} {mu:Mu} (h:a ρ=some (ls,ρ1)) (hp:(ls.map Lc.pv).map (resD ρ1.mu 40)=ps) (h2:G ps (ρ1.mu.map fun _=>none)=some (r,mu)) (hf:flatL r=true):eCallD G a ρ=some (r,ρ1):=by
  unfold eCallD
  rw [h,Option.bind_some,hp,h2,Option.bind_some,if_pos hf]
end
end PL
namespace Law
open PySem PySem.Spec PyProof.Rows L2 PL
noncomputable def top (i:Nat):Stmt:=PySem.Challenge.pw_hushwise_k13_rows_numbered.main.body.getD i (.Pass ⟨0,0,0,0⟩)
noncomputable abbrev s_blocks_of:Stmt:=top 1
noncomputable abbrev s_copied:Stmt:=top 2
noncomputable abbrev s_all_copied:Stmt:=top 3
noncomputable abbrev s_laid_out:Stmt:=top 4
noncomputable abbrev s_numbered:Stmt:=top 5
noncomputable abbrev s__law_cell:Stmt:=top 7
noncomputable abbrev s__law_next:Stmt:=top 8
noncomputable abbrev s__law_names:Stmt:=top 9
noncomputable abbrev s__law_number:Stmt:=top 10
noncomputable abbrev s__law_expression:Stmt:=top 11
noncomputable abbrev s__law_part:Stmt:=top 12
noncomputable abbrev s__law_rows:Stmt:=top 13
noncomputable abbrev s__law_row:Stmt:=top 14
noncomputable abbrev s__law_rank:Stmt:=top 15
noncomputable abbrev s__law_counts:Stmt:=top 16
noncomputable abbrev s__law_heads:Stmt:=top 17
noncomputable abbrev s__law_program:Stmt:=top 18
noncomputable abbrev s__law_lay:Stmt:=top 19
noncomputable abbrev s__law_laid:Stmt:=top 20
noncomputable abbrev s__law_same:Stmt:=top 21
noncomputable abbrev s__law_marked:Stmt:=top 22
noncomputable abbrev s__law_cleaned:Stmt:=top 23
noncomputable abbrev s__law_spoiled:Stmt:=top 24
noncomputable abbrev s__law_apart:Stmt:=top 25
noncomputable abbrev s__law_drawn:Stmt:=top 26
noncomputable abbrev s_law:Stmt:=top 27
theorem sc_blocks_of:FnScope ["row"] ["row"] (defScope s_blocks_of):=⟨rfl,rfl,rfl,by decide +kernel,rfl,by decide +kernel,by decide +kernel⟩
theorem sc_copied:FnScope ["row"] ["row"] (defScope s_copied):=⟨rfl,rfl,rfl,by decide +kernel,rfl,by decide +kernel,by decide +kernel⟩
theorem sc_all_copied:FnScope ["rows"] ["rows"] (defScope s_all_copied):=⟨rfl,rfl,rfl,by decide +kernel,rfl,by decide +kernel,by decide +kernel⟩
theorem sc_laid_out:FnScope ["where", "above", "block", "rows", "start", "told", "row", "number", "place", "inner"] ["where", "above", "block", "rows", "start"] (defScope s_laid_out):=⟨rfl,rfl,rfl,by decide +kernel,rfl,by decide +kernel,by decide +kernel⟩
theorem sc_numbered:FnScope ["program", "told", "name", "rank", "params", "rows"] ["program"] (defScope s_numbered):=⟨rfl,rfl,rfl,by decide +kernel,rfl,by decide +kernel,by decide +kernel⟩
theorem sc__law_cell:FnScope ["_law_script", "_law_k", "_law_number_here", "_law_spot"] ["_law_script", "_law_k"] (defScope s__law_cell):=⟨rfl,rfl,rfl,by decide +kernel,rfl,by decide +kernel,by decide +kernel⟩
theorem sc__law_next:FnScope ["_law_pen", "_law_most", "_law_cell_here"] ["_law_pen", "_law_most"] (defScope s__law_next):=⟨rfl,rfl,rfl,by decide +kernel,rfl,by decide +kernel,by decide +kernel⟩
theorem sc__law_names:FnScope ["_law_pen", "_law_total", "_law_letters", "_law_way", "_law_size", "_law_at", "_law_turn", "_law_some", "_law_base", "_law_names_here", "_law_k", "_law_name", "_law_letter"] ["_law_pen", "_law_total"] (defScope s__law_names):=⟨rfl,rfl,rfl,by decide +kernel,rfl,by decide +kernel,by decide +kernel⟩
theorem sc__law_number:FnScope ["_law_pen", "_law_way", "_law_cell_here"] ["_law_pen"] (defScope s__law_number):=⟨rfl,rfl,rfl,by decide +kernel,rfl,by decide +kernel,by decide +kernel⟩
theorem sc__law_expression:FnScope ["_law_pen", "_law_deep", "_law_known", "_law_way", "_law_one", "_law_other", "_law_sign"] ["_law_pen", "_law_deep", "_law_known"] (defScope s__law_expression):=⟨rfl,rfl,rfl,by decide +kernel,rfl,by decide +kernel,by decide +kernel⟩
theorem sc__law_part:FnScope ["_law_pen", "_law_known"] ["_law_pen", "_law_known"] (defScope s__law_part):=⟨rfl,rfl,rfl,by decide +kernel,rfl,by decide +kernel,by decide +kernel⟩
theorem sc__law_rows:FnScope ["_law_pen", "_law_deep", "_law_known", "_law_most", "_law_rows_here", "_law_k"] ["_law_pen", "_law_deep", "_law_known", "_law_most"] (defScope s__law_rows):=⟨rfl,rfl,rfl,by decide +kernel,rfl,by decide +kernel,by decide +kernel⟩
theorem sc__law_row:FnScope ["_law_pen", "_law_deep", "_law_known", "_law_way", "_law_one", "_law_first", "_law_box", "_law_name", "_law_count"] ["_law_pen", "_law_deep", "_law_known"] (defScope s__law_row):=⟨rfl,rfl,rfl,by decide +kernel,rfl,by decide +kernel,by decide +kernel⟩
theorem sc__law_rank:FnScope ["_law_pen", "_law_ranks"] ["_law_pen", "_law_ranks"] (defScope s__law_rank):=⟨rfl,rfl,rfl,by decide +kernel,rfl,by decide +kernel,by decide +kernel⟩
theorem sc__law_counts:FnScope ["_law_pen", "_law_way"] ["_law_pen"] (defScope s__law_counts):=⟨rfl,rfl,rfl,by decide +kernel,rfl,by decide +kernel,by decide +kernel⟩
theorem sc__law_heads:FnScope ["_law_pen", "_law_names_here", "_law_at", "_law_heads_here", "_law_count"] ["_law_pen", "_law_names_here", "_law_at"] (defScope s__law_heads):=⟨rfl,rfl,rfl,by decide +kernel,rfl,by decide +kernel,by decide +kernel⟩
theorem sc__law_program:FnScope ["_law_pen", "_law_ranks", "_law_names_here", "_law_boxes", "_law_k", "_law_grants", "_law_high", "_law_heads_here", "_law_numbers", "_law_lists", "_law_whos", "_law_called", "_law_functions", "_law_name", "_law_params", "_law_rows_here", "_law_told"] ["_law_pen", "_law_ranks"] (defScope s__law_program):=⟨rfl,rfl,rfl,by decide +kernel,rfl,by decide +kernel,by decide +kernel⟩
theorem sc__law_lay:FnScope ["_law_rows_here", "_law_where", "_law_told", "_law_todo", "_law_row_here", "_law_above", "_law_block", "_law_number_here", "_law_inner"] ["_law_rows_here", "_law_where", "_law_told"] (defScope s__law_lay):=⟨rfl,rfl,rfl,by decide +kernel,rfl,by decide +kernel,by decide +kernel⟩
theorem sc__law_laid:FnScope ["_law_program_here", "_law_told", "_law_name", "_law_rank_here", "_law_params", "_law_rows_here"] ["_law_program_here"] (defScope s__law_laid):=⟨rfl,rfl,rfl,by decide +kernel,rfl,by decide +kernel,by decide +kernel⟩
theorem sc__law_same:FnScope ["_law_got", "_law_due", "_law_one", "_law_other"] ["_law_got", "_law_due"] (defScope s__law_same):=⟨rfl,rfl,rfl,by decide +kernel,rfl,by decide +kernel,by decide +kernel⟩
theorem sc__law_marked:FnScope ["_law_row_here", "_law_block", "_law_inner"] ["_law_row_here"] (defScope s__law_marked):=⟨rfl,rfl,rfl,by decide +kernel,rfl,by decide +kernel,by decide +kernel⟩
theorem sc__law_cleaned:FnScope ["_law_row_here", "_law_block", "_law_inner"] ["_law_row_here"] (defScope s__law_cleaned):=⟨rfl,rfl,rfl,by decide +kernel,rfl,by decide +kernel,by decide +kernel⟩
theorem sc__law_spoiled:FnScope ["_law_told", "_law_where", "_law_above", "_law_block", "_law_row_here"] ["_law_told"] (defScope s__law_spoiled):=⟨rfl,rfl,rfl,by decide +kernel,rfl,by decide +kernel,by decide +kernel⟩
theorem sc__law_apart:FnScope ["_law_got", "_law_due", "_law_start", "_law_turn", "_law_k", "_law_row_here", "_law_apart_here"] ["_law_got", "_law_due", "_law_start"] (defScope s__law_apart):=⟨rfl,rfl,rfl,by decide +kernel,rfl,by decide +kernel,by decide +kernel⟩
theorem sc__law_drawn:FnScope ["_law_script"] ["_law_script"] (defScope s__law_drawn):=⟨rfl,rfl,rfl,by decide +kernel,rfl,by decide +kernel,by decide +kernel⟩
theorem sc_law:FnScope ["_law_script", "_law_program_here", "_law_same_here", "_law_due", "_law_got", "_law_kept", "_law_row_here"] ["_law_script"] (defScope s_law):=⟨rfl,rfl,rfl,by decide +kernel,rfl,by decide +kernel,by decide +kernel⟩
noncomputable def m_blocks_of:GF:=runP 1 (sSeq (sIf (tT (eOp eqP (eIx (eVar 0) (eC (.int 0))) (eC (.str "if"))) blP)
    (sRet (eLst (aCons (eIx (eVar 0) (eC (.int 2))) (aCons (eIx (eVar 0) (eC (.int 3))) aNil))))
    sNil)
    (sSeq (sIf (tT (eOp eqP (eIx (eVar 0) (eC (.int 0))) (eC (.str "while"))) blP)
    (sRet (eLst (aCons (eIx (eVar 0) (eC (.int 2))) aNil)))
    sNil)
    (sRet (eLst aNil))))
mutual
noncomputable def m_copied:Nat->GF
  | 0=>fun _ _=>none
  | n + 1=>runP 1 (sSeq (sIf (tT (eOp eqP (eIx (eVar 0) (eC (.int 0))) (eC (.str "if"))) blP)
    (sRet (eTup (aCons (eC (.str "if")) (aCons (eIx (eVar 0) (eC (.int 1))) (aCons (eSeal (eCall (m_all_copied n) (aCons (eIx (eVar 0) (eC (.int 2))) aNil))) (aCons (eSeal (eCall (m_all_copied n) (aCons (eIx (eVar 0) (eC (.int 3))) aNil))) aNil))))))
    sNil)
    (sSeq (sIf (tT (eOp eqP (eIx (eVar 0) (eC (.int 0))) (eC (.str "while"))) blP)
    (sRet (eTup (aCons (eC (.str "while")) (aCons (eIx (eVar 0) (eC (.int 1))) (aCons (eSeal (eCall (m_all_copied n) (aCons (eIx (eVar 0) (eC (.int 2))) aNil))) aNil)))))
    sNil)
    (sSeq (sIf (tT (eOp eqP (eIx (eVar 0) (eC (.int 0))) (eC (.str "call"))) blP)
    (sRet (eTup (aCons (eC (.str "call")) (aCons (eIx (eVar 0) (eC (.int 1))) (aCons (eIx (eVar 0) (eC (.int 2))) (aCons (eSeal (eB list1 (aCons (eIx (eVar 0) (eC (.int 3))) aNil))) aNil))))))
    sNil)
    (sRetV 0))))
noncomputable def m_all_copied:Nat->GF
  | 0=>fun _ _=>none
  | n + 1=>runP 1 (sRet (eComp (iOf (eVar 0) walkP) 1 [] (bName 0) cTrue (eCall (m_copied n) (aCons (eVar 0) aNil))))
end
noncomputable def m_laid_out:Nat->GF
  | 0=>fun _ _=>none
  | n + 1=>runP 10 (sSeq (sSet 5 (eLst aNil))
    (sSeq (sForC (iCell (eVar 3)) (bName 6)
    (sSeq (sSet 7 (eRead (eOp addP (eVar 4) (eLen (eVar 5)))))
    (sSeq (sApp 5 (eTup (aCons (eVar 0) (aCons (eVar 1) (aCons (eVar 2) (aCons (eCall (m_copied 40) (aCons (eVar 6) aNil)) aNil))))))
    (sFor (iEnumF (eCall m_blocks_of (aCons (eVar 6) aNil))) (bSeq 2 (bCons (bName 8) (bCons (bName 9) bNil)))
    (sExt 5 (eCall (m_laid_out n) (aCons (eVar 0) (aCons (eVar 7) (aCons (eVar 8) (aCons (eVar 9) (aCons (eRead (eOp addP (eVar 4) (eLen (eVar 5)))) aNil)))))))))))
    (sRetV 5)))
noncomputable def m_numbered:GF:=runP 6 (sSeq (sSet 1 (eLst aNil))
    (sSeq (sFor (iOf (eIy (eVar 0) (eC (.int 2))) walkP) (bSeq 4 (bCons (bName 2) (bCons (bName 3) (bCons (bName 4) (bCons (bName 5) bNil)))))
    (sExt 1 (eCall (m_laid_out 40) (aCons (eVar 2) (aCons (eC .non) (aCons (eC (.int 0)) (aCons (eVar 5) (aCons (eRead (eLen (eVar 1))) aNil))))))))
    (sSeq (sExt 1 (eCall (m_laid_out 40) (aCons (eC (.str "main")) (aCons (eC .non) (aCons (eC (.int 0)) (aCons (eIy (eVar 0) (eC (.int 3))) (aCons (eRead (eLen (eVar 1))) aNil)))))))
    (sRetV 1))))
noncomputable def m__law_cell:GF:=runP 4 (sSeq (sIf (tT (eOp ltP (eVar 1) (eB len1 (aCons (eVar 0) aNil))) blP)
    (sRet (eIx (eVar 0) (eVar 1)))
    sNil)
    (sSeq (sSet 2 (eOp addP (eOp mulP (eVar 1) (eC (.int 7919))) (eC (.int 5))))
    (sSeq (sIf (tT (eOp gtP (eB len1 (aCons (eVar 0) aNil)) (eC (.int 0))) blP)
    (sSeq (sSet 3 (eIx (eVar 0) (eOp modP (eOp mulP (eVar 1) (eC (.int 7))) (eB len1 (aCons (eVar 0) aNil)))))
    (sSet 2 (eOp modP (eOp addP (eOp addP (eOp mulP (eVar 3) (eC (.int 48271))) (eOp mulP (eOp mulP (eVar 1) (eVar 1)) (eC (.int 7919)))) (eVar 1)) (eC (.int 2147483647)))))
    sNil)
    (sRet (eOp modP (eOp mulP (eVar 2) (eVar 2)) (eC (.int 2147483629)))))))
noncomputable def m__law_next:GF:=runP 3 (sSeq (sSet 2 (eOp modP (eCall m__law_cell (aCons (eIx (eVar 0) (eC (.int 0))) (aCons (eIx (eVar 0) (eC (.int 1))) aNil))) (eVar 1)))
    (sSeq (sSetC (eVar 0) (eC (.int 1)) (eOp addP (eIx (eVar 0) (eC (.int 1))) (eC (.int 1))))
    (sRetV 2)))
noncomputable def m__law_names:GF:=runP 13 (sSeq (sSet 2 (eC (.str "abcdefghijklmnopqrstuvwxyz")))
    (sSeq (sSet 3 (eCall m__law_next (aCons (eVar 0) (aCons (eC (.int 2)) aNil))))
    (sSeq (sSet 4 (eOp addP (eC (.int 1)) (eCall m__law_next (aCons (eVar 0) (aCons (eC (.int 8)) aNil)))))
    (sSeq (sSet 5 (eCall m__law_next (aCons (eVar 0) (aCons (eVar 4) aNil))))
    (sSeq (sSet 6 (eCall m__law_next (aCons (eVar 0) (aCons (eC (.int 26)) aNil))))
    (sSeq (sSet 7 (eComp (iRange1 (aCons (eC (.int 8)) aNil)) 1 [2,0] (bName 0) cTrue (eIx (eVar 1) (eCall m__law_next (aCons (eVar 2) (aCons (eC (.int 26)) aNil))))))
    (sSeq (sSet 8 (eJoin (eC (.str "")) (aCons (eVar 7) aNil)))
    (sSeq (sSet 9 (eLst aNil))
    (sSeq (sFor (iRange1 (aCons (eVar 1) aNil)) (bName 10)
    (sSeq (sSet 11 (eOp addP (eIx (eVar 2) (eOp modP (eOp addP (eVar 6) (eOp fdivP (eVar 10) (eC (.int 8)))) (eC (.int 26)))) (eSlx (eVar 8) oNone (oSome (eOp modP (eOp addP (eVar 6) (eVar 10)) (eC (.int 8)))))))
    (sSeq (sIf (tT (eOp eqP (eVar 3) (eC (.int 0))) blP)
    (sSeq (sSet 12 (eIx (eVar 2) (eOp modP (eOp addP (eVar 6) (eOp mulP (eC (.int 5)) (eVar 10))) (eC (.int 26)))))
    (sSet 11 (eOp addP (eOp addP (eSlx (eVar 8) oNone (oSome (eVar 5))) (eVar 12)) (eSlx (eVar 8) (oSome (eOp addP (eVar 5) (eC (.int 1)))) (oSome (eVar 4))))))
    sNil)
    (sSeq (sIf (tT (eOp eqP (eVar 11) (eC (.str "main"))) blP)
    (sSet 11 (eC (.str "niam")))
    sNil)
    (sApp 9 (eVar 11))))))
    (sRetV 9))))))))))
noncomputable def m__law_number:GF:=runP 3 (sSeq (sSet 1 (eCall m__law_next (aCons (eVar 0) (aCons (eC (.int 4)) aNil))))
    (sSeq (sSet 2 (eCall m__law_next (aCons (eVar 0) (aCons (eOp powP (eC (.int 10)) (eC (.int 12))) aNil))))
    (sSeq (sIf (tT (eOp eqP (eVar 1) (eC (.int 0))) blP)
    (sRet (eOp modP (eVar 2) (eC (.int 21))))
    sNil)
    (sSeq (sIf (tT (eOp eqP (eVar 1) (eC (.int 1))) blP)
    (sRet (eOp subP (eOp subP (eOp powP (eC (.int 10)) (eC (.int 12))) (eC (.int 1))) (eOp modP (eVar 2) (eC (.int 5)))))
    sNil)
    (sSeq (sIf (tT (eOp eqP (eVar 1) (eC (.int 2))) blP)
    (sRet (eOp subP (eOp fdivP (eOp powP (eC (.int 10)) (eC (.int 12))) (eOp addP (eC (.int 1)) (eOp modP (eVar 2) (eC (.int 9999))))) (eC (.int 1))))
    sNil)
    (sRet (eOp modP (eOp mulP (eVar 2) (eC (.int 999983))) (eOp powP (eC (.int 10)) (eC (.int 12))))))))))
noncomputable def m__law_expression:Nat->GF
  | 0=>fun _ _=>none
  | n + 1=>runP 7 (sSeq (sSet 3 (eCall m__law_next (aCons (eVar 0) (aCons (eC (.int 9)) aNil))))
    (sSeq (sIf (tOrF (tT (eOp ltP (eVar 1) (eC (.int 2))) blP) (tT (eOp ltP (eVar 3) (eC (.int 2))) blP))
    (sSeq (sIf (tOrF (tT (eOp eqP (eOp modP (eVar 3) (eC (.int 2))) (eC (.int 0))) blP) (tT (eOp eqP (eIx (eVar 2) (eC (.int 0))) (eLst aNil)) blP))
    (sRet (eTup (aCons (eC (.str "num")) (aCons (eCall m__law_number (aCons (eVar 0) aNil)) aNil))))
    sNil)
    (sRet (eTup (aCons (eC (.str "box")) (aCons (eIx (eIx (eVar 2) (eC (.int 0))) (eCall m__law_next (aCons (eVar 0) (aCons (eB len1 (aCons (eIx (eVar 2) (eC (.int 0))) aNil)) aNil)))) aNil)))))
    sNil)
    (sSeq (sSet 4 (eCall (m__law_expression n) (aCons (eVar 0) (aCons (eOp subP (eVar 1) (eC (.int 1))) (aCons (eVar 2) aNil)))))
    (sSeq (sIf (tAndF (tT (eOp ltP (eVar 3) (eC (.int 4))) blP) (tT (eOp neP (eIx (eVar 2) (eC (.int 1))) (eLst aNil)) blP))
    (sRet (eTup (aCons (eC (.str "@")) (aCons (eIx (eIx (eVar 2) (eC (.int 1))) (eCall m__law_next (aCons (eVar 0) (aCons (eB len1 (aCons (eIx (eVar 2) (eC (.int 1))) aNil)) aNil)))) (aCons (eVar 4) aNil)))))
    sNil)
    (sSeq (sSet 5 (eCall (m__law_expression n) (aCons (eVar 0) (aCons (eB min2 (aCons (eOp subP (eVar 1) (eC (.int 1))) (aCons (eC (.int 2)) aNil))) (aCons (eVar 2) aNil)))))
    (sSeq (sSet 6 (eIx (eC (.str "+-*<=")) (eCall m__law_next (aCons (eVar 0) (aCons (eC (.int 5)) aNil)))))
    (sSeq (sIf (tT (eOp eqP (eOp modP (eVar 3) (eC (.int 2))) (eC (.int 0))) blP)
    (sRet (eTup (aCons (eVar 6) (aCons (eVar 5) (aCons (eVar 4) aNil)))))
    sNil)
    (sRet (eTup (aCons (eVar 6) (aCons (eVar 4) (aCons (eVar 5) aNil))))))))))))
noncomputable def m__law_part:GF:=runP 2 (sRet (eCall (m__law_expression 40) (aCons (eVar 0) (aCons (eOp addP (eOp addP (eC (.int 1)) (eCall m__law_next (aCons (eVar 0) (aCons (eC (.int 3)) aNil)))) (eOp mulP (eC (.int 3)) (eOp fdivP (eCall m__law_next (aCons (eVar 0) (aCons (eC (.int 9)) aNil))) (eC (.int 8))))) (aCons (eVar 1) aNil)))))
mutual
noncomputable def m__law_rows:Nat->GF
  | 0=>fun _ _=>none
  | n + 1=>runP 6 (sSeq (sSet 4 (eLst aNil))
    (sSeq (sFor (iRange1 (aCons (eCall m__law_next (aCons (eVar 0) (aCons (eVar 3) aNil))) aNil)) (bName 5)
    (sIf (tT (eOp ltP (eIx (eVar 0) (eC (.int 2))) (eIx (eVar 0) (eC (.int 3)))) blP)
    (sApp 4 (eCall (m__law_row n) (aCons (eVar 0) (aCons (eVar 1) (aCons (eVar 2) aNil)))))
    sNil))
    (sRetV 4)))
noncomputable def m__law_row:Nat->GF
  | 0=>fun _ _=>none
  | n + 1=>runP 9 (sSeq (sSetC (eVar 0) (eC (.int 2)) (eOp addP (eIx (eVar 0) (eC (.int 2))) (eC (.int 1))))
    (sSeq (sSet 3 (eCall m__law_next (aCons (eVar 0) (aCons (eC (.int 12)) aNil))))
    (sSeq (sSet 4 (eCall m__law_part (aCons (eVar 0) (aCons (eVar 2) aNil))))
    (sSeq (sIf (tAndF (tT (eOp ltP (eVar 1) (eC (.int 4))) blP) (tT (eOp ltP (eVar 3) (eC (.int 3))) blP))
    (sSeq (sSet 5 (eCall (m__law_rows n) (aCons (eVar 0) (aCons (eOp addP (eVar 1) (eC (.int 1))) (aCons (eVar 2) (aCons (eC (.int 4)) aNil))))))
    (sRet (eTup (aCons (eC (.str "if")) (aCons (eVar 4) (aCons (eVar 5) (aCons (eCall (m__law_rows n) (aCons (eVar 0) (aCons (eOp addP (eVar 1) (eC (.int 1))) (aCons (eVar 2) (aCons (eC (.int 4)) aNil))))) aNil)))))))
    sNil)
    (sSeq (sIf (tAndF (tT (eOp ltP (eVar 1) (eC (.int 4))) blP) (tT (eOp ltP (eVar 3) (eC (.int 5))) blP))
    (sRet (eTup (aCons (eC (.str "while")) (aCons (eVar 4) (aCons (eCall (m__law_rows n) (aCons (eVar 0) (aCons (eOp addP (eVar 1) (eC (.int 1))) (aCons (eVar 2) (aCons (eC (.int 4)) aNil))))) aNil)))))
    sNil)
    (sSeq (sIf (tAndF (tT (eOp ltP (eVar 3) (eC (.int 7))) blP) (tT (eOp neP (eIx (eVar 2) (eC (.int 1))) (eLst aNil)) blP))
    (sRet (eTup (aCons (eC (.str "put")) (aCons (eIx (eIx (eVar 2) (eC (.int 1))) (eCall m__law_next (aCons (eVar 0) (aCons (eB len1 (aCons (eIx (eVar 2) (eC (.int 1))) aNil)) aNil)))) (aCons (eCall (m__law_expression 40) (aCons (eVar 0) (aCons (eC (.int 2)) (aCons (eVar 2) aNil)))) (aCons (eVar 4) aNil))))))
    sNil)
    (sSeq (sSet 6 (eIx (eIx (eVar 2) (eC (.int 0))) (eCall m__law_next (aCons (eVar 0) (aCons (eB len1 (aCons (eIx (eVar 2) (eC (.int 0))) aNil)) aNil)))))
    (sSeq (sIf (tAndF (tT (eOp eqP (eVar 3) (eC (.int 7))) blP) (tT (eOp neP (eIx (eVar 2) (eC (.int 2))) (eLst aNil)) blP))
    (sRet (eTup (aCons (eC (.str "out")) (aCons (eVar 6) (aCons (eVar 4) (aCons (eIx (eIx (eVar 2) (eC (.int 2))) (eCall m__law_next (aCons (eVar 0) (aCons (eB len1 (aCons (eIx (eVar 2) (eC (.int 2))) aNil)) aNil)))) aNil))))))
    sNil)
    (sSeq (sIf (tAndF (tT (eOp gtP (eVar 3) (eC (.int 8))) blP) (tT (eOp neP (eIx (eVar 2) (eC (.int 3))) (eLst aNil)) blP))
    (sSeq (sAsg (eIx (eIx (eVar 2) (eC (.int 3))) (eCall m__law_next (aCons (eVar 0) (aCons (eB len1 (aCons (eIx (eVar 2) (eC (.int 3))) aNil)) aNil)))) (bSeq 2 (bCons (bName 7) (bCons (bName 8) bNil))))
    (sRet (eTup (aCons (eC (.str "call")) (aCons (eVar 6) (aCons (eVar 7) (aCons (eComp (iRange1 (aCons (eVar 8) aNil)) 1 [0,2] (bName 0) cTrue (eCall (m__law_expression 40) (aCons (eVar 1) (aCons (eC (.int 2)) (aCons (eVar 2) aNil))))) aNil)))))))
    sNil)
    (sRet (eTup (aCons (eC (.str "set")) (aCons (eVar 6) (aCons (eVar 4) aNil))))))))))))))
end
noncomputable def m__law_rank:GF:=runP 2 (sSeq (sIf (tT (eOp eqP (eCall m__law_next (aCons (eVar 0) (aCons (eC (.int 3)) aNil))) (eC (.int 0))) blP)
    (sRet (eC .non))
    sNil)
    (sRet (eIx (eVar 1) (eCall m__law_next (aCons (eVar 0) (aCons (eB len1 (aCons (eVar 1) aNil)) aNil))))))
noncomputable def m__law_counts:GF:=runP 2 (sSeq (sSet 1 (eCall m__law_next (aCons (eVar 0) (aCons (eC (.int 6)) aNil))))
    (sSeq (sIf (tT (eOp eqP (eVar 1) (eC (.int 0))) blP)
    (sRet (eComp (iRange1 (aCons (eC (.int 6)) aNil)) 1 [0] (bName 0) cTrue (eCall m__law_next (aCons (eVar 1) (aCons (eC (.int 2)) aNil)))))
    sNil)
    (sSeq (sIf (tT (eOp eqP (eVar 1) (eC (.int 1))) blP)
    (sRet (eLst (aCons (eC (.int 4)) (aCons (eCall m__law_next (aCons (eVar 0) (aCons (eC (.int 4)) aNil))) aNil))))
    sNil)
    (sRet (eComp (iRange1 (aCons (eCall m__law_next (aCons (eVar 0) (aCons (eC (.int 4)) aNil))) aNil)) 1 [0] (bName 0) cTrue (eCall m__law_next (aCons (eVar 1) (aCons (eC (.int 3)) aNil))))))))
noncomputable def m__law_heads:GF:=runP 5 (sSeq (sSet 3 (eLst aNil))
    (sSeq (sFor (iOf (eCall m__law_counts (aCons (eVar 0) aNil)) walkP) (bName 4)
    (sSeq (sApp 3 (eTup (aCons (eIx (eVar 1) (eVar 2)) (aCons (eSlx (eVar 1) (oSome (eOp addP (eVar 2) (eC (.int 1)))) (oSome (eOp addP (eOp addP (eVar 2) (eC (.int 1))) (eVar 4)))) aNil))))
    (sSet 2 (eOp addP (eOp addP (eVar 2) (eC (.int 1))) (eVar 4)))))
    (sRetV 3)))
noncomputable def m__law_program:GF:=runP 17 (sSeq (sSet 2 (eCall m__law_names (aCons (eVar 0) (aCons (eC (.int 24)) aNil))))
    (sSeq (sSet 3 (eLst (aCons (eTup (aCons (eIx (eVar 2) (eC (.int 0))) (aCons (eC (.int 0)) (aCons (eCall m__law_rank (aCons (eVar 0) (aCons (eVar 1) aNil))) aNil)))) aNil)))
    (sSeq (sFor (iRange1 (aCons (eCall m__law_next (aCons (eVar 0) (aCons (eIx (eLst (aCons (eC (.int 3)) (aCons (eC (.int 3)) (aCons (eC (.int 3)) (aCons (eC (.int 12)) aNil))))) (eCall m__law_next (aCons (eVar 0) (aCons (eC (.int 4)) aNil)))) aNil))) aNil)) (bName 4)
    (sApp 3 (eTup (aCons (eIx (eVar 2) (eOp addP (eC (.int 1)) (eVar 4))) (aCons (eB max2 (aCons (eC (.int 0)) (aCons (eOp subP (eCall m__law_next (aCons (eVar 0) (aCons (eC (.int 13)) aNil))) (eC (.int 4))) aNil))) (aCons (eCall m__law_rank (aCons (eVar 0) (aCons (eVar 1) aNil))) aNil))))))
    (sSeq (sSet 5 (eLst aNil))
    (sSeq (sFor (iRange1 (aCons (eCall m__law_next (aCons (eVar 0) (aCons (eIx (eLst (aCons (eC (.int 2)) (aCons (eC (.int 3)) (aCons (eC (.int 7)) aNil)))) (eCall m__law_next (aCons (eVar 0) (aCons (eC (.int 3)) aNil)))) aNil))) aNil)) (bName 4)
    (sSeq (sSet 6 (eIx (eVar 1) (eCall m__law_next (aCons (eVar 0) (aCons (eB len1 (aCons (eVar 1) aNil)) aNil)))))
    (sApp 5 (eTup (aCons (eIx (eVar 2) (eOp modP (eOp mulP (eC (.int 5)) (eVar 4)) (eC (.int 24)))) (aCons (eVar 6) (aCons (eIx (eVar 1) (eCall m__law_next (aCons (eVar 0) (aCons (eB len1 (aCons (eVar 1) aNil)) aNil)))) aNil)))))))
    (sSeq (sSet 7 (eCall m__law_heads (aCons (eVar 0) (aCons (eVar 2) (aCons (eRead (eB len1 (aCons (eVar 3) aNil))) aNil)))))
    (sSeq (sSet 8 (eComp (iOf (eVar 3) walkP) 1 [] (bName 0) (tT (eOp eqP (eIx (eVar 0) (eC (.int 1))) (eC (.int 0))) blP) (eIx (eVar 0) (eC (.int 0)))))
    (sSeq (sSet 9 (eComp (iOf (eVar 3) walkP) 1 [] (bName 0) (tT (eOp gtP (eIx (eVar 0) (eC (.int 1))) (eC (.int 0))) blP) (eIx (eVar 0) (eC (.int 0)))))
    (sSeq (sSet 10 (eComp (iOf (eVar 5) walkP) 1 [] (bName 0) cTrue (eIx (eVar 0) (eC (.int 0)))))
    (sSeq (sSet 11 (eComp (iOf (eVar 7) walkP) 2 [] (bSeq 2 (bCons (bName 0) (bCons (bName 1) bNil))) cTrue (eTup (aCons (eVar 0) (aCons (eB len1 (aCons (eVar 1) aNil)) aNil)))))
    (sSeq (sSet 12 (eLst aNil))
    (sSeq (sFor (iOf (eVar 7) walkP) (bSeq 2 (bCons (bName 13) (bCons (bName 14) bNil)))
    (sSeq (sSet 15 (eCall (m__law_rows 40) (aCons (eVar 0) (aCons (eC (.int 0)) (aCons (eLst (aCons (eOp addP (eOp addP (eVar 8) (eLst (aCons (eVar 13) aNil))) (eVar 14)) (aCons (eVar 9) (aCons (eVar 10) (aCons (eVar 11) aNil))))) (aCons (eC (.int 5)) aNil))))))
    (sSeq (sSet 16 (eComp (iOf (eVar 14) walkP) 1 [0,1] (bName 0) cTrue (eTup (aCons (eVar 0) (aCons (eCall m__law_rank (aCons (eVar 1) (aCons (eVar 2) aNil))) aNil)))))
    (sApp 12 (eTup (aCons (eVar 13) (aCons (eCall m__law_rank (aCons (eVar 0) (aCons (eVar 1) aNil))) (aCons (eVar 16) (aCons (eVar 15) aNil)))))))))
    (sSeq (sSet 15 (eCall (m__law_rows 40) (aCons (eVar 0) (aCons (eC (.int 0)) (aCons (eLst (aCons (eVar 8) (aCons (eVar 9) (aCons (eVar 10) (aCons (eVar 11) aNil))))) (aCons (eIx (eLst (aCons (eC (.int 5)) (aCons (eC (.int 9)) (aCons (eC (.int 41)) aNil)))) (eCall m__law_next (aCons (eVar 0) (aCons (eC (.int 3)) aNil)))) aNil))))))
    (sSealV 15 (sRet (eTup (aCons (eVar 3) (aCons (eVar 5) (aCons (eVar 12) (aCons (eVar 15) aNil))))))))))))))))))))
noncomputable def m__law_lay:GF:=runP 9 (sSeq (sSet 3 (eComp (iRevF (eVar 0)) 1 [] (bName 0) cTrue (eTup (aCons (eVar 0) (aCons (eC .non) (aCons (eC (.int 0)) aNil))))))
    (sWhile 1000 (tRead (tT (eOp neY (eVar 3) (eLst aNil)) blP))
    (sSeq (sAsg (ePop 3) (bSeq 3 (bCons (bName 4) (bCons (bName 5) (bCons (bName 6) bNil)))))
    (sSeq (sSet 7 (eLen (eVar 2)))
    (sSeq (sAppC (eVar 2) (eTup (aCons (eVar 1) (aCons (eVar 5) (aCons (eVar 6) (aCons (eVar 4) aNil))))))
    (sSeq (sSet 8 (eLst aNil))
    (sSeq (sIf (tT (eOp inP (eIy (eVar 4) (eC (.int 0))) (eTup (aCons (eC (.str "if")) (aCons (eC (.str "while")) aNil)))) blP)
    (sSet 8 (eComp (iOf (eIy (eVar 4) (eC (.int 2))) walkP) 1 [7] (bName 0) cTrue (eTup (aCons (eVar 0) (aCons (eVar 1) (aCons (eC (.int 0)) aNil))))))
    sNil)
    (sSeq (sIf (tT (eOp eqY (eIy (eVar 4) (eC (.int 0))) (eC (.str "if"))) blP)
    (sSet 8 (eOp addP (eVar 8) (eComp (iOf (eIy (eVar 4) (eC (.int 3))) walkP) 1 [7] (bName 0) cTrue (eTup (aCons (eVar 0) (aCons (eVar 1) (aCons (eC (.int 1)) aNil)))))))
    sNil)
    (sSet 3 (eOp addP (eVar 3) (eComp (iRevF (eVar 8)) 1 [] (bName 0) cTrue (eVar 0))))))))))))
noncomputable def m__law_laid:GF:=runP 6 (sSeq (sSet 1 (eNewC aNil))
    (sSeq (sFor (iOf (eIx (eVar 0) (eC (.int 2))) walkP) (bSeq 4 (bCons (bName 2) (bCons (bName 3) (bCons (bName 4) (bCons (bName 5) bNil)))))
    (sExpr (eCall m__law_lay (aCons (eVar 5) (aCons (eVar 2) (aCons (eVar 1) aNil))))))
    (sSeq (sExpr (eCall m__law_lay (aCons (eIx (eVar 0) (eC (.int 3))) (aCons (eC (.str "main")) (aCons (eVar 1) aNil)))))
    (sRetV 1))))
noncomputable def m__law_same:Nat->GF
  | 0=>fun _ _=>none
  | n + 1=>runP 4 (sSeq (sIf (tT (eIsT ["list", "tuple"] (eVar 1)) truP)
    (sSeq (sIf (tOrF (tNotF (tT (eIsT ["list", "tuple"] (eVar 0)) truP)) (tT (eOp neP (eIs "list" (eVar 0)) (eIs "list" (eVar 1))) blP))
    (sRet (eC (.bl false)))
    sNil)
    (sSeq (sIf (tT (eOp neP (eB len1 (aCons (eVar 0) aNil)) (eB len1 (aCons (eVar 1) aNil))) blP)
    (sRet (eC (.bl false)))
    sNil)
    (sSeq (sFor (iZip2F (eVar 0) (eVar 1)) (bSeq 2 (bCons (bName 2) (bCons (bName 3) bNil)))
    (sIf (tNotF (tT (eCall (m__law_same n) (aCons (eVar 2) (aCons (eVar 3) aNil))) truP))
    (sRet (eC (.bl false)))
    sNil))
    (sRet (eC (.bl true))))))
    sNil)
    (sSeq (sIf (tT (eOp isNP (eVar 1) (eC .non)) blP)
    (sRet (eOp isNP (eVar 0) (eC .non)))
    sNil)
    (sSeq (sIf (tT (eIs "int" (eVar 1)) truP)
    (sRet (eAnd (eIs "int" (eVar 0)) (eAnd (eNot (eIs "bool" (eVar 0))) (eOp eqP (eVar 0) (eVar 1)))))
    sNil)
    (sRet (eAnd (eIs "str" (eVar 0)) (eOp eqP (eVar 0) (eVar 1)))))))
noncomputable def m__law_marked:Nat->GF
  | 0=>fun _ _=>none
  | n + 1=>runP 3 (sSeq (sIf (tT (eOp eqP (eIx (eVar 0) (eC (.int 0))) (eC (.str "call"))) blP)
    (sAppC (eIx (eVar 0) (eC (.int 3))) (eTup (aCons (eC (.str "num")) (aCons (eC (.int 1)) aNil))))
    sNil)
    (sIf (tT (eOp inP (eIx (eVar 0) (eC (.int 0))) (eTup (aCons (eC (.str "if")) (aCons (eC (.str "while")) aNil)))) blP)
    (sFor (iOf (eSlT (eVar 0) (oSome (eC (.int 2))) oNone) walkP) (bName 1)
    (sSeq (sForC (iCell (eVar 1)) (bName 2)
    (sExpr (eCall (m__law_marked n) (aCons (eVar 2) aNil))))
    (sAppC (eVar 1) (eTup (aCons (eC (.str "set")) (aCons (eC (.str "zz")) (aCons (eTup (aCons (eC (.str "num")) (aCons (eC (.int 1)) aNil))) aNil)))))))
    sNil))
noncomputable def m__law_cleaned:Nat->GF
  | 0=>fun _ _=>none
  | n + 1=>runP 3 (sSeq (sIf (tT (eOp eqP (eIx (eVar 0) (eC (.int 0))) (eC (.str "call"))) blP)
    (sExpr (ePopC (eIx (eVar 0) (eC (.int 3)))))
    sNil)
    (sIf (tT (eOp inP (eIx (eVar 0) (eC (.int 0))) (eTup (aCons (eC (.str "if")) (aCons (eC (.str "while")) aNil)))) blP)
    (sFor (iOf (eSlT (eVar 0) (oSome (eC (.int 2))) oNone) walkP) (bName 1)
    (sSeq (sExpr (ePopC (eVar 1)))
    (sForC (iCell (eVar 1)) (bName 2)
    (sExpr (eCall (m__law_cleaned n) (aCons (eVar 2) aNil))))))
    sNil))
noncomputable def m__law_spoiled:GF:=runP 5 (sSeq (sForC (iCell (eVar 0)) (bSeq 4 (bCons (bName 1) (bCons (bName 2) (bCons (bName 3) (bCons (bName 4) bNil)))))
    (sExpr (eCall (m__law_marked 40) (aCons (eVar 4) aNil))))
    (sSeq (sAppC (eVar 0) (eTup (aCons (eC (.str "main")) (aCons (eC .non) (aCons (eC (.int 0)) (aCons (eTup (aCons (eC (.str "set")) (aCons (eC (.str "zz")) (aCons (eTup (aCons (eC (.str "num")) (aCons (eC (.int 1)) aNil))) aNil)))) aNil))))))
    (sRevC (eVar 0))))
noncomputable def m__law_apart:GF:=runP 7 (sSeq (sFor (iRange1 (aCons (eLen (eVar 0)) aNil)) (bName 3)
    (sSeq (sSet 4 (eOp modP (eOp addP (eVar 2) (eVar 3)) (eLen (eVar 0))))
    (sSeq (sSet 5 (eIy (eIy (eVar 0) (eVar 4)) (eC (.int 3))))
    (sIf (tT (eOp inP (eIy (eVar 5) (eC (.int 0))) (eTup (aCons (eC (.str "call")) (aCons (eC (.str "if")) (aCons (eC (.str "while")) aNil))))) blP)
    (sSeq (sExpr (eCall (m__law_marked 40) (aCons (eVar 5) aNil)))
    (sSeq (sSet 6 (eReadD (eCall (m__law_same 40) (aCons (eOp addP (eSlx (eVar 0) oNone (oSome (eVar 4))) (eSlx (eVar 0) (oSome (eOp addP (eVar 4) (eC (.int 1)))) oNone)) (aCons (eOp addP (eSlx (eVar 1) oNone (oSome (eVar 4))) (eSlx (eVar 1) (oSome (eOp addP (eVar 4) (eC (.int 1)))) oNone)) aNil)))))
    (sSeq (sExpr (eCall (m__law_cleaned 40) (aCons (eVar 5) aNil)))
    (sRetV 6))))
    sNil))))
    (sRet (eC (.bl true))))
noncomputable def m__law_drawn:GF:=runP 1 (sRet (eCall m__law_program (aCons (eSeal (eLst (aCons (eVar 0) (aCons (eC (.int 1)) (aCons (eC (.int 0)) (aCons (eIx (eLst (aCons (eC (.int 8)) (aCons (eC (.int 12)) (aCons (eC (.int 16)) (aCons (eC (.int 40)) aNil))))) (eOp modP (eCall m__law_cell (aCons (eVar 0) (aCons (eC (.int 0)) aNil))) (eC (.int 4)))) aNil)))))) (aCons (eLst (aCons (eC (.str "low")) (aCons (eC (.str "high")) aNil))) aNil))))
noncomputable def m_law:GF:=runP 7 (sSeq (sSet 1 (eCall m__law_drawn (aCons (eVar 0) aNil)))
    (sSeq (sSet 2 (eMelt (eCall m__law_drawn (aCons (eVar 0) aNil))))
    (sSeq (sSet 3 (eOpen (eCall m__law_laid (aCons (eVar 2) aNil))))
    (sSeq (sSet 4 (eSeal (eCall m_numbered (aCons (eVar 1) aNil))))
    (sSeq (sIf (tOrF (tNotF (tT (eCallD (m__law_same 40) (aCons (eVar 4) (aCons (eVar 3) aNil))) truP)) (tNotF (tT (eCall m__law_apart (aCons (eVar 4) (aCons (eVar 3) (aCons (eCall m__law_cell (aCons (eVar 0) (aCons (eC (.int 2)) aNil))) aNil)))) truP)))
    (sRet (eC (.bl false)))
    sNil)
    (sSeq (sExpr (eCall m__law_spoiled (aCons (eVar 4) aNil)))
    (sSeq (sSet 5 (eCall m_numbered (aCons (eVar 1) aNil)))
    (sSeq (sSet 6 (eTup (aCons (eC (.str "set")) (aCons (eIy (eIy (eIy (eVar 1) (eC (.int 0))) (eC (.int 0))) (eC (.int 0))) (aCons (eTup (aCons (eC (.str "num")) (aCons (eC (.int 7)) aNil))) aNil)))))
    (sSeq (sIf (tT (eOp ltP (eLen (eVar 3)) (eC (.int 40))) blP)
    (sSeq (sAppC (eIy (eVar 1) (eC (.int 3))) (eVar 6))
    (sSeq (sIf (tNotF (tT (eCallD (m__law_same 40) (aCons (eCall m_numbered (aCons (eVar 1) aNil)) (aCons (eOp addP (eVar 3) (eLst (aCons (eTup (aCons (eC (.str "main")) (aCons (eC .non) (aCons (eC (.int 0)) (aCons (eVar 6) aNil))))) aNil))) aNil))) truP))
    (sRet (eC (.bl false)))
    sNil)
    (sExpr (ePopC (eIy (eVar 1) (eC (.int 3)))))))
    sNil)
    (sRet (eAnd (eCallD (m__law_same 40) (aCons (eVar 5) (aCons (eVar 3) aNil))) (eReadD (eOp eqY (eVar 1) (eVar 2))))))))))))))
section
variable {P:Program} {w:World} {K:FG} {mg:Str->Option Value} {base:Heap}
variable (B:Blt mg ["bool", "enumerate", "int", "isinstance", "len", "list", "max", "min", "range", "reversed", "str", "tuple", "zip"])
include B
theorem ok_blocks_of (F:DefAt K mg "blocks_of" s_blocks_of ["row"]):DefOk P w K mg base "blocks_of" 1 ["row"] (spP K 1 m_blocks_of):=
  F.ok (k:=0) sc_blocks_of fun f cdv A outer s H E hr=>⟨_,fun _ _=>rfl,(qss_cons (qs_if (qtcmp (op_eqP hr) ops_eq (qix' (qv (pv 0)) (qc pe_int rep_int) (fun _ _=>rfl)) (qc pe_str rep_str) (nomark _))
    (qss_one (qs_ret (qlst (qa_cons (qix' (qv (pv 0)) (qc pe_int rep_int) (fun _ _=>rfl)) (qa_cons (qix' (qv (pv 0)) (qc pe_int rep_int) (fun _ _=>rfl)) qa_nil)))))
    qss_nil)
    (qss_cons (qs_if (qtcmp (op_eqP hr) ops_eq (qix' (qv (pv 0)) (qc pe_int rep_int) (fun _ _=>rfl)) (qc pe_str rep_str) (nomark _))
    (qss_one (qs_ret (qlst (qa_cons (qix' (qv (pv 0)) (qc pe_int rep_int) (fun _ _=>rfl)) qa_nil))))
    qss_nil)
    (qss_one (qs_ret (qlst qa_nil)))))⟩
theorem ok_copied {n:Nat} (F:DefAt K mg "copied" s_copied ["row"]) (D_all_copied:DefOk P w K mg base "all_copied" (0 + n) ["rows"] (spP K 1 (m_all_copied n))):DefOk P w K mg base "copied" (0 + n + 1) ["row"] (spP K 1 (m_copied (n + 1))):=
  F.ok (k:=0 + n) sc_copied fun f cdv A outer s H E hr=>⟨_,fun _ _=>rfl,(qss_cons (qs_if (qtcmp (op_eqP hr) ops_eq (qix' (qv (pv 0)) (qc pe_int rep_int) (fun _ _=>rfl)) (qc pe_str rep_str) (nomark _))
    (qss_one (qs_ret (qtup (qa_cons (qc pe_str rep_str) (qa_cons (qix' (qv (pv 0)) (qc pe_int rep_int) (fun _ _=>rfl)) (qa_cons (qseal (qcall D_all_copied (hr.mono (by omega)) rfl (qa_cons (qix' (qv (pv 0)) (qc pe_int rep_int) (fun _ _=>rfl)) qa_nil) (al_cons al_nil))) (qa_cons (qseal (qcall D_all_copied (hr.mono (by omega)) rfl (qa_cons (qix' (qv (pv 0)) (qc pe_int rep_int) (fun _ _=>rfl)) qa_nil) (al_cons al_nil))) qa_nil)))))))
    qss_nil)
    (qss_cons (qs_if (qtcmp (op_eqP hr) ops_eq (qix' (qv (pv 0)) (qc pe_int rep_int) (fun _ _=>rfl)) (qc pe_str rep_str) (nomark _))
    (qss_one (qs_ret (qtup (qa_cons (qc pe_str rep_str) (qa_cons (qix' (qv (pv 0)) (qc pe_int rep_int) (fun _ _=>rfl)) (qa_cons (qseal (qcall D_all_copied (hr.mono (by omega)) rfl (qa_cons (qix' (qv (pv 0)) (qc pe_int rep_int) (fun _ _=>rfl)) qa_nil) (al_cons al_nil))) qa_nil))))))
    qss_nil)
    (qss_cons (qs_if (qtcmp (op_eqP hr) ops_eq (qix' (qv (pv 0)) (qc pe_int rep_int) (fun _ _=>rfl)) (qc pe_str rep_str) (nomark _))
    (qss_one (qs_ret (qtup (qa_cons (qc pe_str rep_str) (qa_cons (qix' (qv (pv 0)) (qc pe_int rep_int) (fun _ _=>rfl)) (qa_cons (qix' (qv (pv 0)) (qc pe_int rep_int) (fun _ _=>rfl)) (qa_cons (qseal (PE.imp (pe_callTy call_list_of (by rfl) (B _ (.tail _ (.tail _ (.tail _ (.tail _ (.tail _ (.head _))))))) (by kernel_rfl) (qa_cons (qix' (qv (pv 0)) (qc pe_int rep_int) (fun _ _=>rfl)) qa_nil)) (cb_imp cs_list))) qa_nil)))))))
    qss_nil)
    (qss_one (qs_retV (pv 0))))))⟩
theorem ok_all_copied {n:Nat} (F:DefAt K mg "all_copied" s_all_copied ["rows"]) (D_copied:DefOk P w K mg base "copied" (0 + n) ["row"] (spP K 1 (m_copied n))):DefOk P w K mg base "all_copied" (0 + n + 1) ["rows"] (spP K 1 (m_all_copied (n + 1))):=
  F.ok (k:=0 + n) sc_all_copied fun f cdv A outer s H E hr=>⟨_,fun _ _=>rfl,(qss_one (qs_ret (qcomp ["row"] [] [] rfl (cs_mk (defScope s_all_copied) rfl rfl (by decide +kernel) (by decide +kernel) (by decide +kernel) (by decide +kernel) rfl (by decide +kernel)) (qi_any (qv (pv 0))) (fun _ _ _ _=>(pg_name (i:=0) (show (["row"]:List Str).Nodup from by decide +kernel) rfl (Or.inl rfl))) gs_name (fun _ _ _ _=>qifs_nil) (fun _ _ _ _=>(qcall D_copied (hr.mono (by omega)) rfl (qa_cons (qv (pv 0)) qa_nil) (al_cons al_nil))))))⟩
theorem all_copied (F_copied:DefAt K mg "copied" s_copied ["row"]) (F_all_copied:DefAt K mg "all_copied" s_all_copied ["rows"]):∀ n:Nat,DefOk P w K mg base "copied" (0 + n) ["row"] (spP K 1 (m_copied n))/\DefOk P w K mg base "all_copied" (0 + n) ["rows"] (spP K 1 (m_all_copied n))
  | 0=>⟨ok_zero F_copied,ok_zero F_all_copied⟩
  | n + 1=>by
    have ih:=all_copied F_copied F_all_copied n
    exact ⟨ok_copied B F_copied ih.2,ok_all_copied B F_all_copied ih.1⟩
theorem ok_laid_out {n:Nat} (F:DefAt K mg "laid_out" s_laid_out ["where", "above", "block", "rows", "start"]) (D_blocks_of:DefOk P w K mg base "blocks_of" 1 ["row"] (spP K 1 m_blocks_of)) (D_copied:DefOk P w K mg base "copied" 40 ["row"] (spP K 1 (m_copied 40))) (D_laid_out:DefOk P w K mg base "laid_out" (40 + n) ["where", "above", "block", "rows", "start"] (spP K 5 (m_laid_out n))):DefOk P w K mg base "laid_out" (40 + n + 1) ["where", "above", "block", "rows", "start"] (spP K 5 (m_laid_out (n + 1))):=
  F.ok (k:=40 + n) sc_laid_out fun f cdv A outer s H E hr=>⟨_,fun _ _=>rfl,(qss_cons (qs_set (i:=5) sc_laid_out.nd rfl (Or.inl rfl) (qlst qa_nil))
    (qss_cons (qs_forC PassesOwn.never rfl (qi_cell (qv (pv 3))) (pg_name (i:=6) sc_laid_out.nd rfl (Or.inl rfl)) gs_name
    (qss_cons (qs_set (i:=7) sc_laid_out.nd rfl (Or.inl rfl) (qread (qop op_addP ops_add (qv (pv 4)) (qlen (pe_callB call_len (by rfl) (B _ (.tail _ (.tail _ (.tail _ (.tail _ (.head _)))))) PySem.boot_len (qa_cons (qv (pv 5)) qa_nil))))))
    (qss_cons (qs_app (ps_expr (pe_bm PySem.F.plainAttrs_list PySem.F.slot_list_append PySem.F.type_list_append mt_append (pv 5) (qa_cons (qtup (qa_cons (qv (pv 0)) (qa_cons (qv (pv 1)) (qa_cons (qv (pv 2)) (qa_cons (qcall D_copied (hr.mono (by omega)) rfl (qa_cons (qv (pv 6)) qa_nil) (al_cons al_nil)) qa_nil))))) qa_nil))))
    (qss_one (qs_for PassesOwn.never rfl (qi_enum rfl (B _ (.tail _ (.head _))) (qa_cons (qcall D_blocks_of (hr.mono (by omega)) rfl (qa_cons (qv (pv 6)) qa_nil) (al_cons al_nil)) qa_nil)) (pg_seq rfl (pgs_cons (pg_name (i:=8) sc_laid_out.nd rfl (Or.inl rfl)) (pgs_cons (pg_name (i:=9) sc_laid_out.nd rfl (Or.inl rfl)) pgs_nil))) (gs_seq (gs_cons gs_name (gs_cons gs_name gs_nil)))
    (qss_one (qs_ext (ps_expr (pe_bm PySem.F.plainAttrs_list PySem.F.slot_list_extend PySem.F.type_list_extend mt_extendS (pv 5) (qa_cons (qcall D_laid_out (hr.mono (by omega)) rfl (qa_cons (qv (pv 0)) (qa_cons (qv (pv 7)) (qa_cons (qv (pv 8)) (qa_cons (qv (pv 9)) (qa_cons (qread (qop op_addP ops_add (qv (pv 4)) (qlen (pe_callB call_len (by rfl) (B _ (.tail _ (.tail _ (.tail _ (.tail _ (.head _)))))) PySem.boot_len (qa_cons (qv (pv 5)) qa_nil))))) qa_nil))))) (al_cons (al_cons (al_cons (al_cons (al_cons al_nil)))))) qa_nil))))))))))
    (qss_one (qs_retV (pv 5)))))⟩
theorem all_laid_out (F_laid_out:DefAt K mg "laid_out" s_laid_out ["where", "above", "block", "rows", "start"]) (D_blocks_of:DefOk P w K mg base "blocks_of" 1 ["row"] (spP K 1 m_blocks_of)) (D_copied:DefOk P w K mg base "copied" 40 ["row"] (spP K 1 (m_copied 40))):∀ n:Nat,DefOk P w K mg base "laid_out" (40 + n) ["where", "above", "block", "rows", "start"] (spP K 5 (m_laid_out n))
  | 0=>ok_zero F_laid_out
  | n + 1=>by
    have ih:=all_laid_out F_laid_out D_blocks_of D_copied n
    exact ok_laid_out B F_laid_out D_blocks_of D_copied ih
theorem ok_numbered (F:DefAt K mg "numbered" s_numbered ["program"]) (D_laid_out:DefOk P w K mg base "laid_out" 80 ["where", "above", "block", "rows", "start"] (spP K 5 (m_laid_out 40))):DefOk P w K mg base "numbered" 81 ["program"] (spP K 1 m_numbered):=
  F.ok (k:=80) sc_numbered fun f cdv A outer s H E hr=>⟨_,fun _ _=>rfl,(qss_cons (qs_set (i:=1) sc_numbered.nd rfl (Or.inl rfl) (qlst qa_nil))
    (qss_cons (qs_for PassesOwn.never rfl (qi_any (qiy (hu_of hr) (qv (pv 0)) (qc pe_int rep_int) (fun _ _=>rfl))) (pg_seq rfl (pgs_cons (pg_name (i:=2) sc_numbered.nd rfl (Or.inl rfl)) (pgs_cons (pg_name (i:=3) sc_numbered.nd rfl (Or.inl rfl)) (pgs_cons (pg_name (i:=4) sc_numbered.nd rfl (Or.inl rfl)) (pgs_cons (pg_name (i:=5) sc_numbered.nd rfl (Or.inl rfl)) pgs_nil))))) (gs_seq (gs_cons gs_name (gs_cons gs_name (gs_cons gs_name (gs_cons gs_name gs_nil)))))
    (qss_one (qs_ext (ps_expr (pe_bm PySem.F.plainAttrs_list PySem.F.slot_list_extend PySem.F.type_list_extend mt_extendS (pv 1) (qa_cons (qcall D_laid_out (hr.mono (by omega)) rfl (qa_cons (qv (pv 2)) (qa_cons (qc pe_non rep_non) (qa_cons (qc pe_int rep_int) (qa_cons (qv (pv 5)) (qa_cons (qread (qlen (pe_callB call_len (by rfl) (B _ (.tail _ (.tail _ (.tail _ (.tail _ (.head _)))))) PySem.boot_len (qa_cons (qv (pv 1)) qa_nil)))) qa_nil))))) (al_cons (al_cons (al_cons (al_cons (al_cons al_nil)))))) qa_nil))))))
    (qss_cons (qs_ext (ps_expr (pe_bm PySem.F.plainAttrs_list PySem.F.slot_list_extend PySem.F.type_list_extend mt_extendS (pv 1) (qa_cons (qcall D_laid_out (hr.mono (by omega)) rfl (qa_cons (qc pe_str rep_str) (qa_cons (qc pe_non rep_non) (qa_cons (qc pe_int rep_int) (qa_cons (qiy (hu_of hr) (qv (pv 0)) (qc pe_int rep_int) (fun _ _=>rfl)) (qa_cons (qread (qlen (pe_callB call_len (by rfl) (B _ (.tail _ (.tail _ (.tail _ (.tail _ (.head _)))))) PySem.boot_len (qa_cons (qv (pv 1)) qa_nil)))) qa_nil))))) (al_cons (al_cons (al_cons (al_cons (al_cons al_nil)))))) qa_nil))))
    (qss_one (qs_retV (pv 1))))))⟩
theorem ok__law_cell (F:DefAt K mg "_law_cell" s__law_cell ["_law_script", "_law_k"]):DefOk P w K mg base "_law_cell" 1 ["_law_script", "_law_k"] (spP K 2 m__law_cell):=
  F.ok (k:=0) sc__law_cell fun f cdv A outer s H E hr=>⟨_,fun _ _=>rfl,(qss_cons (qs_if (qtcmp op_lt ops_lt (qv (pv 1)) (qcallB call_len cs_len (pe_callB call_len (by rfl) (B _ (.tail _ (.tail _ (.tail _ (.tail _ (.head _)))))) PySem.boot_len (qa_cons (qv (pv 0)) qa_nil))) (nomark _))
    (qss_one (qs_ret (qix' (qv (pv 0)) (qv (pv 1)) (fun _ _=>rfl))))
    qss_nil)
    (qss_cons (qs_set (i:=2) sc__law_cell.nd rfl (Or.inl rfl) (qop op_addP ops_add (qop op_mul ops_mul (qv (pv 1)) (qc pe_int rep_int)) (qc pe_int rep_int)))
    (qss_cons (qs_if (qtcmp op_gt ops_gt (qcallB call_len cs_len (pe_callB call_len (by rfl) (B _ (.tail _ (.tail _ (.tail _ (.tail _ (.head _)))))) PySem.boot_len (qa_cons (qv (pv 0)) qa_nil))) (qc pe_int rep_int) (nomark _))
    (qss_cons (qs_set (i:=3) sc__law_cell.nd rfl (Or.inl rfl) (qix' (qv (pv 0)) (qop op_mod ops_mod (qop op_mul ops_mul (qv (pv 1)) (qc pe_int rep_int)) (qcallB call_len cs_len (pe_callB call_len (by rfl) (B _ (.tail _ (.tail _ (.tail _ (.tail _ (.head _)))))) PySem.boot_len (qa_cons (qv (pv 0)) qa_nil)))) (fun _ _=>rfl)))
    (qss_one (qs_set (i:=2) sc__law_cell.nd rfl (Or.inl rfl) (qop op_mod ops_mod (qop op_addP ops_add (qop op_addP ops_add (qop op_mul ops_mul (qv (pv 3)) (qc pe_int rep_int)) (qop op_mul ops_mul (qop op_mul ops_mul (qv (pv 1)) (qv (pv 1))) (qc pe_int rep_int))) (qv (pv 1))) (qc pe_int rep_int)))))
    qss_nil)
    (qss_one (qs_ret (qop op_mod ops_mod (qop op_mul ops_mul (qv (pv 2)) (qv (pv 2))) (qc pe_int rep_int)))))))⟩
theorem ok__law_next (F:DefAt K mg "_law_next" s__law_next ["_law_pen", "_law_most"]) (D__law_cell:DefOk P w K mg base "_law_cell" 1 ["_law_script", "_law_k"] (spP K 2 m__law_cell)):DefOk P w K mg base "_law_next" 2 ["_law_pen", "_law_most"] (spP K 2 m__law_next):=
  F.ok (k:=1) sc__law_next fun f cdv A outer s H E hr=>⟨_,fun _ _=>rfl,(qss_cons (qs_set (i:=2) sc__law_next.nd rfl (Or.inl rfl) (qop op_mod ops_mod (qcall D__law_cell (hr.mono (by omega)) rfl (qa_cons (qix' (qv (pv 0)) (qc pe_int rep_int) (fun _ _=>rfl)) (qa_cons (qix' (qv (pv 0)) (qc pe_int rep_int) (fun _ _=>rfl)) qa_nil)) (al_cons (al_cons al_nil))) (qv (pv 1))))
    (qss_cons (qs_setC' (ps_asg (qop op_addP ops_add (qix' (qv (pv 0)) (qc pe_int rep_int) (fun _ _=>rfl)) (qc pe_int rep_int)) (pg_sub (qv (pv 0)) (qc pe_int rep_int) set_list)))
    (qss_one (qs_retV (pv 2)))))⟩
theorem ok__law_names (F:DefAt K mg "_law_names" s__law_names ["_law_pen", "_law_total"]) (D__law_next:DefOk P w K mg base "_law_next" 2 ["_law_pen", "_law_most"] (spP K 2 m__law_next)):DefOk P w K mg base "_law_names" 3 ["_law_pen", "_law_total"] (spP K 2 m__law_names):=
  F.ok (k:=2) sc__law_names fun f cdv A outer s H E hr=>⟨_,fun _ _=>rfl,(qss_cons (qs_set (i:=2) sc__law_names.nd rfl (Or.inr rfl) (qc pe_str rep_str))
    (qss_cons (qs_set (i:=3) sc__law_names.nd rfl (Or.inl rfl) (qcall D__law_next (hr.mono (by omega)) rfl (qa_cons (qv (pv 0)) (qa_cons (qc pe_int rep_int) qa_nil)) (al_cons (al_cons al_nil))))
    (qss_cons (qs_set (i:=4) sc__law_names.nd rfl (Or.inl rfl) (qop op_addP ops_add (qc pe_int rep_int) (qcall D__law_next (hr.mono (by omega)) rfl (qa_cons (qv (pv 0)) (qa_cons (qc pe_int rep_int) qa_nil)) (al_cons (al_cons al_nil)))))
    (qss_cons (qs_set (i:=5) sc__law_names.nd rfl (Or.inl rfl) (qcall D__law_next (hr.mono (by omega)) rfl (qa_cons (qv (pv 0)) (qa_cons (qv (pv 4)) qa_nil)) (al_cons (al_cons al_nil))))
    (qss_cons (qs_set (i:=6) sc__law_names.nd rfl (Or.inl rfl) (qcall D__law_next (hr.mono (by omega)) rfl (qa_cons (qv (pv 0)) (qa_cons (qc pe_int rep_int) qa_nil)) (al_cons (al_cons al_nil))))
    (qss_cons (qs_setC (i:=7) ["_law_k"] ["_law_letters", "_law_pen"] [2,0] sc__law_names.nd rfl rfl rfl (cs_mk (defScope s__law_names) rfl rfl (by decide +kernel) (by decide +kernel) (by decide +kernel) (by decide +kernel) rfl (by decide +kernel)) (qi_range1 rfl (B _ (.tail _ (.tail _ (.tail _ (.tail _ (.tail _ (.tail _ (.tail _ (.tail _ (.head _)))))))))) (qa_cons (qc pe_int rep_int) qa_nil)) (fun _ _ _ _=>(pg_name (i:=0) (show (["_law_k", "_law_letters", "_law_pen"]:List Str).Nodup from by decide +kernel) rfl (Or.inl rfl))) gs_name (fun _ _ _ _=>qifs_nil) (fun _ _ _ _=>(qix' (qv (pv 1)) (qcall D__law_next (hr.mono (by omega)) rfl (qa_cons (qv (pv 2)) (qa_cons (qc pe_int rep_int) qa_nil)) (al_cons (al_cons al_nil))) (fun _ _=>rfl))))
    (qss_cons (qs_set (i:=8) sc__law_names.nd rfl (Or.inl rfl) (qjoin (pe_bm PySem.F.plainAttrs_str PySem.F.slot_str_join PySem.F.type_str_join mt_join (qc pe_str rep_str) (qa_cons (qv (pv 7)) qa_nil))))
    (qss_cons (qs_set (i:=9) sc__law_names.nd rfl (Or.inl rfl) (qlst qa_nil))
    (qss_cons (qs_for PassesOwn.never rfl (qi_range1 rfl (B _ (.tail _ (.tail _ (.tail _ (.tail _ (.tail _ (.tail _ (.tail _ (.tail _ (.head _)))))))))) (qa_cons (qv (pv 1)) qa_nil)) (pg_name (i:=10) sc__law_names.nd rfl (Or.inl rfl)) gs_name
    (qss_cons (qs_set (i:=11) sc__law_names.nd rfl (Or.inl rfl) (qop op_addP ops_add (qix' (qv (pv 2)) (qop op_mod ops_mod (qop op_addP ops_add (qv (pv 6)) (qop op_fdiv ops_fdiv (qv (pv 10)) (qc pe_int rep_int))) (qc pe_int rep_int)) (fun _ _=>rfl)) (qslicex (qv (pv 8)) qo_none (qo_some (qop op_mod ops_mod (qop op_addP ops_add (qv (pv 6)) (qv (pv 10))) (qc pe_int rep_int))))))
    (qss_cons (qs_if (qtcmp (op_eqP hr) ops_eq (qv (pv 3)) (qc pe_int rep_int) (nomark _))
    (qss_cons (qs_set (i:=12) sc__law_names.nd rfl (Or.inl rfl) (qix' (qv (pv 2)) (qop op_mod ops_mod (qop op_addP ops_add (qv (pv 6)) (qop op_mul ops_mul (qc pe_int rep_int) (qv (pv 10)))) (qc pe_int rep_int)) (fun _ _=>rfl)))
    (qss_one (qs_set (i:=11) sc__law_names.nd rfl (Or.inl rfl) (qop op_addP ops_add (qop op_addP ops_add (qslicex (qv (pv 8)) qo_none (qo_some (qv (pv 5)))) (qv (pv 12))) (qslicex (qv (pv 8)) (qo_some (qop op_addP ops_add (qv (pv 5)) (qc pe_int rep_int))) (qo_some (qv (pv 4))))))))
    qss_nil)
    (qss_cons (qs_if (qtcmp (op_eqP hr) ops_eq (qv (pv 11)) (qc pe_str rep_str) (nomark _))
    (qss_one (qs_set (i:=11) sc__law_names.nd rfl (Or.inl rfl) (qc pe_str rep_str)))
    qss_nil)
    (qss_one (qs_app (ps_expr (pe_bm PySem.F.plainAttrs_list PySem.F.slot_list_append PySem.F.type_list_append mt_append (pv 9) (qa_cons (qv (pv 11)) qa_nil)))))))))
    (qss_one (qs_retV (pv 9))))))))))))⟩
theorem ok__law_number (F:DefAt K mg "_law_number" s__law_number ["_law_pen"]) (D__law_next:DefOk P w K mg base "_law_next" 2 ["_law_pen", "_law_most"] (spP K 2 m__law_next)):DefOk P w K mg base "_law_number" 3 ["_law_pen"] (spP K 1 m__law_number):=
  F.ok (k:=2) sc__law_number fun f cdv A outer s H E hr=>⟨_,fun _ _=>rfl,(qss_cons (qs_set (i:=1) sc__law_number.nd rfl (Or.inl rfl) (qcall D__law_next (hr.mono (by omega)) rfl (qa_cons (qv (pv 0)) (qa_cons (qc pe_int rep_int) qa_nil)) (al_cons (al_cons al_nil))))
    (qss_cons (qs_set (i:=2) sc__law_number.nd rfl (Or.inl rfl) (qcall D__law_next (hr.mono (by omega)) rfl (qa_cons (qv (pv 0)) (qa_cons (qop op_pow ops_pow (qc pe_int rep_int) (qc pe_int rep_int)) qa_nil)) (al_cons (al_cons al_nil))))
    (qss_cons (qs_if (qtcmp (op_eqP hr) ops_eq (qv (pv 1)) (qc pe_int rep_int) (nomark _))
    (qss_one (qs_ret (qop op_mod ops_mod (qv (pv 2)) (qc pe_int rep_int))))
    qss_nil)
    (qss_cons (qs_if (qtcmp (op_eqP hr) ops_eq (qv (pv 1)) (qc pe_int rep_int) (nomark _))
    (qss_one (qs_ret (qop op_sub ops_sub (qop op_sub ops_sub (qop op_pow ops_pow (qc pe_int rep_int) (qc pe_int rep_int)) (qc pe_int rep_int)) (qop op_mod ops_mod (qv (pv 2)) (qc pe_int rep_int)))))
    qss_nil)
    (qss_cons (qs_if (qtcmp (op_eqP hr) ops_eq (qv (pv 1)) (qc pe_int rep_int) (nomark _))
    (qss_one (qs_ret (qop op_sub ops_sub (qop op_fdiv ops_fdiv (qop op_pow ops_pow (qc pe_int rep_int) (qc pe_int rep_int)) (qop op_addP ops_add (qc pe_int rep_int) (qop op_mod ops_mod (qv (pv 2)) (qc pe_int rep_int)))) (qc pe_int rep_int))))
    qss_nil)
    (qss_one (qs_ret (qop op_mod ops_mod (qop op_mul ops_mul (qv (pv 2)) (qc pe_int rep_int)) (qop op_pow ops_pow (qc pe_int rep_int) (qc pe_int rep_int))))))))))⟩
theorem ok__law_expression {n:Nat} (F:DefAt K mg "_law_expression" s__law_expression ["_law_pen", "_law_deep", "_law_known"]) (D__law_expression:DefOk P w K mg base "_law_expression" (3 + n) ["_law_pen", "_law_deep", "_law_known"] (spP K 3 (m__law_expression n))) (D__law_next:DefOk P w K mg base "_law_next" 2 ["_law_pen", "_law_most"] (spP K 2 m__law_next)) (D__law_number:DefOk P w K mg base "_law_number" 3 ["_law_pen"] (spP K 1 m__law_number)):DefOk P w K mg base "_law_expression" (3 + n + 1) ["_law_pen", "_law_deep", "_law_known"] (spP K 3 (m__law_expression (n + 1))):=
  F.ok (k:=3 + n) sc__law_expression fun f cdv A outer s H E hr=>⟨_,fun _ _=>rfl,(qss_cons (qs_set (i:=3) sc__law_expression.nd rfl (Or.inl rfl) (qcall D__law_next (hr.mono (by omega)) rfl (qa_cons (qv (pv 0)) (qa_cons (qc pe_int rep_int) qa_nil)) (al_cons (al_cons al_nil))))
    (qss_cons (qs_if (PW.pt (qw_or (qtcmp op_lt ops_lt (qv (pv 1)) (qc pe_int rep_int) (nomark _)) (qw_or1 (qtcmp op_lt ops_lt (qv (pv 3)) (qc pe_int rep_int) (nomark _)))))
    (qss_cons (qs_if (PW.pt (qw_or (qtcmp (op_eqP hr) ops_eq (qop op_mod ops_mod (qv (pv 3)) (qc pe_int rep_int)) (qc pe_int rep_int) (nomark _)) (qw_or1 (qtcmp (op_eqP hr) ops_eq (qix' (qv (pv 2)) (qc pe_int rep_int) (fun _ _=>rfl)) (qlst qa_nil) (nomark _)))))
    (qss_one (qs_ret (qtup (qa_cons (qc pe_str rep_str) (qa_cons (qcall D__law_number (hr.mono (by omega)) rfl (qa_cons (qv (pv 0)) qa_nil) (al_cons al_nil)) qa_nil)))))
    qss_nil)
    (qss_one (qs_ret (qtup (qa_cons (qc pe_str rep_str) (qa_cons (qix' (qix' (qv (pv 2)) (qc pe_int rep_int) (fun _ _=>rfl)) (qcall D__law_next (hr.mono (by omega)) rfl (qa_cons (qv (pv 0)) (qa_cons (qcallB call_len cs_len (pe_callB call_len (by rfl) (B _ (.tail _ (.tail _ (.tail _ (.tail _ (.head _)))))) PySem.boot_len (qa_cons (qix' (qv (pv 2)) (qc pe_int rep_int) (fun _ _=>rfl)) qa_nil))) qa_nil)) (al_cons (al_cons al_nil))) (fun _ _=>rfl)) qa_nil))))))
    qss_nil)
    (qss_cons (qs_set (i:=4) sc__law_expression.nd rfl (Or.inl rfl) (qcall D__law_expression (hr.mono (by omega)) rfl (qa_cons (qv (pv 0)) (qa_cons (qop op_sub ops_sub (qv (pv 1)) (qc pe_int rep_int)) (qa_cons (qv (pv 2)) qa_nil))) (al_cons (al_cons (al_cons al_nil)))))
    (qss_cons (qs_if (PW.pt (qw_and (qtcmp op_lt ops_lt (qv (pv 3)) (qc pe_int rep_int) (nomark _)) (qw_and1 (qtcmp (op_neP hr) ops_ne (qix' (qv (pv 2)) (qc pe_int rep_int) (fun _ _=>rfl)) (qlst qa_nil) (nomark _)))))
    (qss_one (qs_ret (qtup (qa_cons (qc pe_str rep_str) (qa_cons (qix' (qix' (qv (pv 2)) (qc pe_int rep_int) (fun _ _=>rfl)) (qcall D__law_next (hr.mono (by omega)) rfl (qa_cons (qv (pv 0)) (qa_cons (qcallB call_len cs_len (pe_callB call_len (by rfl) (B _ (.tail _ (.tail _ (.tail _ (.tail _ (.head _)))))) PySem.boot_len (qa_cons (qix' (qv (pv 2)) (qc pe_int rep_int) (fun _ _=>rfl)) qa_nil))) qa_nil)) (al_cons (al_cons al_nil))) (fun _ _=>rfl)) (qa_cons (qv (pv 4)) qa_nil))))))
    qss_nil)
    (qss_cons (qs_set (i:=5) sc__law_expression.nd rfl (Or.inl rfl) (qcall D__law_expression (hr.mono (by omega)) rfl (qa_cons (qv (pv 0)) (qa_cons (qcallB (call_min2 rfl) cs_min (pe_callB (call_min2 rfl) (by rfl) (B _ (.tail _ (.tail _ (.tail _ (.tail _ (.tail _ (.tail _ (.tail _ (.head _))))))))) (by kernel_rfl) (qa_cons (qop op_sub ops_sub (qv (pv 1)) (qc pe_int rep_int)) (qa_cons (qc pe_int rep_int) qa_nil)))) (qa_cons (qv (pv 2)) qa_nil))) (al_cons (al_cons (al_cons al_nil)))))
    (qss_cons (qs_set (i:=6) sc__law_expression.nd rfl (Or.inl rfl) (qix' (qc pe_str rep_str) (qcall D__law_next (hr.mono (by omega)) rfl (qa_cons (qv (pv 0)) (qa_cons (qc pe_int rep_int) qa_nil)) (al_cons (al_cons al_nil))) (fun _ _=>rfl)))
    (qss_cons (qs_if (qtcmp (op_eqP hr) ops_eq (qop op_mod ops_mod (qv (pv 3)) (qc pe_int rep_int)) (qc pe_int rep_int) (nomark _))
    (qss_one (qs_ret (qtup (qa_cons (qv (pv 6)) (qa_cons (qv (pv 5)) (qa_cons (qv (pv 4)) qa_nil))))))
    qss_nil)
    (qss_one (qs_ret (qtup (qa_cons (qv (pv 6)) (qa_cons (qv (pv 4)) (qa_cons (qv (pv 5)) qa_nil)))))))))))))⟩
theorem all__law_expression (F__law_expression:DefAt K mg "_law_expression" s__law_expression ["_law_pen", "_law_deep", "_law_known"]) (D__law_next:DefOk P w K mg base "_law_next" 2 ["_law_pen", "_law_most"] (spP K 2 m__law_next)) (D__law_number:DefOk P w K mg base "_law_number" 3 ["_law_pen"] (spP K 1 m__law_number)):∀ n:Nat,DefOk P w K mg base "_law_expression" (3 + n) ["_law_pen", "_law_deep", "_law_known"] (spP K 3 (m__law_expression n))
  | 0=>ok_zero F__law_expression
  | n + 1=>by
    have ih:=all__law_expression F__law_expression D__law_next D__law_number n
    exact ok__law_expression B F__law_expression ih D__law_next D__law_number
theorem ok__law_part (F:DefAt K mg "_law_part" s__law_part ["_law_pen", "_law_known"]) (D__law_expression:DefOk P w K mg base "_law_expression" 43 ["_law_pen", "_law_deep", "_law_known"] (spP K 3 (m__law_expression 40))) (D__law_next:DefOk P w K mg base "_law_next" 2 ["_law_pen", "_law_most"] (spP K 2 m__law_next)):DefOk P w K mg base "_law_part" 44 ["_law_pen", "_law_known"] (spP K 2 m__law_part):=
  F.ok (k:=43) sc__law_part fun f cdv A outer s H E hr=>⟨_,fun _ _=>rfl,(qss_one (qs_ret (qcall D__law_expression (hr.mono (by omega)) rfl (qa_cons (qv (pv 0)) (qa_cons (qop op_addP ops_add (qop op_addP ops_add (qc pe_int rep_int) (qcall D__law_next (hr.mono (by omega)) rfl (qa_cons (qv (pv 0)) (qa_cons (qc pe_int rep_int) qa_nil)) (al_cons (al_cons al_nil)))) (qop op_mul ops_mul (qc pe_int rep_int) (qop op_fdiv ops_fdiv (qcall D__law_next (hr.mono (by omega)) rfl (qa_cons (qv (pv 0)) (qa_cons (qc pe_int rep_int) qa_nil)) (al_cons (al_cons al_nil))) (qc pe_int rep_int)))) (qa_cons (qv (pv 1)) qa_nil))) (al_cons (al_cons (al_cons al_nil))))))⟩
theorem ok__law_rows {n:Nat} (F:DefAt K mg "_law_rows" s__law_rows ["_law_pen", "_law_deep", "_law_known", "_law_most"]) (D__law_next:DefOk P w K mg base "_law_next" 2 ["_law_pen", "_law_most"] (spP K 2 m__law_next)) (D__law_row:DefOk P w K mg base "_law_row" (44 + n) ["_law_pen", "_law_deep", "_law_known"] (spP K 3 (m__law_row n))):DefOk P w K mg base "_law_rows" (44 + n + 1) ["_law_pen", "_law_deep", "_law_known", "_law_most"] (spP K 4 (m__law_rows (n + 1))):=
  F.ok (k:=44 + n) sc__law_rows fun f cdv A outer s H E hr=>⟨_,fun _ _=>rfl,(qss_cons (qs_set (i:=4) sc__law_rows.nd rfl (Or.inl rfl) (qlst qa_nil))
    (qss_cons (qs_for PassesOwn.never rfl (qi_range1 rfl (B _ (.tail _ (.tail _ (.tail _ (.tail _ (.tail _ (.tail _ (.tail _ (.tail _ (.head _)))))))))) (qa_cons (qcall D__law_next (hr.mono (by omega)) rfl (qa_cons (qv (pv 0)) (qa_cons (qv (pv 3)) qa_nil)) (al_cons (al_cons al_nil))) qa_nil)) (pg_name (i:=5) sc__law_rows.nd rfl (Or.inl rfl)) gs_name
    (qss_one (qs_if (qtcmp op_lt ops_lt (qix' (qv (pv 0)) (qc pe_int rep_int) (fun _ _=>rfl)) (qix' (qv (pv 0)) (qc pe_int rep_int) (fun _ _=>rfl)) (nomark _))
    (qss_one (qs_app (ps_expr (pe_bm PySem.F.plainAttrs_list PySem.F.slot_list_append PySem.F.type_list_append mt_append (pv 4) (qa_cons (qcall D__law_row (hr.mono (by omega)) rfl (qa_cons (qv (pv 0)) (qa_cons (qv (pv 1)) (qa_cons (qv (pv 2)) qa_nil))) (al_cons (al_cons (al_cons al_nil)))) qa_nil)))))
    qss_nil)))
    (qss_one (qs_retV (pv 4)))))⟩
theorem ok__law_row {n:Nat} (F:DefAt K mg "_law_row" s__law_row ["_law_pen", "_law_deep", "_law_known"]) (D__law_expression:DefOk P w K mg base "_law_expression" 43 ["_law_pen", "_law_deep", "_law_known"] (spP K 3 (m__law_expression 40))) (D__law_next:DefOk P w K mg base "_law_next" 2 ["_law_pen", "_law_most"] (spP K 2 m__law_next)) (D__law_part:DefOk P w K mg base "_law_part" 44 ["_law_pen", "_law_known"] (spP K 2 m__law_part)) (D__law_rows:DefOk P w K mg base "_law_rows" (44 + n) ["_law_pen", "_law_deep", "_law_known", "_law_most"] (spP K 4 (m__law_rows n))):DefOk P w K mg base "_law_row" (44 + n + 1) ["_law_pen", "_law_deep", "_law_known"] (spP K 3 (m__law_row (n + 1))):=
  F.ok (k:=44 + n) sc__law_row fun f cdv A outer s H E hr=>⟨_,fun _ _=>rfl,(qss_cons (qs_setC' (ps_asg (qop op_addP ops_add (qix' (qv (pv 0)) (qc pe_int rep_int) (fun _ _=>rfl)) (qc pe_int rep_int)) (pg_sub (qv (pv 0)) (qc pe_int rep_int) set_list)))
    (qss_cons (qs_set (i:=3) sc__law_row.nd rfl (Or.inl rfl) (qcall D__law_next (hr.mono (by omega)) rfl (qa_cons (qv (pv 0)) (qa_cons (qc pe_int rep_int) qa_nil)) (al_cons (al_cons al_nil))))
    (qss_cons (qs_set (i:=4) sc__law_row.nd rfl (Or.inl rfl) (qcall D__law_part (hr.mono (by omega)) rfl (qa_cons (qv (pv 0)) (qa_cons (qv (pv 2)) qa_nil)) (al_cons (al_cons al_nil))))
    (qss_cons (qs_if (PW.pt (qw_and (qtcmp op_lt ops_lt (qv (pv 1)) (qc pe_int rep_int) (nomark _)) (qw_and1 (qtcmp op_lt ops_lt (qv (pv 3)) (qc pe_int rep_int) (nomark _)))))
    (qss_cons (qs_set (i:=5) sc__law_row.nd rfl (Or.inl rfl) (qcall D__law_rows (hr.mono (by omega)) rfl (qa_cons (qv (pv 0)) (qa_cons (qop op_addP ops_add (qv (pv 1)) (qc pe_int rep_int)) (qa_cons (qv (pv 2)) (qa_cons (qc pe_int rep_int) qa_nil)))) (al_cons (al_cons (al_cons (al_cons al_nil))))))
    (qss_one (qs_ret (qtup (qa_cons (qc pe_str rep_str) (qa_cons (qv (pv 4)) (qa_cons (qv (pv 5)) (qa_cons (qcall D__law_rows (hr.mono (by omega)) rfl (qa_cons (qv (pv 0)) (qa_cons (qop op_addP ops_add (qv (pv 1)) (qc pe_int rep_int)) (qa_cons (qv (pv 2)) (qa_cons (qc pe_int rep_int) qa_nil)))) (al_cons (al_cons (al_cons (al_cons al_nil))))) qa_nil))))))))
    qss_nil)
    (qss_cons (qs_if (PW.pt (qw_and (qtcmp op_lt ops_lt (qv (pv 1)) (qc pe_int rep_int) (nomark _)) (qw_and1 (qtcmp op_lt ops_lt (qv (pv 3)) (qc pe_int rep_int) (nomark _)))))
    (qss_one (qs_ret (qtup (qa_cons (qc pe_str rep_str) (qa_cons (qv (pv 4)) (qa_cons (qcall D__law_rows (hr.mono (by omega)) rfl (qa_cons (qv (pv 0)) (qa_cons (qop op_addP ops_add (qv (pv 1)) (qc pe_int rep_int)) (qa_cons (qv (pv 2)) (qa_cons (qc pe_int rep_int) qa_nil)))) (al_cons (al_cons (al_cons (al_cons al_nil))))) qa_nil))))))
    qss_nil)
    (qss_cons (qs_if (PW.pt (qw_and (qtcmp op_lt ops_lt (qv (pv 3)) (qc pe_int rep_int) (nomark _)) (qw_and1 (qtcmp (op_neP hr) ops_ne (qix' (qv (pv 2)) (qc pe_int rep_int) (fun _ _=>rfl)) (qlst qa_nil) (nomark _)))))
    (qss_one (qs_ret (qtup (qa_cons (qc pe_str rep_str) (qa_cons (qix' (qix' (qv (pv 2)) (qc pe_int rep_int) (fun _ _=>rfl)) (qcall D__law_next (hr.mono (by omega)) rfl (qa_cons (qv (pv 0)) (qa_cons (qcallB call_len cs_len (pe_callB call_len (by rfl) (B _ (.tail _ (.tail _ (.tail _ (.tail _ (.head _)))))) PySem.boot_len (qa_cons (qix' (qv (pv 2)) (qc pe_int rep_int) (fun _ _=>rfl)) qa_nil))) qa_nil)) (al_cons (al_cons al_nil))) (fun _ _=>rfl)) (qa_cons (qcall D__law_expression (hr.mono (by omega)) rfl (qa_cons (qv (pv 0)) (qa_cons (qc pe_int rep_int) (qa_cons (qv (pv 2)) qa_nil))) (al_cons (al_cons (al_cons al_nil)))) (qa_cons (qv (pv 4)) qa_nil)))))))
    qss_nil)
    (qss_cons (qs_set (i:=6) sc__law_row.nd rfl (Or.inl rfl) (qix' (qix' (qv (pv 2)) (qc pe_int rep_int) (fun _ _=>rfl)) (qcall D__law_next (hr.mono (by omega)) rfl (qa_cons (qv (pv 0)) (qa_cons (qcallB call_len cs_len (pe_callB call_len (by rfl) (B _ (.tail _ (.tail _ (.tail _ (.tail _ (.head _)))))) PySem.boot_len (qa_cons (qix' (qv (pv 2)) (qc pe_int rep_int) (fun _ _=>rfl)) qa_nil))) qa_nil)) (al_cons (al_cons al_nil))) (fun _ _=>rfl)))
    (qss_cons (qs_if (PW.pt (qw_and (qtcmp (op_eqP hr) ops_eq (qv (pv 3)) (qc pe_int rep_int) (nomark _)) (qw_and1 (qtcmp (op_neP hr) ops_ne (qix' (qv (pv 2)) (qc pe_int rep_int) (fun _ _=>rfl)) (qlst qa_nil) (nomark _)))))
    (qss_one (qs_ret (qtup (qa_cons (qc pe_str rep_str) (qa_cons (qv (pv 6)) (qa_cons (qv (pv 4)) (qa_cons (qix' (qix' (qv (pv 2)) (qc pe_int rep_int) (fun _ _=>rfl)) (qcall D__law_next (hr.mono (by omega)) rfl (qa_cons (qv (pv 0)) (qa_cons (qcallB call_len cs_len (pe_callB call_len (by rfl) (B _ (.tail _ (.tail _ (.tail _ (.tail _ (.head _)))))) PySem.boot_len (qa_cons (qix' (qv (pv 2)) (qc pe_int rep_int) (fun _ _=>rfl)) qa_nil))) qa_nil)) (al_cons (al_cons al_nil))) (fun _ _=>rfl)) qa_nil)))))))
    qss_nil)
    (qss_cons (qs_if (PW.pt (qw_and (qtcmp op_gt ops_gt (qv (pv 3)) (qc pe_int rep_int) (nomark _)) (qw_and1 (qtcmp (op_neP hr) ops_ne (qix' (qv (pv 2)) (qc pe_int rep_int) (fun _ _=>rfl)) (qlst qa_nil) (nomark _)))))
    (qss_cons (qs_asg (qix' (qix' (qv (pv 2)) (qc pe_int rep_int) (fun _ _=>rfl)) (qcall D__law_next (hr.mono (by omega)) rfl (qa_cons (qv (pv 0)) (qa_cons (qcallB call_len cs_len (pe_callB call_len (by rfl) (B _ (.tail _ (.tail _ (.tail _ (.tail _ (.head _)))))) PySem.boot_len (qa_cons (qix' (qv (pv 2)) (qc pe_int rep_int) (fun _ _=>rfl)) qa_nil))) qa_nil)) (al_cons (al_cons al_nil))) (fun _ _=>rfl)) (pg_seq rfl (pgs_cons (pg_name (i:=7) sc__law_row.nd rfl (Or.inl rfl)) (pgs_cons (pg_name (i:=8) sc__law_row.nd rfl (Or.inl rfl)) pgs_nil))) (gs_seq (gs_cons gs_name (gs_cons gs_name gs_nil))))
    (qss_one (qs_ret (qtup (qa_cons (qc pe_str rep_str) (qa_cons (qv (pv 6)) (qa_cons (qv (pv 7)) (qa_cons (qcomp ["_law_k"] ["_law_pen", "_law_known"] [0,2] rfl (cs_mk (defScope s__law_row) rfl rfl (by decide +kernel) (by decide +kernel) (by decide +kernel) (by decide +kernel) rfl (by decide +kernel)) (qi_range1 rfl (B _ (.tail _ (.tail _ (.tail _ (.tail _ (.tail _ (.tail _ (.tail _ (.tail _ (.head _)))))))))) (qa_cons (qv (pv 8)) qa_nil)) (fun _ _ _ _=>(pg_name (i:=0) (show (["_law_k", "_law_pen", "_law_known"]:List Str).Nodup from by decide +kernel) rfl (Or.inl rfl))) gs_name (fun _ _ _ _=>qifs_nil) (fun _ _ _ _=>(qcall D__law_expression (hr.mono (by omega)) rfl (qa_cons (qv (pv 1)) (qa_cons (qc pe_int rep_int) (qa_cons (qv (pv 2)) qa_nil))) (al_cons (al_cons (al_cons al_nil)))))) qa_nil))))))))
    qss_nil)
    (qss_one (qs_ret (qtup (qa_cons (qc pe_str rep_str) (qa_cons (qv (pv 6)) (qa_cons (qv (pv 4)) qa_nil)))))))))))))))⟩
theorem all__law_rows (F__law_rows:DefAt K mg "_law_rows" s__law_rows ["_law_pen", "_law_deep", "_law_known", "_law_most"]) (F__law_row:DefAt K mg "_law_row" s__law_row ["_law_pen", "_law_deep", "_law_known"]) (D__law_expression:DefOk P w K mg base "_law_expression" 43 ["_law_pen", "_law_deep", "_law_known"] (spP K 3 (m__law_expression 40))) (D__law_next:DefOk P w K mg base "_law_next" 2 ["_law_pen", "_law_most"] (spP K 2 m__law_next)) (D__law_part:DefOk P w K mg base "_law_part" 44 ["_law_pen", "_law_known"] (spP K 2 m__law_part)):∀ n:Nat,DefOk P w K mg base "_law_rows" (44 + n) ["_law_pen", "_law_deep", "_law_known", "_law_most"] (spP K 4 (m__law_rows n))/\DefOk P w K mg base "_law_row" (44 + n) ["_law_pen", "_law_deep", "_law_known"] (spP K 3 (m__law_row n))
  | 0=>⟨ok_zero F__law_rows,ok_zero F__law_row⟩
  | n + 1=>by
    have ih:=all__law_rows F__law_rows F__law_row D__law_expression D__law_next D__law_part n
    exact ⟨ok__law_rows B F__law_rows D__law_next ih.2,ok__law_row B F__law_row D__law_expression D__law_next D__law_part ih.1⟩
theorem ok__law_rank (F:DefAt K mg "_law_rank" s__law_rank ["_law_pen", "_law_ranks"]) (D__law_next:DefOk P w K mg base "_law_next" 2 ["_law_pen", "_law_most"] (spP K 2 m__law_next)):DefOk P w K mg base "_law_rank" 3 ["_law_pen", "_law_ranks"] (spP K 2 m__law_rank):=
  F.ok (k:=2) sc__law_rank fun f cdv A outer s H E hr=>⟨_,fun _ _=>rfl,(qss_cons (qs_if (qtcmp (op_eqP hr) ops_eq (qcall D__law_next (hr.mono (by omega)) rfl (qa_cons (qv (pv 0)) (qa_cons (qc pe_int rep_int) qa_nil)) (al_cons (al_cons al_nil))) (qc pe_int rep_int) (nomark _))
    (qss_one (qs_ret (qc pe_non rep_non)))
    qss_nil)
    (qss_one (qs_ret (qix' (qv (pv 1)) (qcall D__law_next (hr.mono (by omega)) rfl (qa_cons (qv (pv 0)) (qa_cons (qcallB call_len cs_len (pe_callB call_len (by rfl) (B _ (.tail _ (.tail _ (.tail _ (.tail _ (.head _)))))) PySem.boot_len (qa_cons (qv (pv 1)) qa_nil))) qa_nil)) (al_cons (al_cons al_nil))) (fun _ _=>rfl)))))⟩
theorem ok__law_counts (F:DefAt K mg "_law_counts" s__law_counts ["_law_pen"]) (D__law_next:DefOk P w K mg base "_law_next" 2 ["_law_pen", "_law_most"] (spP K 2 m__law_next)):DefOk P w K mg base "_law_counts" 3 ["_law_pen"] (spP K 1 m__law_counts):=
  F.ok (k:=2) sc__law_counts fun f cdv A outer s H E hr=>⟨_,fun _ _=>rfl,(qss_cons (qs_set (i:=1) sc__law_counts.nd rfl (Or.inl rfl) (qcall D__law_next (hr.mono (by omega)) rfl (qa_cons (qv (pv 0)) (qa_cons (qc pe_int rep_int) qa_nil)) (al_cons (al_cons al_nil))))
    (qss_cons (qs_if (qtcmp (op_eqP hr) ops_eq (qv (pv 1)) (qc pe_int rep_int) (nomark _))
    (qss_one (qs_ret (qcomp ["_law_k"] ["_law_pen"] [0] rfl (cs_mk (defScope s__law_counts) rfl rfl (by decide +kernel) (by decide +kernel) (by decide +kernel) (by decide +kernel) rfl (by decide +kernel)) (qi_range1 rfl (B _ (.tail _ (.tail _ (.tail _ (.tail _ (.tail _ (.tail _ (.tail _ (.tail _ (.head _)))))))))) (qa_cons (qc pe_int rep_int) qa_nil)) (fun _ _ _ _=>(pg_name (i:=0) (show (["_law_k", "_law_pen"]:List Str).Nodup from by decide +kernel) rfl (Or.inl rfl))) gs_name (fun _ _ _ _=>qifs_nil) (fun _ _ _ _=>(qcall D__law_next (hr.mono (by omega)) rfl (qa_cons (qv (pv 1)) (qa_cons (qc pe_int rep_int) qa_nil)) (al_cons (al_cons al_nil)))))))
    qss_nil)
    (qss_cons (qs_if (qtcmp (op_eqP hr) ops_eq (qv (pv 1)) (qc pe_int rep_int) (nomark _))
    (qss_one (qs_ret (qlst (qa_cons (qc pe_int rep_int) (qa_cons (qcall D__law_next (hr.mono (by omega)) rfl (qa_cons (qv (pv 0)) (qa_cons (qc pe_int rep_int) qa_nil)) (al_cons (al_cons al_nil))) qa_nil)))))
    qss_nil)
    (qss_one (qs_ret (qcomp ["_law_k"] ["_law_pen"] [0] rfl (cs_mk (defScope s__law_counts) rfl rfl (by decide +kernel) (by decide +kernel) (by decide +kernel) (by decide +kernel) rfl (by decide +kernel)) (qi_range1 rfl (B _ (.tail _ (.tail _ (.tail _ (.tail _ (.tail _ (.tail _ (.tail _ (.tail _ (.head _)))))))))) (qa_cons (qcall D__law_next (hr.mono (by omega)) rfl (qa_cons (qv (pv 0)) (qa_cons (qc pe_int rep_int) qa_nil)) (al_cons (al_cons al_nil))) qa_nil)) (fun _ _ _ _=>(pg_name (i:=0) (show (["_law_k", "_law_pen"]:List Str).Nodup from by decide +kernel) rfl (Or.inl rfl))) gs_name (fun _ _ _ _=>qifs_nil) (fun _ _ _ _=>(qcall D__law_next (hr.mono (by omega)) rfl (qa_cons (qv (pv 1)) (qa_cons (qc pe_int rep_int) qa_nil)) (al_cons (al_cons al_nil))))))))))⟩
theorem ok__law_heads (F:DefAt K mg "_law_heads" s__law_heads ["_law_pen", "_law_names_here", "_law_at"]) (D__law_counts:DefOk P w K mg base "_law_counts" 3 ["_law_pen"] (spP K 1 m__law_counts)):DefOk P w K mg base "_law_heads" 4 ["_law_pen", "_law_names_here", "_law_at"] (spP K 3 m__law_heads):=
  F.ok (k:=3) sc__law_heads fun f cdv A outer s H E hr=>⟨_,fun _ _=>rfl,(qss_cons (qs_set (i:=3) sc__law_heads.nd rfl (Or.inl rfl) (qlst qa_nil))
    (qss_cons (qs_for PassesOwn.never rfl (qi_any (qcall D__law_counts (hr.mono (by omega)) rfl (qa_cons (qv (pv 0)) qa_nil) (al_cons al_nil))) (pg_name (i:=4) sc__law_heads.nd rfl (Or.inl rfl)) gs_name
    (qss_cons (qs_app (ps_expr (pe_bm PySem.F.plainAttrs_list PySem.F.slot_list_append PySem.F.type_list_append mt_append (pv 3) (qa_cons (qtup (qa_cons (qix' (qv (pv 1)) (qv (pv 2)) (fun _ _=>rfl)) (qa_cons (qslicex (qv (pv 1)) (qo_some (qop op_addP ops_add (qv (pv 2)) (qc pe_int rep_int))) (qo_some (qop op_addP ops_add (qop op_addP ops_add (qv (pv 2)) (qc pe_int rep_int)) (qv (pv 4))))) qa_nil))) qa_nil))))
    (qss_one (qs_set (i:=2) sc__law_heads.nd rfl (Or.inl rfl) (qop op_addP ops_add (qop op_addP ops_add (qv (pv 2)) (qc pe_int rep_int)) (qv (pv 4)))))))
    (qss_one (qs_retV (pv 3)))))⟩
theorem ok__law_program (F:DefAt K mg "_law_program" s__law_program ["_law_pen", "_law_ranks"]) (D__law_heads:DefOk P w K mg base "_law_heads" 4 ["_law_pen", "_law_names_here", "_law_at"] (spP K 3 m__law_heads)) (D__law_names:DefOk P w K mg base "_law_names" 3 ["_law_pen", "_law_total"] (spP K 2 m__law_names)) (D__law_next:DefOk P w K mg base "_law_next" 2 ["_law_pen", "_law_most"] (spP K 2 m__law_next)) (D__law_rank:DefOk P w K mg base "_law_rank" 3 ["_law_pen", "_law_ranks"] (spP K 2 m__law_rank)) (D__law_rows:DefOk P w K mg base "_law_rows" 84 ["_law_pen", "_law_deep", "_law_known", "_law_most"] (spP K 4 (m__law_rows 40))):DefOk P w K mg base "_law_program" 85 ["_law_pen", "_law_ranks"] (spP K 2 m__law_program):=
  F.ok (k:=84) sc__law_program fun f cdv A outer s H E hr=>⟨_,fun _ _=>rfl,(qss_cons (qs_set (i:=2) sc__law_program.nd rfl (Or.inl rfl) (qcall D__law_names (hr.mono (by omega)) rfl (qa_cons (qv (pv 0)) (qa_cons (qc pe_int rep_int) qa_nil)) (al_cons (al_cons al_nil))))
    (qss_cons (qs_set (i:=3) sc__law_program.nd rfl (Or.inl rfl) (qlst (qa_cons (qtup (qa_cons (qix' (qv (pv 2)) (qc pe_int rep_int) (fun _ _=>rfl)) (qa_cons (qc pe_int rep_int) (qa_cons (qcall D__law_rank (hr.mono (by omega)) rfl (qa_cons (qv (pv 0)) (qa_cons (qv (pv 1)) qa_nil)) (al_cons (al_cons al_nil))) qa_nil)))) qa_nil)))
    (qss_cons (qs_for PassesOwn.never rfl (qi_range1 rfl (B _ (.tail _ (.tail _ (.tail _ (.tail _ (.tail _ (.tail _ (.tail _ (.tail _ (.head _)))))))))) (qa_cons (qcall D__law_next (hr.mono (by omega)) rfl (qa_cons (qv (pv 0)) (qa_cons (qix' (qlst (qa_cons (qc pe_int rep_int) (qa_cons (qc pe_int rep_int) (qa_cons (qc pe_int rep_int) (qa_cons (qc pe_int rep_int) qa_nil))))) (qcall D__law_next (hr.mono (by omega)) rfl (qa_cons (qv (pv 0)) (qa_cons (qc pe_int rep_int) qa_nil)) (al_cons (al_cons al_nil))) (fun _ _=>rfl)) qa_nil)) (al_cons (al_cons al_nil))) qa_nil)) (pg_name (i:=4) sc__law_program.nd rfl (Or.inl rfl)) gs_name
    (qss_one (qs_app (ps_expr (pe_bm PySem.F.plainAttrs_list PySem.F.slot_list_append PySem.F.type_list_append mt_append (pv 3) (qa_cons (qtup (qa_cons (qix' (qv (pv 2)) (qop op_addP ops_add (qc pe_int rep_int) (qv (pv 4))) (fun _ _=>rfl)) (qa_cons (qcallB (call_max2 rfl) cs_max (pe_callB (call_max2 rfl) (by rfl) (B _ (.tail _ (.tail _ (.tail _ (.tail _ (.tail _ (.tail _ (.head _)))))))) (by kernel_rfl) (qa_cons (qc pe_int rep_int) (qa_cons (qop op_sub ops_sub (qcall D__law_next (hr.mono (by omega)) rfl (qa_cons (qv (pv 0)) (qa_cons (qc pe_int rep_int) qa_nil)) (al_cons (al_cons al_nil))) (qc pe_int rep_int)) qa_nil)))) (qa_cons (qcall D__law_rank (hr.mono (by omega)) rfl (qa_cons (qv (pv 0)) (qa_cons (qv (pv 1)) qa_nil)) (al_cons (al_cons al_nil))) qa_nil)))) qa_nil))))))
    (qss_cons (qs_set (i:=5) sc__law_program.nd rfl (Or.inl rfl) (qlst qa_nil))
    (qss_cons (qs_for PassesOwn.never rfl (qi_range1 rfl (B _ (.tail _ (.tail _ (.tail _ (.tail _ (.tail _ (.tail _ (.tail _ (.tail _ (.head _)))))))))) (qa_cons (qcall D__law_next (hr.mono (by omega)) rfl (qa_cons (qv (pv 0)) (qa_cons (qix' (qlst (qa_cons (qc pe_int rep_int) (qa_cons (qc pe_int rep_int) (qa_cons (qc pe_int rep_int) qa_nil)))) (qcall D__law_next (hr.mono (by omega)) rfl (qa_cons (qv (pv 0)) (qa_cons (qc pe_int rep_int) qa_nil)) (al_cons (al_cons al_nil))) (fun _ _=>rfl)) qa_nil)) (al_cons (al_cons al_nil))) qa_nil)) (pg_name (i:=4) sc__law_program.nd rfl (Or.inl rfl)) gs_name
    (qss_cons (qs_set (i:=6) sc__law_program.nd rfl (Or.inl rfl) (qix' (qv (pv 1)) (qcall D__law_next (hr.mono (by omega)) rfl (qa_cons (qv (pv 0)) (qa_cons (qcallB call_len cs_len (pe_callB call_len (by rfl) (B _ (.tail _ (.tail _ (.tail _ (.tail _ (.head _)))))) PySem.boot_len (qa_cons (qv (pv 1)) qa_nil))) qa_nil)) (al_cons (al_cons al_nil))) (fun _ _=>rfl)))
    (qss_one (qs_app (ps_expr (pe_bm PySem.F.plainAttrs_list PySem.F.slot_list_append PySem.F.type_list_append mt_append (pv 5) (qa_cons (qtup (qa_cons (qix' (qv (pv 2)) (qop op_mod ops_mod (qop op_mul ops_mul (qc pe_int rep_int) (qv (pv 4))) (qc pe_int rep_int)) (fun _ _=>rfl)) (qa_cons (qv (pv 6)) (qa_cons (qix' (qv (pv 1)) (qcall D__law_next (hr.mono (by omega)) rfl (qa_cons (qv (pv 0)) (qa_cons (qcallB call_len cs_len (pe_callB call_len (by rfl) (B _ (.tail _ (.tail _ (.tail _ (.tail _ (.head _)))))) PySem.boot_len (qa_cons (qv (pv 1)) qa_nil))) qa_nil)) (al_cons (al_cons al_nil))) (fun _ _=>rfl)) qa_nil)))) qa_nil)))))))
    (qss_cons (qs_set (i:=7) sc__law_program.nd rfl (Or.inl rfl) (qcall D__law_heads (hr.mono (by omega)) rfl (qa_cons (qv (pv 0)) (qa_cons (qv (pv 2)) (qa_cons (qread (qcallB call_len cs_len (pe_callB call_len (by rfl) (B _ (.tail _ (.tail _ (.tail _ (.tail _ (.head _)))))) PySem.boot_len (qa_cons (qv (pv 3)) qa_nil)))) qa_nil))) (al_cons (al_cons (al_cons al_nil)))))
    (qss_cons (qs_setC (i:=8) ["_law_box"] [] [] sc__law_program.nd rfl rfl rfl (cs_mk (defScope s__law_program) rfl rfl (by decide +kernel) (by decide +kernel) (by decide +kernel) (by decide +kernel) rfl (by decide +kernel)) (qi_any (qv (pv 3))) (fun _ _ _ _=>(pg_name (i:=0) (show (["_law_box"]:List Str).Nodup from by decide +kernel) rfl (Or.inl rfl))) gs_name (fun _ _ _ _=>(qifs_one (qtcmp (op_eqP hr) ops_eq (qix' (qv (pv 0)) (qc pe_int rep_int) (fun _ _=>rfl)) (qc pe_int rep_int) (nomark _)))) (fun _ _ _ _=>(qix' (qv (pv 0)) (qc pe_int rep_int) (fun _ _=>rfl))))
    (qss_cons (qs_setC (i:=9) ["_law_box"] [] [] sc__law_program.nd rfl rfl rfl (cs_mk (defScope s__law_program) rfl rfl (by decide +kernel) (by decide +kernel) (by decide +kernel) (by decide +kernel) rfl (by decide +kernel)) (qi_any (qv (pv 3))) (fun _ _ _ _=>(pg_name (i:=0) (show (["_law_box"]:List Str).Nodup from by decide +kernel) rfl (Or.inl rfl))) gs_name (fun _ _ _ _=>(qifs_one (qtcmp op_gt ops_gt (qix' (qv (pv 0)) (qc pe_int rep_int) (fun _ _=>rfl)) (qc pe_int rep_int) (nomark _)))) (fun _ _ _ _=>(qix' (qv (pv 0)) (qc pe_int rep_int) (fun _ _=>rfl))))
    (qss_cons (qs_setC (i:=10) ["_law_grant"] [] [] sc__law_program.nd rfl rfl rfl (cs_mk (defScope s__law_program) rfl rfl (by decide +kernel) (by decide +kernel) (by decide +kernel) (by decide +kernel) rfl (by decide +kernel)) (qi_any (qv (pv 5))) (fun _ _ _ _=>(pg_name (i:=0) (show (["_law_grant"]:List Str).Nodup from by decide +kernel) rfl (Or.inl rfl))) gs_name (fun _ _ _ _=>qifs_nil) (fun _ _ _ _=>(qix' (qv (pv 0)) (qc pe_int rep_int) (fun _ _=>rfl))))
    (qss_cons (qs_setC (i:=11) ["_law_name", "_law_params"] [] [] sc__law_program.nd rfl rfl rfl (cs_mk (defScope s__law_program) rfl rfl (by decide +kernel) (by decide +kernel) (by decide +kernel) (by decide +kernel) rfl (by decide +kernel)) (qi_any (qv (pv 7))) (fun _ _ _ _=>(pg_seq rfl (pgs_cons (pg_name (i:=0) (show (["_law_name", "_law_params"]:List Str).Nodup from by decide +kernel) rfl (Or.inl rfl)) (pgs_cons (pg_name (i:=1) (show (["_law_name", "_law_params"]:List Str).Nodup from by decide +kernel) rfl (Or.inl rfl)) pgs_nil)))) (gs_seq (gs_cons gs_name (gs_cons gs_name gs_nil))) (fun _ _ _ _=>qifs_nil) (fun _ _ _ _=>(qtup (qa_cons (qv (pv 0)) (qa_cons (qcallB call_len cs_len (pe_callB call_len (by rfl) (B _ (.tail _ (.tail _ (.tail _ (.tail _ (.head _)))))) PySem.boot_len (qa_cons (qv (pv 1)) qa_nil))) qa_nil)))))
    (qss_cons (qs_set (i:=12) sc__law_program.nd rfl (Or.inl rfl) (qlst qa_nil))
    (qss_cons (qs_for PassesOwn.never rfl (qi_any (qv (pv 7))) (pg_seq rfl (pgs_cons (pg_name (i:=13) sc__law_program.nd rfl (Or.inl rfl)) (pgs_cons (pg_name (i:=14) sc__law_program.nd rfl (Or.inl rfl)) pgs_nil))) (gs_seq (gs_cons gs_name (gs_cons gs_name gs_nil)))
    (qss_cons (qs_set (i:=15) sc__law_program.nd rfl (Or.inl rfl) (qcall D__law_rows (hr.mono (by omega)) rfl (qa_cons (qv (pv 0)) (qa_cons (qc pe_int rep_int) (qa_cons (qlst (qa_cons (qop op_addP ops_add (qop op_addP ops_add (qv (pv 8)) (qlst (qa_cons (qv (pv 13)) qa_nil))) (qv (pv 14))) (qa_cons (qv (pv 9)) (qa_cons (qv (pv 10)) (qa_cons (qv (pv 11)) qa_nil))))) (qa_cons (qc pe_int rep_int) qa_nil)))) (al_cons (al_cons (al_cons (al_cons al_nil))))))
    (qss_cons (qs_setC (i:=16) ["_law_param"] ["_law_pen", "_law_ranks"] [0,1] sc__law_program.nd rfl rfl rfl (cs_mk (defScope s__law_program) rfl rfl (by decide +kernel) (by decide +kernel) (by decide +kernel) (by decide +kernel) rfl (by decide +kernel)) (qi_any (qv (pv 14))) (fun _ _ _ _=>(pg_name (i:=0) (show (["_law_param", "_law_pen", "_law_ranks"]:List Str).Nodup from by decide +kernel) rfl (Or.inl rfl))) gs_name (fun _ _ _ _=>qifs_nil) (fun _ _ _ _=>(qtup (qa_cons (qv (pv 0)) (qa_cons (qcall D__law_rank (hr.mono (by omega)) rfl (qa_cons (qv (pv 1)) (qa_cons (qv (pv 2)) qa_nil)) (al_cons (al_cons al_nil))) qa_nil)))))
    (qss_one (qs_app (ps_expr (pe_bm PySem.F.plainAttrs_list PySem.F.slot_list_append PySem.F.type_list_append mt_append (pv 12) (qa_cons (qtup (qa_cons (qv (pv 13)) (qa_cons (qcall D__law_rank (hr.mono (by omega)) rfl (qa_cons (qv (pv 0)) (qa_cons (qv (pv 1)) qa_nil)) (al_cons (al_cons al_nil))) (qa_cons (qv (pv 16)) (qa_cons (qv (pv 15)) qa_nil))))) qa_nil))))))))
    (qss_cons (qs_set (i:=15) sc__law_program.nd rfl (Or.inl rfl) (qcall D__law_rows (hr.mono (by omega)) rfl (qa_cons (qv (pv 0)) (qa_cons (qc pe_int rep_int) (qa_cons (qlst (qa_cons (qv (pv 8)) (qa_cons (qv (pv 9)) (qa_cons (qv (pv 10)) (qa_cons (qv (pv 11)) qa_nil))))) (qa_cons (qix' (qlst (qa_cons (qc pe_int rep_int) (qa_cons (qc pe_int rep_int) (qa_cons (qc pe_int rep_int) qa_nil)))) (qcall D__law_next (hr.mono (by omega)) rfl (qa_cons (qv (pv 0)) (qa_cons (qc pe_int rep_int) qa_nil)) (al_cons (al_cons al_nil))) (fun _ _=>rfl)) qa_nil)))) (al_cons (al_cons (al_cons (al_cons al_nil))))))
    (qss_one (qs_seal (i:=15) (qs_ret (qtup (qa_cons (qv (pv 3)) (qa_cons (qv (pv 5)) (qa_cons (qv (pv 12)) (qa_cons (qv (pv 15)) qa_nil)))))))))))))))))))))⟩
theorem ok__law_lay (F:DefAt K mg "_law_lay" s__law_lay ["_law_rows_here", "_law_where", "_law_told"]):DefOk P w K mg base "_law_lay" 1 ["_law_rows_here", "_law_where", "_law_told"] (spP K 3 m__law_lay):=
  F.ok (k:=0) sc__law_lay fun f cdv A outer s H E hr=>⟨_,fun _ _=>rfl,(qss_cons (qs_setC (i:=3) ["_law_row_here"] [] [] sc__law_lay.nd rfl rfl rfl (cs_mk (defScope s__law_lay) rfl rfl (by decide +kernel) (by decide +kernel) (by decide +kernel) (by decide +kernel) rfl (by decide +kernel)) (qi_rev rfl (B _ (.tail _ (.tail _ (.tail _ (.tail _ (.tail _ (.tail _ (.tail _ (.tail _ (.tail _ (.head _))))))))))) (qa_cons (qv (pv 0)) qa_nil)) (fun _ _ _ _=>(pg_name (i:=0) (show (["_law_row_here"]:List Str).Nodup from by decide +kernel) rfl (Or.inl rfl))) gs_name (fun _ _ _ _=>qifs_nil) (fun _ _ _ _=>(qtup (qa_cons (qv (pv 0)) (qa_cons (qc pe_non rep_non) (qa_cons (qc pe_int rep_int) qa_nil))))))
    (qss_one (qs_while 1000 PassesOwn.never (qtread (qtcmp (op_neY hr) ops_neY (qv (pv 3)) (qlst qa_nil) (nomark _)))
    (qss_cons (qs_asg (qpop (pe_bm0 PySem.F.plainAttrs_list PySem.F.slot_list_pop PySem.F.type_list_pop mt_pop (pv 3))) (pg_seq rfl (pgs_cons (pg_name (i:=4) sc__law_lay.nd rfl (Or.inl rfl)) (pgs_cons (pg_name (i:=5) sc__law_lay.nd rfl (Or.inl rfl)) (pgs_cons (pg_name (i:=6) sc__law_lay.nd rfl (Or.inl rfl)) pgs_nil)))) (gs_seq (gs_cons gs_name (gs_cons gs_name (gs_cons gs_name gs_nil)))))
    (qss_cons (qs_set (i:=7) sc__law_lay.nd rfl (Or.inr rfl) (qlen (pe_callB call_len (by rfl) (B _ (.tail _ (.tail _ (.tail _ (.tail _ (.head _)))))) PySem.boot_len (qa_cons (qv (pv 2)) qa_nil))))
    (qss_cons (qs_appC (ps_expr (pe_bm PySem.F.plainAttrs_list PySem.F.slot_list_append PySem.F.type_list_append mt_append (qv (pv 2)) (qa_cons (qtup (qa_cons (qv (pv 1)) (qa_cons (qv (pv 5)) (qa_cons (qv (pv 6)) (qa_cons (qv (pv 4)) qa_nil))))) qa_nil))))
    (qss_cons (qs_set (i:=8) sc__law_lay.nd rfl (Or.inl rfl) (qlst qa_nil))
    (qss_cons (qs_if (qtcmp (op_inP hr) ops_inT (qiy (hu_of hr) (qv (pv 4)) (qc pe_int rep_int) (fun _ _=>rfl)) (qtup (qa_cons (qc pe_str rep_str) (qa_cons (qc pe_str rep_str) qa_nil))) (by with_unfolding_all rfl))
    (qss_one (qs_setC (i:=8) ["_law_one"] ["_law_number_here"] [7] sc__law_lay.nd rfl rfl rfl (cs_mk (defScope s__law_lay) rfl rfl (by decide +kernel) (by decide +kernel) (by decide +kernel) (by decide +kernel) rfl (by decide +kernel)) (qi_any (qiy (hu_of hr) (qv (pv 4)) (qc pe_int rep_int) (fun _ _=>rfl))) (fun _ _ _ _=>(pg_name (i:=0) (show (["_law_one", "_law_number_here"]:List Str).Nodup from by decide +kernel) rfl (Or.inl rfl))) gs_name (fun _ _ _ _=>qifs_nil) (fun _ _ _ _=>(qtup (qa_cons (qv (pv 0)) (qa_cons (qv (pv 1)) (qa_cons (qc pe_int rep_int) qa_nil)))))))
    qss_nil)
    (qss_cons (qs_if (qtcmp (op_eqY hr) ops_eqY (qiy (hu_of hr) (qv (pv 4)) (qc pe_int rep_int) (fun _ _=>rfl)) (qc pe_str rep_str) (nomark _))
    (qss_one (qs_set (i:=8) sc__law_lay.nd rfl (Or.inl rfl) (qop op_addP ops_add (qv (pv 8)) (qcomp ["_law_one"] ["_law_number_here"] [7] rfl (cs_mk (defScope s__law_lay) rfl rfl (by decide +kernel) (by decide +kernel) (by decide +kernel) (by decide +kernel) rfl (by decide +kernel)) (qi_any (qiy (hu_of hr) (qv (pv 4)) (qc pe_int rep_int) (fun _ _=>rfl))) (fun _ _ _ _=>(pg_name (i:=0) (show (["_law_one", "_law_number_here"]:List Str).Nodup from by decide +kernel) rfl (Or.inl rfl))) gs_name (fun _ _ _ _=>qifs_nil) (fun _ _ _ _=>(qtup (qa_cons (qv (pv 0)) (qa_cons (qv (pv 1)) (qa_cons (qc pe_int rep_int) qa_nil)))))))))
    qss_nil)
    (qss_one (qs_set (i:=3) sc__law_lay.nd rfl (Or.inl rfl) (qop op_addP ops_add (qv (pv 3)) (qcomp ["_law_one"] [] [] rfl (cs_mk (defScope s__law_lay) rfl rfl (by decide +kernel) (by decide +kernel) (by decide +kernel) (by decide +kernel) rfl (by decide +kernel)) (qi_rev rfl (B _ (.tail _ (.tail _ (.tail _ (.tail _ (.tail _ (.tail _ (.tail _ (.tail _ (.tail _ (.head _))))))))))) (qa_cons (qv (pv 8)) qa_nil)) (fun _ _ _ _=>(pg_name (i:=0) (show (["_law_one"]:List Str).Nodup from by decide +kernel) rfl (Or.inl rfl))) gs_name (fun _ _ _ _=>qifs_nil) (fun _ _ _ _=>(qv (pv 0))))))))))))))))⟩
theorem ok__law_laid (F:DefAt K mg "_law_laid" s__law_laid ["_law_program_here"]) (D__law_lay:DefOk P w K mg base "_law_lay" 1 ["_law_rows_here", "_law_where", "_law_told"] (spP K 3 m__law_lay)):DefOk P w K mg base "_law_laid" 2 ["_law_program_here"] (spP K 1 m__law_laid):=
  F.ok (k:=1) sc__law_laid fun f cdv A outer s H E hr=>⟨_,fun _ _=>rfl,(qss_cons (qs_set (i:=1) sc__law_laid.nd rfl (Or.inl rfl) (qcellN (qlst qa_nil)))
    (qss_cons (qs_for PassesOwn.never rfl (qi_any (qix' (qv (pv 0)) (qc pe_int rep_int) (fun _ _=>rfl))) (pg_seq rfl (pgs_cons (pg_name (i:=2) sc__law_laid.nd rfl (Or.inl rfl)) (pgs_cons (pg_name (i:=3) sc__law_laid.nd rfl (Or.inl rfl)) (pgs_cons (pg_name (i:=4) sc__law_laid.nd rfl (Or.inl rfl)) (pgs_cons (pg_name (i:=5) sc__law_laid.nd rfl (Or.inl rfl)) pgs_nil))))) (gs_seq (gs_cons gs_name (gs_cons gs_name (gs_cons gs_name (gs_cons gs_name gs_nil)))))
    (qss_one (qs_expr (qcall D__law_lay (hr.mono (by omega)) rfl (qa_cons (qv (pv 5)) (qa_cons (qv (pv 2)) (qa_cons (qv (pv 1)) qa_nil))) (al_cons (al_cons (al_cons al_nil)))))))
    (qss_cons (qs_expr (qcall D__law_lay (hr.mono (by omega)) rfl (qa_cons (qix' (qv (pv 0)) (qc pe_int rep_int) (fun _ _=>rfl)) (qa_cons (qc pe_str rep_str) (qa_cons (qv (pv 1)) qa_nil))) (al_cons (al_cons (al_cons al_nil)))))
    (qss_one (qs_retV (pv 1))))))⟩
theorem ok__law_same {n:Nat} (F:DefAt K mg "_law_same" s__law_same ["_law_got", "_law_due"]) (D__law_same:DefOk P w K mg base "_law_same" (0 + n) ["_law_got", "_law_due"] (spP K 2 (m__law_same n))):DefOk P w K mg base "_law_same" (0 + n + 1) ["_law_got", "_law_due"] (spP K 2 (m__law_same (n + 1))):=
  F.ok (k:=0 + n) sc__law_same fun f cdv A outer s H E hr=>⟨_,fun _ _=>rfl,(qss_cons (qs_if (qtruth (qisT (pe_callB call_isinstT (by rfl) (B _ (.tail _ (.tail _ (.tail _ (.head _))))) (by kernel_rfl) (pa_cons (qv (pv 1)) (pa_cons (pe_tup (pa_cons (pe_bltn (v:=.ty "list") (u:=.type "list") rfl (B _ (.tail _ (.tail _ (.tail _ (.tail _ (.tail _ (.head _))))))) (by kernel_rfl) rfl) (pa_cons (pe_bltn (v:=.ty "tuple") (u:=.type "tuple") rfl (B _ (.tail _ (.tail _ (.tail _ (.tail _ (.tail _ (.tail _ (.tail _ (.tail _ (.tail _ (.tail _ (.tail _ (.head _))))))))))))) (by kernel_rfl) rfl) pa_nil))) pa_nil)))) (fun _=>rfl))
    (qss_cons (qs_if (PW.pt (qw_or (qt_not (qtruth (qisT (pe_callB call_isinstT (by rfl) (B _ (.tail _ (.tail _ (.tail _ (.head _))))) (by kernel_rfl) (pa_cons (qv (pv 0)) (pa_cons (pe_tup (pa_cons (pe_bltn (v:=.ty "list") (u:=.type "list") rfl (B _ (.tail _ (.tail _ (.tail _ (.tail _ (.tail _ (.head _))))))) (by kernel_rfl) rfl) (pa_cons (pe_bltn (v:=.ty "tuple") (u:=.type "tuple") rfl (B _ (.tail _ (.tail _ (.tail _ (.tail _ (.tail _ (.tail _ (.tail _ (.tail _ (.tail _ (.tail _ (.tail _ (.head _))))))))))))) (by kernel_rfl) rfl) pa_nil))) pa_nil)))) (fun _=>rfl))) (qw_or1 (qtcmp (op_neP hr) ops_ne (qis (pe_callB call_isinst (by rfl) (B _ (.tail _ (.tail _ (.tail _ (.head _))))) (by kernel_rfl) (pa_cons (qv (pv 0)) (pa_cons (pe_bltn (v:=.ty "list") (u:=.type "list") rfl (B _ (.tail _ (.tail _ (.tail _ (.tail _ (.tail _ (.head _))))))) (by kernel_rfl) rfl) pa_nil)))) (qis (pe_callB call_isinst (by rfl) (B _ (.tail _ (.tail _ (.tail _ (.head _))))) (by kernel_rfl) (pa_cons (qv (pv 1)) (pa_cons (pe_bltn (v:=.ty "list") (u:=.type "list") rfl (B _ (.tail _ (.tail _ (.tail _ (.tail _ (.tail _ (.head _))))))) (by kernel_rfl) rfl) pa_nil)))) (nomark _)))))
    (qss_one (qs_ret (qc pe_bl rep_bl)))
    qss_nil)
    (qss_cons (qs_if (qtcmp (op_neP hr) ops_ne (qcallB call_len cs_len (pe_callB call_len (by rfl) (B _ (.tail _ (.tail _ (.tail _ (.tail _ (.head _)))))) PySem.boot_len (qa_cons (qv (pv 0)) qa_nil))) (qcallB call_len cs_len (pe_callB call_len (by rfl) (B _ (.tail _ (.tail _ (.tail _ (.tail _ (.head _)))))) PySem.boot_len (qa_cons (qv (pv 1)) qa_nil))) (nomark _))
    (qss_one (qs_ret (qc pe_bl rep_bl)))
    qss_nil)
    (qss_cons (qs_for PassesOwn.never rfl (qi_zip2 rfl (B _ (.tail _ (.tail _ (.tail _ (.tail _ (.tail _ (.tail _ (.tail _ (.tail _ (.tail _ (.tail _ (.tail _ (.tail _ (.head _)))))))))))))) (qa_cons (qv (pv 0)) (qa_cons (qv (pv 1)) qa_nil))) (pg_seq rfl (pgs_cons (pg_name (i:=2) sc__law_same.nd rfl (Or.inl rfl)) (pgs_cons (pg_name (i:=3) sc__law_same.nd rfl (Or.inl rfl)) pgs_nil))) (gs_seq (gs_cons gs_name (gs_cons gs_name gs_nil)))
    (qss_one (qs_if (qt_not (qtruth (qcall D__law_same (hr.mono (by omega)) rfl (qa_cons (qv (pv 2)) (qa_cons (qv (pv 3)) qa_nil)) (al_cons (al_cons al_nil))) (fun _=>rfl)))
    (qss_one (qs_ret (qc pe_bl rep_bl)))
    qss_nil)))
    (qss_one (qs_ret (qc pe_bl rep_bl))))))
    qss_nil)
    (qss_cons (qs_if (qtcmp op_isN ops_isN (qv (pv 1)) (qc pe_non rep_non) (nomark _))
    (qss_one (qs_ret (qcmp op_isN ops_isN (qv (pv 0)) (qc pe_non rep_non) (nomark _))))
    qss_nil)
    (qss_cons (qs_if (qtruth (qis (pe_callB call_isinst (by rfl) (B _ (.tail _ (.tail _ (.tail _ (.head _))))) (by kernel_rfl) (pa_cons (qv (pv 1)) (pa_cons (pe_bltn (v:=.ty "int") (u:=.type "int") rfl (B _ (.tail _ (.tail _ (.head _)))) (by kernel_rfl) rfl) pa_nil)))) (fun _=>rfl))
    (qss_one (qs_ret (qand (qis (pe_callB call_isinst (by rfl) (B _ (.tail _ (.tail _ (.tail _ (.head _))))) (by kernel_rfl) (pa_cons (qv (pv 0)) (pa_cons (pe_bltn (v:=.ty "int") (u:=.type "int") rfl (B _ (.tail _ (.tail _ (.head _)))) (by kernel_rfl) rfl) pa_nil)))) (qand (qnot (qis (pe_callB call_isinst (by rfl) (B _ (.tail _ (.tail _ (.tail _ (.head _))))) (by kernel_rfl) (pa_cons (qv (pv 0)) (pa_cons (pe_bltn (v:=.ty "bool") (u:=.type "bool") rfl (B _ (.head _)) (by kernel_rfl) rfl) pa_nil))))) (qone (qcmp (op_eqP hr) ops_eq (qv (pv 0)) (qv (pv 1)) (nomark _)))))))
    qss_nil)
    (qss_one (qs_ret (qand (qis (pe_callB call_isinst (by rfl) (B _ (.tail _ (.tail _ (.tail _ (.head _))))) (by kernel_rfl) (pa_cons (qv (pv 0)) (pa_cons (pe_bltn (v:=.ty "str") (u:=.type "str") rfl (B _ (.tail _ (.tail _ (.tail _ (.tail _ (.tail _ (.tail _ (.tail _ (.tail _ (.tail _ (.tail _ (.head _)))))))))))) (by kernel_rfl) rfl) pa_nil)))) (qone (qcmp (op_eqP hr) ops_eq (qv (pv 0)) (qv (pv 1)) (nomark _)))))))))⟩
theorem all__law_same (F__law_same:DefAt K mg "_law_same" s__law_same ["_law_got", "_law_due"]):∀ n:Nat,DefOk P w K mg base "_law_same" (0 + n) ["_law_got", "_law_due"] (spP K 2 (m__law_same n))
  | 0=>ok_zero F__law_same
  | n + 1=>by
    have ih:=all__law_same F__law_same n
    exact ok__law_same B F__law_same ih
theorem ok__law_marked {n:Nat} (F:DefAt K mg "_law_marked" s__law_marked ["_law_row_here"]) (D__law_marked:DefOk P w K mg base "_law_marked" (0 + n) ["_law_row_here"] (spP K 1 (m__law_marked n))):DefOk P w K mg base "_law_marked" (0 + n + 1) ["_law_row_here"] (spP K 1 (m__law_marked (n + 1))):=
  F.ok (k:=0 + n) sc__law_marked fun f cdv A outer s H E hr=>⟨_,fun _ _=>rfl,(qss_cons (qs_if (qtcmp (op_eqP hr) ops_eq (qix' (qv (pv 0)) (qc pe_int rep_int) (fun _ _=>rfl)) (qc pe_str rep_str) (nomark _))
    (qss_one (qs_appC (ps_expr (pe_bm PySem.F.plainAttrs_list PySem.F.slot_list_append PySem.F.type_list_append mt_append (qix' (qv (pv 0)) (qc pe_int rep_int) (fun _ _=>rfl)) (qa_cons (qtup (qa_cons (qc pe_str rep_str) (qa_cons (qc pe_int rep_int) qa_nil))) qa_nil)))))
    qss_nil)
    (qss_one (qs_if (qtcmp (op_inP hr) ops_inT (qix' (qv (pv 0)) (qc pe_int rep_int) (fun _ _=>rfl)) (qtup (qa_cons (qc pe_str rep_str) (qa_cons (qc pe_str rep_str) qa_nil))) (by with_unfolding_all rfl))
    (qss_one (qs_for PassesOwn.never rfl (qi_any (qsliceT (qv (pv 0)) (qo_some (qc pe_int rep_int)) qo_none)) (pg_name (i:=1) sc__law_marked.nd rfl (Or.inl rfl)) gs_name
    (qss_cons (qs_forC PassesOwn.never rfl (qi_cell (qv (pv 1))) (pg_name (i:=2) sc__law_marked.nd rfl (Or.inl rfl)) gs_name
    (qss_one (qs_expr (qcall D__law_marked (hr.mono (by omega)) rfl (qa_cons (qv (pv 2)) qa_nil) (al_cons al_nil)))))
    (qss_one (qs_appC (ps_expr (pe_bm PySem.F.plainAttrs_list PySem.F.slot_list_append PySem.F.type_list_append mt_append (qv (pv 1)) (qa_cons (qtup (qa_cons (qc pe_str rep_str) (qa_cons (qc pe_str rep_str) (qa_cons (qtup (qa_cons (qc pe_str rep_str) (qa_cons (qc pe_int rep_int) qa_nil))) qa_nil)))) qa_nil))))))))
    qss_nil)))⟩
theorem all__law_marked (F__law_marked:DefAt K mg "_law_marked" s__law_marked ["_law_row_here"]):∀ n:Nat,DefOk P w K mg base "_law_marked" (0 + n) ["_law_row_here"] (spP K 1 (m__law_marked n))
  | 0=>ok_zero F__law_marked
  | n + 1=>by
    have ih:=all__law_marked F__law_marked n
    exact ok__law_marked B F__law_marked ih
theorem ok__law_cleaned {n:Nat} (F:DefAt K mg "_law_cleaned" s__law_cleaned ["_law_row_here"]) (D__law_cleaned:DefOk P w K mg base "_law_cleaned" (0 + n) ["_law_row_here"] (spP K 1 (m__law_cleaned n))):DefOk P w K mg base "_law_cleaned" (0 + n + 1) ["_law_row_here"] (spP K 1 (m__law_cleaned (n + 1))):=
  F.ok (k:=0 + n) sc__law_cleaned fun f cdv A outer s H E hr=>⟨_,fun _ _=>rfl,(qss_cons (qs_if (qtcmp (op_eqP hr) ops_eq (qix' (qv (pv 0)) (qc pe_int rep_int) (fun _ _=>rfl)) (qc pe_str rep_str) (nomark _))
    (qss_one (qs_expr (qpopC (pe_bm0 PySem.F.plainAttrs_list PySem.F.slot_list_pop PySem.F.type_list_pop mt_pop (qix' (qv (pv 0)) (qc pe_int rep_int) (fun _ _=>rfl))))))
    qss_nil)
    (qss_one (qs_if (qtcmp (op_inP hr) ops_inT (qix' (qv (pv 0)) (qc pe_int rep_int) (fun _ _=>rfl)) (qtup (qa_cons (qc pe_str rep_str) (qa_cons (qc pe_str rep_str) qa_nil))) (by with_unfolding_all rfl))
    (qss_one (qs_for PassesOwn.never rfl (qi_any (qsliceT (qv (pv 0)) (qo_some (qc pe_int rep_int)) qo_none)) (pg_name (i:=1) sc__law_cleaned.nd rfl (Or.inl rfl)) gs_name
    (qss_cons (qs_expr (qpopC (pe_bm0 PySem.F.plainAttrs_list PySem.F.slot_list_pop PySem.F.type_list_pop mt_pop (qv (pv 1)))))
    (qss_one (qs_forC PassesOwn.never rfl (qi_cell (qv (pv 1))) (pg_name (i:=2) sc__law_cleaned.nd rfl (Or.inl rfl)) gs_name
    (qss_one (qs_expr (qcall D__law_cleaned (hr.mono (by omega)) rfl (qa_cons (qv (pv 2)) qa_nil) (al_cons al_nil)))))))))
    qss_nil)))⟩
theorem all__law_cleaned (F__law_cleaned:DefAt K mg "_law_cleaned" s__law_cleaned ["_law_row_here"]):∀ n:Nat,DefOk P w K mg base "_law_cleaned" (0 + n) ["_law_row_here"] (spP K 1 (m__law_cleaned n))
  | 0=>ok_zero F__law_cleaned
  | n + 1=>by
    have ih:=all__law_cleaned F__law_cleaned n
    exact ok__law_cleaned B F__law_cleaned ih
theorem ok__law_spoiled (F:DefAt K mg "_law_spoiled" s__law_spoiled ["_law_told"]) (D__law_marked:DefOk P w K mg base "_law_marked" 40 ["_law_row_here"] (spP K 1 (m__law_marked 40))):DefOk P w K mg base "_law_spoiled" 41 ["_law_told"] (spP K 1 m__law_spoiled):=
  F.ok (k:=40) sc__law_spoiled fun f cdv A outer s H E hr=>⟨_,fun _ _=>rfl,(qss_cons (qs_forC PassesOwn.never rfl (qi_cell (qv (pv 0))) (pg_seq rfl (pgs_cons (pg_name (i:=1) sc__law_spoiled.nd rfl (Or.inl rfl)) (pgs_cons (pg_name (i:=2) sc__law_spoiled.nd rfl (Or.inl rfl)) (pgs_cons (pg_name (i:=3) sc__law_spoiled.nd rfl (Or.inl rfl)) (pgs_cons (pg_name (i:=4) sc__law_spoiled.nd rfl (Or.inl rfl)) pgs_nil))))) (gs_seq (gs_cons gs_name (gs_cons gs_name (gs_cons gs_name (gs_cons gs_name gs_nil)))))
    (qss_one (qs_expr (qcall D__law_marked (hr.mono (by omega)) rfl (qa_cons (qv (pv 4)) qa_nil) (al_cons al_nil)))))
    (qss_cons (qs_appC (ps_expr (pe_bm PySem.F.plainAttrs_list PySem.F.slot_list_append PySem.F.type_list_append mt_append (qv (pv 0)) (qa_cons (qtup (qa_cons (qc pe_str rep_str) (qa_cons (qc pe_non rep_non) (qa_cons (qc pe_int rep_int) (qa_cons (qtup (qa_cons (qc pe_str rep_str) (qa_cons (qc pe_str rep_str) (qa_cons (qtup (qa_cons (qc pe_str rep_str) (qa_cons (qc pe_int rep_int) qa_nil))) qa_nil)))) qa_nil))))) qa_nil))))
    (qss_one (qs_revC (ps_expr (pe_bm0 PySem.F.plainAttrs_list PySem.F.slot_list_reverse PySem.F.type_list_reverse mt_reverse (qv (pv 0))))))))⟩
theorem ok__law_apart (F:DefAt K mg "_law_apart" s__law_apart ["_law_got", "_law_due", "_law_start"]) (D__law_cleaned:DefOk P w K mg base "_law_cleaned" 40 ["_law_row_here"] (spP K 1 (m__law_cleaned 40))) (D__law_marked:DefOk P w K mg base "_law_marked" 40 ["_law_row_here"] (spP K 1 (m__law_marked 40))) (D__law_same:DefOk P w K mg base "_law_same" 40 ["_law_got", "_law_due"] (spP K 2 (m__law_same 40))):DefOk P w K mg base "_law_apart" 41 ["_law_got", "_law_due", "_law_start"] (spP K 3 m__law_apart):=
  F.ok (k:=40) sc__law_apart fun f cdv A outer s H E hr=>⟨_,fun _ _=>rfl,(qss_cons (qs_for PassesOwn.never rfl (qi_range1 rfl (B _ (.tail _ (.tail _ (.tail _ (.tail _ (.tail _ (.tail _ (.tail _ (.tail _ (.head _)))))))))) (qa_cons (qlen (pe_callB call_len (by rfl) (B _ (.tail _ (.tail _ (.tail _ (.tail _ (.head _)))))) PySem.boot_len (qa_cons (qv (pv 0)) qa_nil))) qa_nil)) (pg_name (i:=3) sc__law_apart.nd rfl (Or.inl rfl)) gs_name
    (qss_cons (qs_set (i:=4) sc__law_apart.nd rfl (Or.inl rfl) (qop op_mod ops_mod (qop op_addP ops_add (qv (pv 2)) (qv (pv 3))) (qlen (pe_callB call_len (by rfl) (B _ (.tail _ (.tail _ (.tail _ (.tail _ (.head _)))))) PySem.boot_len (qa_cons (qv (pv 0)) qa_nil)))))
    (qss_cons (qs_set (i:=5) sc__law_apart.nd rfl (Or.inl rfl) (qiy (hu_of hr) (qiy (hu_of hr) (qv (pv 0)) (qv (pv 4)) (fun _ _=>rfl)) (qc pe_int rep_int) (fun _ _=>rfl)))
    (qss_one (qs_if (qtcmp (op_inP hr) ops_inT (qiy (hu_of hr) (qv (pv 5)) (qc pe_int rep_int) (fun _ _=>rfl)) (qtup (qa_cons (qc pe_str rep_str) (qa_cons (qc pe_str rep_str) (qa_cons (qc pe_str rep_str) qa_nil)))) (by with_unfolding_all rfl))
    (qss_cons (qs_expr (qcall D__law_marked (hr.mono (by omega)) rfl (qa_cons (qv (pv 5)) qa_nil) (al_cons al_nil)))
    (qss_cons (qs_set (i:=6) sc__law_apart.nd rfl (Or.inl rfl) (qreadD (qcall D__law_same (hr.mono (by omega)) rfl (qa_cons (qop op_addP ops_add (qslicex (qv (pv 0)) qo_none (qo_some (qv (pv 4)))) (qslicex (qv (pv 0)) (qo_some (qop op_addP ops_add (qv (pv 4)) (qc pe_int rep_int))) qo_none)) (qa_cons (qop op_addP ops_add (qslicex (qv (pv 1)) qo_none (qo_some (qv (pv 4)))) (qslicex (qv (pv 1)) (qo_some (qop op_addP ops_add (qv (pv 4)) (qc pe_int rep_int))) qo_none)) qa_nil)) (al_cons (al_cons al_nil)))))
    (qss_cons (qs_expr (qcall D__law_cleaned (hr.mono (by omega)) rfl (qa_cons (qv (pv 5)) qa_nil) (al_cons al_nil)))
    (qss_one (qs_retV (pv 6))))))
    qss_nil)))))
    (qss_one (qs_ret (qc pe_bl rep_bl))))⟩
theorem ok__law_drawn (F:DefAt K mg "_law_drawn" s__law_drawn ["_law_script"]) (D__law_cell:DefOk P w K mg base "_law_cell" 1 ["_law_script", "_law_k"] (spP K 2 m__law_cell)) (D__law_program:DefOk P w K mg base "_law_program" 85 ["_law_pen", "_law_ranks"] (spP K 2 m__law_program)):DefOk P w K mg base "_law_drawn" 86 ["_law_script"] (spP K 1 m__law_drawn):=
  F.ok (k:=85) sc__law_drawn fun f cdv A outer s H E hr=>⟨_,fun _ _=>rfl,(qss_one (qs_ret (qcall D__law_program (hr.mono (by omega)) rfl (qa_cons (qseal (qlst (qa_cons (qv (pv 0)) (qa_cons (qc pe_int rep_int) (qa_cons (qc pe_int rep_int) (qa_cons (qix' (qlst (qa_cons (qc pe_int rep_int) (qa_cons (qc pe_int rep_int) (qa_cons (qc pe_int rep_int) (qa_cons (qc pe_int rep_int) qa_nil))))) (qop op_mod ops_mod (qcall D__law_cell (hr.mono (by omega)) rfl (qa_cons (qv (pv 0)) (qa_cons (qc pe_int rep_int) qa_nil)) (al_cons (al_cons al_nil))) (qc pe_int rep_int)) (fun _ _=>rfl)) qa_nil)))))) (qa_cons (qlst (qa_cons (qc pe_str rep_str) (qa_cons (qc pe_str rep_str) qa_nil))) qa_nil)) (al_cons (al_cons al_nil)))))⟩
theorem ok_law {f:Addr} {fd:FuncData} (F:Fun K "law" "law" s_law f fd) (D__law_apart:DefOk P w K mg base "_law_apart" 41 ["_law_got", "_law_due", "_law_start"] (spP K 3 m__law_apart)) (D__law_cell:DefOk P w K mg base "_law_cell" 1 ["_law_script", "_law_k"] (spP K 2 m__law_cell)) (D__law_drawn:DefOk P w K mg base "_law_drawn" 86 ["_law_script"] (spP K 1 m__law_drawn)) (D__law_laid:DefOk P w K mg base "_law_laid" 2 ["_law_program_here"] (spP K 1 m__law_laid)) (D__law_same:DefOk P w K mg base "_law_same" 40 ["_law_got", "_law_due"] (spP K 2 (m__law_same 40))) (D__law_spoiled:DefOk P w K mg base "_law_spoiled" 41 ["_law_told"] (spP K 1 m__law_spoiled)) (D_numbered:DefOk P w K mg base "numbered" 81 ["program"] (spP K 1 m_numbered)):FnOk P w K mg base CX0 87 f fd ["_law_script"] (spP K 1 m_law):=
  Fun.okP (k:=86) F sc_law fun cdv A outer s H E hr=>⟨_,fun _ _=>rfl,(qss_cons (qs_set (i:=1) sc_law.nd rfl (Or.inl rfl) (qcall D__law_drawn (hr.mono (by omega)) rfl (qa_cons (qv (pv 0)) qa_nil) (al_cons al_nil)))
    (qss_cons (qs_set (i:=2) sc_law.nd rfl (Or.inl rfl) (qmelt (qcall D__law_drawn (hr.mono (by omega)) rfl (qa_cons (qv (pv 0)) qa_nil) (al_cons al_nil))))
    (qss_cons (qs_set (i:=3) sc_law.nd rfl (Or.inl rfl) (qopen (qcall D__law_laid (hr.mono (by omega)) rfl (qa_cons (qv (pv 2)) qa_nil) (al_cons al_nil))))
    (qss_cons (qs_set (i:=4) sc_law.nd rfl (Or.inl rfl) (qseal (qcall D_numbered (hr.mono (by omega)) rfl (qa_cons (qv (pv 1)) qa_nil) (al_cons al_nil))))
    (qss_cons (qs_if (PW.pt (qw_or (qt_not (qtruth (qcallD D__law_same (hr.mono (by omega)) rfl (qa_cons (qv (pv 4)) (qa_cons (qv (pv 3)) qa_nil)) (al_cons (al_cons al_nil))) (fun _=>rfl))) (qw_or1 (qt_not (qtruth (qcall D__law_apart (hr.mono (by omega)) rfl (qa_cons (qv (pv 4)) (qa_cons (qv (pv 3)) (qa_cons (qcall D__law_cell (hr.mono (by omega)) rfl (qa_cons (qv (pv 0)) (qa_cons (qc pe_int rep_int) qa_nil)) (al_cons (al_cons al_nil))) qa_nil))) (al_cons (al_cons (al_cons al_nil)))) (fun _=>rfl))))))
    (qss_one (qs_ret (qc pe_bl rep_bl)))
    qss_nil)
    (qss_cons (qs_expr (qcall D__law_spoiled (hr.mono (by omega)) rfl (qa_cons (qv (pv 4)) qa_nil) (al_cons al_nil)))
    (qss_cons (qs_set (i:=5) sc_law.nd rfl (Or.inl rfl) (qcall D_numbered (hr.mono (by omega)) rfl (qa_cons (qv (pv 1)) qa_nil) (al_cons al_nil)))
    (qss_cons (qs_set (i:=6) sc_law.nd rfl (Or.inl rfl) (qtup (qa_cons (qc pe_str rep_str) (qa_cons (qiy (hu_of hr) (qiy (hu_of hr) (qiy (hu_of hr) (qv (pv 1)) (qc pe_int rep_int) (fun _ _=>rfl)) (qc pe_int rep_int) (fun _ _=>rfl)) (qc pe_int rep_int) (fun _ _=>rfl)) (qa_cons (qtup (qa_cons (qc pe_str rep_str) (qa_cons (qc pe_int rep_int) qa_nil))) qa_nil)))))
    (qss_cons (qs_if (qtcmp op_lt ops_lt (qlen (pe_callB call_len (by rfl) (B _ (.tail _ (.tail _ (.tail _ (.tail _ (.head _)))))) PySem.boot_len (qa_cons (qv (pv 3)) qa_nil))) (qc pe_int rep_int) (nomark _))
    (qss_cons (qs_appC (ps_expr (pe_bm PySem.F.plainAttrs_list PySem.F.slot_list_append PySem.F.type_list_append mt_append (qiy (hu_of hr) (qv (pv 1)) (qc pe_int rep_int) (fun _ _=>rfl)) (qa_cons (qv (pv 6)) qa_nil))))
    (qss_cons (qs_if (qt_not (qtruth (qcallD D__law_same (hr.mono (by omega)) rfl (qa_cons (qcall D_numbered (hr.mono (by omega)) rfl (qa_cons (qv (pv 1)) qa_nil) (al_cons al_nil)) (qa_cons (qop op_addP ops_add (qv (pv 3)) (qlst (qa_cons (qtup (qa_cons (qc pe_str rep_str) (qa_cons (qc pe_non rep_non) (qa_cons (qc pe_int rep_int) (qa_cons (qv (pv 6)) qa_nil))))) qa_nil))) qa_nil)) (al_cons (al_cons al_nil))) (fun _=>rfl)))
    (qss_one (qs_ret (qc pe_bl rep_bl)))
    qss_nil)
    (qss_one (qs_expr (qpopC (pe_bm0 PySem.F.plainAttrs_list PySem.F.slot_list_pop PySem.F.type_list_pop mt_pop (qiy (hu_of hr) (qv (pv 1)) (qc pe_int rep_int) (fun _ _=>rfl))))))))
    qss_nil)
    (qss_one (qs_ret (qand (qcallD D__law_same (hr.mono (by omega)) rfl (qa_cons (qv (pv 5)) (qa_cons (qv (pv 3)) qa_nil)) (al_cons (al_cons al_nil))) (qone (qreadD (qcmp (op_eqY hr) ops_eqY (qv (pv 1)) (qv (pv 2)) (nomark _))))))))))))))))⟩
end
local macro_rules | `(tactic| walk_at "op")=>`(tactic| first | exact rfl | exact modP_go rfl rfl (by omega) | exact fdivP_go rfl rfl (by omega) (by omega) | exact mulP_gor rfl rfl (by omega) (by omega) | exact mulP_gol rfl rfl (by omega) (by omega) | assumption)
local macro_rules | `(tactic| walk_at "ev")=>`(tactic| first
  | ((with_reducible refine' op_go ?h1 ?h2 ?h3 ?h4 ?h5); (case h1=>walk_at "ev"); (case h2=>exact rfl); (case h3=>walk_at "ev"); (case h4=>exact rfl); (case h5=>walk_at "op"))
  | ((with_reducible refine' seq_go ?h1 ?h2); (case h1=>walk_at "ev"); (case h2=>walk_at "ev"))
  | ((with_reducible refine' set_go ?h1 ?h2 ?h3); (case h1=>walk_at "ev"); (case h2=>exact rfl); (case h3=>exact rfl))
  | ((with_reducible refine' ret_go ?h1); (case h1=>walk_at "ev"))
  | ((with_reducible refine' cons_go ?h1 ?h2); (case h1=>walk_at "ev"); (case h2=>walk_at "ev"))
  | ((with_reducible refine' call_go ?h1 ?h2 ?h3 ?h4 ?h5); (case h1=>walk_at "ev"); (case h2=>exact rfl); (case h3=>exact rfl); (case h4=>exact rfl); (case h5=>walk_at "call"))
  | ((with_reducible refine' b_go ?h1 ?h2 ?h3); (case h1=>walk_at "ev"); (case h2=>exact rfl); (case h3=>walk_at "op"))
  | ((with_reducible refine' tT_go ?h1 ?h2 ?h3); (case h1=>walk_at "ev"); (case h2=>exact rfl); (case h3=>exact rfl))
  | ((with_reducible refine' not_go ?h1); (case h1=>walk_at "ev"))
  | ((with_reducible refine' and_go ?h1 ?h2); (case h1=>walk_at "ev"); (case h2=>walk_at "ev"))
  | ((with_reducible refine' or_go ?h1 ?h2); (case h1=>walk_at "ev"); (case h2=>walk_at "ev"))
  | ((with_reducible refine' tread_go ?h1); (case h1=>walk_at "ev"))
  | ((with_reducible refine' eread_go ?h1 ?h2); (case h1=>walk_at "ev"); (case h2=>exact rfl))
  | ((with_reducible refine' lst_go ?h1 ?h2 ?h3); (case h1=>walk_at "ev"); (case h2=>exact rfl); (case h3=>exact rfl))
  | ((with_reducible refine' tup_go ?h1 ?h2 ?h3); (case h1=>walk_at "ev"); (case h2=>exact rfl); (case h3=>exact rfl))
  | ((with_reducible refine' newc_go ?h1 ?h2 ?h3 ?h4); (case h1=>walk_at "ev"); (case h2=>exact rfl); (case h3=>exact rfl); (case h4=>exact rfl))
  | ((with_reducible refine' is_go ?h1 ?h2 ?h3); (case h1=>walk_at "ev"); (case h2=>exact rfl); (case h3=>exact rfl))
  | ((with_reducible refine' iof_go ?h1 ?h2 ?h3); (case h1=>walk_at "ev"); (case h2=>exact rfl); (case h3=>exact rfl))
  | exact rfl
  | assumption)
local macro_rules | `(tactic| walk_at "call")=>`(tactic| first | assumption | exact rfl)
mutual
inductive Row where
  | leaf (w:Str) (ps:List PV)
  | call (b n:PV) (as:List PV)
  | wh (e:PV) (b:Rows)
  | iff (e:PV) (b c:Rows)
inductive Rows where
  | nil
  | cons (r:Row) (rs:Rows)
end
mutual
noncomputable def Row.pv:Row->PV
  | .leaf w ps=>.tup (.str w::ps)
  | .call b n as=>.tup [.str "call",b,n,.lst as]
  | .wh e b=>.tup [.str "while",e,.lst b.pvs]
  | .iff e b c=>.tup [.str "if",e,.lst b.pvs,.lst c.pvs]
noncomputable def Rows.pvs:Rows->List PV
  | .nil=>[]
  | .cons r rs=>r.pv::rs.pvs
end
mutual
noncomputable def Row.sz:Row->Nat
  | .leaf _ _=>0
  | .call _ _ _=>1
  | .wh _ b=>b.sz + 1
  | .iff _ b c=>b.sz + 1 + c.sz + 1
noncomputable def Rows.sz:Rows->Nat
  | .nil=>0
  | .cons r rs=>r.sz + rs.sz
end
mutual
noncomputable def Row.cp:Row->Nat->PV
  | .leaf w ps,_=>.tup (.str w::ps)
  | .call b n _,N=>.tup [.str "call",b,n,.ptr N]
  | .wh e b,N=>.tup [.str "while",e,.ptr (N + b.sz)]
  | .iff e b c,N=>.tup [.str "if",e,.ptr (N + b.sz),.ptr (N + b.sz + 1 + c.sz)]
noncomputable def Rows.cps:Rows->Nat->List PV
  | .nil,_=>[]
  | .cons r rs,N=>r.cp N::rs.cps (N + r.sz)
end
mutual
noncomputable def Row.cl:Row->Nat->Mu
  | .leaf _ _,_=>[]
  | .call _ _ as,_=>[some (.lst as)]
  | .wh _ b,N=>b.cls N++[some (.lst (b.cps N))]
  | .iff _ b c,N=>b.cls N++[some (.lst (b.cps N))]++c.cls (N + b.sz + 1)++[some (.lst (c.cps (N + b.sz + 1)))]
noncomputable def Rows.cls:Rows->Nat->Mu
  | .nil,_=>[]
  | .cons r rs,N=>r.cl N++rs.cls (N + r.sz)
end
mutual
theorem Row.cl_len:∀ (r:Row) (N:Nat),(r.cl N).length=r.sz
  | .leaf _ _,N=>rfl
  | .call _ _ _,N=>rfl
  | .wh _ b,N=>by simp [Row.cl,Row.sz,Rows.cls_len b]
  | .iff _ b c,N=>by simp only [Row.cl,Row.sz,List.length_append,Rows.cls_len b,Rows.cls_len c,List.length_cons,List.length_nil]
theorem Rows.cls_len:∀ (rs:Rows) (N:Nat),(rs.cls N).length=rs.sz
  | .nil,N=>rfl
  | .cons r rs,N=>by simp [Rows.cls,Rows.sz,Row.cl_len r,Rows.cls_len rs]
end
mutual
noncomputable def Row.dep:Row->Nat
  | .leaf _ _=>1
  | .call _ _ _=>1
  | .wh _ b=>b.dep + 1
  | .iff _ b c=>max b.dep c.dep + 1
noncomputable def Rows.dep:Rows->Nat
  | .nil=>1
  | .cons r rs=>max (r.dep + 1) rs.dep
end
theorem Rows.dep_pos:∀ b:Rows,1<=b.dep
  | .nil=>Nat.le_refl _
  | .cons r rs=>Nat.le_trans (Rows.dep_pos rs) (Nat.le_max_right _ _)
noncomputable def Plain (w:Str):Prop:=(w == "if")=false/\(w == "while")=false/\(w == "call")=false
mutual
noncomputable def Row.ok:Row->Prop
  | .leaf w ps=>Plain w/\flatPs ps=true
  | .call b n as=>flatP b=true/\flatP n=true/\flatPs as=true/\as.length<=50
  | .wh e b=>flatP e=true/\b.ok
  | .iff e b c=>flatP e=true/\b.ok/\c.ok
noncomputable def Rows.ok:Rows->Prop
  | .nil=>True
  | .cons r rs=>r.ok/\rs.ok
end
mutual
noncomputable def Row.cnt:Row->Nat
  | .leaf _ _=>1
  | .call _ _ _=>1
  | .wh _ b=>b.cnt + 1
  | .iff _ b c=>b.cnt + c.cnt + 1
noncomputable def Rows.cnt:Rows->Nat
  | .nil=>0
  | .cons r rs=>r.cnt + rs.cnt
end
theorem Rows.pvs_len:∀ rs:Rows,rs.pvs.length<=rs.cnt
  | .nil=>Nat.le_refl _
  | .cons r rs=>by
    have:=Rows.pvs_len rs
    have h:1<=r.cnt:=by cases r <;> simp [Row.cnt]
    simp only [Rows.pvs,List.length_cons,Rows.cnt]
    omega
theorem Rows.cps_len:∀ (rs:Rows) (N:Nat),(rs.cps N).length=rs.pvs.length
  | .nil,N=>rfl
  | .cons r rs,N=>by simp [Rows.cps,Rows.pvs,Rows.cps_len rs]
theorem tw_eq {f:EF} {a b:Str} {ρ ρ1:Ev} (h:f ρ=some (.sh (.str a),ρ1)):tT (eOp eqP f (eC (.str b))) blP ρ=some (a == b,ρ1):=tT_eq (l:=.sh (.bl (a == b))) (eOp_eq h rfl rfl) rfl
theorem if_no {c:TF} {f g:SF} {ρ ρ1:Ev} {b:Bool} (h:c ρ=some (b,ρ1)) (hb:b=false):sSeq (sIf c f sNil) g ρ=g ρ1:=by subst hb; exact sSeq_nx ((sIf_f h).trans rfl)
theorem if_yes {c:TF} {f g:SF} {ρ ρ1 ρ2:Ev} {b:Bool} {r:Lc} (h:c ρ=some (b,ρ1)) (hb:b=true) (h2:f ρ1=some (.rt r ρ2)):sSeq (sIf c f sNil) g ρ=some (.rt r ρ2):=by subst hb; exact sSeq_rt ((sIf_t h).trans h2)
theorem if_nx {c:TF} {f g:SF} {ρ ρ1 ρ2:Ev} {b:Bool} (h:c ρ=some (b,ρ1)) (hb:b=true) (h2:f ρ1=some (.nx ρ2)):sSeq (sIf c f sNil) g ρ=g ρ2:=by subst hb; exact sSeq_nx ((sIf_t h).trans h2)
theorem at0 {p:PV} {t:List PV}:atI (p::t) 0=some p:=by
  obtain ⟨x,h,h2⟩:=atI_some (l:=p::t) (i:=0) (by decide) (by simp only [List.length_cons]; omega)
  rw [h,← h2]; rfl
noncomputable abbrev E1 (p:PV) (mu:Mu):Ev:=⟨[some (.sh p)],mu⟩
theorem w0 {w:Str} {ps:List PV} {mu:Mu}:eIx (eVar 0) (eC (.int 0)) (E1 (.tup (.str w::ps)) mu)=some (.sh (.str w),E1 (.tup (.str w::ps)) mu):=
  ix_go (p:=.tup (.str w::ps)) (q:=.int 0) (l:=.sh (.tup (.str w::ps))) (m:=.sh (.int 0)) rfl rfl rfl rfl (fun n h=>by cases h) (by show (atI (PV.str w::ps) 0).map _=_; rw [at0]; rfl)
theorem seal_go {f:EF} {p:PV} {ρ ρ1:Ev} {n:Nat} (h:f ρ=some (.own p,ρ1)) (hn:ρ1.mu.length=n):eSeal f ρ=some (.sh (.ptr n),⟨ρ1.vs,ρ1.mu++[some p]⟩):=by
  unfold eSeal
  rw [h,Option.bind_some,hn]
theorem comp_step1 {b:BF} {te:EF} {x:PV} {xs:List PV} {ρ ρ1 ρ2:Ev} {acc:List PV} {l:Lc} {R:Option (List PV × Mu)} (h1:b x ρ=some ρ1) (h2:te ρ1=some (l,ρ2)) (hz:acc.length < 100000) (h3:compP b cTrue te xs ρ2 (acc++[l.pv])=R):compP b cTrue te (x::xs) ρ acc=R:=by
  show (b x ρ).bind _=R
  rw [h1,Option.bind_some]
  show (te ρ1).bind _=R
  rw [h2,Option.bind_some,if_pos hz]
  exact h3
noncomputable abbrev cpE (n:Nat):EF:=eCall (m_copied n) (aCons (eVar 0) aNil)
theorem all_of {rs:Rows} {n:Nat} {mu:Mu} (h:compP (bName 0) cTrue (cpE n) rs.pvs ⟨[none],mu⟩ []=some ([]++rs.cps mu.length,mu++rs.cls mu.length)):m_all_copied (n + 1) [.lst rs.pvs] mu=some (.own (.lst (rs.cps mu.length)),mu++rs.cls mu.length):=
  runP_rt (ρ:=⟨[some (.sh (.lst rs.pvs))],mu++rs.cls mu.length⟩) (ret_go (eComp_eq (m:=1) (ixs:=[]) (ρ1:=E1 (.lst rs.pvs) mu) (xs:=rs.pvs) (iOf_eq (l:=.sh (.lst rs.pvs)) rfl rfl) h))
mutual
theorem copied_eq:∀ (r:Row) (f:Nat) (mu:Mu),r.ok->r.dep<=f->r.cnt<=1000->m_copied f [r.pv] mu=some (.sh (r.cp mu.length),mu++r.cl mu.length)
  | .leaf w ps,f,mu,ok,hd,hc=>by
    obtain ⟨m,rfl⟩:∃ m,f=m + 1:=⟨f - 1,by simp only [Row.dep] at hd; omega⟩
    obtain ⟨⟨h1,h2,h3⟩,_⟩:=ok
    refine (runP_rt (ρ:=⟨[none],mu⟩) ?_).trans (by rw [show mu++Row.cl (.leaf w ps) mu.length=mu from List.append_nil _])
    exact (if_no (tw_eq w0) h1).trans ((if_no (tw_eq w0) h2).trans ((if_no (tw_eq w0) h3).trans rfl))
  | .call b n as,f,mu,ok,hd,hc=>by
    obtain ⟨m,rfl⟩:∃ m,f=m + 1:=⟨f - 1,by simp only [Row.dep] at hd; omega⟩
    obtain ⟨h1,h2,h3,h4⟩:=ok
    refine runP_rt (ρ:=⟨[some (.sh (Row.call b n as).pv)],mu++[some (.lst as)]⟩) ?_
    refine (if_no (tw_eq w0) (by decide +kernel)).trans ((if_no (tw_eq w0) (by decide +kernel)).trans (if_yes (tw_eq w0) (by decide +kernel) (ret_go (tup_go (ls:=[.sh (.str "call"),.sh b,.sh n,.sh (.ptr mu.length)]) ?_ rfl rfl))))
    refine cons_go (ρ1:=E1 (Row.call b n as).pv mu) rfl (cons_go (ρ1:=E1 (Row.call b n as).pv mu) rfl (cons_go (ρ1:=E1 (Row.call b n as).pv mu) rfl (cons_go (ρ1:=E1 (Row.call b n as).pv (mu++[some (.lst as)])) (seal_go (ρ1:=E1 (Row.call b n as).pv mu) (b_go (ls:=[.sh (.lst as)]) (ρ1:=E1 (Row.call b n as).pv mu) (cons_go (ρ1:=E1 (Row.call b n as).pv mu) rfl rfl) rfl ?_) rfl) rfl)))
    rfl
  | .wh e b,f,mu,ok,hd,hc=>by
    simp only [Row.dep] at hd
    simp only [Row.cnt] at hc
    obtain ⟨m,rfl⟩:∃ m,f=m + 1:=⟨f - 1,by omega⟩
    have hb:1<=b.dep:=Rows.dep_pos b
    obtain ⟨m,rfl⟩:∃ k,m=k + 1:=⟨m - 1,by omega⟩
    have ih:=all_of (comp_rows b m mu none [] ok.2 (by omega) (by simp only [List.length_nil]; omega))
    let P:=(Row.wh e b).pv
    have hl:(mu++b.cls mu.length).length=mu.length + b.sz:=by rw [List.length_append,Rows.cls_len]
    have s1:eSeal (eCall (m_all_copied (m + 1)) (aCons (eIx (eVar 0) (eC (.int 2))) aNil)) (E1 P mu)=some (.sh (.ptr (mu.length + b.sz)),E1 P (mu++b.cls mu.length++[some (.lst (b.cps mu.length))])):=
      seal_go (ρ1:=E1 P (mu++b.cls mu.length)) (call_go (ls:=[.sh (.lst b.pvs)]) (ps:=[.lst b.pvs]) (ρ1:=E1 P mu) rfl rfl rfl rfl ih) hl
    refine runP_rt (ρ:=E1 P (mu++(Row.wh e b).cl mu.length)) ?_
    refine (if_no (tw_eq w0) (by decide +kernel)).trans (if_yes (tw_eq w0) (by decide +kernel) ((ret_go (tup_go (ls:=[.sh (.str "while"),.sh e,.sh (.ptr (mu.length + b.sz))]) (ρ1:=E1 P (mu++b.cls mu.length++[some (.lst (b.cps mu.length))])) (cons_go (ρ1:=E1 P mu) rfl (cons_go (ρ1:=E1 P mu) rfl (cons_go s1 rfl))) rfl rfl)).trans ?_))
    rw [List.append_assoc]
    rfl
  | .iff e b c,f,mu,ok,hd,hc=>by
    simp only [Row.dep] at hd
    simp only [Row.cnt] at hc
    obtain ⟨m,rfl⟩:∃ m,f=m + 1:=⟨f - 1,by omega⟩
    have hb:1<=b.dep:=Rows.dep_pos b
    obtain ⟨m,rfl⟩:∃ k,m=k + 1:=⟨m - 1,by omega⟩
    have ih:=all_of (comp_rows b m mu none [] ok.2.1 (by omega) (by simp only [List.length_nil]; omega))
    let mu1:Mu:=mu++b.cls mu.length++[some (.lst (b.cps mu.length))]
    have hl:(mu++b.cls mu.length).length=mu.length + b.sz:=by rw [List.length_append,Rows.cls_len]
    have hl1:mu1.length=mu.length + b.sz + 1:=by rw [List.length_append,hl]; rfl
    have ih2:=all_of (comp_rows c m mu1 none [] ok.2.2 (by omega) (by simp only [List.length_nil]; omega))
    rw [hl1] at ih2
    let P:=(Row.iff e b c).pv
    have s1:eSeal (eCall (m_all_copied (m + 1)) (aCons (eIx (eVar 0) (eC (.int 2))) aNil)) (E1 P mu)=some (.sh (.ptr (mu.length + b.sz)),E1 P mu1):=
      seal_go (ρ1:=E1 P (mu++b.cls mu.length)) (call_go (ls:=[.sh (.lst b.pvs)]) (ps:=[.lst b.pvs]) (ρ1:=E1 P mu) rfl rfl rfl rfl ih) hl
    have hl2:(mu1++c.cls (mu.length + b.sz + 1)).length=mu.length + b.sz + 1 + c.sz:=by rw [List.length_append,Rows.cls_len,hl1]
    have s2:eSeal (eCall (m_all_copied (m + 1)) (aCons (eIx (eVar 0) (eC (.int 3))) aNil)) (E1 P mu1)=some (.sh (.ptr (mu.length + b.sz + 1 + c.sz)),E1 P (mu1++c.cls (mu.length + b.sz + 1)++[some (.lst (c.cps (mu.length + b.sz + 1)))])):=
      seal_go (ρ1:=E1 P (mu1++c.cls (mu.length + b.sz + 1))) (call_go (ls:=[.sh (.lst c.pvs)]) (ps:=[.lst c.pvs]) (ρ1:=E1 P mu1) rfl rfl rfl rfl ih2) hl2
    refine runP_rt (ρ:=E1 P (mu++(Row.iff e b c).cl mu.length)) ?_
    refine if_yes (tw_eq w0) (by decide +kernel) ((ret_go (tup_go (ls:=[.sh (.str "if"),.sh e,.sh (.ptr (mu.length + b.sz)),.sh (.ptr (mu.length + b.sz + 1 + c.sz))]) (cons_go (ρ1:=E1 P mu) rfl (cons_go (ρ1:=E1 P mu) rfl (cons_go s1 (cons_go s2 rfl)))) rfl rfl)).trans ?_)
    simp only [mu1,Row.cl,List.append_assoc]
    rfl
theorem comp_rows:∀ (rs:Rows) (n:Nat) (mu:Mu) (o:Option Lc) (acc:List PV),rs.ok->rs.dep<=n + 1->acc.length + rs.cnt<=1000->compP (bName 0) cTrue (cpE n) rs.pvs ⟨[o],mu⟩ acc=some (acc++rs.cps mu.length,mu++rs.cls mu.length)
  | .nil,n,mu,o,acc,_,_,_=>by simp [Rows.pvs,Rows.cps,Rows.cls,compP]
  | .cons r rs,n,mu,o,acc,ok,hd,hc=>by
    simp only [Rows.dep] at hd
    simp only [Rows.cnt] at hc
    have h1:1<=r.cnt:=by cases r <;> simp [Row.cnt]
    have e1:=copied_eq r n mu ok.1 (by omega) (by omega)
    have e2:=comp_rows rs n (mu++r.cl mu.length) (some (.sh r.pv)) (acc++[r.cp mu.length]) ok.2 (by omega) (by rw [List.length_append]; simp only [List.length_cons,List.length_nil]; omega)
    rw [List.length_append,Row.cl_len] at e2
    refine comp_step1 (ρ1:=E1 r.pv mu) (ρ2:=E1 r.pv (mu++r.cl mu.length)) (l:=.sh (r.cp mu.length)) rfl (call_go (ls:=[.sh r.pv]) (ps:=[r.pv]) (ρ1:=E1 r.pv mu) rfl rfl rfl rfl e1) (by omega) (e2.trans ?_)
    simp only [Rows.cps,Rows.cls,List.append_assoc]
    rfl
end
noncomputable abbrev num1:PV:=.tup [.str "num",.int 1]
noncomputable abbrev zz:PV:=.tup [.str "set",.str "zz",num1]
mutual
noncomputable def Row.ml:Row->Nat->Mu
  | .leaf _ _,_=>[]
  | .call _ _ as,_=>[some (.lst (as++[num1]))]
  | .wh _ b,N=>b.mls N++[some (.lst (b.cps N++[zz]))]
  | .iff _ b c,N=>b.mls N++[some (.lst (b.cps N++[zz]))]++c.mls (N + b.sz + 1)++[some (.lst (c.cps (N + b.sz + 1)++[zz]))]
noncomputable def Rows.mls:Rows->Nat->Mu
  | .nil,_=>[]
  | .cons r rs,N=>r.ml N++rs.mls (N + r.sz)
end
mutual
theorem Row.ml_len:∀ (r:Row) (N:Nat),(r.ml N).length=r.sz
  | .leaf _ _,N=>rfl
  | .call _ _ _,N=>rfl
  | .wh _ b,N=>by simp [Row.ml,Row.sz,Rows.mls_len b]
  | .iff _ b c,N=>by simp only [Row.ml,Row.sz,List.length_append,Rows.mls_len b,Rows.mls_len c,List.length_cons,List.length_nil]
theorem Rows.mls_len:∀ (rs:Rows) (N:Nat),(rs.mls N).length=rs.sz
  | .nil,N=>rfl
  | .cons r rs,N=>by simp [Rows.mls,Rows.sz,Row.ml_len r,Rows.mls_len rs]
end
theorem mid_get {α:Type} {A X B:List α} {c:α} {j:Nat} (h:j=A.length + X.length):(A++(X++(c::B)))[j]?=some c:=by
  subst h
  rw [← List.append_assoc,← List.length_append,List.getElem?_append_right (Nat.le_refl _),Nat.sub_self]
  rfl
theorem mid_set {α:Type} {A X B:List α} {c d:α} {j:Nat} (h:j=A.length + X.length):(A++(X++(c::B))).set j d=A++(X++(d::B)):=by
  subst h
  rw [← List.append_assoc,← List.append_assoc,← List.length_append,List.set_append_right _ _ (Nat.le_refl _),Nat.sub_self]
  rfl
theorem appc_go {fo fv:EF} {ρ ρ1 ρ2:Ev} {o y:Lc} {n:Nat} {ws0 ws:List PV} {p:PV} {mu:Mu} (h1:fo ρ=some (o,ρ1)) (ho:o.pv=.ptr n) (hm:ρ1.mu[n]?=some (some (.lst ws0))) (h2:fv ρ1=some (y,ρ2)) (hy:y.pv=p) (hm2:ρ2.mu[n]?=some (some (.lst ws))) (hz:ws.length < 100000) (e:ρ2.mu.set n (some (.lst (ws++[p])))=mu):sAppC fo fv ρ=some (.nx ⟨ρ2.vs,mu⟩):=by
  unfold sAppC
  rw [h1,Option.bind_some,ho]
  dsimp only
  rw [hm]
  dsimp only
  rw [h2,Option.bind_some,hm2]
  dsimp only
  rw [if_pos hz,hy,e]
theorem popc_go {fo:EF} {ρ ρ1:Ev} {o:Lc} {n:Nat} {ws:List PV} {p:PV} {mu:Mu} (h1:fo ρ=some (o,ρ1)) (ho:o.pv=.ptr n) (hm:ρ1.mu[n]?=some (some (.lst (ws++[p])))) (e:ρ1.mu.set n (some (.lst ws))=mu):ePopC fo ρ=some (.sh p,⟨ρ1.vs,mu⟩):=by
  unfold ePopC
  rw [h1,Option.bind_some,ho]
  dsimp only
  rw [hm]
  dsimp only
  rw [List.length_append,List.length_cons,List.length_nil,List.getElem?_append_right (by omega),List.dropLast_concat,e]
  simp
theorem forC_go {o:Option Nat} {ps:List PV} {f:IFC} {b:BF} {body:SF} {xs:List PV} {ρ ρ1:Ev} {R:Option Fl} (h:f ρ=some (o,xs,ρ1)) (h2:forC o xs b body xs ρ1=R):sForC f b body ρ=R:=by
  unfold sForC
  rw [h,Option.bind_some]
  exact h2
theorem cell_go {f:EF} {ρ ρ1:Ev} {l:Lc} {n:Nat} {ps:List PV} (h:f ρ=some (l,ρ1)) (hl:l.pv=.ptr n) (hm:ρ1.mu[n]?=some (some (.lst ps))):iCell f ρ=some (some n,ps,ρ1):=by
  unfold iCell
  rw [h,Option.bind_some,hl]
  dsimp only
  rw [hm]
noncomputable abbrev E3 (a b c:Option Lc) (mu:Mu):Ev:=⟨[a,b,c],mu⟩
noncomputable abbrev tIW:TF:=tT (eOp inP (eIx (eVar 0) (eC (.int 0))) (eTup (aCons (eC (.str "if")) (aCons (eC (.str "while")) aNil)))) blP
noncomputable abbrev tCl:TF:=tT (eOp eqP (eIx (eVar 0) (eC (.int 0))) (eC (.str "call"))) blP
theorem w3 {w:Str} {ps:List PV} {a b:Option Lc} {mu:Mu}:eIx (eVar 0) (eC (.int 0)) (E3 (some (.sh (.tup (.str w::ps)))) a b mu)=some (.sh (.str w),E3 (some (.sh (.tup (.str w::ps)))) a b mu):=
  ix_go (p:=.tup (.str w::ps)) (q:=.int 0) (l:=.sh (.tup (.str w::ps))) (m:=.sh (.int 0)) rfl rfl rfl rfl (fun n h=>by cases h) (by show (atI (PV.str w::ps) 0).map _=_; rw [at0]; rfl)
theorem iw_eq {w:Str} {ps:List PV} {a b:Option Lc} {mu:Mu}:tIW (E3 (some (.sh (.tup (.str w::ps)))) a b mu)=some (("if" == w) || (("while" == w) || false),E3 (some (.sh (.tup (.str w::ps)))) a b mu):=
  tT_eq (l:=.sh (.bl (("if" == w) || (("while" == w) || false)))) (eOp_eq w3 rfl rfl) rfl
theorem cl_eq {w:Str} {ps:List PV} {a b:Option Lc} {mu:Mu}:tCl (E3 (some (.sh (.tup (.str w::ps)))) a b mu)=some (w == "call",E3 (some (.sh (.tup (.str w::ps)))) a b mu):=tw_eq w3
noncomputable abbrev mkI (n:Nat):SF:=sExpr (eCall (m__law_marked n) (aCons (eVar 2) aNil))
noncomputable abbrev mkB (n:Nat):SF:=sSeq (sForC (iCell (eVar 1)) (bName 2) (mkI n)) (sAppC (eVar 1) (eTup (aCons (eC (.str "set")) (aCons (eC (.str "zz")) (aCons (eTup (aCons (eC (.str "num")) (aCons (eC (.int 1)) aNil))) aNil)))))
noncomputable abbrev cnI (n:Nat):SF:=sExpr (eCall (m__law_cleaned n) (aCons (eVar 2) aNil))
noncomputable abbrev cnB (n:Nat):SF:=sSeq (sExpr (ePopC (eVar 1))) (sForC (iCell (eVar 1)) (bName 2) (cnI n))
theorem sl2 {x y z:PV} {ps:List PV} {a b:Option Lc} {mu:Mu} (h:(ps=[z])\/∃ z',ps=[z,z']):iOf (eSlT (eVar 0) (oSome (eC (.int 2))) oNone) walkP (E3 (some (.sh (.tup (x::y::ps)))) a b mu)=some (ps,E3 (some (.sh (.tup (x::y::ps)))) a b mu):=by
  rcases h with rfl | ⟨z',rfl⟩
  · exact iOf_eq (l:=.sh (.tup [z])) rfl rfl
  · exact iOf_eq (l:=.sh (.tup [z,z'])) rfl rfl
theorem mk_blk {b:Rows} {n:Nat} {A B:Mu} {p0 o2:Option Lc} (hc:b.cnt<=1000)
    (h:∀ j ps,(∀ X:Mu,X.length=b.sz->(A++(X++(some (.lst ps)::B)))[j]?=some (some (.lst ps)))->∃ o',forC (some j) ps (bName 2) (mkI n) (b.cps A.length) (E3 p0 (some (.sh (.ptr j))) o2 (A++(b.cls A.length++(some (.lst ps)::B))))=some (.nx (E3 p0 (some (.sh (.ptr j))) o' (A++(b.mls A.length++(some (.lst ps)::B)))))):
    ∃ o',mkB n (E3 p0 (some (.sh (.ptr (A.length + b.sz)))) o2 (A++(b.cls A.length++(some (.lst (b.cps A.length))::B))))=some (.nx (E3 p0 (some (.sh (.ptr (A.length + b.sz)))) o' (A++(b.mls A.length++(some (.lst (b.cps A.length++[zz]))::B))))):=by
  obtain ⟨o',e⟩:=h (A.length + b.sz) (b.cps A.length) fun X hX=>mid_get (by rw [hX])
  have hl:(b.cps A.length).length < 100000:=by
    rw [Rows.cps_len]
    have:=b.pvs_len
    omega
  refine ⟨o',seq_go (forC_go (ps:=b.cps A.length) (cell_go (n:=A.length + b.sz) (ps:=b.cps A.length) rfl rfl (mid_get (by rw [Rows.cls_len]))) e) ?_⟩
  refine appc_go (ws0:=b.cps A.length) (ws:=b.cps A.length) (ρ1:=E3 p0 (some (.sh (.ptr (A.length + b.sz)))) o' (A++(b.mls A.length++(some (.lst (b.cps A.length))::B)))) (ρ2:=E3 p0 (some (.sh (.ptr (A.length + b.sz)))) o' (A++(b.mls A.length++(some (.lst (b.cps A.length))::B)))) (p:=zz) (y:=.sh zz) rfl rfl ?_ rfl rfl ?_ hl ?_
  · exact mid_get (by rw [Rows.mls_len])
  · exact mid_get (by rw [Rows.mls_len])
  · exact mid_set (by rw [Rows.mls_len])
theorem cn_blk {b:Rows} {n:Nat} {A B:Mu} {p0 o2:Option Lc}
    (h:∀ j ps,(∀ X:Mu,X.length=b.sz->(A++(X++(some (.lst ps)::B)))[j]?=some (some (.lst ps)))->∃ o',forC (some j) ps (bName 2) (cnI n) (b.cps A.length) (E3 p0 (some (.sh (.ptr j))) o2 (A++(b.mls A.length++(some (.lst ps)::B))))=some (.nx (E3 p0 (some (.sh (.ptr j))) o' (A++(b.cls A.length++(some (.lst ps)::B)))))):
    ∃ o',cnB n (E3 p0 (some (.sh (.ptr (A.length + b.sz)))) o2 (A++(b.mls A.length++(some (.lst (b.cps A.length++[zz]))::B))))=some (.nx (E3 p0 (some (.sh (.ptr (A.length + b.sz)))) o' (A++(b.cls A.length++(some (.lst (b.cps A.length))::B))))):=by
  obtain ⟨o',e⟩:=h (A.length + b.sz) (b.cps A.length) fun X hX=>mid_get (by rw [hX])
  refine ⟨o',seq_go (ρ':=E3 p0 (some (.sh (.ptr (A.length + b.sz)))) o2 (A++(b.mls A.length++(some (.lst (b.cps A.length))::B)))) (expr_go (popc_go (ws:=b.cps A.length) (p:=zz) (n:=A.length + b.sz) (ρ1:=E3 p0 (some (.sh (.ptr (A.length + b.sz)))) o2 (A++(b.mls A.length++(some (.lst (b.cps A.length++[zz]))::B)))) rfl rfl ?_ ?_)) ?_⟩
  · exact mid_get (by rw [Rows.mls_len])
  · exact mid_set (by rw [Rows.mls_len])
  · exact forC_go (ps:=b.cps A.length) (cell_go (n:=A.length + b.sz) (ps:=b.cps A.length) rfl rfl (mid_get (by rw [Rows.mls_len]))) e
theorem for1 {b:BF} {body:SF} {x:PV} {ρ ρ1 ρ2:Ev} (h1:b x ρ=some ρ1) (h2:body ρ1=some (.nx ρ2)):forP b body [x] ρ=some (.nx ρ2):=by
  show (b x ρ).bind _=_
  rw [h1,Option.bind_some,h2]
  rfl
theorem for2 {b:BF} {body:SF} {x y:PV} {ρ ρ1 ρ2 ρ3 ρ4:Ev} (h1:b x ρ=some ρ1) (h2:body ρ1=some (.nx ρ2)) (h3:b y ρ2=some ρ3) (h4:body ρ3=some (.nx ρ4)):forP b body [x,y] ρ=some (.nx ρ4):=by
  show (b x ρ).bind _=_
  rw [h1,Option.bind_some,h2]
  exact for1 h3 h4
mutual
theorem marked_eq:∀ (r:Row) (f:Nat) (A B:Mu),r.ok->r.dep<=f->r.cnt<=1000->m__law_marked f [r.cp A.length] (A++(r.cl A.length++B))=some (.sh .non,A++(r.ml A.length++B))
  | .leaf w ps,f,A,B,ok,hd,hc=>by
    obtain ⟨m,rfl⟩:∃ m,f=m + 1:=⟨f - 1,by simp only [Row.dep] at hd; omega⟩
    obtain ⟨⟨h1,h2,h3⟩,_⟩:=ok
    have h1':("if" == w)=false:=by rw [BEq.comm]; exact h1
    have h2':("while" == w)=false:=by rw [BEq.comm]; exact h2
    refine runP_nx (ρ:=E3 (some (.sh (.tup (.str w::ps)))) none none (A++([]++B))) ?_
    refine (if_no cl_eq h3).trans ((sIf_f (iw_eq.trans ?_)).trans rfl)
    rw [h1',h2']
    rfl
  | .call b n as,f,A,B,ok,hd,hc=>by
    obtain ⟨m,rfl⟩:∃ m,f=m + 1:=⟨f - 1,by simp only [Row.dep] at hd; omega⟩
    obtain ⟨_,_,_,h4⟩:=ok
    refine runP_nx (ρ:=E3 (some (.sh (.tup [.str "call",b,n,.ptr A.length]))) none none (A++([some (.lst (as++[num1]))]++B))) ?_
    have g0:∀ c:Option PV,(A++([]++(c::B)))[A.length]?=some c:=fun c=>mid_get (by simp)
    refine (if_nx cl_eq (by decide +kernel) (appc_go (n:=A.length) (ws0:=as) (ws:=as) (ρ1:=E3 (some (.sh (.tup [.str "call",b,n,.ptr A.length]))) none none (A++([]++(some (.lst as)::B)))) (ρ2:=E3 (some (.sh (.tup [.str "call",b,n,.ptr A.length]))) none none (A++([]++(some (.lst as)::B)))) (p:=num1) (y:=.sh num1) rfl rfl (g0 _) rfl rfl (g0 _) (by omega) (mid_set (by simp)))).trans ((sIf_f (iw_eq.trans ?_)).trans rfl)
    rfl
  | .wh e b,f,A,B,ok,hd,hc=>by
    simp only [Row.dep] at hd
    simp only [Row.cnt] at hc
    obtain ⟨m,rfl⟩:∃ m,f=m + 1:=⟨f - 1,by omega⟩
    have hb:1<=b.dep:=Rows.dep_pos b
    let P:Option Lc:=some (.sh ((Row.wh e b).cp A.length))
    obtain ⟨o',k⟩:=mk_blk (b:=b) (n:=m) (A:=A) (B:=B) (p0:=P) (o2:=none) (by omega) fun j ps hj=>mark_rows b m A (some (.lst ps)::B) j ps P none ok.2 (by omega) (by omega) hj
    refine runP_nx (ρ:=E3 P (some (.sh (.ptr (A.length + b.sz)))) o' (A++((Row.wh e b).ml A.length++B))) ?_
    have e0:(Row.wh e b).cl A.length++B=b.cls A.length++(some (.lst (b.cps A.length))::B):=by simp [Row.cl]
    have e1:(Row.wh e b).ml A.length++B=b.mls A.length++(some (.lst (b.cps A.length++[zz]))::B):=by simp [Row.ml]
    rw [e0,e1]
    exact (if_no cl_eq (by decide +kernel)).trans ((sIf_t (iw_eq.trans rfl)).trans ((sFor_eq (sl2 (.inl rfl))).trans (for1 (ρ1:=E3 P (some (.sh (.ptr (A.length + b.sz)))) none (A++(b.cls A.length++(some (.lst (b.cps A.length))::B)))) rfl k)))
  | .iff e b c,f,A,B,ok,hd,hc=>by
    simp only [Row.dep] at hd
    simp only [Row.cnt] at hc
    obtain ⟨m,rfl⟩:∃ m,f=m + 1:=⟨f - 1,by omega⟩
    have hb:1<=b.dep:=Rows.dep_pos b
    let P:Option Lc:=some (.sh ((Row.iff e b c).cp A.length))
    let X:=c.cls (A.length + b.sz + 1)++(some (.lst (c.cps (A.length + b.sz + 1)))::B)
    obtain ⟨o1,k1⟩:=mk_blk (b:=b) (n:=m) (A:=A) (B:=X) (p0:=P) (o2:=none) (by omega) fun j ps hj=>mark_rows b m A (some (.lst ps)::X) j ps P none ok.2.1 (by omega) (by omega) hj
    let A2:=A++(b.mls A.length++[some (.lst (b.cps A.length++[zz]))])
    have hA2:A2.length=A.length + b.sz + 1:=by simp [A2,Rows.mls_len]; omega
    obtain ⟨o2,k2⟩:=mk_blk (b:=c) (n:=m) (A:=A2) (B:=B) (p0:=P) (o2:=o1) (by omega) fun j ps hj=>mark_rows c m A2 (some (.lst ps)::B) j ps P o1 ok.2.2 (by omega) (by omega) hj
    rw [hA2] at k2
    have ea:A++(b.mls A.length++(some (.lst (b.cps A.length++[zz]))::X))=A2++X:=by simp [A2]
    rw [ea] at k1
    refine runP_nx (ρ:=E3 P (some (.sh (.ptr (A.length + b.sz + 1 + c.sz)))) o2 (A++((Row.iff e b c).ml A.length++B))) ?_
    have e0:(Row.iff e b c).cl A.length++B=b.cls A.length++(some (.lst (b.cps A.length))::X):=by simp [Row.cl,X]
    have e1:A++((Row.iff e b c).ml A.length++B)=A2++(c.mls (A.length + b.sz + 1)++(some (.lst (c.cps (A.length + b.sz + 1)++[zz]))::B)):=by simp [Row.ml,A2]
    rw [e0,e1]
    exact (if_no cl_eq (by decide +kernel)).trans ((sIf_t (iw_eq.trans rfl)).trans ((sFor_eq (sl2 (.inr ⟨_,rfl⟩))).trans (for2 (ρ1:=E3 P (some (.sh (.ptr (A.length + b.sz)))) none (A++(b.cls A.length++(some (.lst (b.cps A.length))::X)))) (ρ3:=E3 P (some (.sh (.ptr (A.length + b.sz + 1 + c.sz)))) o1 (A2++X)) rfl k1 rfl k2)))
theorem mark_rows:∀ (rs:Rows) (n:Nat) (A B:Mu) (j:Nat) (ps:List PV) (p0 o2:Option Lc),rs.ok->rs.dep<=n + 1->rs.cnt<=1000->(∀ X:Mu,X.length=rs.sz->(A++(X++B))[j]?=some (some (.lst ps)))->
    ∃ o',forC (some j) ps (bName 2) (mkI n) (rs.cps A.length) (E3 p0 (some (.sh (.ptr j))) o2 (A++(rs.cls A.length++B)))=some (.nx (E3 p0 (some (.sh (.ptr j))) o' (A++(rs.mls A.length++B))))
  | .nil,n,A,B,j,ps,p0,o2,ok,hd,hc,hj=>⟨o2,forC_end fun n hn=>by cases hn; exact hj [] rfl⟩
  | .cons r rs,n,A,B,j,ps,p0,o2,ok,hd,hc,hj=>by
    simp only [Rows.dep] at hd
    simp only [Rows.cnt] at hc
    have e1:=marked_eq r n A (rs.cls (A.length + r.sz)++B) ok.1 (by omega) (by omega)
    have hA:(A++r.ml A.length).length=A.length + r.sz:=by rw [List.length_append,Row.ml_len]
    obtain ⟨o',e2⟩:=mark_rows rs n (A++r.ml A.length) B j ps p0 (some (.sh (r.cp A.length))) ok.2 (by omega) (by omega) fun X hX=>by
      have:=hj (r.ml A.length++X) (by rw [List.length_append,Row.ml_len,hX]; rfl)
      simpa using this
    rw [hA] at e2
    refine ⟨o',?_⟩
    have c0:A++((Rows.cons r rs).cls A.length++B)=A++(r.cl A.length++(rs.cls (A.length + r.sz)++B)):=by simp [Rows.cls]
    have c1:A++((Rows.cons r rs).mls A.length++B)=A++r.ml A.length++(rs.mls (A.length + r.sz)++B):=by simp [Rows.mls]
    have c2:A++(r.ml A.length++(rs.cls (A.length + r.sz)++B))=A++r.ml A.length++(rs.cls (A.length + r.sz)++B):=by simp
    have hh:=hj ((Rows.cons r rs).cls A.length) (Rows.cls_len _ _)
    rw [c0] at hh ⊢
    rw [c1]
    rw [c2] at e1
    exact forC_nx (fun n hn=>by cases hn; exact hh) (ρ1:=E3 p0 (some (.sh (.ptr j))) (some (.sh (r.cp A.length))) (A++(r.cl A.length++(rs.cls (A.length + r.sz)++B)))) rfl (expr_go (call_go (ls:=[.sh (r.cp A.length)]) (ps:=[r.cp A.length]) (ρ1:=E3 p0 (some (.sh (.ptr j))) (some (.sh (r.cp A.length))) (A++(r.cl A.length++(rs.cls (A.length + r.sz)++B)))) rfl rfl rfl rfl e1)) e2
end
mutual
theorem cleaned_eq:∀ (r:Row) (f:Nat) (A B:Mu),r.ok->r.dep<=f->r.cnt<=1000->m__law_cleaned f [r.cp A.length] (A++(r.ml A.length++B))=some (.sh .non,A++(r.cl A.length++B))
  | .leaf w ps,f,A,B,ok,hd,hc=>by
    obtain ⟨m,rfl⟩:∃ m,f=m + 1:=⟨f - 1,by simp only [Row.dep] at hd; omega⟩
    obtain ⟨⟨h1,h2,h3⟩,_⟩:=ok
    have h1':("if" == w)=false:=by rw [BEq.comm]; exact h1
    have h2':("while" == w)=false:=by rw [BEq.comm]; exact h2
    refine runP_nx (ρ:=E3 (some (.sh (.tup (.str w::ps)))) none none (A++([]++B))) ?_
    refine (if_no cl_eq h3).trans ((sIf_f (iw_eq.trans ?_)).trans rfl)
    rw [h1',h2']
    rfl
  | .call b n as,f,A,B,ok,hd,hc=>by
    obtain ⟨m,rfl⟩:∃ m,f=m + 1:=⟨f - 1,by simp only [Row.dep] at hd; omega⟩
    obtain ⟨_,_,_,h4⟩:=ok
    refine runP_nx (ρ:=E3 (some (.sh (.tup [.str "call",b,n,.ptr A.length]))) none none (A++([some (.lst as)]++B))) ?_
    have g0:∀ c:Option PV,(A++([]++(c::B)))[A.length]?=some c:=fun c=>mid_get (by simp)
    refine (if_nx cl_eq (by decide +kernel) (expr_go (popc_go (n:=A.length) (ws:=as) (p:=num1) (ρ1:=E3 (some (.sh (.tup [.str "call",b,n,.ptr A.length]))) none none (A++([]++(some (.lst (as++[num1]))::B)))) rfl rfl (g0 _) (mid_set (by simp))))).trans ((sIf_f (iw_eq.trans ?_)).trans rfl)
    rfl
  | .wh e b,f,A,B,ok,hd,hc=>by
    simp only [Row.dep] at hd
    simp only [Row.cnt] at hc
    obtain ⟨m,rfl⟩:∃ m,f=m + 1:=⟨f - 1,by omega⟩
    have hb:1<=b.dep:=Rows.dep_pos b
    let P:Option Lc:=some (.sh ((Row.wh e b).cp A.length))
    obtain ⟨o',k⟩:=cn_blk (b:=b) (n:=m) (A:=A) (B:=B) (p0:=P) (o2:=none) fun j ps hj=>clean_rows b m A (some (.lst ps)::B) j ps P none ok.2 (by omega) (by omega) hj
    refine runP_nx (ρ:=E3 P (some (.sh (.ptr (A.length + b.sz)))) o' (A++((Row.wh e b).cl A.length++B))) ?_
    have e0:(Row.wh e b).ml A.length++B=b.mls A.length++(some (.lst (b.cps A.length++[zz]))::B):=by simp [Row.ml]
    have e1:(Row.wh e b).cl A.length++B=b.cls A.length++(some (.lst (b.cps A.length))::B):=by simp [Row.cl]
    rw [e0,e1]
    exact (if_no cl_eq (by decide +kernel)).trans ((sIf_t (iw_eq.trans rfl)).trans ((sFor_eq (sl2 (.inl rfl))).trans (for1 (ρ1:=E3 P (some (.sh (.ptr (A.length + b.sz)))) none (A++(b.mls A.length++(some (.lst (b.cps A.length++[zz]))::B)))) rfl k)))
  | .iff e b c,f,A,B,ok,hd,hc=>by
    simp only [Row.dep] at hd
    simp only [Row.cnt] at hc
    obtain ⟨m,rfl⟩:∃ m,f=m + 1:=⟨f - 1,by omega⟩
    have hb:1<=b.dep:=Rows.dep_pos b
    let P:Option Lc:=some (.sh ((Row.iff e b c).cp A.length))
    let X:=c.mls (A.length + b.sz + 1)++(some (.lst (c.cps (A.length + b.sz + 1)++[zz]))::B)
    obtain ⟨o1,k1⟩:=cn_blk (b:=b) (n:=m) (A:=A) (B:=X) (p0:=P) (o2:=none) fun j ps hj=>clean_rows b m A (some (.lst ps)::X) j ps P none ok.2.1 (by omega) (by omega) hj
    let A2:=A++(b.cls A.length++[some (.lst (b.cps A.length))])
    have hA2:A2.length=A.length + b.sz + 1:=by simp [A2,Rows.cls_len]; omega
    obtain ⟨o2,k2⟩:=cn_blk (b:=c) (n:=m) (A:=A2) (B:=B) (p0:=P) (o2:=o1) fun j ps hj=>clean_rows c m A2 (some (.lst ps)::B) j ps P o1 ok.2.2 (by omega) (by omega) hj
    rw [hA2] at k2
    have ea:A++(b.cls A.length++(some (.lst (b.cps A.length))::X))=A2++X:=by simp [A2]
    rw [ea] at k1
    refine runP_nx (ρ:=E3 P (some (.sh (.ptr (A.length + b.sz + 1 + c.sz)))) o2 (A++((Row.iff e b c).cl A.length++B))) ?_
    have e0:(Row.iff e b c).ml A.length++B=b.mls A.length++(some (.lst (b.cps A.length++[zz]))::X):=by simp [Row.ml,X]
    have e1:A++((Row.iff e b c).cl A.length++B)=A2++(c.cls (A.length + b.sz + 1)++(some (.lst (c.cps (A.length + b.sz + 1)))::B)):=by simp [Row.cl,A2]
    rw [e0,e1]
    exact (if_no cl_eq (by decide +kernel)).trans ((sIf_t (iw_eq.trans rfl)).trans ((sFor_eq (sl2 (.inr ⟨_,rfl⟩))).trans (for2 (ρ1:=E3 P (some (.sh (.ptr (A.length + b.sz)))) none (A++(b.mls A.length++(some (.lst (b.cps A.length++[zz]))::X)))) (ρ3:=E3 P (some (.sh (.ptr (A.length + b.sz + 1 + c.sz)))) o1 (A2++X)) rfl k1 rfl k2)))
theorem clean_rows:∀ (rs:Rows) (n:Nat) (A B:Mu) (j:Nat) (ps:List PV) (p0 o2:Option Lc),rs.ok->rs.dep<=n + 1->rs.cnt<=1000->(∀ X:Mu,X.length=rs.sz->(A++(X++B))[j]?=some (some (.lst ps)))->
    ∃ o',forC (some j) ps (bName 2) (cnI n) (rs.cps A.length) (E3 p0 (some (.sh (.ptr j))) o2 (A++(rs.mls A.length++B)))=some (.nx (E3 p0 (some (.sh (.ptr j))) o' (A++(rs.cls A.length++B))))
  | .nil,n,A,B,j,ps,p0,o2,ok,hd,hc,hj=>⟨o2,forC_end fun n hn=>by cases hn; exact hj [] rfl⟩
  | .cons r rs,n,A,B,j,ps,p0,o2,ok,hd,hc,hj=>by
    simp only [Rows.dep] at hd
    simp only [Rows.cnt] at hc
    have e1:=cleaned_eq r n A (rs.mls (A.length + r.sz)++B) ok.1 (by omega) (by omega)
    have hA:(A++r.cl A.length).length=A.length + r.sz:=by rw [List.length_append,Row.cl_len]
    obtain ⟨o',e2⟩:=clean_rows rs n (A++r.cl A.length) B j ps p0 (some (.sh (r.cp A.length))) ok.2 (by omega) (by omega) fun X hX=>by
      have:=hj (r.cl A.length++X) (by rw [List.length_append,Row.cl_len,hX]; rfl)
      simpa using this
    rw [hA] at e2
    refine ⟨o',?_⟩
    have c0:A++((Rows.cons r rs).mls A.length++B)=A++(r.ml A.length++(rs.mls (A.length + r.sz)++B)):=by simp [Rows.mls]
    have c1:A++((Rows.cons r rs).cls A.length++B)=A++r.cl A.length++(rs.cls (A.length + r.sz)++B):=by simp [Rows.cls]
    have c2:A++(r.cl A.length++(rs.mls (A.length + r.sz)++B))=A++r.cl A.length++(rs.mls (A.length + r.sz)++B):=by simp
    have hh:=hj ((Rows.cons r rs).mls A.length) (Rows.mls_len _ _)
    rw [c0] at hh ⊢
    rw [c1]
    rw [c2] at e1
    exact forC_nx (fun n hn=>by cases hn; exact hh) (ρ1:=E3 p0 (some (.sh (.ptr j))) (some (.sh (r.cp A.length))) (A++(r.ml A.length++(rs.mls (A.length + r.sz)++B)))) rfl (expr_go (call_go (ls:=[.sh (r.cp A.length)]) (ps:=[r.cp A.length]) (ρ1:=E3 p0 (some (.sh (.ptr j))) (some (.sh (r.cp A.length))) (A++(r.ml A.length++(rs.mls (A.length + r.sz)++B)))) rfl rfl rfl rfl e1)) e2
end
structure Ent where
  w:Str
  ab:PV
  bl:Int
  r:Row
noncomputable def ents:List Ent->Nat->List PV
  | [],_=>[]
  | e::es,N=>.tup [.str e.w,e.ab,.int e.bl,e.r.cp N]::ents es (N + e.r.sz)
noncomputable def cells:List Ent->Nat->Mu
  | [],_=>[]
  | e::es,N=>e.r.cl N++cells es (N + e.r.sz)
noncomputable def esz:List Ent->Nat
  | []=>0
  | e::es=>e.r.sz + esz es
noncomputable def Ent.due (e:Ent):PV:=.tup [.str e.w,e.ab,.int e.bl,e.r.pv]
theorem cells_len:∀ (es:List Ent) (N:Nat),(cells es N).length=esz es
  | [],N=>rfl
  | e::es,N=>by simp [cells,esz,Row.cl_len,cells_len es]
theorem ents_app:∀ (a b:List Ent) (N:Nat),ents (a++b) N=ents a N++ents b (N + esz a)
  | [],b,N=>by simp [ents,esz]
  | e::a,b,N=>by simp [ents,esz,ents_app a,Nat.add_assoc]
theorem cells_app:∀ (a b:List Ent) (N:Nat),cells (a++b) N=cells a N++cells b (N + esz a)
  | [],b,N=>by simp [cells,esz]
  | e::a,b,N=>by simp [cells,esz,cells_app a,Nat.add_assoc]
theorem ents_len:∀ (es:List Ent) (N:Nat),(ents es N).length=es.length
  | [],N=>rfl
  | e::es,N=>by simp [ents,ents_len es]
mutual
noncomputable def Row.es:Row->Str->PV->Int->Nat->List Ent
  | .leaf x ps,w,ab,bl,_=>[⟨w,ab,bl,.leaf x ps⟩]
  | .call b n as,w,ab,bl,_=>[⟨w,ab,bl,.call b n as⟩]
  | .wh e b,w,ab,bl,k=>⟨w,ab,bl,.wh e b⟩::b.es w (.int k) 0 (k + 1)
  | .iff e b c,w,ab,bl,k=>⟨w,ab,bl,.iff e b c⟩::(b.es w (.int k) 0 (k + 1)++c.es w (.int k) 1 (k + 1 + b.cnt))
noncomputable def Rows.es:Rows->Str->PV->Int->Nat->List Ent
  | .nil,_,_,_,_=>[]
  | .cons r rs,w,ab,bl,k=>r.es w ab bl k++rs.es w ab bl (k + r.cnt)
end
mutual
theorem Row.es_len:∀ (r:Row) (w:Str) (ab:PV) (bl:Int) (k:Nat),(r.es w ab bl k).length=r.cnt
  | .leaf _ _,w,ab,bl,k=>rfl
  | .call _ _ _,w,ab,bl,k=>rfl
  | .wh e b,w,ab,bl,k=>by simp [Row.es,Row.cnt,Rows.es_len b]
  | .iff e b c,w,ab,bl,k=>by simp [Row.es,Row.cnt,Rows.es_len b,Rows.es_len c]
theorem Rows.es_len:∀ (rs:Rows) (w:Str) (ab:PV) (bl:Int) (k:Nat),(rs.es w ab bl k).length=rs.cnt
  | .nil,w,ab,bl,k=>rfl
  | .cons r rs,w,ab,bl,k=>by simp [Rows.es,Rows.cnt,Row.es_len r,Rows.es_len rs]
end
theorem blocks_leaf {w:Str} {ps:List PV} {mu:Mu} (h1:(w == "if")=false) (h2:(w == "while")=false):m_blocks_of [.tup (.str w::ps)] mu=some (.own (.lst []),mu):=
  runP_rt (ρ:=E1 (.tup (.str w::ps)) mu) ((if_no (tw_eq w0) h1).trans ((if_no (tw_eq w0) h2).trans rfl))
theorem blocks_wh {e p:PV} {mu:Mu}:m_blocks_of [.tup [.str "while",e,p]] mu=some (.own (.lst [p]),mu):=
  runP_rt (ρ:=E1 (.tup [.str "while",e,p]) mu) ((if_no (tw_eq w0) (by decide +kernel)).trans (if_yes (tw_eq w0) (by decide +kernel) rfl))
theorem blocks_if {e p q:PV} {mu:Mu}:m_blocks_of [.tup [.str "if",e,p,q]] mu=some (.own (.lst [p,q]),mu):=
  runP_rt (ρ:=E1 (.tup [.str "if",e,p,q]) mu) (if_yes (tw_eq w0) (by decide +kernel) rfl)
noncomputable abbrev LE (w:Str) (ab:PV) (bl:Int) (X:PV) (st:Nat) (acc:List PV) (o6 o7 o8 o9:Option Lc) (mu:Mu):Ev:=⟨[some (.sh (.str w)),some (.sh ab),some (.sh (.int bl)),some (.sh X),some (.sh (.int st)),some (.own (.lst acc)),o6,o7,o8,o9],mu⟩
noncomputable abbrev loX (n:Nat):SF:=sExt 5 (eCall (m_laid_out n) (aCons (eVar 0) (aCons (eVar 7) (aCons (eVar 8) (aCons (eVar 9) (aCons (eRead (eOp addP (eVar 4) (eLen (eVar 5)))) aNil))))))
noncomputable abbrev loB (n:Nat):SF:=sSeq (sSet 7 (eRead (eOp addP (eVar 4) (eLen (eVar 5)))))
    (sSeq (sApp 5 (eTup (aCons (eVar 0) (aCons (eVar 1) (aCons (eVar 2) (aCons (eCall (m_copied 40) (aCons (eVar 6) aNil)) aNil))))))
    (sFor (iEnumF (eCall m_blocks_of (aCons (eVar 6) aNil))) (bSeq 2 (bCons (bName 8) (bCons (bName 9) bNil))) (loX n)))
theorem lo_ext {n:Nat} {w:Str} {ab X:PV} {bl pl:Int} {st k:Nat} {acc qs:List PV} {o6:Option Lc} {p:PV} {mu mu':Mu} (h:m_laid_out n [.str w,.int k,.int pl,p,.int ((st + acc.length:Nat):Int)] mu=some (.own (.lst qs),mu')) (hz:acc.length + qs.length<=100000):
    loX n (LE w ab bl X st acc o6 (some (.sh (.int k))) (some (.sh (.int pl))) (some (.sh p)) mu)=some (.nx (LE w ab bl X st (acc++qs) o6 (some (.sh (.int k))) (some (.sh (.int pl))) (some (.sh p)) mu')):=
  ext_go (i:=5) (ws0:=acc) (ws:=acc) (ps:=qs) (l:=.own (.lst qs)) (ρ1:=LE w ab bl X st acc o6 (some (.sh (.int k))) (some (.sh (.int pl))) (some (.sh p)) mu') rfl
    (call_go (ls:=[.sh (.str w),.sh (.int k),.sh (.int pl),.sh p,.sh (.int ((st:Int) + acc.length))]) (ps:=[.str w,.int k,.int pl,p,.int ((st + acc.length:Nat):Int)]) (ρ1:=LE w ab bl X st acc o6 (some (.sh (.int k))) (some (.sh (.int pl))) (some (.sh p)) mu) rfl (by simp [Lc.pv]) rfl rfl h) rfl rfl hz rfl
theorem lo_own {n:Nat} {w:Str} {ab X:PV} {bl:Int} {st:Nat} {acc:List PV} {o7 o8 o9:Option Lc} {mu:Mu} {r:Row} {R:Option Fl} {bs:List PV} (ok:r.ok) (hd:r.dep<=40) (hc:r.cnt<=1000) (hz:acc.length < 1000) (hb:∀ mu,m_blocks_of [r.pv] mu=some (.own (.lst bs),mu))
    (h:forP (bSeq 2 (bCons (bName 8) (bCons (bName 9) bNil))) (loX n) (enumP bs) (LE w ab bl X st (acc++[.tup [.str w,ab,.int bl,r.cp mu.length]]) (some (.sh r.pv)) (some (.sh (.int ((st + acc.length:Nat):Int)))) o8 o9 (mu++r.cl mu.length))=R):
    loB n (LE w ab bl X st acc (some (.sh r.pv)) o7 o8 o9 mu)=R:=by
  have e1:=copied_eq r 40 mu ok hd hc
  refine seq_go (ρ':=LE w ab bl X st acc (some (.sh r.pv)) (some (.sh (.int ((st + acc.length:Nat):Int)))) o8 o9 mu) (set_go (l:=.sh (.int ((st:Int) + acc.length))) (ρ1:=LE w ab bl X st acc (some (.sh r.pv)) o7 o8 o9 mu) rfl rfl (by rw [Int.natCast_add]; rfl)) ?_
  refine seq_go (ρ':=LE w ab bl X st (acc++[.tup [.str w,ab,.int bl,r.cp mu.length]]) (some (.sh r.pv)) (some (.sh (.int ((st + acc.length:Nat):Int)))) o8 o9 (mu++r.cl mu.length)) ?_ ?_
  · exact app_go (i:=5) (ws0:=acc) (ws:=acc) (p:=.tup [.str w,ab,.int bl,r.cp mu.length]) (l:=.sh (.tup [.str w,ab,.int bl,r.cp mu.length])) (ρ1:=LE w ab bl X st acc (some (.sh r.pv)) (some (.sh (.int ((st + acc.length:Nat):Int)))) o8 o9 (mu++r.cl mu.length)) rfl
      (tup_go (ls:=[.sh (.str w),.sh ab,.sh (.int bl),.sh (r.cp mu.length)]) (cons_go (ρ1:=LE w ab bl X st acc (some (.sh r.pv)) (some (.sh (.int ((st + acc.length:Nat):Int)))) o8 o9 mu) rfl (cons_go (ρ1:=LE w ab bl X st acc (some (.sh r.pv)) (some (.sh (.int ((st + acc.length:Nat):Int)))) o8 o9 mu) rfl (cons_go (ρ1:=LE w ab bl X st acc (some (.sh r.pv)) (some (.sh (.int ((st + acc.length:Nat):Int)))) o8 o9 mu) rfl (cons_go (call_go (ls:=[.sh r.pv]) (ps:=[r.pv]) (ρ1:=LE w ab bl X st acc (some (.sh r.pv)) (some (.sh (.int ((st + acc.length:Nat):Int)))) o8 o9 mu) rfl rfl rfl rfl e1) rfl)))) rfl rfl) rfl rfl (by omega) rfl
  · refine for_go (xs:=enumP bs) (ρ1:=LE w ab bl X st (acc++[.tup [.str w,ab,.int bl,r.cp mu.length]]) (some (.sh r.pv)) (some (.sh (.int ((st + acc.length:Nat):Int)))) o8 o9 (mu++r.cl mu.length)) ?_ h
    unfold iEnumF
    rw [call_go (ls:=[.sh r.pv]) (ps:=[r.pv]) (ρ1:=LE w ab bl X st (acc++[.tup [.str w,ab,.int bl,r.cp mu.length]]) (some (.sh r.pv)) (some (.sh (.int ((st + acc.length:Nat):Int)))) o8 o9 (mu++r.cl mu.length)) rfl rfl rfl rfl (hb _),Option.bind_some]
    rfl
theorem lo_of {rs:Rows} {n:Nat} {w:Str} {ab X:PV} {bl:Int} {st:Nat} {mu:Mu} {o:Option Nat} (hX:(X=.lst rs.pvs/\o=none)\/∃ j,X=.ptr j/\o=some j/\mu[j]?=some (some (.lst rs.pvs)))
    (h:∃ o6 o7 o8 o9,forC o rs.pvs (bName 6) (loB n) rs.pvs (LE w ab bl X st [] none none none none mu)=some (.nx (LE w ab bl X st ([]++ents (rs.es w ab bl (st + 0)) mu.length) o6 o7 o8 o9 (mu++cells (rs.es w ab bl (st + 0)) mu.length)))):
    m_laid_out (n + 1) [.str w,ab,.int bl,X,.int st] mu=some (.own (.lst (ents (rs.es w ab bl st) mu.length)),mu++cells (rs.es w ab bl st) mu.length):=by
  obtain ⟨o6,o7,o8,o9,h⟩:=h
  refine runP_rt (ρ:=⟨[some (.sh (.str w)),some (.sh ab),some (.sh (.int bl)),some (.sh X),some (.sh (.int st)),none,o6,o7,o8,o9],mu++cells (rs.es w ab bl st) mu.length⟩) ?_
  refine seq_go (ρ':=LE w ab bl X st [] none none none none mu) rfl (seq_go (forC_go (o:=o) (ps:=rs.pvs) (xs:=rs.pvs) (ρ1:=LE w ab bl X st [] none none none none mu) ?_ h) rfl)
  rcases hX with ⟨rfl,rfl⟩ | ⟨j,rfl,rfl,hj⟩
  · rfl
  · exact cell_go rfl rfl hj
mutual
theorem lo_row:∀ (r:Row) (n:Nat) (w:Str) (ab:PV) (bl:Int) (X:PV) (st:Nat) (acc:List PV) (o7 o8 o9:Option Lc) (mu:Mu),r.ok->r.dep<=n->r.dep<=40->acc.length + r.cnt<=1000->
    ∃ p7 p8 p9,loB n (LE w ab bl X st acc (some (.sh r.pv)) o7 o8 o9 mu)=some (.nx (LE w ab bl X st (acc++ents (r.es w ab bl (st + acc.length)) mu.length) (some (.sh r.pv)) p7 p8 p9 (mu++cells (r.es w ab bl (st + acc.length)) mu.length)))
  | .leaf x ps,n,w,ab,bl,X,st,acc,o7,o8,o9,mu,ok,hd,h40,hc=>by
    simp only [Row.cnt] at hc
    refine ⟨some (.sh (.int ((st + acc.length:Nat):Int))),o8,o9,lo_own (r:=.leaf x ps) ok h40 (by simp only [Row.cnt]; omega) (by omega) (fun mu=>blocks_leaf ok.1.1 ok.1.2.1) ?_⟩
    simp [Row.es,ents,cells,enumP,forP]
  | .call b m as,n,w,ab,bl,X,st,acc,o7,o8,o9,mu,ok,hd,h40,hc=>by
    simp only [Row.cnt] at hc
    refine ⟨some (.sh (.int ((st + acc.length:Nat):Int))),o8,o9,lo_own (r:=.call b m as) ok h40 (by simp only [Row.cnt]; omega) (by omega) (fun mu=>blocks_leaf (by decide +kernel) (by decide +kernel)) ?_⟩
    simp [Row.es,ents,cells,enumP,forP]
  | .wh e b,n,w,ab,bl,X,st,acc,o7,o8,o9,mu,ok,hd,h40,hc=>by
    simp only [Row.cnt] at hc
    simp only [Row.dep] at hd h40
    have hb:=Rows.dep_pos b
    obtain ⟨m,rfl⟩:∃ m,n=m + 1:=⟨n - 1,by omega⟩
    let r:Row:=.wh e b
    let k:=st + acc.length
    let en:PV:=.tup [.str w,ab,.int bl,r.cp mu.length]
    let acc1:=acc++[en]
    let mu1:=mu++r.cl mu.length
    have hl1:acc1.length=acc.length + 1:=by simp [acc1]
    have hm1:mu1.length=mu.length + r.sz:=by simp only [mu1,List.length_append,Row.cl_len]
    have ih:=lo_of (n:=m) (w:=w) (ab:=.int (k:Nat)) (bl:=0) (st:=st + acc1.length) (mu:=mu1) (rs:=b) (.inl ⟨rfl,rfl⟩) (lo_loop b m w (.int (k:Nat)) 0 (.lst b.pvs) (st + acc1.length) [] none none none none mu1 none b.pvs ok.2 (by omega) (by omega) (by simp only [List.length_nil]; omega) fun j hj=>by cases hj)
    have he:(ents (b.es w (.int (k:Nat)) 0 (st + acc1.length)) mu1.length).length=b.cnt:=by rw [ents_len,Rows.es_len]
    have st1:=lo_ext (n:=m + 1) (w:=w) (ab:=ab) (X:=X) (bl:=bl) (pl:=0) (st:=st) (k:=k) (acc:=acc1) (o6:=some (.sh r.pv)) (p:=.lst b.pvs) ih (by rw [he,hl1]; omega)
    refine ⟨some (.sh (.int (k:Nat))),some (.sh (.int 0)),some (.sh (.lst b.pvs)),lo_own (r:=.wh e b) ok (by simp only [Row.dep]; omega) (by simp only [Row.cnt]; omega) (by omega) (fun mu=>blocks_wh) ((for1 (ρ1:=LE w ab bl X st acc1 (some (.sh r.pv)) (some (.sh (.int (k:Nat)))) (some (.sh (.int 0))) (some (.sh (.lst b.pvs))) mu1) rfl st1).trans ?_)⟩
    have ek:st + acc1.length=k + 1:=by rw [hl1]; omega
    rw [ek,hm1]
    simp only [Row.es,ents,cells,acc1,en,mu1,List.append_assoc,List.cons_append,List.nil_append]
    rfl
  | .iff e b c,n,w,ab,bl,X,st,acc,o7,o8,o9,mu,ok,hd,h40,hc=>by
    simp only [Row.cnt] at hc
    simp only [Row.dep] at hd h40
    have hb:=Rows.dep_pos b
    obtain ⟨m,rfl⟩:∃ m,n=m + 1:=⟨n - 1,by omega⟩
    let r:Row:=.iff e b c
    let k:=st + acc.length
    let en:PV:=.tup [.str w,ab,.int bl,r.cp mu.length]
    let acc1:=acc++[en]
    let mu1:=mu++r.cl mu.length
    have hl1:acc1.length=acc.length + 1:=by simp [acc1]
    have hm1:mu1.length=mu.length + r.sz:=by simp only [mu1,List.length_append,Row.cl_len]
    have ih:=lo_of (n:=m) (w:=w) (ab:=.int (k:Nat)) (bl:=0) (st:=st + acc1.length) (mu:=mu1) (rs:=b) (.inl ⟨rfl,rfl⟩) (lo_loop b m w (.int (k:Nat)) 0 (.lst b.pvs) (st + acc1.length) [] none none none none mu1 none b.pvs ok.2.1 (by omega) (by omega) (by simp only [List.length_nil]; omega) fun j hj=>by cases hj)
    have he:(ents (b.es w (.int (k:Nat)) 0 (st + acc1.length)) mu1.length).length=b.cnt:=by rw [ents_len,Rows.es_len]
    have st1:=lo_ext (n:=m + 1) (w:=w) (ab:=ab) (X:=X) (bl:=bl) (pl:=0) (st:=st) (k:=k) (acc:=acc1) (o6:=some (.sh r.pv)) (p:=.lst b.pvs) ih (by rw [he,hl1]; omega)
    let acc2:=acc1++ents (b.es w (.int (k:Nat)) 0 (st + acc1.length)) mu1.length
    let mu2:=mu1++cells (b.es w (.int (k:Nat)) 0 (st + acc1.length)) mu1.length
    have hl2:acc2.length=acc.length + 1 + b.cnt:=by show (acc1++_).length=_; rw [List.length_append,he,hl1]
    have hm2:mu2.length=mu1.length + esz (b.es w (.int (k:Nat)) 0 (st + acc1.length)):=by show (mu1++_).length=_; rw [List.length_append,cells_len]
    have ih2:=lo_of (n:=m) (w:=w) (ab:=.int (k:Nat)) (bl:=1) (st:=st + acc2.length) (mu:=mu2) (rs:=c) (.inl ⟨rfl,rfl⟩) (lo_loop c m w (.int (k:Nat)) 1 (.lst c.pvs) (st + acc2.length) [] none none none none mu2 none c.pvs ok.2.2 (by omega) (by omega) (by simp only [List.length_nil]; omega) fun j hj=>by cases hj)
    have he2:(ents (c.es w (.int (k:Nat)) 1 (st + acc2.length)) mu2.length).length=c.cnt:=by rw [ents_len,Rows.es_len]
    have st2:=lo_ext (n:=m + 1) (w:=w) (ab:=ab) (X:=X) (bl:=bl) (pl:=1) (st:=st) (k:=k) (acc:=acc2) (o6:=some (.sh r.pv)) (p:=.lst c.pvs) ih2 (by rw [he2,hl2]; omega)
    refine ⟨some (.sh (.int (k:Nat))),some (.sh (.int 1)),some (.sh (.lst c.pvs)),lo_own (r:=.iff e b c) ok (by simp only [Row.dep]; omega) (by simp only [Row.cnt]; omega) (by omega) (fun mu=>blocks_if) ((for2 (ρ1:=LE w ab bl X st acc1 (some (.sh r.pv)) (some (.sh (.int (k:Nat)))) (some (.sh (.int 0))) (some (.sh (.lst b.pvs))) mu1) (ρ3:=LE w ab bl X st acc2 (some (.sh r.pv)) (some (.sh (.int (k:Nat)))) (some (.sh (.int 1))) (some (.sh (.lst c.pvs))) mu2) rfl st1 rfl st2).trans ?_)⟩
    have ek:st + acc1.length=k + 1:=by rw [hl1]; omega
    have ek2:st + acc2.length=k + 1 + b.cnt:=by rw [hl2]; omega
    rw [ek2,hm2]
    simp only [acc2,mu2,ek,hm1]
    simp only [Row.es,ents,cells,ents_app,cells_app,acc1,en,mu1,List.append_assoc,List.cons_append,List.nil_append]
    rfl
theorem lo_loop:∀ (rs:Rows) (n:Nat) (w:Str) (ab:PV) (bl:Int) (X:PV) (st:Nat) (acc:List PV) (o6 o7 o8 o9:Option Lc) (mu:Mu) (o:Option Nat) (ps:List PV),rs.ok->rs.dep<=n + 1->rs.dep<=41->acc.length + rs.cnt<=1000->(∀ j,o=some j->mu[j]?=some (some (.lst ps)))->
    ∃ p6 p7 p8 p9,forC o ps (bName 6) (loB n) rs.pvs (LE w ab bl X st acc o6 o7 o8 o9 mu)=some (.nx (LE w ab bl X st (acc++ents (rs.es w ab bl (st + acc.length)) mu.length) p6 p7 p8 p9 (mu++cells (rs.es w ab bl (st + acc.length)) mu.length)))
  | .nil,n,w,ab,bl,X,st,acc,o6,o7,o8,o9,mu,o,ps,ok,hd,h41,hc,hj=>⟨o6,o7,o8,o9,by
    rw [show (Rows.nil).pvs=[] from rfl,forC_end fun j e=>hj j e]
    simp [Rows.es,ents,cells]⟩
  | .cons r rs,n,w,ab,bl,X,st,acc,o6,o7,o8,o9,mu,o,ps,ok,hd,h41,hc,hj=>by
    simp only [Rows.dep] at hd h41
    simp only [Rows.cnt] at hc
    obtain ⟨q7,q8,q9,e1⟩:=lo_row r n w ab bl X st acc o7 o8 o9 mu ok.1 (by omega) (by omega) (by omega)
    have hl:(acc++ents (r.es w ab bl (st + acc.length)) mu.length).length=acc.length + r.cnt:=by rw [List.length_append,ents_len,Row.es_len]
    have hm:(mu++cells (r.es w ab bl (st + acc.length)) mu.length).length=mu.length + esz (r.es w ab bl (st + acc.length)):=by rw [List.length_append,cells_len]
    obtain ⟨p6,p7,p8,p9,e2⟩:=lo_loop rs n w ab bl X st (acc++ents (r.es w ab bl (st + acc.length)) mu.length) (some (.sh r.pv)) q7 q8 q9 (mu++cells (r.es w ab bl (st + acc.length)) mu.length) o ps ok.2 (by omega) (by omega) (by rw [hl]; omega) fun j e=>by
      rw [List.getElem?_append_left (List.getElem?_eq_some_iff.mp (hj j e)).1]
      exact hj j e
    refine ⟨p6,p7,p8,p9,forC_nx (fun j e=>hj j e) (ρ1:=LE w ab bl X st acc (some (.sh r.pv)) o7 o8 o9 mu) rfl e1 (e2.trans ?_)⟩
    rw [hl,hm,← Nat.add_assoc]
    simp only [Rows.es,ents_app,cells_app,List.append_assoc]
end
theorem laid_out_eq {rs:Rows} {w:Str} {ab X:PV} {bl:Int} {st:Nat} {mu:Mu} (ok:rs.ok) (hd:rs.dep<=40) (hc:rs.cnt<=1000) (hX:X=.lst rs.pvs\/∃ j,X=.ptr j/\mu[j]?=some (some (.lst rs.pvs))):
    m_laid_out 40 [.str w,ab,.int bl,X,.int st] mu=some (.own (.lst (ents (rs.es w ab bl st) mu.length)),mu++cells (rs.es w ab bl st) mu.length):=by
  rcases hX with rfl | ⟨j,rfl,hj⟩
  · exact lo_of (n:=39) (o:=none) (.inl ⟨rfl,rfl⟩) (lo_loop rs 39 w ab bl _ st [] none none none none mu none rs.pvs ok (by omega) (by omega) (by simp only [List.length_nil]; omega) fun j hj=>by cases hj)
  · exact lo_of (n:=39) (o:=some j) (.inr ⟨j,rfl,rfl,hj⟩) (lo_loop rs 39 w ab bl _ st [] none none none none mu (some j) rs.pvs ok (by omega) (by omega) (by simp only [List.length_nil]; omega) fun i hi=>by cases hi; exact hj)
structure Fn where
  name:Str
  rank:PV
  params:PV
  rows:Rows
noncomputable def Fn.pv (f:Fn):PV:=.tup [.str f.name,f.rank,f.params,.lst f.rows.pvs]
structure Pg where
  boxes:List PV
  grants:List PV
  fns:List Fn
  rows:Rows
noncomputable abbrev Pg.pvx (P:Pg) (X:PV):PV:=.tup [.lst P.boxes,.lst P.grants,.lst (P.fns.map Fn.pv),X]
noncomputable def fcnt:List Fn->Nat
  | []=>0
  | f::fs=>f.rows.cnt + fcnt fs
noncomputable def fes:List Fn->Nat->List Ent
  | [],_=>[]
  | f::fs,k=>f.rows.es f.name .non 0 k++fes fs (k + f.rows.cnt)
theorem fes_len:∀ (fs:List Fn) (k:Nat),(fes fs k).length=fcnt fs
  | [],k=>rfl
  | f::fs,k=>by simp [fes,fcnt,Rows.es_len,fes_len fs]
noncomputable def Pg.es (P:Pg):List Ent:=fes P.fns 0++P.rows.es "main" .non 0 (fcnt P.fns)
structure Pg.ok (P:Pg):Prop where
  fn:∀ f ∈ P.fns,f.rows.ok/\f.rows.dep<=30
  rw:P.rows.ok
  dp:P.rows.dep<=30
  ct:fcnt P.fns + P.rows.cnt<=100
noncomputable abbrev NE (p:PV) (acc:List PV) (o2 o3 o4 o5:Option Lc) (mu:Mu):Ev:=⟨[some (.sh p),some (.own (.lst acc)),o2,o3,o4,o5],mu⟩
noncomputable abbrev nuB:SF:=sExt 1 (eCall (m_laid_out 40) (aCons (eVar 2) (aCons (eC .non) (aCons (eC (.int 0)) (aCons (eVar 5) (aCons (eRead (eLen (eVar 1))) aNil))))))
theorem nu_loop {p:PV}:∀ (fs:List Fn) (acc:List PV) (o2 o3 o4 o5:Option Lc) (mu:Mu),(∀ f ∈ fs,f.rows.ok/\f.rows.dep<=30)->acc.length + fcnt fs<=1000->
    ∃ p2 p3 p4 p5,forP (bSeq 4 (bCons (bName 2) (bCons (bName 3) (bCons (bName 4) (bCons (bName 5) bNil))))) nuB (fs.map Fn.pv) (NE p acc o2 o3 o4 o5 mu)=some (.nx (NE p (acc++ents (fes fs acc.length) mu.length) p2 p3 p4 p5 (mu++cells (fes fs acc.length) mu.length)))
  | [],acc,o2,o3,o4,o5,mu,_,_=>⟨o2,o3,o4,o5,by simp [forP,fes,ents,cells]⟩
  | f::fs,acc,o2,o3,o4,o5,mu,h,hl=>by
    simp only [fcnt] at hl
    obtain ⟨ok,hd⟩:=h f List.mem_cons_self
    have e:=laid_out_eq (w:=f.name) (ab:=.non) (bl:=0) (st:=acc.length) (mu:=mu) (X:=.lst f.rows.pvs) ok (by omega) (by omega) (.inl rfl)
    have hl1:(acc++ents (f.rows.es f.name .non 0 acc.length) mu.length).length=acc.length + f.rows.cnt:=by rw [List.length_append,ents_len,Rows.es_len]
    have hm1:(mu++cells (f.rows.es f.name .non 0 acc.length) mu.length).length=mu.length + esz (f.rows.es f.name .non 0 acc.length):=by rw [List.length_append,cells_len]
    let E:=NE p acc (some (.sh (.str f.name))) (some (.sh f.rank)) (some (.sh f.params)) (some (.sh (.lst f.rows.pvs))) mu
    obtain ⟨p2,p3,p4,p5,ih⟩:=nu_loop (p:=p) fs (acc++ents (f.rows.es f.name .non 0 acc.length) mu.length) (some (.sh (.str f.name))) (some (.sh f.rank)) (some (.sh f.params)) (some (.sh (.lst f.rows.pvs))) (mu++cells (f.rows.es f.name .non 0 acc.length) mu.length) (fun x hx=>h x (List.mem_cons_of_mem _ hx)) (by rw [hl1]; omega)
    have st:nuB E=some (.nx (NE p (acc++ents (f.rows.es f.name .non 0 acc.length) mu.length) (some (.sh (.str f.name))) (some (.sh f.rank)) (some (.sh f.params)) (some (.sh (.lst f.rows.pvs))) (mu++cells (f.rows.es f.name .non 0 acc.length) mu.length))):=
      ext_go (i:=1) (ws0:=acc) (ws:=acc) (ps:=ents (f.rows.es f.name .non 0 acc.length) mu.length) (l:=.own (.lst (ents (f.rows.es f.name .non 0 acc.length) mu.length))) (ρ1:=NE p acc (some (.sh (.str f.name))) (some (.sh f.rank)) (some (.sh f.params)) (some (.sh (.lst f.rows.pvs))) (mu++cells (f.rows.es f.name .non 0 acc.length) mu.length)) rfl
        (call_go (ls:=[.sh (.str f.name),.sh .non,.sh (.int 0),.sh (.lst f.rows.pvs),.sh (.int acc.length)]) (ps:=[.str f.name,.non,.int 0,.lst f.rows.pvs,.int acc.length]) (ρ1:=E) rfl rfl rfl rfl e) rfl rfl (by rw [ents_len,Rows.es_len]; omega) rfl
    refine ⟨p2,p3,p4,p5,?_⟩
    show ((bSeq 4 (bCons (bName 2) (bCons (bName 3) (bCons (bName 4) (bCons (bName 5) bNil))))) f.pv (NE p acc o2 o3 o4 o5 mu)).bind _=_
    rw [show (bSeq 4 (bCons (bName 2) (bCons (bName 3) (bCons (bName 4) (bCons (bName 5) bNil))))) f.pv (NE p acc o2 o3 o4 o5 mu)=some E from rfl,Option.bind_some,st,Option.bind_some]
    refine ih.trans ?_
    rw [hl1,hm1]
    simp only [fes,ents_app,cells_app,List.append_assoc]
theorem numbered_eq {P:Pg} {X:PV} {mu:Mu} (ok:P.ok) (hX:X=.lst P.rows.pvs\/∃ j,X=.ptr j/\mu[j]?=some (some (.lst P.rows.pvs))):m_numbered [P.pvx X] mu=some (.own (.lst (ents P.es mu.length)),mu++cells P.es mu.length):=by
  have hc:=ok.ct
  obtain ⟨p2,p3,p4,p5,e1⟩:=nu_loop (p:=P.pvx X) P.fns [] none none none none mu ok.fn (by simp only [List.length_nil]; omega)
  simp only [List.nil_append,List.length_nil] at e1
  let a1:=ents (fes P.fns 0) mu.length
  let m1:=mu++cells (fes P.fns 0) mu.length
  have ha:a1.length=fcnt P.fns:=by simp only [a1,ents_len,fes_len]
  have hm:m1.length=mu.length + esz (fes P.fns 0):=by simp only [m1,List.length_append,cells_len]
  have e2:=laid_out_eq (w := "main") (ab:=.non) (bl:=0) (st:=a1.length) (mu:=m1) (X:=X) ok.rw (by have:=ok.dp; omega) (by omega) (hX.imp id fun ⟨j,e,hj⟩=>⟨j,e,by
    rw [List.getElem?_append_left (List.getElem?_eq_some_iff.mp hj).1]
    exact hj⟩)
  rw [hm,ha] at e2
  let b:=ents (P.rows.es "main" .non 0 (fcnt P.fns)) (mu.length + esz (fes P.fns 0))
  refine (runP_rt (ρ:=⟨[some (.sh (P.pvx X)),none,p2,p3,p4,p5],m1++cells (P.rows.es "main" .non 0 (fcnt P.fns)) (mu.length + esz (fes P.fns 0))⟩) (r:=.own (.lst (a1++b))) ?_).trans ?_
  · refine seq_go (ρ':=NE (P.pvx X) [] none none none none mu) rfl (seq_go (ρ':=NE (P.pvx X) a1 p2 p3 p4 p5 m1) (for_go (xs:=P.fns.map Fn.pv) (ρ1:=NE (P.pvx X) [] none none none none mu) (iOf_eq (l:=.sh (.lst (P.fns.map Fn.pv))) rfl rfl) e1) (seq_go (ρ':=NE (P.pvx X) (a1++b) p2 p3 p4 p5 (m1++cells (P.rows.es "main" .non 0 (fcnt P.fns)) (mu.length + esz (fes P.fns 0)))) ?_ rfl))
    exact ext_go (i:=1) (ws0:=a1) (ws:=a1) (ps:=b) (l:=.own (.lst b)) (ρ1:=NE (P.pvx X) a1 p2 p3 p4 p5 (m1++cells (P.rows.es "main" .non 0 (fcnt P.fns)) (mu.length + esz (fes P.fns 0)))) rfl
      (call_go (ls:=[.sh (.str "main"),.sh .non,.sh (.int 0),.sh X,.sh (.int a1.length)]) (ps:=[.str "main",.non,.int 0,X,.int a1.length]) (ρ1:=NE (P.pvx X) a1 p2 p3 p4 p5 m1) rfl rfl rfl rfl (by rw [ha]; exact e2)) rfl rfl (by simp only [b]; rw [ha,ents_len,Rows.es_len]; omega) rfl
  · simp only [a1,b,m1,Pg.es,ents_app,cells_app,List.append_assoc]
noncomputable def Rows.list:Rows->List Row
  | .nil=>[]
  | .cons r rs=>r::rs.list
theorem Rows.pvs_list:∀ rs:Rows,rs.pvs=rs.list.map Row.pv
  | .nil=>rfl
  | .cons r rs=>by simp [Rows.pvs,Rows.list,Rows.pvs_list rs]
noncomputable abbrev Itm:=Row × PV × Int
noncomputable def pvI (x:Itm):PV:=.tup [x.1.pv,x.2.1,.int x.2.2]
noncomputable def tot:List Itm->Nat
  | []=>0
  | x::l=>x.1.cnt + tot l
noncomputable def esI (w:Str):List Itm->Nat->List Ent
  | [],_=>[]
  | x::l,k=>x.1.es w x.2.1 x.2.2 k++esI w l (k + x.1.cnt)
theorem tot_app:∀ a b:List Itm,tot (a++b)=tot a + tot b
  | [],b=>by simp [tot]
  | x::a,b=>by simp [tot,tot_app a,Nat.add_assoc]
theorem esI_app {w:Str}:∀ (a b:List Itm) (k:Nat),esI w (a++b) k=esI w a k++esI w b (k + tot a)
  | [],b,k=>by simp [esI,tot]
  | x::a,b,k=>by simp [esI,tot,esI_app a,Nat.add_assoc]
noncomputable abbrev its (rs:Rows) (ab:PV) (bl:Int):List Itm:=rs.list.map fun r=>(r,ab,bl)
theorem tot_its {ab:PV} {bl:Int}:∀ rs:Rows,tot (its rs ab bl)=rs.cnt
  | .nil=>rfl
  | .cons r rs=>by
    have:=tot_its (ab:=ab) (bl:=bl) rs
    simp only [its,Rows.list,List.map_cons,tot,Rows.cnt] at this ⊢
    rw [this]
theorem esI_its {w:Str} {ab:PV} {bl:Int}:∀ (rs:Rows) (k:Nat),esI w (its rs ab bl) k=rs.es w ab bl k
  | .nil,k=>rfl
  | .cons r rs,k=>by
    have:=esI_its (w:=w) (ab:=ab) (bl:=bl) rs (k + r.cnt)
    simp only [its,Rows.list,List.map_cons,esI,Rows.es] at this ⊢
    rw [this]
noncomputable def inn:Row->Nat->List Itm
  | .leaf _ _,_=>[]
  | .call _ _ _,_=>[]
  | .wh _ b,k=>its b (.int k) 0
  | .iff _ b c,k=>its b (.int k) 0++its c (.int k) 1
theorem es_inn {w:Str} {ab:PV} {bl:Int} {k:Nat} (r:Row):r.es w ab bl k=⟨w,ab,bl,r⟩::esI w (inn r k) (k + 1):=by
  cases r with
  | leaf _ _=>rfl
  | call _ _ _=>rfl
  | wh e b=>simp only [Row.es,inn,esI_its]
  | iff e b c=>simp only [Row.es,inn,esI_app,esI_its,tot_its]
theorem cnt_inn {k:Nat} (r:Row):r.cnt=1 + tot (inn r k):=by
  cases r with
  | leaf _ _=>rfl
  | call _ _ _=>rfl
  | wh e b=>simp only [Row.cnt,inn,tot_its]; omega
  | iff e b c=>simp only [Row.cnt,inn,tot_app,tot_its]; omega
theorem comp_map1 {te:EF} {F:PV->PV} {A:Option Lc->Ev} (hA:∀ o x,bName 0 x (A o)=some (A (some (.sh x)))) (hmu:∀ o,(A o).mu=(A none).mu) (hF:∀ x,∃ l,te (A (some (.sh x)))=some (l,A (some (.sh x)))/\l.pv=F x):∀ (xs acc:List PV) (o:Option Lc),acc.length + xs.length<=100000->compP (bName 0) cTrue te xs (A o) acc=some (acc++xs.map F,(A none).mu)
  | [],acc,o,_=>by show some (acc,(A o).mu)=_; rw [hmu]; simp
  | x::xs,acc,o,h=>by
    rw [List.length_cons] at h
    obtain ⟨l,e1,e2⟩:=hF x
    refine comp_step1 (hA o x) e1 (by omega) ((comp_map1 hA hmu hF xs _ _ (by rw [List.length_append]; simp only [List.length_cons,List.length_nil]; omega)).trans ?_)
    rw [e2]
    simp
theorem irev_go {f:EF} {ρ ρ1:Ev} {l:Lc} {ps:List PV} (h:f ρ=some (l,ρ1)) (hl:l.pv=.lst ps):iRevF f ρ=some (ps.reverse,ρ1):=by
  unfold iRevF
  rw [h,Option.bind_some,hl]
noncomputable abbrev QE (R:PV) (w:Str) (n:Nat) (todo:Lc) (o4 o5 o6 o7 o8:Option Lc) (mu:Mu):Ev:=⟨[some (.sh R),some (.sh (.str w)),some (.sh (.ptr n)),some todo,o4,o5,o6,o7,o8],mu⟩
noncomputable abbrev qC:TF:=tRead (tT (eOp neY (eVar 3) (eLst aNil)) blP)
noncomputable abbrev qP:SF:=sAsg (ePop 3) (bSeq 3 (bCons (bName 4) (bCons (bName 5) (bCons (bName 6) bNil))))
noncomputable abbrev qA:SF:=sAppC (eVar 2) (eTup (aCons (eVar 1) (aCons (eVar 5) (aCons (eVar 6) (aCons (eVar 4) aNil)))))
noncomputable abbrev qI (a:Int) (b:Int):EF:=eComp (iOf (eIy (eVar 4) (eC (.int a))) walkP) 1 [7] (bName 0) cTrue (eTup (aCons (eVar 0) (aCons (eVar 1) (aCons (eC (.int b)) aNil))))
noncomputable abbrev qT1:TF:=tT (eOp inP (eIy (eVar 4) (eC (.int 0))) (eTup (aCons (eC (.str "if")) (aCons (eC (.str "while")) aNil)))) blP
noncomputable abbrev qT2:TF:=tT (eOp eqY (eIy (eVar 4) (eC (.int 0))) (eC (.str "if"))) blP
noncomputable abbrev qZ:SF:=sSet 3 (eOp addP (eVar 3) (eComp (iRevF (eVar 8)) 1 [] (bName 0) cTrue (eVar 0)))
noncomputable abbrev qB:SF:=sSeq qP (sSeq (sSet 7 (eLen (eVar 2))) (sSeq qA (sSeq (sSet 8 (eLst aNil)) (sSeq (sIf qT1 (sSet 8 (qI 2 0)) sNil) (sSeq (sIf qT2 (sSet 8 (eOp addP (eVar 8) (qI 3 1))) sNil) qZ)))))
section
variable {R:PV} {w:Str} {n:Nat} {o4 o5 o6 o7 o8:Option Lc} {mu:Mu}
theorem qC_t {todo:List PV} {q:PV}:qC (QE R w n (.own (.lst (todo++[q]))) o4 o5 o6 o7 o8 mu)=some (true,QE R w n (.own (.lst (todo++[q]))) o4 o5 o6 o7 o8 mu):=by
  refine tread_go (ρ1:=(QE R w n (.own (.lst (todo++[q]))) o4 o5 o6 o7 o8 mu).peek) (tT_go (l:=.sh (.bl true)) (p:=.bl true) (eOp_eq (x:=.sh (.lst (todo++[q]))) (y:=.own (.lst [])) rfl rfl ?_) rfl rfl)
  show (if (todo++[q]).length=([]:List PV).length then eqDs (eqD 149) (todo++[q]) [] else some false).map _=_
  rw [if_neg (by simp)]
  rfl
theorem qC_f:qC (QE R w n (.own (.lst [])) o4 o5 o6 o7 o8 mu)=some (false,QE R w n (.own (.lst [])) o4 o5 o6 o7 o8 mu):=
  tread_go (ρ1:=(QE R w n (.own (.lst [])) o4 o5 o6 o7 o8 mu).peek) (tT_go (l:=.sh (.bl false)) (p:=.bl false) (eOp_eq (x:=.sh (.lst [])) (y:=.own (.lst [])) rfl rfl rfl) rfl rfl)
theorem qP_eq {todo:List PV} {a b c:PV}:qP (QE R w n (.own (.lst (todo++[.tup [a,b,c]]))) o4 o5 o6 o7 o8 mu)=some (.nx (QE R w n (.own (.lst todo)) (some (.sh a)) (some (.sh b)) (some (.sh c)) o7 o8 mu)):=by
  have e:ePop 3 (QE R w n (.own (.lst (todo++[.tup [a,b,c]]))) o4 o5 o6 o7 o8 mu)=some (.sh (.tup [a,b,c]),QE R w n (.own (.lst todo)) o4 o5 o6 o7 o8 mu):=by
    show ((todo++[PV.tup [a,b,c]])[(todo++[PV.tup [a,b,c]]).length - 1]?).map (fun p'=>(Lc.sh p',Ev.set (QE R w n (.own (.lst (todo++[.tup [a,b,c]]))) o4 o5 o6 o7 o8 mu) 3 (some (.own (.lst (todo++[PV.tup [a,b,c]]).dropLast)))))=_
    have e:(todo++[PV.tup [a,b,c]])[(todo++[PV.tup [a,b,c]]).length - 1]?=some (.tup [a,b,c]):=by simp
    rw [e,List.dropLast_concat]
    rfl
  show sAsg (ePop 3) _ _=_
  unfold sAsg
  rw [e]
  rfl
theorem qI_eq {todo:Lc} {rs:Rows} {ps:List PV} {a b k:Int} {r:PV} (ha:eIy (eVar 4) (eC (.int a)) (QE R w n todo (some (.sh r)) o5 o6 (some (.sh (.int k))) o8 mu)=some (.sh (.lst rs.pvs),QE R w n todo (some (.sh r)) o5 o6 (some (.sh (.int k))) o8 mu)) (hc:rs.cnt<=1000):
    qI a b (QE R w n todo (some (.sh r)) o5 o6 (some (.sh (.int k))) o8 mu)=some (.own (.lst ((its rs (.int k) b).map pvI)),QE R w n todo (some (.sh r)) o5 o6 (some (.sh (.int k))) o8 mu):=by
  have hl:=rs.pvs_len
  have e:=comp_map1 (te:=eTup (aCons (eVar 0) (aCons (eVar 1) (aCons (eC (.int b)) aNil)))) (F:=fun x=>.tup [x,.int k,.int b]) (A:=fun o=>⟨[o,some (.sh (.int k))],mu⟩) (fun o x=>rfl) (fun o=>rfl) (fun x=>⟨.sh (.tup [x,.int k,.int b]),rfl,rfl⟩) rs.pvs [] none (by simp only [List.length_nil]; omega)
  have em:[]++rs.pvs.map (fun x=>PV.tup [x,.int k,.int b])=(its rs (.int k) b).map pvI:=by
    rw [List.nil_append,Rows.pvs_list]
    simp [its,pvI,List.map_map]
  rw [em] at e
  exact eComp_eq (m:=1) (ixs:=[7]) (xs:=rs.pvs) (ρ1:=QE R w n todo (some (.sh r)) o5 o6 (some (.sh (.int k))) o8 mu) (iOf_eq (l:=.sh (.lst rs.pvs)) ha rfl) e
theorem qZ_eq {todo inner:List PV} (hz:todo.length + inner.length<=1000):qZ (QE R w n (.own (.lst todo)) o4 o5 o6 o7 (some (.own (.lst inner))) mu)=some (.nx (QE R w n (.own (.lst (todo++inner.reverse))) o4 o5 o6 o7 (some (.sh (.lst inner))) mu)):=by
  have e:=comp_map1 (te:=eVar 0) (F:=fun x=>x) (A:=fun o=>⟨[o],mu⟩) (fun o x=>rfl) (fun o=>rfl) (fun x=>⟨.sh x,rfl,rfl⟩) inner.reverse [] none (by simp; omega)
  rw [List.map_id',List.nil_append] at e
  have c:eComp (iRevF (eVar 8)) 1 [] (bName 0) cTrue (eVar 0) (QE R w n (.sh (.lst todo)) o4 o5 o6 o7 (some (.own (.lst inner))) mu)=some (.own (.lst inner.reverse),QE R w n (.sh (.lst todo)) o4 o5 o6 o7 (some (.sh (.lst inner))) mu):=
    eComp_eq (m:=1) (ixs:=[]) (xs:=inner.reverse) (ρ1:=QE R w n (.sh (.lst todo)) o4 o5 o6 o7 (some (.sh (.lst inner))) mu) (irev_go (l:=.sh (.lst inner)) rfl rfl) e
  refine set_go (l:=.own (.lst (todo++inner.reverse))) (ρ1:=QE R w n (.sh (.lst todo)) o4 o5 o6 o7 (some (.sh (.lst inner))) mu) ?_ rfl rfl
  refine op_go (p:=.lst todo) (q:=.lst inner.reverse) (l:=.sh (.lst todo)) (ρ1:=QE R w n (.sh (.lst todo)) o4 o5 o6 o7 (some (.own (.lst inner))) mu) rfl rfl c rfl ?_
  show (if todo.length + inner.reverse.length<=100000 then _ else _)=_
  rw [if_pos (by rw [List.length_reverse]; omega)]
end
section
variable {R:PV} {w:Str} {n:Nat} {mu:Mu}
theorem iy0 {todo:Lc} {x:Str} {ps:List PV} {o5 o6 o7 o8:Option Lc}:eIy (eVar 4) (eC (.int 0)) (QE R w n todo (some (.sh (.tup (.str x::ps)))) o5 o6 o7 o8 mu)=some (.sh (.str x),QE R w n todo (some (.sh (.tup (.str x::ps)))) o5 o6 o7 o8 mu):=by
  let E:=QE R w n todo (some (.sh (.tup (.str x::ps)))) o5 o6 o7 o8 mu
  show eIx (fun _=>some (Lc.sh (.tup (.str x::ps)),E)) (fun _=>some (Lc.sh (.int 0),E)) E=_
  exact ix_go (p:=.tup (.str x::ps)) (q:=.int 0) (l:=.sh (.tup (.str x::ps))) (m:=.sh (.int 0)) rfl rfl rfl rfl (fun n h=>by cases h) (by show (atI (PV.str x::ps) 0).map _=_; rw [at0]; rfl)
theorem qT1_eq {todo:Lc} {x:Str} {ps:List PV} {o5 o6 o7 o8:Option Lc}:qT1 (QE R w n todo (some (.sh (.tup (.str x::ps)))) o5 o6 o7 o8 mu)=some (("if" == x) || (("while" == x) || false),QE R w n todo (some (.sh (.tup (.str x::ps)))) o5 o6 o7 o8 mu):=
  tT_eq (l:=.sh (.bl (("if" == x) || (("while" == x) || false)))) (eOp_eq iy0 rfl rfl) rfl
theorem qT2_eq {todo:Lc} {x:Str} {ps:List PV} {o5 o6 o7 o8:Option Lc}:qT2 (QE R w n todo (some (.sh (.tup (.str x::ps)))) o5 o6 o7 o8 mu)=some (x == "if",QE R w n todo (some (.sh (.tup (.str x::ps)))) o5 o6 o7 o8 mu):=
  tT_eq (l:=.sh (.bl (x == "if"))) (eOp_eq iy0 rfl rfl) rfl
theorem q_head {S:SF} {X:Option Fl} {todo told:List PV} {r ab:PV} {bl:Int} {o4 o5 o6 o7 o8:Option Lc} (hm:mu[n]?=some (some (.lst told))) (hz:told.length < 1000)
    (h:S (QE R w n (.own (.lst todo)) (some (.sh r)) (some (.sh ab)) (some (.sh (.int bl))) (some (.sh (.int told.length))) (some (.own (.lst []))) (mu.set n (some (.lst (told++[.tup [.str w,ab,.int bl,r]])))))=X):
    sSeq qP (sSeq (sSet 7 (eLen (eVar 2))) (sSeq qA (sSeq (sSet 8 (eLst aNil)) S))) (QE R w n (.own (.lst (todo++[.tup [r,ab,.int bl]]))) o4 o5 o6 o7 o8 mu)=X:=by
  refine seq_go qP_eq (seq_go (ρ':=QE R w n (.own (.lst todo)) (some (.sh r)) (some (.sh ab)) (some (.sh (.int bl))) (some (.sh (.int told.length))) o8 mu) (set_go (l:=.sh (.int told.length)) (ρ1:=QE R w n (.own (.lst todo)) (some (.sh r)) (some (.sh ab)) (some (.sh (.int bl))) o7 o8 mu) ?_ rfl rfl) (seq_go (ρ':=QE R w n (.own (.lst todo)) (some (.sh r)) (some (.sh ab)) (some (.sh (.int bl))) (some (.sh (.int told.length))) o8 (mu.set n (some (.lst (told++[.tup [.str w,ab,.int bl,r]]))))) ?_ (seq_go (ρ':=QE R w n (.own (.lst todo)) (some (.sh r)) (some (.sh ab)) (some (.sh (.int bl))) (some (.sh (.int told.length))) (some (.own (.lst []))) (mu.set n (some (.lst (told++[.tup [.str w,ab,.int bl,r]]))))) rfl h)))
  · show (match mu[n]? with | some (some (.lst ws))=>some (Lc.sh (.int (ws.length:Nat)),_) | _=>none)=_
    rw [hm]
    rfl
  · exact appc_go (n:=n) (ws0:=told) (ws:=told) (p:=.tup [.str w,ab,.int bl,r]) (y:=.sh (.tup [.str w,ab,.int bl,r])) (ρ1:=QE R w n (.own (.lst todo)) (some (.sh r)) (some (.sh ab)) (some (.sh (.int bl))) (some (.sh (.int told.length))) o8 mu) (ρ2:=QE R w n (.own (.lst todo)) (some (.sh r)) (some (.sh ab)) (some (.sh (.int bl))) (some (.sh (.int told.length))) o8 mu) rfl rfl hm rfl rfl hm (by omega) rfl
theorem pvs_tot {l:List Itm}:l.length<=tot l:=by
  induction l with
  | nil=>exact Nat.le_refl _
  | cons x l ih=>
    have h:1<=x.1.cnt:=by cases x.1 <;> simp [Row.cnt]
    simp only [List.length_cons,tot]
    omega
theorem q_step {told:List PV} {r:Row} {ab:PV} {bl:Int} {L:List Itm} {o4 o5 o6 o7 o8:Option Lc} (ok:r.ok) (hm:mu[n]?=some (some (.lst told))) (hz:told.length < 1000) (hl:tot L + r.cnt<=500):
    ∃ p4 p5 p6 p7 p8,qB (QE R w n (.own (.lst ((L.map pvI).reverse++[pvI (r,ab,bl)]))) o4 o5 o6 o7 o8 mu)=some (.nx (QE R w n (.own (.lst (((inn r told.length++L).map pvI).reverse))) p4 p5 p6 p7 p8 (mu.set n (some (.lst (told++[.tup [.str w,ab,.int bl,r.pv]])))))):=by
  have hL:=pvs_tot (l:=L)
  let mu':=mu.set n (some (.lst (told++[.tup [.str w,ab,.int bl,r.pv]])))
  let E:Option Lc->Ev:=fun o=>QE R w n (.own (.lst (L.map pvI).reverse)) (some (.sh r.pv)) (some (.sh ab)) (some (.sh (.int bl))) (some (.sh (.int told.length))) o mu'
  have fin:∀ inner:List Itm,inner=inn r told.length->qZ (E (some (.own (.lst (inner.map pvI)))))=some (.nx (QE R w n (.own (.lst (((inn r told.length++L).map pvI).reverse))) (some (.sh r.pv)) (some (.sh ab)) (some (.sh (.int bl))) (some (.sh (.int told.length))) (some (.sh (.lst (inner.map pvI)))) mu')):=fun inner e=>by
    have h1:=pvs_tot (l:=inner)
    have h2:=cnt_inn (k:=told.length) r
    have e':=qZ_eq (R:=R) (w:=w) (n:=n) (mu:=mu') (todo:=(L.map pvI).reverse) (inner:=inner.map pvI) (o4:=some (.sh r.pv)) (o5:=some (.sh ab)) (o6:=some (.sh (.int bl))) (o7:=some (.sh (.int told.length))) (by rw [List.length_reverse,List.length_map,List.length_map]; rw [e] at h1 ⊢; omega)
    rw [← List.reverse_append,← List.map_append] at e'
    rw [← e]
    exact e'
  cases r with
  | leaf x ps=>
    obtain ⟨⟨h1,h2,_⟩,_⟩:=ok
    have h1':("if" == x)=false:=by rw [BEq.comm]; exact h1
    have h2':("while" == x)=false:=by rw [BEq.comm]; exact h2
    refine ⟨_,_,_,_,_,q_head (r:=(Row.leaf x ps).pv) hm hz ((if_no qT1_eq (by rw [h1',h2']; rfl)).trans ((if_no qT2_eq h1).trans (fin [] rfl)))⟩
  | call b m as=>
    refine ⟨_,_,_,_,_,q_head (r:=(Row.call b m as).pv) hm hz ((if_no qT1_eq rfl).trans ((if_no qT2_eq rfl).trans (fin [] rfl)))⟩
  | wh e b=>
    simp only [Row.cnt] at hl
    refine ⟨_,_,_,_,_,q_head (r:=(Row.wh e b).pv) hm hz ((if_nx qT1_eq rfl (set_go (qI_eq (rs:=b) (ps:=[]) (a:=2) (b:=0) (k:=told.length) (r:=(Row.wh e b).pv) rfl (by omega)) rfl rfl)).trans ((if_no qT2_eq rfl).trans (fin _ rfl)))⟩
  | iff e b c=>
    simp only [Row.cnt] at hl
    let i1:List Itm:=its b (.int told.length) 0
    let i2:List Itm:=its c (.int told.length) 1
    have l1:=pvs_tot (l:=i1)
    have l2:=pvs_tot (l:=i2)
    have t1:tot i1=b.cnt:=tot_its b
    have t2:tot i2=c.cnt:=tot_its c
    have s2:sSet 8 (eOp addP (eVar 8) (qI 3 1)) (QE R w n (.own (.lst (L.map pvI).reverse)) (some (.sh (Row.iff e b c).pv)) (some (.sh ab)) (some (.sh (.int bl))) (some (.sh (.int told.length))) (some (.own (.lst (i1.map pvI)))) mu')=some (.nx (QE R w n (.own (.lst (L.map pvI).reverse)) (some (.sh (Row.iff e b c).pv)) (some (.sh ab)) (some (.sh (.int bl))) (some (.sh (.int told.length))) (some (.own (.lst ((i1++i2).map pvI)))) mu')):=by
      refine set_go (l:=.own (.lst ((i1++i2).map pvI))) (ρ1:=QE R w n (.own (.lst (L.map pvI).reverse)) (some (.sh (Row.iff e b c).pv)) (some (.sh ab)) (some (.sh (.int bl))) (some (.sh (.int told.length))) (some (.sh (.lst (i1.map pvI)))) mu') ?_ rfl rfl
      refine op_go (p:=.lst (i1.map pvI)) (q:=.lst (i2.map pvI)) (l:=.sh (.lst (i1.map pvI))) (ρ1:=QE R w n (.own (.lst (L.map pvI).reverse)) (some (.sh (Row.iff e b c).pv)) (some (.sh ab)) (some (.sh (.int bl))) (some (.sh (.int told.length))) (some (.sh (.lst (i1.map pvI)))) mu') rfl rfl (qI_eq (rs:=c) (ps:=[]) (a:=3) (b:=1) (k:=told.length) (r:=(Row.iff e b c).pv) rfl (by omega)) rfl ?_
      show (if (i1.map pvI).length + (i2.map pvI).length<=100000 then _ else _)=_
      have g1:(i1.map pvI).length=i1.length:=List.length_map _
      have g2:(i2.map pvI).length=i2.length:=List.length_map _
      rw [if_pos (by omega),List.map_append]
    refine ⟨_,_,_,_,_,q_head (r:=(Row.iff e b c).pv) hm hz ((if_nx qT1_eq rfl (set_go (qI_eq (rs:=b) (ps:=[]) (a:=2) (b:=0) (k:=told.length) (r:=(Row.iff e b c).pv) rfl (by omega)) rfl rfl)).trans ((if_nx qT2_eq rfl s2).trans (fin (i1++i2) rfl)))⟩
theorem its_ok {ab:PV} {bl:Int}:∀ rs:Rows,rs.ok->∀ x ∈ its rs ab bl,x.1.ok
  | .nil,_,x,h=>by simp [its,Rows.list] at h
  | .cons r rs,ok,x,h=>by
    simp only [its,Rows.list,List.map_cons,List.mem_cons] at h
    rcases h with rfl | h
    · exact ok.1
    · exact its_ok rs ok.2 x h
theorem inn_ok {r:Row} {k:Nat} (ok:r.ok):∀ x ∈ inn r k,x.1.ok:=by
  intro x hx
  cases r with
  | leaf _ _=>cases hx
  | call _ _ _=>cases hx
  | wh e b=>exact its_ok b ok.2 x hx
  | iff e b c=>
    rcases List.mem_append.mp hx with hx | hx
    · exact its_ok b ok.2.1 x hx
    · exact its_ok c ok.2.2 x hx
theorem q_loop:∀ (m:Nat) (L:List Itm) (told:List PV) (o4 o5 o6 o7 o8:Option Lc) (mu:Mu),(∀ x ∈ L,x.1.ok)->tot L < m->tot L<=400->told.length + tot L<=900->mu[n]?=some (some (.lst told))->
    ∃ p4 p5 p6 p7 p8,whileP qC qB m (QE R w n (.own (.lst (L.map pvI).reverse)) o4 o5 o6 o7 o8 mu)=some (.nx (QE R w n (.own (.lst [])) p4 p5 p6 p7 p8 (mu.set n (some (.lst (told++(esI w L told.length).map Ent.due))))))
  | 0,L,told,o4,o5,o6,o7,o8,mu,_,h,_,_,_=>absurd h (Nat.not_lt_zero _)
  | m + 1,[],told,o4,o5,o6,o7,o8,mu,_,_,_,_,hm=>by
    refine ⟨o4,o5,o6,o7,o8,?_⟩
    show (qC _).bind _=_
    rw [show (List.map pvI ([]:List Itm)).reverse=[] from rfl,qC_f,Option.bind_some,if_neg Bool.false_ne_true]
    have:mu.set n (some (.lst (told++(esI w [] told.length).map Ent.due)))=mu:=by
      rw [show told++(esI w [] told.length).map Ent.due=told by simp [esI]]
      exact set_same hm
    rw [this]
  | m + 1,(r,ab,bl)::L,told,o4,o5,o6,o7,o8,mu,ok,hm,h4,h9,hg=>by
    have hr:=ok _ List.mem_cons_self
    simp only [tot] at hm h4 h9
    have hp:1<=r.cnt:=by cases r <;> simp [Row.cnt]
    obtain ⟨p4,p5,p6,p7,p8,e1⟩:=q_step (R:=R) (w:=w) (n:=n) (mu:=mu) (told:=told) (r:=r) (ab:=ab) (bl:=bl) (L:=L) (o4:=o4) (o5:=o5) (o6:=o6) (o7:=o7) (o8:=o8) hr hg (by omega) (by omega)
    have hc:=cnt_inn (k:=told.length) r
    have hn:n < mu.length:=(List.getElem?_eq_some_iff.mp hg).1
    have hlt:(told++[PV.tup [.str w,ab,.int bl,r.pv]]).length=told.length + 1:=by simp
    obtain ⟨q4,q5,q6,q7,q8,e2⟩:=q_loop m (inn r told.length++L) (told++[.tup [.str w,ab,.int bl,r.pv]]) p4 p5 p6 p7 p8 (mu.set n (some (.lst (told++[.tup [.str w,ab,.int bl,r.pv]])))) (fun x hx=>by
      rcases List.mem_append.mp hx with hx | hx
      · exact inn_ok hr x hx
      · exact ok x (List.mem_cons_of_mem _ hx)) (by rw [tot_app]; omega) (by rw [tot_app]; omega) (by rw [tot_app,hlt]; omega) (by rw [List.getElem?_set_self hn])
    refine ⟨q4,q5,q6,q7,q8,?_⟩
    show (qC _).bind _=_
    rw [List.map_cons,List.reverse_cons,qC_t,Option.bind_some,if_pos rfl,e1,Option.bind_some]
    refine e2.trans ?_
    rw [List.set_set,hlt]
    have ee:told++[PV.tup [.str w,ab,.int bl,r.pv]]++(esI w (inn r told.length++L) (told.length + 1)).map Ent.due=told++(esI w ((r,ab,bl)::L) told.length).map Ent.due:=by
      rw [esI_app]
      simp only [esI]
      rw [es_inn r,show told.length + r.cnt=told.length + 1 + tot (inn r told.length) by omega]
      simp [Ent.due]
    rw [ee]
end
theorem lay_eq {rs:Rows} {w:Str} {n:Nat} {mu:Mu} {told:List PV} (ok:rs.ok) (hc:rs.cnt<=300) (hl:told.length + rs.cnt<=800) (hm:mu[n]?=some (some (.lst told))):
    m__law_lay [.lst rs.pvs,.str w,.ptr n] mu=some (.sh .non,mu.set n (some (.lst (told++(rs.es w .non 0 told.length).map Ent.due)))):=by
  have hp:=rs.pvs_len
  let R:PV:=.lst rs.pvs
  let E0:Ev:=⟨[some (.sh R),some (.sh (.str w)),some (.sh (.ptr n)),none,none,none,none,none,none],mu⟩
  have e:=comp_map1 (te:=eTup (aCons (eVar 0) (aCons (eC .non) (aCons (eC (.int 0)) aNil)))) (F:=fun x=>.tup [x,.non,.int 0]) (A:=fun o=>⟨[o],mu⟩) (fun o x=>rfl) (fun o=>rfl) (fun x=>⟨.sh (.tup [x,.non,.int 0]),rfl,rfl⟩) rs.pvs.reverse [] none (by simp; omega)
  have em:[]++rs.pvs.reverse.map (fun x=>PV.tup [x,.non,.int 0])=((its rs .non 0).map pvI).reverse:=by
    rw [List.nil_append,Rows.pvs_list,List.map_reverse]
    simp [its,pvI,List.map_map]
  rw [em] at e
  obtain ⟨p4,p5,p6,p7,p8,ew⟩:=q_loop (R:=R) (w:=w) (n:=n) 1000 (its rs .non 0) told none none none none none mu (its_ok rs ok) (by rw [tot_its]; omega) (by rw [tot_its]; omega) (by rw [tot_its]; omega) hm
  rw [esI_its] at ew
  refine runP_nx (ρ:=QE R w n (.own (.lst [])) p4 p5 p6 p7 p8 (mu.set n (some (.lst (told++(rs.es w .non 0 told.length).map Ent.due))))) (seq_go (ρ':=QE R w n (.own (.lst ((its rs .non 0).map pvI).reverse)) none none none none none mu) (set_go (l:=.own (.lst ((its rs .non 0).map pvI).reverse)) (ρ1:=E0) ?_ rfl rfl) ew)
  exact eComp_eq (m:=1) (ixs:=[]) (xs:=rs.pvs.reverse) (ρ1:=E0) (irev_go (l:=.sh R) rfl rfl) e
noncomputable abbrev DE (p:PV) (n:Nat) (o2 o3 o4 o5:Option Lc) (mu:Mu):Ev:=⟨[some (.sh p),some (.sh (.ptr n)),o2,o3,o4,o5],mu⟩
noncomputable abbrev ldB:SF:=sExpr (eCall m__law_lay (aCons (eVar 5) (aCons (eVar 2) (aCons (eVar 1) aNil))))
theorem end_get {mu:Mu} {c:Option PV}:(mu++[c])[mu.length]?=some c:=by rw [List.getElem?_append_right (Nat.le_refl _),Nat.sub_self]; rfl
theorem end_set {mu:Mu} {c d:Option PV}:(mu++[c]).set mu.length d=mu++[d]:=by rw [List.set_append_right _ _ (Nat.le_refl _),Nat.sub_self]; rfl
theorem ld_loop {p:PV} {mu:Mu}:∀ (fs:List Fn) (told:List PV) (o2 o3 o4 o5:Option Lc),(∀ f ∈ fs,f.rows.ok/\f.rows.dep<=30)->told.length + fcnt fs<=200->
    ∃ p2 p3 p4 p5,forP (bSeq 4 (bCons (bName 2) (bCons (bName 3) (bCons (bName 4) (bCons (bName 5) bNil))))) ldB (fs.map Fn.pv) (DE p mu.length o2 o3 o4 o5 (mu++[some (.lst told)]))=some (.nx (DE p mu.length p2 p3 p4 p5 (mu++[some (.lst (told++(fes fs told.length).map Ent.due))])))
  | [],told,o2,o3,o4,o5,_,_=>⟨o2,o3,o4,o5,by simp [forP,fes]⟩
  | f::fs,told,o2,o3,o4,o5,h,hl=>by
    simp only [fcnt] at hl
    obtain ⟨ok,hd⟩:=h f List.mem_cons_self
    have e:=lay_eq (w:=f.name) (n:=mu.length) (mu:=mu++[some (.lst told)]) (told:=told) ok (by omega) (by omega) end_get
    rw [end_set] at e
    let told1:=told++(f.rows.es f.name .non 0 told.length).map Ent.due
    have hl1:told1.length=told.length + f.rows.cnt:=by simp [told1,Rows.es_len]
    let E:=DE p mu.length (some (.sh (.str f.name))) (some (.sh f.rank)) (some (.sh f.params)) (some (.sh (.lst f.rows.pvs))) (mu++[some (.lst told)])
    obtain ⟨p2,p3,p4,p5,ih⟩:=ld_loop (p:=p) (mu:=mu) fs told1 (some (.sh (.str f.name))) (some (.sh f.rank)) (some (.sh f.params)) (some (.sh (.lst f.rows.pvs))) (fun x hx=>h x (List.mem_cons_of_mem _ hx)) (by rw [hl1]; omega)
    have st:ldB E=some (.nx (DE p mu.length (some (.sh (.str f.name))) (some (.sh f.rank)) (some (.sh f.params)) (some (.sh (.lst f.rows.pvs))) (mu++[some (.lst told1)]))):=
      expr_go (call_go (ls:=[.sh (.lst f.rows.pvs),.sh (.str f.name),.sh (.ptr mu.length)]) (ps:=[.lst f.rows.pvs,.str f.name,.ptr mu.length]) (ρ1:=E) rfl rfl rfl rfl e)
    refine ⟨p2,p3,p4,p5,?_⟩
    show ((bSeq 4 (bCons (bName 2) (bCons (bName 3) (bCons (bName 4) (bCons (bName 5) bNil))))) f.pv (DE p mu.length o2 o3 o4 o5 (mu++[some (.lst told)]))).bind _=_
    rw [show (bSeq 4 (bCons (bName 2) (bCons (bName 3) (bCons (bName 4) (bCons (bName 5) bNil))))) f.pv (DE p mu.length o2 o3 o4 o5 (mu++[some (.lst told)]))=some E from rfl,Option.bind_some,st,Option.bind_some]
    refine ih.trans ?_
    rw [hl1]
    simp only [told1,fes,List.map_append,List.append_assoc]
theorem laid_eq {P:Pg} {mu:Mu} (ok:P.ok):m__law_laid [P.pvx (.lst P.rows.pvs)] mu=some (.sh (.ptr mu.length),mu++[some (.lst (P.es.map Ent.due))]):=by
  have hc:=ok.ct
  let p:=P.pvx (.lst P.rows.pvs)
  obtain ⟨p2,p3,p4,p5,e1⟩:=ld_loop (p:=p) (mu:=mu) P.fns [] none none none none ok.fn (by simp only [List.length_nil]; omega)
  simp only [List.nil_append,List.length_nil] at e1
  let t1:=(fes P.fns 0).map Ent.due
  have ht:t1.length=fcnt P.fns:=by simp [t1,fes_len]
  have e2:=lay_eq (w := "main") (n:=mu.length) (mu:=mu++[some (.lst t1)]) (told:=t1) (rs:=P.rows) ok.rw (by omega) (by rw [ht]; omega) end_get
  rw [end_set,ht] at e2
  have ef:t1++(P.rows.es "main" .non 0 (fcnt P.fns)).map Ent.due=P.es.map Ent.due:=by simp [t1,Pg.es]
  rw [ef] at e2
  have e3:sRetV 1 (DE p mu.length p2 p3 p4 p5 (mu++[some (.lst (P.es.map Ent.due))]))=some (.rt (.sh (.ptr mu.length)) ⟨[some (.sh p),none,p2,p3,p4,p5],mu++[some (.lst (P.es.map Ent.due))]⟩):=rfl
  have e4:eCall m__law_lay (aCons (eIx (eVar 0) (eC (.int 3))) (aCons (eC (.str "main")) (aCons (eVar 1) aNil))) (DE p mu.length p2 p3 p4 p5 (mu++[some (.lst t1)]))=some (.sh .non,DE p mu.length p2 p3 p4 p5 (mu++[some (.lst (P.es.map Ent.due))])):=
    call_go (ls:=[.sh (.lst P.rows.pvs),.sh (.str "main"),.sh (.ptr mu.length)]) (ps:=[.lst P.rows.pvs,.str "main",.ptr mu.length]) (ρ1:=DE p mu.length p2 p3 p4 p5 (mu++[some (.lst t1)])) rfl rfl rfl rfl e2
  refine runP_rt (r:=.sh (.ptr mu.length)) (ρ:=⟨[some (.sh p),none,p2,p3,p4,p5],mu++[some (.lst (P.es.map Ent.due))]⟩) ?_
  refine seq_go (ρ':=DE p mu.length none none none none (mu++[some (.lst [])])) rfl ?_
  refine seq_go (ρ':=DE p mu.length p2 p3 p4 p5 (mu++[some (.lst t1)])) (for_go (xs:=P.fns.map Fn.pv) (ρ1:=DE p mu.length none none none none (mu++[some (.lst [])])) (iOf_eq (l:=.sh (.lst (P.fns.map Fn.pv))) rfl rfl) e1) ?_
  exact seq_go (expr_go e4) e3
inductive Pn:Nat->PV->Prop
  | non {n:Nat}:Pn (n + 1) .non
  | int {n:Nat} (i:Int):Pn (n + 1) (.int i)
  | str {n:Nat} (x:Str):Pn (n + 1) (.str x)
  | tup {n:Nat} (ps:List PV):(∀ p ∈ ps,Pn n p)->Pn (n + 1) (.tup ps)
  | lst {n:Nat} (ps:List PV):(∀ p ∈ ps,Pn n p)->Pn (n + 1) (.lst ps)
noncomputable abbrev smB (n:Nat):SF:=sIf (tNotF (tT (eCall (m__law_same n) (aCons (eVar 2) (aCons (eVar 3) aNil))) truP)) (sRet (eC (.bl false))) sNil
theorem sm_loop {n:Nat} {p:PV} {mu:Mu} (ih:∀ q,Pn n q->m__law_same n [q,q] mu=some (.sh (.bl true),mu)):∀ (ps:List PV) (o2 o3:Option Lc),(∀ q ∈ ps,Pn n q)->
    ∃ p2 p3,forP (bSeq 2 (bCons (bName 2) (bCons (bName 3) bNil))) (smB n) (zipP ps ps) ⟨[some (.sh p),some (.sh p),o2,o3],mu⟩=some (.nx ⟨[some (.sh p),some (.sh p),p2,p3],mu⟩)
  | [],o2,o3,_=>⟨o2,o3,rfl⟩
  | q::ps,o2,o3,h=>by
    obtain ⟨p2,p3,e⟩:=sm_loop (p:=p) ih ps (some (.sh q)) (some (.sh q)) fun x hx=>h x (List.mem_cons_of_mem _ hx)
    let E:Ev:=⟨[some (.sh p),some (.sh p),some (.sh q),some (.sh q)],mu⟩
    have c:tNotF (tT (eCall (m__law_same n) (aCons (eVar 2) (aCons (eVar 3) aNil))) truP) E=some (!true,E):=not_go (tT_go (l:=.sh (.bl true)) (p:=.bl true) (call_go (ls:=[.sh q,.sh q]) (ps:=[q,q]) (ρ1:=E) rfl rfl rfl rfl (ih q (h q List.mem_cons_self))) rfl rfl)
    refine ⟨p2,p3,?_⟩
    show ((bSeq 2 (bCons (bName 2) (bCons (bName 3) bNil))) (.tup [q,q]) ⟨[some (.sh p),some (.sh p),o2,o3],mu⟩).bind _=_
    rw [show (bSeq 2 (bCons (bName 2) (bCons (bName 3) bNil))) (.tup [q,q]) ⟨[some (.sh p),some (.sh p),o2,o3],mu⟩=some E from rfl,Option.bind_some,show smB n E=some (.nx E) from (sIf_f c).trans rfl,Option.bind_some]
    exact e
theorem int_beq (a:Int):(a == a)=true:=beq_self_eq_true a
noncomputable abbrev SE (p:PV) (mu:Mu):Ev:=⟨[some (.sh p),some (.sh p),none,none],mu⟩
theorem same_seq {n:Nat} {k:Bool} {ps:List PV} {mu:Mu} (ih:∀ q,Pn n q->m__law_same n [q,q] mu=some (.sh (.bl true),mu)) (h:∀ q ∈ ps,Pn n q):m__law_same (n + 1) [sqV k ps,sqV k ps] mu=some (.sh (.bl true),mu):=by
  obtain ⟨p2,p3,e⟩:=sm_loop (p:=sqV k ps) ih ps none none h
  have hn:neP (.int (ps.length:Int)) (.int (ps.length:Int))=some (.sh (.bl false)):=by
    show some (Lc.sh (.bl (!((ps.length:Int) == (ps.length:Int)))))=_
    rw [int_beq]
    rfl
  have z:iZip2F (eVar 0) (eVar 1) (SE (sqV k ps) mu)=some (zipP ps ps,SE (sqV k ps) mu):=by cases k <;> rfl
  have tA:tT (eIsT ["list", "tuple"] (eVar 1)) truP (SE (sqV k ps) mu)=some (true,SE (sqV k ps) mu):=by cases k <;> rfl
  have tB:tOrF (tNotF (tT (eIsT ["list", "tuple"] (eVar 0)) truP)) (tT (eOp neP (eIs "list" (eVar 0)) (eIs "list" (eVar 1))) blP) (SE (sqV k ps) mu)=some (false,SE (sqV k ps) mu):=by cases k <;> rfl
  have l0:∀ i,i=0\/i=1->eB len1 (aCons (eVar i) aNil) (SE (sqV k ps) mu)=some (.sh (.int (ps.length:Int)),SE (sqV k ps) mu):=by
    intro i hi
    rcases hi with rfl | rfl <;> cases k <;> rfl
  have tC:tT (eOp neP (eB len1 (aCons (eVar 0) aNil)) (eB len1 (aCons (eVar 1) aNil))) blP (SE (sqV k ps) mu)=some (false,SE (sqV k ps) mu):=tT_eq (l:=.sh (.bl false)) (eOp_eq (l0 0 (.inl rfl)) (l0 1 (.inr rfl)) hn) rfl
  refine runP_rt (ρ:=⟨[some (.sh (sqV k ps)),some (.sh (sqV k ps)),p2,p3],mu⟩) (if_yes tA rfl ((if_no tB rfl).trans ((if_no tC rfl).trans (seq_go (for_go z e) rfl))))
theorem same_eq {mu:Mu}:∀ (n:Nat) (p:PV),Pn n p->m__law_same n [p,p] mu=some (.sh (.bl true),mu)
  | 0,p,h=>by cases h
  | n + 1,p,h=>by
    cases h with
    | non=>rfl
    | int i=>
      have e:eOp eqP (eVar 0) (eVar 1) (SE (.int i) mu)=some (.sh (.bl true),SE (.int i) mu):=eOp_eq (x:=.sh (.int i)) (y:=.sh (.int i)) rfl rfl (by show some (Lc.sh (.bl (i == i)))=_; rw [int_beq])
      refine runP_rt (ρ:=SE (.int i) mu) ((if_no (ρ1:=SE (.int i) mu) (b:=false) rfl rfl).trans ((if_no (ρ1:=SE (.int i) mu) (b:=false) rfl rfl).trans (if_yes (ρ1:=SE (.int i) mu) (b:=true) rfl rfl (ret_go ?_))))
      show (eIs "int" (eVar 0) (SE (.int i) mu)).bind _=_
      rw [show eIs "int" (eVar 0) (SE (.int i) mu)=some (.sh (.bl true),SE (.int i) mu) from rfl,Option.bind_some]
      show (eNot (eIs "bool" (eVar 0)) (SE (.int i) mu)).bind _=_
      rw [show eNot (eIs "bool" (eVar 0)) (SE (.int i) mu)=some (.sh (.bl true),SE (.int i) mu) from rfl,Option.bind_some]
      exact e
    | str x=>
      have e:eOp eqP (eVar 0) (eVar 1) (SE (.str x) mu)=some (.sh (.bl true),SE (.str x) mu):=eOp_eq (x:=.sh (.str x)) (y:=.sh (.str x)) rfl rfl (by show some (Lc.sh (.bl (x == x)))=_; rw [beq_self_eq_true])
      refine runP_rt (ρ:=SE (.str x) mu) ((if_no (ρ1:=SE (.str x) mu) (b:=false) rfl rfl).trans ((if_no (ρ1:=SE (.str x) mu) (b:=false) rfl rfl).trans ((if_no (ρ1:=SE (.str x) mu) (b:=false) rfl rfl).trans (ret_go ?_))))
      show (eIs "str" (eVar 0) (SE (.str x) mu)).bind _=_
      rw [show eIs "str" (eVar 0) (SE (.str x) mu)=some (.sh (.bl true),SE (.str x) mu) from rfl,Option.bind_some]
      exact e
    | tup ps hp=>exact same_seq (k:=false) (same_eq n) hp
    | lst ps hp=>exact same_seq (k:=true) (same_eq n) hp
mutual
theorem resD_flat {mu:Mu}:∀ (p:PV) (k:Nat),flatP p=true->resD mu k p=p
  | .non,k,_=>by cases k <;> rfl
  | .bl _,k,_=>by cases k <;> rfl
  | .int _,k,_=>by cases k <;> rfl
  | .str _,k,_=>by cases k <;> rfl
  | .tup ps,k,h=>by
    cases k with
    | zero=>rfl
    | succ k=>
      show PV.tup (ps.map (resD mu k))=_
      rw [resD_flats ps k (by simpa [flatP] using h)]
  | .lst _,k,h=>by simp [flatP] at h
  | .dk _ _,k,h=>by simp [flatP] at h
  | .dt _ _,k,h=>by simp [flatP] at h
  | .obj _ _ _,k,h=>by simp [flatP] at h
  | .df _ _,k,h=>by simp [flatP] at h
  | .dtf _ _,k,h=>by simp [flatP] at h
  | .ptr _,k,h=>by simp [flatP] at h
theorem resD_flats {mu:Mu}:∀ (ps:List PV) (k:Nat),flatPs ps=true->ps.map (resD mu k)=ps
  | [],k,_=>rfl
  | p::ps,k,h=>by
    simp only [flatPs,Bool.and_eq_true] at h
    rw [List.map_cons,resD_flat p k h.1,resD_flats ps k h.2]
end
theorem resD_lst {mu:Mu} {ps:List PV} {k:Nat} (h:flatPs ps=true):resD mu k (.lst ps)=.lst ps:=by
  cases k with
  | zero=>rfl
  | succ k=>
    show PV.lst (ps.map (resD mu k))=_
    rw [resD_flats ps k h]
mutual
theorem Row.res:∀ (r:Row) (k:Nat) (A B:Mu),r.ok->2 * r.dep<=k->resD (A++(r.cl A.length++B)) k (r.cp A.length)=r.pv
  | .leaf w ps,k,A,B,ok,hk=>by
    have h:flatP (.tup (.str w::ps))=true:=by simp only [flatP,flatPs,ok.2,Bool.and_self]
    exact resD_flat _ k h
  | .call b n as,k,A,B,ok,hk=>by
    simp only [Row.dep] at hk
    obtain ⟨k,rfl⟩:∃ j,k=j + 2:=⟨k - 2,by omega⟩
    obtain ⟨h1,h2,h3,_⟩:=ok
    have e:resD (A++((Row.call b n as).cl A.length++B)) (k + 1) (.ptr A.length)=.lst as:=by
      show (match (A++([]++(some (PV.lst as)::B)))[A.length]? with | some (some p)=>resD _ k p | _=>.ptr A.length)=_
      rw [mid_get (by simp)]
      exact resD_lst h3
    show PV.tup [resD _ (k + 1) (.str "call"),resD _ (k + 1) b,resD _ (k + 1) n,resD _ (k + 1) (.ptr A.length)]=_
    rw [e,resD_flat b _ h1,resD_flat n _ h2]
    rfl
  | .wh x b,k,A,B,ok,hk=>by
    simp only [Row.dep] at hk
    have hb:=Rows.dep_pos b
    obtain ⟨k,rfl⟩:∃ j,k=j + 3:=⟨k - 3,by omega⟩
    have e0:A++((Row.wh x b).cl A.length++B)=A++(b.cls A.length++(some (.lst (b.cps A.length))::B)):=by simp [Row.cl]
    have e:=Rows.ress b k A (some (.lst (b.cps A.length))::B) ok.2 (by omega)
    rw [e0]
    have e1:resD (A++(b.cls A.length++(some (.lst (b.cps A.length))::B))) (k + 2) (.ptr (A.length + b.sz))=.lst b.pvs:=by
      show (match (A++(b.cls A.length++(some (PV.lst (b.cps A.length))::B)))[A.length + b.sz]? with | some (some p)=>resD _ (k + 1) p | _=>.ptr (A.length + b.sz))=_
      rw [mid_get (by rw [Rows.cls_len])]
      show PV.lst ((b.cps A.length).map (resD _ k))=_
      rw [e]
    show PV.tup [resD _ (k + 2) (.str "while"),resD _ (k + 2) x,resD _ (k + 2) (.ptr (A.length + b.sz))]=_
    rw [e1,resD_flat x _ ok.1]
    rfl
  | .iff x b c,k,A,B,ok,hk=>by
    simp only [Row.dep] at hk
    have hb:=Rows.dep_pos b
    obtain ⟨k,rfl⟩:∃ j,k=j + 3:=⟨k - 3,by omega⟩
    let X:=c.cls (A.length + b.sz + 1)++(some (PV.lst (c.cps (A.length + b.sz + 1)))::B)
    let A2:=A++(b.cls A.length++[some (PV.lst (b.cps A.length))])
    have hA2:A2.length=A.length + b.sz + 1:=by simp [A2,Rows.cls_len]; omega
    have e0:A++((Row.iff x b c).cl A.length++B)=A++(b.cls A.length++(some (.lst (b.cps A.length))::X)):=by simp [Row.cl,X]
    have e0':A++(b.cls A.length++(some (.lst (b.cps A.length))::X))=A2++X:=by simp [A2]
    have e:=Rows.ress b k A (some (.lst (b.cps A.length))::X) ok.2.1 (by omega)
    have e':=Rows.ress c k A2 (some (.lst (c.cps A2.length))::B) ok.2.2 (by omega)
    rw [hA2] at e'
    rw [e0]
    have e1:resD (A++(b.cls A.length++(some (.lst (b.cps A.length))::X))) (k + 2) (.ptr (A.length + b.sz))=.lst b.pvs:=by
      show (match (A++(b.cls A.length++(some (PV.lst (b.cps A.length))::X)))[A.length + b.sz]? with | some (some p)=>resD _ (k + 1) p | _=>.ptr (A.length + b.sz))=_
      rw [mid_get (by rw [Rows.cls_len])]
      show PV.lst ((b.cps A.length).map (resD _ k))=_
      rw [e]
    have e2:resD (A++(b.cls A.length++(some (.lst (b.cps A.length))::X))) (k + 2) (.ptr (A.length + b.sz + 1 + c.sz))=.lst c.pvs:=by
      rw [e0']
      show (match (A2++(c.cls (A.length + b.sz + 1)++(some (PV.lst (c.cps (A.length + b.sz + 1)))::B)))[A.length + b.sz + 1 + c.sz]? with | some (some p)=>resD _ (k + 1) p | _=>.ptr (A.length + b.sz + 1 + c.sz))=_
      rw [mid_get (by rw [Rows.cls_len,hA2])]
      show PV.lst ((c.cps (A.length + b.sz + 1)).map (resD _ k))=_
      rw [e']
    show PV.tup [resD _ (k + 2) (.str "if"),resD _ (k + 2) x,resD _ (k + 2) (.ptr (A.length + b.sz)),resD _ (k + 2) (.ptr (A.length + b.sz + 1 + c.sz))]=_
    rw [e1,e2,resD_flat x _ ok.1]
    rfl
theorem Rows.ress:∀ (rs:Rows) (k:Nat) (A B:Mu),rs.ok->2 * rs.dep<=k + 2->(rs.cps A.length).map (resD (A++(rs.cls A.length++B)) k)=rs.pvs
  | .nil,k,A,B,_,_=>rfl
  | .cons r rs,k,A,B,ok,hk=>by
    simp only [Rows.dep] at hk
    have e1:=Row.res r k A (rs.cls (A.length + r.sz)++B) ok.1 (by omega)
    have hA:(A++r.cl A.length).length=A.length + r.sz:=by rw [List.length_append,Row.cl_len]
    have e2:=Rows.ress rs k (A++r.cl A.length) B ok.2 (by omega)
    rw [hA] at e2
    have c0:A++((Rows.cons r rs).cls A.length++B)=A++(r.cl A.length++(rs.cls (A.length + r.sz)++B)):=by simp [Rows.cls]
    have c1:A++r.cl A.length++(rs.cls (A.length + r.sz)++B)=A++(r.cl A.length++(rs.cls (A.length + r.sz)++B)):=by simp
    rw [c1] at e2
    rw [c0]
    show resD _ k (r.cp A.length)::(rs.cps (A.length + r.sz)).map _=r.pv::rs.pvs
    rw [e1,e2]
end
structure Ent.ok (e:Ent):Prop where
  rw:e.r.ok
  dp:e.r.dep<=13
  ct:e.r.cnt<=200
  ab:e.ab=.non\/∃ i,e.ab=.int i
theorem ents_res:∀ (es:List Ent) (k:Nat) (A B:Mu),(∀ e ∈ es,e.ok)->31<=k->(ents es A.length).map (resD (A++(cells es A.length++B)) k)=es.map Ent.due
  | [],k,A,B,_,_=>rfl
  | e::es,k,A,B,ok,hk=>by
    obtain ⟨k,rfl⟩:∃ j,k=j + 1:=⟨k - 1,by omega⟩
    have he:=ok e List.mem_cons_self
    have h1:=he.dp
    have e1:=Row.res e.r k A (cells es (A.length + e.r.sz)++B) he.rw (by omega)
    have hA:(A++e.r.cl A.length).length=A.length + e.r.sz:=by rw [List.length_append,Row.cl_len]
    have e2:=ents_res es (k + 1) (A++e.r.cl A.length) B (fun x hx=>ok x (List.mem_cons_of_mem _ hx)) hk
    rw [hA] at e2
    have c0:A++(cells (e::es) A.length++B)=A++(e.r.cl A.length++(cells es (A.length + e.r.sz)++B)):=by simp [cells]
    have c1:A++e.r.cl A.length++(cells es (A.length + e.r.sz)++B)=A++(e.r.cl A.length++(cells es (A.length + e.r.sz)++B)):=by simp
    rw [c1] at e2
    rw [c0]
    have ea:∀ mu:Mu,resD mu k e.ab=e.ab:=fun mu=>by
      rcases he.ab with h | ⟨i,h⟩ <;> rw [h] <;> exact resD_flat _ k rfl
    show PV.tup [resD _ k (.str e.w),resD _ k e.ab,resD _ k (.int e.bl),resD _ k (e.r.cp A.length)]::(ents es (A.length + e.r.sz)).map _=_
    rw [e1,e2,ea,resD_flat (.str e.w) k rfl,resD_flat (.int e.bl) k rfl]
    rfl
mutual
theorem Row.resPv {mu:Mu}:∀ (r:Row) (k:Nat),r.ok->resD mu k r.pv=r.pv
  | .leaf w ps,k,ok=>resD_flat (.tup (.str w::ps)) k (by simp only [flatP,flatPs,ok.2,Bool.and_self])
  | .call b n as,k,ok=>by
    obtain ⟨h1,h2,h3,_⟩:=ok
    cases k with
    | zero=>rfl
    | succ k=>
      show PV.tup [resD mu k (.str "call"),resD mu k b,resD mu k n,resD mu k (.lst as)]=_
      rw [resD_flat b _ h1,resD_flat n _ h2,resD_lst h3,resD_flat (.str "call") k rfl]
      rfl
  | .wh x b,k,ok=>by
    cases k with
    | zero=>rfl
    | succ k=>
      show PV.tup [resD mu k (.str "while"),resD mu k x,resD mu k (.lst b.pvs)]=_
      rw [resD_flat x _ ok.1,resD_flat (.str "while") k rfl,Rows.resPvs b k ok.2]
      rfl
  | .iff x b c,k,ok=>by
    cases k with
    | zero=>rfl
    | succ k=>
      show PV.tup [resD mu k (.str "if"),resD mu k x,resD mu k (.lst b.pvs),resD mu k (.lst c.pvs)]=_
      rw [resD_flat x _ ok.1,resD_flat (.str "if") k rfl,Rows.resPvs b k ok.2.1,Rows.resPvs c k ok.2.2]
      rfl
theorem Rows.resPvs {mu:Mu}:∀ (rs:Rows) (k:Nat),rs.ok->resD mu k (.lst rs.pvs)=.lst rs.pvs
  | .nil,k,ok=>by cases k <;> rfl
  | .cons r rs,k,ok=>by
    cases k with
    | zero=>rfl
    | succ k=>
      have e:=Rows.resPvs (mu:=mu) rs (k + 1) ok.2
      have e':rs.pvs.map (resD mu k)=rs.pvs:=PV.lst.inj e
      show PV.lst (resD mu k r.pv::rs.pvs.map (resD mu k))=_
      rw [Row.resPv r k ok.1,e']
      rfl
end
theorem due_res {mu:Mu} {es:List Ent} {k:Nat} (ok:∀ e ∈ es,e.ok):(es.map Ent.due).map (resD mu k)=es.map Ent.due:=by
  rw [List.map_map]
  refine List.map_congr_left fun e he=>?_
  have h:=ok e he
  cases k with
  | zero=>rfl
  | succ k=>
    have ea:resD mu k e.ab=e.ab:=by
      rcases h.ab with h | ⟨i,h⟩ <;> rw [h] <;> exact resD_flat _ k rfl
    show PV.tup [resD mu k (.str e.w),resD mu k e.ab,resD mu k (.int e.bl),resD mu k e.r.pv]=_
    rw [ea,resD_flat (.str e.w) k rfl,resD_flat (.int e.bl) k rfl,Row.resPv e.r k h.rw]
    rfl
theorem Pn.mono:∀ {n m:Nat} {p:PV},Pn n p->n<=m->Pn m p
  | _,m,_,.non,h=>by obtain ⟨m,rfl⟩:∃ j,m=j + 1:=⟨m - 1,by omega⟩; exact .non
  | _,m,_,.int i,h=>by obtain ⟨m,rfl⟩:∃ j,m=j + 1:=⟨m - 1,by omega⟩; exact .int i
  | _,m,_,.str x,h=>by obtain ⟨m,rfl⟩:∃ j,m=j + 1:=⟨m - 1,by omega⟩; exact .str x
  | _,m,_,.tup ps hp,h=>by obtain ⟨m,rfl⟩:∃ j,m=j + 1:=⟨m - 1,by omega⟩; exact .tup ps fun p hx=>(hp p hx).mono (by omega)
  | _,m,_,.lst ps hp,h=>by obtain ⟨m,rfl⟩:∃ j,m=j + 1:=⟨m - 1,by omega⟩; exact .lst ps fun p hx=>(hp p hx).mono (by omega)
mutual
noncomputable def Row.pn:Row->Prop
  | .leaf _ ps=>∀ p ∈ ps,Pn 12 p
  | .call b n as=>Pn 12 b/\Pn 12 n/\∀ p ∈ as,Pn 12 p
  | .wh e b=>Pn 12 e/\b.pns
  | .iff e b c=>Pn 12 e/\b.pns/\c.pns
noncomputable def Rows.pns:Rows->Prop
  | .nil=>True
  | .cons r rs=>r.pn/\rs.pns
end
theorem mem2 {α:Type} {P:α->Prop} {a b:α} (ha:P a) (hb:P b):∀ x ∈ [a,b],P x:=by
  intro x hx
  rcases List.mem_cons.mp hx with rfl | hx
  · exact ha
  · rw [List.mem_singleton.mp hx]; exact hb
theorem memc {α:Type} {P:α->Prop} {a:α} {l:List α} (ha:P a) (hl:∀ x ∈ l,P x):∀ x ∈ a::l,P x:=by
  intro x hx
  rcases List.mem_cons.mp hx with rfl | hx
  · exact ha
  · exact hl x hx
theorem mem0 {α:Type} {P:α->Prop}:∀ x ∈ ([]:List α),P x:=fun x h=>by cases h
mutual
theorem Row.pn_pv:∀ (r:Row) (m:Nat),r.pn->12 + 2 * r.dep<=m->Pn m r.pv
  | .leaf w ps,m,h,hm=>by
    obtain ⟨m,rfl⟩:∃ j,m=j + 2:=⟨m - 2,by omega⟩
    simp only [Row.dep] at hm
    exact .tup _ (memc (.str w) fun p hp=>(h p hp).mono (by omega))
  | .call b n as,m,h,hm=>by
    obtain ⟨m,rfl⟩:∃ j,m=j + 2:=⟨m - 2,by omega⟩
    simp only [Row.dep] at hm
    exact .tup _ (memc (.str _) (memc (h.1.mono (by omega)) (memc (h.2.1.mono (by omega)) (memc (.lst _ fun p hp=>(h.2.2 p hp).mono (by omega)) mem0))))
  | .wh e b,m,h,hm=>by
    obtain ⟨m,rfl⟩:∃ j,m=j + 2:=⟨m - 2,by omega⟩
    simp only [Row.dep] at hm
    exact .tup _ (memc (.str _) (memc (h.1.mono (by omega)) (memc (.lst _ (Rows.pn_pvs b m h.2 (by omega))) mem0)))
  | .iff e b c,m,h,hm=>by
    obtain ⟨m,rfl⟩:∃ j,m=j + 2:=⟨m - 2,by omega⟩
    simp only [Row.dep] at hm
    exact .tup _ (memc (.str _) (memc (h.1.mono (by omega)) (memc (.lst _ (Rows.pn_pvs b m h.2.1 (by omega))) (memc (.lst _ (Rows.pn_pvs c m h.2.2 (by omega))) mem0))))
theorem Rows.pn_pvs:∀ (rs:Rows) (m:Nat),rs.pns->12 + 2 * rs.dep<=m + 2->∀ p ∈ rs.pvs,Pn m p
  | .nil,m,_,_,p,hp=>by cases hp
  | .cons r rs,m,h,hm,p,hp=>by
    simp only [Rows.dep] at hm
    rcases List.mem_cons.mp hp with rfl | hp
    · exact Row.pn_pv r m h.1 (by omega)
    · exact Rows.pn_pvs rs m h.2 (by omega) p hp
end
theorem due_pn {es:List Ent} {m:Nat} (hm:40<=m) (ok:∀ e ∈ es,e.ok) (pn:∀ e ∈ es,e.r.pn):Pn m (.lst (es.map Ent.due)):=by
  obtain ⟨m,rfl⟩:∃ j,m=j + 3:=⟨m - 3,by omega⟩
  refine .lst _ fun p hp=>?_
  obtain ⟨e,he,rfl⟩:=List.mem_map.mp hp
  have h:=ok e he
  have hd:=h.dp
  refine .tup _ (memc (.str _) (memc ?_ (memc (.int _) (memc (Row.pn_pv e.r (m + 1) (pn e he) (by omega)) mem0))))
  rcases h.ab with h | ⟨i,h⟩ <;> rw [h]
  · exact .non
  · exact .int i
theorem cut_a {ps:List PV} {a:Int} (h0:0<=a) (h1:a<=ps.length):cutP ps none (some a)=ps.take a.toNat:=by
  have e:HT.sIx ps.length ps.length (some a)=a.toNat:=by
    show (if a < 0 then _ else min a.toNat ps.length)=_
    rw [if_neg (by omega)]
    omega
  unfold cutP
  rw [e]
  rfl
theorem cut_b {ps:List PV} {a:Int} (h0:0<=a) (h1:a<=ps.length):cutP ps (some a) none=ps.drop a.toNat:=by
  have e:HT.sIx ps.length 0 (some a)=a.toNat:=by
    show (if a < 0 then _ else min a.toNat ps.length)=_
    rw [if_neg (by omega)]
    omega
  unfold cutP
  rw [e]
  show (ps.drop a.toNat).take (ps.length - a.toNat)=_
  rw [List.take_of_length_le (by rw [List.length_drop]; omega)]
theorem cut_sum {a b:List PV} {x:PV} (hz:a.length + b.length<=1000):addP (.lst (cutP (a++x::b) none (some (a.length:Int)))) (.lst (cutP (a++x::b) (some ((a.length:Int) + 1)) none))=some (.own (.lst (a++b))):=by
  have hl:(a++x::b).length=a.length + b.length + 1:=by simp; omega
  rw [cut_a (by omega) (by rw [hl]; omega),cut_b (by omega) (by rw [hl]; omega)]
  have e1:((a.length:Int)).toNat=a.length:=by omega
  have e2:((a.length:Int) + 1).toNat=a.length + 1:=by omega
  rw [e1,e2]
  have t1:(a++x::b).take a.length=a:=by simp
  have t2:(a++x::b).drop (a.length + 1)=b:=by simp
  rw [t1,t2]
  show (if a.length + b.length<=100000 then _ else _)=_
  rw [if_pos (by omega)]
noncomputable abbrev AE (g:Nat) (d:PV) (s:Int) (o3 o4 o5 o6:Option Lc) (mu:Mu):Ev:=⟨[some (.sh (.ptr g)),some (.sh d),some (.sh (.int s)),o3,o4,o5,o6],mu⟩
noncomputable abbrev apA (i:Nat):EF:=eOp addP (eSlx (eVar i) oNone (oSome (eVar 4))) (eSlx (eVar i) (oSome (eOp addP (eVar 4) (eC (.int 1)))) oNone)
noncomputable abbrev apS:EF:=eReadD (eCall (m__law_same 40) (aCons (apA 0) (aCons (apA 1) aNil)))
noncomputable abbrev apT:TF:=tT (eOp inP (eIy (eVar 5) (eC (.int 0))) (eTup (aCons (eC (.str "call")) (aCons (eC (.str "if")) (aCons (eC (.str "while")) aNil))))) blP
noncomputable abbrev apB:SF:=sSeq (sSet 4 (eOp modP (eOp addP (eVar 2) (eVar 3)) (eLen (eVar 0)))) (sSeq (sSet 5 (eIy (eIy (eVar 0) (eVar 4)) (eC (.int 3)))) (sIf apT (sSeq (sExpr (eCall (m__law_marked 40) (aCons (eVar 5) aNil))) (sSeq (sSet 6 apS) (sSeq (sExpr (eCall (m__law_cleaned 40) (aCons (eVar 5) aNil))) (sRetV 6)))) sNil))
noncomputable def Row.word:Row->Str
  | .leaf w _=>w
  | .call _ _ _ => "call"
  | .wh _ _ => "while"
  | .iff _ _ _ => "if"
theorem Row.cp_word (r:Row) (N:Nat):∃ ps,r.cp N=.tup (.str r.word::ps):=by cases r <;> exact ⟨_,rfl⟩
theorem apT_eq {g:Nat} {d:PV} {s:Int} {o3 o4 o6:Option Lc} {mu:Mu} {x:Str} {ps:List PV}:apT (AE g d s o3 o4 (some (.sh (.tup (.str x::ps)))) o6 mu)=some (("call" == x) || (("if" == x) || (("while" == x) || false)),AE g d s o3 o4 (some (.sh (.tup (.str x::ps)))) o6 mu):=by
  let E:=AE g d s o3 o4 (some (.sh (.tup (.str x::ps)))) o6 mu
  have i0:eIy (eVar 5) (eC (.int 0)) E=some (.sh (.str x),E):=by
    show eIx (fun _=>some (Lc.sh (.tup (.str x::ps)),E)) (fun _=>some (Lc.sh (.int 0),E)) E=_
    exact ix_go (p:=.tup (.str x::ps)) (q:=.int 0) (l:=.sh (.tup (.str x::ps))) (m:=.sh (.int 0)) rfl rfl rfl rfl (fun n h=>by cases h) (by show (atI (PV.str x::ps) 0).map _=_; rw [at0]; rfl)
  exact tT_eq (l:=.sh (.bl (("call" == x) || (("if" == x) || (("while" == x) || false))))) (eOp_eq i0 rfl rfl) rfl
theorem apS_eq {g:Nat} {a b:List Ent} {x:PV} {s t:Int} {o3 o5 o6:Option Lc} {mu:Mu} (ok:∀ e ∈ a++b,e.ok) (pn:∀ e ∈ a++b,e.r.pn) (hl:a.length + b.length<=900) {d:Ent} (hg:resD mu 40 (.ptr g)=.lst (a.map Ent.due++x::b.map Ent.due)) (hd:resD mu 40 (.lst ((a++d::b).map Ent.due))=.lst ((a++d::b).map Ent.due)):
    apS (AE g (.lst ((a++d::b).map Ent.due)) s o3 (some (.sh (.int (a.length:Int)))) o5 o6 mu)=some (.sh (.bl true),AE g (.lst ((a++d::b).map Ent.due)) s o3 (some (.sh (.int (a.length:Int)))) o5 o6 mu):=by
  let D:List PV:=(a++b).map Ent.due
  let ρ:Ev:=⟨[some (.sh (.lst (a.map Ent.due++x::b.map Ent.due))),some (.sh (.lst (a.map Ent.due++d.due::b.map Ent.due))),some (.sh (.int s)),peekD mu o3,some (.sh (.int (a.length:Int))),peekD mu o5,peekD mu o6],mu.map fun _=>none⟩
  have hd':(a++d::b).map Ent.due=a.map Ent.due++d.due::b.map Ent.due:=by simp
  have ep:(AE g (.lst ((a++d::b).map Ent.due)) s o3 (some (.sh (.int (a.length:Int)))) o5 o6 mu).peekD=ρ:=by
    show (⟨[some (Lc.sh (resD mu 40 (.ptr g))),some (Lc.sh (resD mu 40 (.lst ((a++d::b).map Ent.due)))),some (Lc.sh (resD mu 40 (.int s))),peekD mu o3,some (Lc.sh (resD mu 40 (.int (a.length:Int)))),peekD mu o5,peekD mu o6],mu.map fun _=>none⟩:Ev)=ρ
    rw [hg,hd,hd',resD_flat (.int s) 40 rfl,resD_flat (.int (a.length:Int)) 40 rfl]
  have eD:a.map Ent.due++b.map Ent.due=D:=by simp [D]
  have c0:∀ y:PV,addP (.lst (cutP (a.map Ent.due++y::b.map Ent.due) none (some (a.length:Int)))) (.lst (cutP (a.map Ent.due++y::b.map Ent.due) (some ((a.length:Int) + 1)) none))=some (.own (.lst D)):=fun y=>by
    have h:=cut_sum (a:=a.map Ent.due) (b:=b.map Ent.due) (x:=y) (by simp; omega)
    rw [List.length_map,eD] at h
    exact h
  have s0:apA 0 ρ=some (.own (.lst D),ρ):=eOp_eq (x:=.own (.lst (cutP (a.map Ent.due++x::b.map Ent.due) none (some (a.length:Int))))) (y:=.own (.lst (cutP (a.map Ent.due++x::b.map Ent.due) (some ((a.length:Int) + 1)) none))) rfl rfl (c0 x)
  have s1:apA 1 ρ=some (.own (.lst D),ρ):=eOp_eq (x:=.own (.lst (cutP (a.map Ent.due++d.due::b.map Ent.due) none (some (a.length:Int))))) (y:=.own (.lst (cutP (a.map Ent.due++d.due::b.map Ent.due) (some ((a.length:Int) + 1)) none))) rfl rfl (c0 d.due)
  have e:=same_eq (mu:=ρ.mu) 40 (.lst D) (due_pn (Nat.le_refl _) ok pn)
  refine readd_go (l:=.sh (.bl true)) (ρ1:=ρ) ?_ rfl
  rw [ep]
  exact call_go (ls:=[.own (.lst D),.own (.lst D)]) (ps:=[.lst D,.lst D]) (ρ1:=ρ) (cons_go s0 (cons_go s1 rfl)) rfl rfl rfl e
theorem iy_cell {fa fb:EF} {ρ ρ1 ρ2:Ev} {l m:Lc} {n:Nat} {k:Int} {ws:List PV} {p:PV} (h1:fa ρ=some (l,ρ1)) (hl:l.pv=.ptr n) (h2:fb ρ1=some (m,ρ2)) (hm:m.pv=.int k) (hg:ρ2.mu[n]?=some (some (.lst ws))) (hk:atI ws k=some p):eIy fa fb ρ=some (.sh p,ρ2):=by
  unfold eIy
  rw [h1,Option.bind_some]
  dsimp only
  rw [h2,Option.bind_some,hl]
  exact ixc_go (l:=l) (m:=m) rfl hl rfl hm hg hk
theorem atI_mid {a b:List PV} {x:PV}:atI (a++x::b) (a.length:Int)=some x:=by
  obtain ⟨y,h1,h2⟩:=atI_some (l:=a++x::b) (i:=(a.length:Int)) (by omega) (by simp; omega)
  rw [h1,← h2]
  simp
theorem esz_app:∀ a b:List Ent,esz (a++b)=esz a + esz b
  | [],b=>by simp [esz]
  | e::a,b=>by simp [esz,esz_app a,Nat.add_assoc]
section
variable {A B:Mu} {g:Nat} {a b:List Ent} {e:Ent} {s t:Int} {o3 o4 o5 o6:Option Lc}
theorem ap_pick {d:PV} {mu:Mu} {L:Int} (hg:mu[g]?=some (some (.lst (ents (a++e::b) A.length)))) (hL:((a.length + b.length + 1:Nat):Int)=L) (hk:(s + t) % L=(a.length:Int)) {S:SF} {R:Option Fl}
    (h:S (AE g d s (some (.sh (.int t))) (some (.sh (.int (a.length:Int)))) (some (.sh (e.r.cp (A.length + esz a)))) o6 mu)=R):
    sSeq (sSet 4 (eOp modP (eOp addP (eVar 2) (eVar 3)) (eLen (eVar 0)))) (sSeq (sSet 5 (eIy (eIy (eVar 0) (eVar 4)) (eC (.int 3)))) S) (AE g d s (some (.sh (.int t))) o4 o5 o6 mu)=R:=by
  have hlen:(ents (a++e::b) A.length).length=a.length + b.length + 1:=by rw [ents_len]; simp; omega
  have ln:eLen (eVar 0) (AE g d s (some (.sh (.int t))) o4 o5 o6 mu)=some (.sh (.int L),AE g d s (some (.sh (.int t))) o4 o5 o6 mu):=by
    show (match mu[g]? with | some (some (.lst ws))=>some (Lc.sh (.int (ws.length:Nat)),_) | _=>none)=_
    rw [hg]
    show some (Lc.sh (.int ((ents (a++e::b) A.length).length:Nat)),_)=_
    rw [hlen,hL]
    rfl
  refine seq_go (ρ':=AE g d s (some (.sh (.int t))) (some (.sh (.int (a.length:Int)))) o5 o6 mu) (set_go (l:=.sh (.int ((s + t) % L))) (ρ1:=AE g d s (some (.sh (.int t))) o4 o5 o6 mu) (op_go (p:=.int (s + t)) (q:=.int L) (l:=.sh (.int (s + t))) (ρ1:=AE g d s (some (.sh (.int t))) o4 o5 o6 mu) rfl rfl ln rfl (modP_go rfl rfl (by omega))) rfl (by rw [hk]; rfl)) ?_
  refine seq_go (ρ':=AE g d s (some (.sh (.int t))) (some (.sh (.int (a.length:Int)))) (some (.sh (e.r.cp (A.length + esz a)))) o6 mu) (set_go (l:=.sh (e.r.cp (A.length + esz a))) (ρ1:=AE g d s (some (.sh (.int t))) (some (.sh (.int (a.length:Int)))) o5 o6 mu) ?_ rfl rfl) h
  have e1:eIy (eVar 0) (eVar 4) (AE g d s (some (.sh (.int t))) (some (.sh (.int (a.length:Int)))) o5 o6 mu)=some (.sh (.tup [.str e.w,e.ab,.int e.bl,e.r.cp (A.length + esz a)]),AE g d s (some (.sh (.int t))) (some (.sh (.int (a.length:Int)))) o5 o6 mu):=by
    refine iy_cell (l:=.sh (.ptr g)) (m:=.sh (.int (a.length:Int))) (ρ1:=AE g d s (some (.sh (.int t))) (some (.sh (.int (a.length:Int)))) o5 o6 mu) rfl rfl rfl rfl hg ?_
    rw [ents_app]
    have h:=atI_mid (a:=ents a A.length) (b:=ents b (A.length + esz a + e.r.sz)) (x:=.tup [.str e.w,e.ab,.int e.bl,e.r.cp (A.length + esz a)])
    rw [ents_len] at h
    exact h
  show (eIy (eVar 0) (eVar 4) _).bind _=_
  rw [e1]
  rfl
theorem ap_step {d:PV} (hd:d=.lst ((a++e::b).map Ent.due)) (ok:∀ x ∈ a++e::b,x.ok) (pn:∀ x ∈ a++e::b,x.r.pn) (hl:a.length + b.length<=900) (hg:∀ X:Mu,X.length=esz (a++e::b)->(A++(X++B))[g]?=some (some (.lst (ents (a++e::b) A.length)))) (hk:(s + t) % ((a.length + b.length + 1:Nat):Int)=(a.length:Int)):
    (∃ p4 p5,apB (AE g d s (some (.sh (.int t))) o4 o5 o6 (A++(cells (a++e::b) A.length++B)))=some (.nx (AE g d s (some (.sh (.int t))) p4 p5 o6 (A++(cells (a++e::b) A.length++B)))))\/
    (∃ ρ,apB (AE g d s (some (.sh (.int t))) o4 o5 o6 (A++(cells (a++e::b) A.length++B)))=some (.rt (.sh (.bl true)) ρ)/\ρ.mu=A++(cells (a++e::b) A.length++B)):=by
  have he:=ok e (by simp)
  let N:=A.length + esz a
  let mu:=A++(cells (a++e::b) A.length++B)
  have hg0:=hg (cells (a++e::b) A.length) (cells_len _ _)
  obtain ⟨ps,hw⟩:=e.r.cp_word N
  have tst:apT (AE g d s (some (.sh (.int t))) (some (.sh (.int (a.length:Int)))) (some (.sh (e.r.cp N))) o6 mu)=some (("call" == e.r.word) || (("if" == e.r.word) || (("while" == e.r.word) || false)),AE g d s (some (.sh (.int t))) (some (.sh (.int (a.length:Int)))) (some (.sh (e.r.cp N))) o6 mu):=by
    rw [hw]
    exact apT_eq
  cases hb:(("call" == e.r.word) || (("if" == e.r.word) || (("while" == e.r.word) || false))) with
  | false=>
    rw [hb] at tst
    exact .inl ⟨_,_,ap_pick hg0 rfl hk ((sIf_f tst).trans rfl)⟩
  | true=>
    rw [hb] at tst
    let A':=A++cells a A.length
    have hA':A'.length=N:=by simp [A',N,cells_len]
    let B':=cells b (N + e.r.sz)++B
    have em:mu=A'++(e.r.cl N++B'):=by simp [mu,A',B',N,cells_app,cells]
    have h1:=he.dp
    have h2:=he.ct
    have mk:=marked_eq e.r 40 A' B' he.rw (by omega) (by omega)
    have cn:=cleaned_eq e.r 40 A' B' he.rw (by omega) (by omega)
    rw [hA'] at mk cn
    let mu':=A'++(e.r.ml N++B')
    have okb:∀ x ∈ a++b,x.ok:=fun x hx=>ok x (by simp at hx ⊢; rcases hx with h | h <;> simp [h])
    have pnb:∀ x ∈ a++b,x.r.pn:=fun x hx=>pn x (by simp at hx ⊢; rcases hx with h | h <;> simp [h])
    have ra:(ents a A.length).map (resD mu' 38)=a.map Ent.due:=by
      have h:=ents_res a 38 A (e.r.ml N++B') (fun x hx=>ok x (List.mem_append_left _ hx)) (by decide)
      have:A++(cells a A.length++(e.r.ml N++B'))=mu':=by simp [mu',A']
      rw [this] at h
      exact h
    have rb:(ents b (N + e.r.sz)).map (resD mu' 38)=b.map Ent.due:=by
      have hA2:(A'++e.r.ml N).length=N + e.r.sz:=by rw [List.length_append,Row.ml_len,hA']
      have h:=ents_res b 38 (A'++e.r.ml N) B (fun x hx=>ok x (List.mem_append_right _ (List.mem_cons_of_mem _ hx))) (by decide)
      rw [hA2] at h
      have:A'++e.r.ml N++(cells b (N + e.r.sz)++B)=mu':=by simp [mu',B']
      rw [this] at h
      exact h
    have hg':mu'[g]?=some (some (.lst (ents (a++e::b) A.length))):=by
      have h:=hg (cells a A.length++(e.r.ml N++cells b (N + e.r.sz))) (by simp [cells_len,Row.ml_len,esz_app,esz])
      have:A++(cells a A.length++(e.r.ml N++cells b (N + e.r.sz))++B)=mu':=by simp [mu',A',B']
      rw [this] at h
      exact h
    have rg:resD mu' 40 (.ptr g)=.lst (a.map Ent.due++resD mu' 38 (.tup [.str e.w,e.ab,.int e.bl,e.r.cp N])::b.map Ent.due):=by
      show (match mu'[g]? with | some (some p)=>resD mu' 39 p | _=>.ptr g)=_
      rw [hg']
      show PV.lst ((ents (a++e::b) A.length).map (resD mu' 38))=_
      rw [ents_app]
      show PV.lst ((ents a A.length++(.tup [.str e.w,e.ab,.int e.bl,e.r.cp N]::ents b (N + e.r.sz))).map (resD mu' 38))=_
      rw [List.map_append,List.map_cons,ra,rb]
    have rd:resD mu' 40 (.lst ((a++e::b).map Ent.due))=.lst ((a++e::b).map Ent.due):=by
      show PV.lst (((a++e::b).map Ent.due).map (resD mu' 39))=_
      rw [due_res ok]
    let E:Option Lc->Mu->Ev:=fun o m=>AE g d s (some (.sh (.int t))) (some (.sh (.int (a.length:Int)))) (some (.sh (e.r.cp N))) o m
    have sm:apS (E o6 mu')=some (.sh (.bl true),E o6 mu'):=by
      subst hd
      exact apS_eq (t:=t) (d:=e) okb pnb hl rg rd
    refine .inr ⟨⟨[some (.sh (.ptr g)),some (.sh d),some (.sh (.int s)),some (.sh (.int t)),some (.sh (.int (a.length:Int))),some (.sh (e.r.cp N)),none],mu⟩,ap_pick hg0 rfl hk ((sIf_t tst).trans ?_),rfl⟩
    refine seq_go (ρ':=E o6 mu') (expr_go (call_go (ls:=[.sh (e.r.cp N)]) (ps:=[e.r.cp N]) (ρ1:=E o6 mu) rfl rfl rfl rfl (by rw [em]; exact mk))) (seq_go (ρ':=E (some (.sh (.bl true))) mu') (set_go sm rfl rfl) (seq_go (ρ':=E (some (.sh (.bl true))) mu) (expr_go (call_go (ls:=[.sh (e.r.cp N)]) (ps:=[e.r.cp N]) (ρ1:=E (some (.sh (.bl true))) mu') rfl rfl rfl rfl (by rw [em]; exact cn))) rfl))
end
section
variable {A B:Mu} {g:Nat} {es:List Ent} {s:Int} {d:PV}
theorem ap_any {t:Int} {o4 o5 o6:Option Lc} (hne:es ≠ []) (hd:d=.lst (es.map Ent.due)) (ok:∀ x ∈ es,x.ok) (pn:∀ x ∈ es,x.r.pn) (hl:es.length<=900) (hg:∀ X:Mu,X.length=esz es->(A++(X++B))[g]?=some (some (.lst (ents es A.length)))):
    (∃ p4 p5,apB (AE g d s (some (.sh (.int t))) o4 o5 o6 (A++(cells es A.length++B)))=some (.nx (AE g d s (some (.sh (.int t))) p4 p5 o6 (A++(cells es A.length++B)))))\/
    (∃ ρ,apB (AE g d s (some (.sh (.int t))) o4 o5 o6 (A++(cells es A.length++B)))=some (.rt (.sh (.bl true)) ρ)/\ρ.mu=A++(cells es A.length++B)):=by
  have hpos:0 < es.length:=List.length_pos_iff.mpr hne
  let L:Int:=(es.length:Nat)
  have k0:0<=(s + t) % L:=Int.emod_nonneg _ (by omega)
  have k1:(s + t) % L < L:=Int.emod_lt_of_pos _ (by omega)
  let k:Nat:=((s + t) % L).toNat
  have hk:k < es.length:=by omega
  have e0:es=es.take k++es[k]::es.drop (k + 1):=by rw [← List.drop_eq_getElem_cons hk,List.take_append_drop]
  have ha:(es.take k).length=k:=by rw [List.length_take]; omega
  have hb:(es.drop (k + 1)).length=es.length - (k + 1):=List.length_drop
  generalize es.take k=a at e0 ha
  generalize es[k]=e at e0
  generalize es.drop (k + 1)=b at e0 hb
  have hkk:(s + t) % ((a.length + b.length + 1:Nat):Int)=(a.length:Int):=by
    have h1:a.length + b.length + 1=es.length:=by omega
    rw [h1,ha]
    exact (Int.toNat_of_nonneg k0).symm
  have hab:a.length + b.length<=900:=by omega
  clear_value k
  subst e0
  exact ap_step hd ok pn hab hg hkk
theorem ap_loop (hne:es ≠ []) (hd:d=.lst (es.map Ent.due)) (ok:∀ x ∈ es,x.ok) (pn:∀ x ∈ es,x.r.pn) (hl:es.length<=900) (hg:∀ X:Mu,X.length=esz es->(A++(X++B))[g]?=some (some (.lst (ents es A.length)))):∀ (ts:List Int) (o3 o4 o5 o6:Option Lc),
    (∃ p3 p4 p5,forP (bName 3) apB (ts.map .int) (AE g d s o3 o4 o5 o6 (A++(cells es A.length++B)))=some (.nx (AE g d s p3 p4 p5 o6 (A++(cells es A.length++B)))))\/
    (∃ ρ,forP (bName 3) apB (ts.map .int) (AE g d s o3 o4 o5 o6 (A++(cells es A.length++B)))=some (.rt (.sh (.bl true)) ρ)/\ρ.mu=A++(cells es A.length++B))
  | [],o3,o4,o5,o6=>.inl ⟨o3,o4,o5,rfl⟩
  | t::ts,o3,o4,o5,o6=>by
    have e:forP (bName 3) apB ((t::ts).map .int) (AE g d s o3 o4 o5 o6 (A++(cells es A.length++B)))=(apB (AE g d s (some (.sh (.int t))) o4 o5 o6 (A++(cells es A.length++B)))).bind fun fl=>match fl with
      | .nx ρ'=>forP (bName 3) apB (ts.map .int) ρ'
      | .ct ρ'=>forP (bName 3) apB (ts.map .int) ρ'
      | .bk ρ'=>some (.nx ρ')
      | .rt r ρ'=>some (.rt r ρ'):=rfl
    rcases ap_any (s:=s) (t:=t) (o4:=o4) (o5:=o5) (o6:=o6) hne hd ok pn hl hg with ⟨p4,p5,h⟩ | ⟨ρ,h,hm⟩
    · rw [e,h,Option.bind_some]
      exact ap_loop hne hd ok pn hl hg ts _ _ _ _
    · exact .inr ⟨ρ,by rw [e,h,Option.bind_some],hm⟩
theorem apart_eq (hd:d=.lst (es.map Ent.due)) (ok:∀ x ∈ es,x.ok) (pn:∀ x ∈ es,x.r.pn) (hl:es.length<=900) (hg:∀ X:Mu,X.length=esz es->(A++(X++B))[g]?=some (some (.lst (ents es A.length)))):
    m__law_apart [.ptr g,d,.int s] (A++(cells es A.length++B))=some (.sh (.bl true),A++(cells es A.length++B)):=by
  have hg0:=hg (cells es A.length) (cells_len _ _)
  let mu:=A++(cells es A.length++B)
  have ln:aCons (eLen (eVar 0)) aNil (AE g d s none none none none mu)=some ([.sh (.int ((es.length:Nat):Int))],AE g d s none none none none mu):=by
    refine cons_go (l:=.sh (.int ((es.length:Nat):Int))) (ρ1:=AE g d s none none none none mu) ?_ rfl
    show (match mu[g]? with | some (some (.lst ws))=>some (Lc.sh (.int (ws.length:Nat)),_) | _=>none)=_
    rw [hg0]
    show some (Lc.sh (.int ((ents es A.length).length:Nat)),_)=_
    rw [ents_len]
    rfl
  have rg:iRange1 (aCons (eLen (eVar 0)) aNil) (AE g d s none none none none mu)=some (((List.range es.length).map fun i=>((i:Nat):Int)).map .int,AE g d s none none none none mu):=by
    rw [iRange1_eq (l:=.sh (.int ((es.length:Nat):Int))) (n:=((es.length:Nat):Int)) ln rfl (by omega) (by omega)]
    congr 2
    simp [rngP,List.map_map]
  by_cases hne:es=[]
  · subst hne
    exact runP_rt (r:=.sh (.bl true)) (ρ:=AE g d s none none none none mu) (seq_go (ρ':=AE g d s none none none none mu) (for_go rg rfl) rfl)
  · rcases ap_loop (s:=s) hne hd ok pn hl hg ((List.range es.length).map fun i=>((i:Nat):Int)) none none none none with ⟨p3,p4,p5,h⟩ | ⟨ρ,h,hm⟩
    · exact runP_rt (r:=.sh (.bl true)) (ρ:=AE g d s p3 p4 p5 none mu) (seq_go (ρ':=AE g d s p3 p4 p5 none mu) (for_go rg h) rfl)
    · refine (runP_rt (r:=.sh (.bl true)) (ρ:=ρ) (sSeq_rt (for_go rg h))).trans (by rw [hm])
end
noncomputable def mcells:List Ent->Nat->Mu
  | [],_=>[]
  | e::es,N=>e.r.ml N++mcells es (N + e.r.sz)
theorem mcells_len:∀ (es:List Ent) (N:Nat),(mcells es N).length=esz es
  | [],N=>rfl
  | e::es,N=>by simp [mcells,esz,Row.ml_len,mcells_len es]
noncomputable abbrev PE5 (g:Nat) (o1 o2 o3 o4:Option Lc) (mu:Mu):Ev:=⟨[some (.sh (.ptr g)),o1,o2,o3,o4],mu⟩
noncomputable abbrev spB:SF:=sExpr (eCall (m__law_marked 40) (aCons (eVar 4) aNil))
theorem sp_loop {g:Nat} {ps:List PV}:∀ (es:List Ent) (A B:Mu) (o1 o2 o3 o4:Option Lc),(∀ x ∈ es,x.ok)->(∀ X:Mu,X.length=esz es->(A++(X++B))[g]?=some (some (.lst ps)))->
    ∃ p1 p2 p3 p4,forC (some g) ps (bSeq 4 (bCons (bName 1) (bCons (bName 2) (bCons (bName 3) (bCons (bName 4) bNil))))) spB (ents es A.length) (PE5 g o1 o2 o3 o4 (A++(cells es A.length++B)))=some (.nx (PE5 g p1 p2 p3 p4 (A++(mcells es A.length++B))))
  | [],A,B,o1,o2,o3,o4,_,hj=>⟨o1,o2,o3,o4,forC_end fun n hn=>by cases hn; exact hj [] rfl⟩
  | e::es,A,B,o1,o2,o3,o4,ok,hj=>by
    have he:=ok e List.mem_cons_self
    have h1:=he.dp
    have h2:=he.ct
    have e1:=marked_eq e.r 40 A (cells es (A.length + e.r.sz)++B) he.rw (by omega) (by omega)
    have hA:(A++e.r.ml A.length).length=A.length + e.r.sz:=by rw [List.length_append,Row.ml_len]
    obtain ⟨p1,p2,p3,p4,e2⟩:=sp_loop (g:=g) (ps:=ps) es (A++e.r.ml A.length) B (some (.sh (.str e.w))) (some (.sh e.ab)) (some (.sh (.int e.bl))) (some (.sh (e.r.cp A.length))) (fun x hx=>ok x (List.mem_cons_of_mem _ hx)) fun X hX=>by
      have:=hj (e.r.ml A.length++X) (by rw [List.length_append,Row.ml_len,hX]; rfl)
      simpa using this
    rw [hA] at e2
    refine ⟨p1,p2,p3,p4,?_⟩
    have c0:A++(cells (e::es) A.length++B)=A++(e.r.cl A.length++(cells es (A.length + e.r.sz)++B)):=by simp [cells]
    have c1:A++(mcells (e::es) A.length++B)=A++e.r.ml A.length++(mcells es (A.length + e.r.sz)++B):=by simp [mcells]
    have c2:A++(e.r.ml A.length++(cells es (A.length + e.r.sz)++B))=A++e.r.ml A.length++(cells es (A.length + e.r.sz)++B):=(List.append_assoc _ _ _).symm
    have hh:=hj (cells (e::es) A.length) (cells_len _ _)
    rw [c0] at hh ⊢
    rw [c1]
    rw [c2] at e1
    let E:=PE5 g (some (.sh (.str e.w))) (some (.sh e.ab)) (some (.sh (.int e.bl))) (some (.sh (e.r.cp A.length))) (A++(e.r.cl A.length++(cells es (A.length + e.r.sz)++B)))
    exact forC_nx (fun n hn=>by cases hn; exact hh) (ρ1:=E) rfl (expr_go (call_go (ls:=[.sh (e.r.cp A.length)]) (ps:=[e.r.cp A.length]) (ρ1:=E) rfl rfl rfl rfl e1)) e2
theorem revc_go {fo:EF} {ρ ρ1:Ev} {o:Lc} {n:Nat} {ws:List PV} {mu:Mu} (h1:fo ρ=some (o,ρ1)) (ho:o.pv=.ptr n) (hm:ρ1.mu[n]?=some (some (.lst ws))) (e:ρ1.mu.set n (some (.lst ws.reverse))=mu):sRevC fo ρ=some (.nx ⟨ρ1.vs,mu⟩):=by
  unfold sRevC
  rw [h1,Option.bind_some,ho]
  dsimp only
  rw [hm]
  dsimp only
  rw [e]
theorem spoiled_eq {A B:Mu} {es:List Ent} (ok:∀ x ∈ es,x.ok) (hl:es.length<=900):∃ Y,m__law_spoiled [.ptr (A.length + esz es)] (A++(cells es A.length++(some (.lst (ents es A.length))::B)))=some (.sh .non,A++Y):=by
  let g:=A.length + esz es
  let mn:PV:=.tup [.str "main",.non,.int 0,zz]
  obtain ⟨p1,p2,p3,p4,e⟩:=sp_loop (g:=g) (ps:=ents es A.length) es A (some (.lst (ents es A.length))::B) none none none none ok fun X hX=>mid_get (by rw [hX])
  let ws:=ents es A.length
  have hw:ws.length<=900:=by simp only [ws,ents_len]; exact hl
  refine ⟨mcells es A.length++(some (.lst (ws++[mn]).reverse)::B),?_⟩
  refine runP_nx (ρ:=PE5 g p1 p2 p3 p4 (A++(mcells es A.length++(some (.lst (ws++[mn]).reverse)::B)))) ?_
  refine seq_go (forC_go (ps:=ws) (xs:=ws) (o:=some g) (ρ1:=PE5 g none none none none (A++(cells es A.length++(some (.lst ws)::B)))) (cell_go rfl rfl (mid_get (by rw [cells_len]))) e) ?_
  refine seq_go (ρ':=PE5 g p1 p2 p3 p4 (A++(mcells es A.length++(some (.lst (ws++[mn]))::B)))) ?_ ?_
  · exact appc_go (n:=g) (ws0:=ws) (ws:=ws) (p:=mn) (y:=.sh mn) (ρ1:=PE5 g p1 p2 p3 p4 (A++(mcells es A.length++(some (.lst ws)::B)))) (ρ2:=PE5 g p1 p2 p3 p4 (A++(mcells es A.length++(some (.lst ws)::B)))) rfl rfl (mid_get (by rw [mcells_len])) rfl rfl (mid_get (by rw [mcells_len])) (by omega) (mid_set (by rw [mcells_len]))
  · exact revc_go (n:=g) (ws:=ws++[mn]) (o:=.sh (.ptr g)) (ρ1:=PE5 g p1 p2 p3 p4 (A++(mcells es A.length++(some (.lst (ws++[mn]))::B)))) rfl rfl (mid_get (by rw [mcells_len])) (mid_set (by rw [mcells_len]))
theorem cell_eq {ns:List Int} {k:Int} (hn:ns.length<=63) (h0:0<=k) (h1:k < 100000000):∃ c,∀ mu:Mu,m__law_cell [.lst (ns.map .int),.int k] mu=some (.sh (.int c),mu):=by
  have hN:(ns.map PV.int).length<=63:=by rw [List.length_map]; exact hn
  have hlt:∀ o2 o3 (mu:Mu),tT (eOp ltP (eVar 1) (eB len1 (aCons (eVar 0) aNil))) blP ⟨[some (.sh (.lst (ns.map .int))),some (.sh (.int k)),o2,o3],mu⟩=some (decide (k < (ns.map PV.int).length),⟨[some (.sh (.lst (ns.map .int))),some (.sh (.int k)),o2,o3],mu⟩):=fun o2 o3 mu=>by
    walk_at "ev"
  have hgt:∀ o2 o3 (mu:Mu),tT (eOp gtP (eB len1 (aCons (eVar 0) aNil)) (eC (.int 0))) blP ⟨[some (.sh (.lst (ns.map .int))),some (.sh (.int k)),o2,o3],mu⟩=some (decide ((0:Int) < (ns.map PV.int).length),⟨[some (.sh (.lst (ns.map .int))),some (.sh (.int k)),o2,o3],mu⟩):=fun o2 o3 mu=>by
    walk_at "ev"
  have at_:∀ i:Int,0<=i->i < (ns.map PV.int).length->∃ c,ixP (.lst (ns.map .int)) (.int i)=some (.sh (.int c)):=fun i h0 h1=>by
    obtain ⟨x,e,e2⟩:=atI_some (l:=ns.map PV.int) (i:=i) h0 h1
    rw [List.getElem?_map] at e2
    obtain ⟨c,_,rfl⟩:=map_some e2
    exact ⟨c,by show (atI (ns.map PV.int) i).map _=_; rw [e]; rfl⟩
  by_cases hk:k < (ns.map PV.int).length
  · obtain ⟨c,e⟩:=at_ k h0 hk
    refine ⟨c,fun mu=>runP_rt (ρ:=⟨[some (.sh (.lst (ns.map .int))),some (.sh (.int k)),none,none],mu⟩) ?_⟩
    refine (sSeq_rt ?_)
    refine (sIf_t (ρ1:=⟨[some (.sh (.lst (ns.map .int))),some (.sh (.int k)),none,none],mu⟩) ((hlt none none mu).trans (by rw [decide_eq_true hk]))).trans ?_
    exact ret_go (ix_go rfl rfl rfl rfl (fun n h=>by cases h) e)
  · have fin:∀ (c:Int) o3 (mu:Mu),0<=c->c < 18446744073709551616->sRet (eOp modP (eOp mulP (eVar 2) (eVar 2)) (eC (.int 2147483629))) ⟨[some (.sh (.lst (ns.map .int))),some (.sh (.int k)),some (.sh (.int c)),o3],mu⟩=some (.rt (.sh (.int (c * c % 2147483629))) ⟨[some (.sh (.lst (ns.map .int))),some (.sh (.int k)),some (.sh (.int c)),o3],mu⟩):=fun c o3 mu a b=>
      ret_go (eOp_eq (eOp_eq rfl rfl (mulP_l (by omega) (by omega))) rfl (modP_int (by decide)))
    have go1:∀ mu:Mu,sIf (tT (eOp ltP (eVar 1) (eB len1 (aCons (eVar 0) aNil))) blP) (sRet (eIx (eVar 0) (eVar 1))) sNil ⟨[some (.sh (.lst (ns.map .int))),some (.sh (.int k)),none,none],mu⟩=some (.nx ⟨[some (.sh (.lst (ns.map .int))),some (.sh (.int k)),none,none],mu⟩):=fun mu=>
      (sIf_f ((hlt none none mu).trans (by rw [decide_eq_false hk]))).trans rfl
    have go2:∀ mu:Mu,sSet 2 (eOp addP (eOp mulP (eVar 1) (eC (.int 7919))) (eC (.int 5))) ⟨[some (.sh (.lst (ns.map .int))),some (.sh (.int k)),none,none],mu⟩=some (.nx ⟨[some (.sh (.lst (ns.map .int))),some (.sh (.int k)),some (.sh (.int (k * 7919 + 5))),none],mu⟩):=fun mu=>by
      walk_at "ev"
    by_cases hz:(0:Int) < (ns.map PV.int).length
    · have hm0:=Int.emod_nonneg (k * 7) (b:=(ns.map PV.int).length) (by omega)
      have hm1:=Int.emod_lt_of_pos (k * 7) (b:=(ns.map PV.int).length) hz
      obtain ⟨d,e⟩:=at_ _ hm0 hm1
      have go3:∀ mu:Mu,sIf (tT (eOp gtP (eB len1 (aCons (eVar 0) aNil)) (eC (.int 0))) blP) (sSeq (sSet 3 (eIx (eVar 0) (eOp modP (eOp mulP (eVar 1) (eC (.int 7))) (eB len1 (aCons (eVar 0) aNil)))))
          (sSet 2 (eOp modP (eOp addP (eOp addP (eOp mulP (eVar 3) (eC (.int 48271))) (eOp mulP (eOp mulP (eVar 1) (eVar 1)) (eC (.int 7919)))) (eVar 1)) (eC (.int 2147483647))))) sNil ⟨[some (.sh (.lst (ns.map .int))),some (.sh (.int k)),some (.sh (.int (k * 7919 + 5))),none],mu⟩=
          some (.nx ⟨[some (.sh (.lst (ns.map .int))),some (.sh (.int k)),some (.sh (.int ((d * 48271 + k * k * 7919 + k) % 2147483647))),some (.sh (.int d))],mu⟩):=fun mu=>by
        refine (sIf_t ((hgt _ none mu).trans (by rw [decide_eq_true hz]))).trans ?_
        refine seq_go (set_go (l:=.sh (.int d)) (ix_go (q:=.int (k * 7 % (ns.map PV.int).length)) rfl rfl (by walk_at "ev") rfl (fun n h=>by cases h) e) rfl rfl) ?_
        walk_at "ev"
      have b1:=Int.emod_nonneg (d * 48271 + k * k * 7919 + k) (b:=2147483647) (by decide)
      have b2:=Int.emod_lt_of_pos (d * 48271 + k * k * 7919 + k) (b:=2147483647) (by decide)
      exact ⟨_,fun mu=>runP_rt (ρ:=⟨[some (.sh (.lst (ns.map .int))),some (.sh (.int k)),some (.sh (.int ((d * 48271 + k * k * 7919 + k) % 2147483647))),some (.sh (.int d))],mu⟩) (seq_go (go1 mu) (seq_go (go2 mu) (seq_go (go3 mu) (fin _ _ mu b1 (by omega)))))⟩
    · have go3:∀ (f:SF) (mu:Mu),sIf (tT (eOp gtP (eB len1 (aCons (eVar 0) aNil)) (eC (.int 0))) blP) f sNil ⟨[some (.sh (.lst (ns.map .int))),some (.sh (.int k)),some (.sh (.int (k * 7919 + 5))),none],mu⟩=
          some (.nx ⟨[some (.sh (.lst (ns.map .int))),some (.sh (.int k)),some (.sh (.int (k * 7919 + 5))),none],mu⟩):=fun f mu=>
        (sIf_f ((hgt _ none mu).trans (by rw [decide_eq_false hz]))).trans rfl
      exact ⟨_,fun mu=>runP_rt (ρ:=⟨[some (.sh (.lst (ns.map .int))),some (.sh (.int k)),some (.sh (.int (k * 7919 + 5))),none],mu⟩) (seq_go (go1 mu) (seq_go (go2 mu) (seq_go (go3 _ mu) (fin _ _ mu (by omega) (by omega)))))⟩
structure Spot (P:PV->Mu) (n:Nat):Prop where
  g:∀ x,(P x)[n]?=some (some x)
  s:∀ x y,(P x).set n (some y)=P y
noncomputable abbrev pen (ns:List Int) (M k c:Int):PV:=.lst [.lst (ns.map .int),.int k,.int c,.int M]
noncomputable def LS (ns:List Int):Prop:=ns.length<=63
variable {ns:List Int} {M:Int}
theorem next_eq {k m:Int} (hn:LS ns) (h0:0<=k) (h1:k < 100000000) (hm:0 < m):∃ r,0<=r/\r < m/\∀ P n c,Spot P n->m__law_next [.ptr n,.int m] (P (pen ns M k c))=some (.sh (.int r),P (pen ns M (k + 1) c)):=by
  obtain ⟨d,e⟩:=cell_eq (ns:=ns) hn h0 h1
  refine ⟨d % m,Int.emod_nonneg _ (by omega),Int.emod_lt_of_pos _ hm,fun P n c S=>runP_rt (ρ:=⟨[some (.sh (.ptr n)),some (.sh (.int m)),none],P (pen ns M (k + 1) c)⟩) ?_⟩
  have g1:sSet 2 (eOp modP (eCall m__law_cell (aCons (eIx (eVar 0) (eC (.int 0))) (aCons (eIx (eVar 0) (eC (.int 1))) aNil))) (eVar 1)) ⟨[some (.sh (.ptr n)),some (.sh (.int m)),none],P (pen ns M k c)⟩=some (.nx ⟨[some (.sh (.ptr n)),some (.sh (.int m)),some (.sh (.int (d % m)))],P (pen ns M k c)⟩):=
    set_go (op_go (call_go (ps:=[.lst (ns.map .int),.int k]) (cons_go (ixc_go rfl rfl rfl rfl (S.g _) rfl) (cons_go (ixc_go rfl rfl rfl rfl (S.g _) rfl) rfl)) rfl rfl rfl (e _)) rfl rfl rfl (modP_int hm)) rfl rfl
  have g2:sSetC (eVar 0) (eC (.int 1)) (eOp addP (eIx (eVar 0) (eC (.int 1))) (eC (.int 1))) ⟨[some (.sh (.ptr n)),some (.sh (.int m)),some (.sh (.int (d % m)))],P (pen ns M k c)⟩=some (.nx ⟨[some (.sh (.ptr n)),some (.sh (.int m)),some (.sh (.int (d % m)))],P (pen ns M (k + 1) c)⟩):=by
    refine (setc_go (x:=.sh (.int (k + 1))) (j:=1) (op_go (ixc_go rfl rfl rfl rfl (S.g _) rfl) rfl rfl rfl rfl) rfl rfl rfl rfl rfl (S.g _) rfl).trans ?_
    show some (Fl.nx ⟨_,(P (pen ns M k c)).set n (some (pen ns M (k + 1) c))⟩)=_
    rw [S.s]
    rfl
  exact seq_go g1 (seq_go g2 rfl)
theorem nx_go {k m:Int} (hn:LS ns) (h0:0<=k) (h1:k < 100000000) (hm:0 < m):∃ r,0<=r/\r < m/\∀ P n c,Spot P n->∀ (fp fm:EF) (vs:List (Option Lc)),fp ⟨vs,P (pen ns M k c)⟩=some (.sh (.ptr n),⟨vs,P (pen ns M k c)⟩)->fm ⟨vs,P (pen ns M k c)⟩=some (.sh (.int m),⟨vs,P (pen ns M k c)⟩)->
    eCall m__law_next (aCons fp (aCons fm aNil)) ⟨vs,P (pen ns M k c)⟩=some (.sh (.int r),⟨vs,P (pen ns M (k + 1) c)⟩):=by
  obtain ⟨r,r0,r1,e⟩:=next_eq (M:=M) hn h0 h1 hm
  exact ⟨r,r0,r1,fun P n c S fp fm vs e1 e2=>call_go (ps:=[.ptr n,.int m]) (cons_go e1 (cons_go e2 rfl)) rfl rfl rfl (e P n c S)⟩
theorem pick_go {k:Int} {xs:List PV} (hn:LS ns) (h0:0<=k) (h1:k < 100000000) (hx:xs ≠ []):∃ x ∈ xs,∀ P n c,Spot P n->∀ (fp fk:EF) (vs:List (Option Lc)),(∀ mu,fp ⟨vs,mu⟩=some (.sh (.ptr n),⟨vs,mu⟩))->(∀ mu,fk ⟨vs,mu⟩=some (.sh (.lst xs),⟨vs,mu⟩))->
    eIx fk (eCall m__law_next (aCons fp (aCons (eB len1 (aCons fk aNil)) aNil))) ⟨vs,P (pen ns M k c)⟩=some (.sh x,⟨vs,P (pen ns M (k + 1) c)⟩):=by
  have hl:0 < xs.length:=List.length_pos_iff.mpr hx
  obtain ⟨r,r0,r1,e⟩:=nx_go (M:=M) (m:=(xs.length:Nat)) hn h0 h1 (by omega)
  obtain ⟨x,h2,h3⟩:=atI_some (l:=xs) (i:=r) r0 r1
  refine ⟨x,List.mem_of_getElem? h3,fun P n c S fp fk vs e1 e2=>?_⟩
  refine ix_go (p:=.lst xs) (q:=.int r) (l:=.sh (.lst xs)) (m:=.sh (.int r)) (ρ1:=⟨vs,P (pen ns M k c)⟩) (e2 _) rfl (e P n c S fp _ vs (e1 _) (b_go (ls:=[.sh (.lst xs)]) (ps:=[.lst xs]) (cons_go (e2 _) rfl) rfl rfl)) rfl (fun n h=>by cases h) ?_
  show (atI xs r).map _=_
  rw [h2]
  rfl
theorem tint' {f:EF} {a b:Int} {ρ ρ1:Ev} (h:f ρ=some (.sh (.int a),ρ1)):tT (eOp eqP f (eC (.int b))) blP ρ=some (decide (a=b),ρ1):=tT_eq (l:=.sh (.bl (a == b))) (eOp_eq h rfl rfl) (by show some (a == b)=_; rfl)
noncomputable def Dr (ns:List Int) (M:Int) (F:Nat->Mu->Option (Lc × Mu)) (k c k' c':Int) (l:Lc):Prop:=∀ P n,Spot P n->F n (P (pen ns M k c))=some (l,P (pen ns M k' c'))
theorem number_eq {k:Int} (hn:LS ns) (h0:0<=k) (h1:k < 99999999):∃ v,∀ c,Dr ns M (fun n mu=>m__law_number [.ptr n] mu) k c (k + 2) c (.sh (.int v)):=by
  obtain ⟨w,w0,w1,ew⟩:=next_eq (M:=M) (m:=4) hn h0 (by omega) (by decide)
  obtain ⟨z,z0,z1,ez⟩:=next_eq (M:=M) (m:=1000000000000) (k:=k + 1) hn (by omega) (by omega) (by decide)
  have e2:k + 1 + 1=k + 2:=by omega
  rw [e2] at ez
  let E:Nat->Mu->Ev:=fun n mu=>⟨[some (.sh (.ptr n)),some (.sh (.int w)),some (.sh (.int z))],mu⟩
  have st:∀ P n c,Spot P n->∀ (g:SF) R,g (E n (P (pen ns M (k + 2) c)))=R->sSeq (sSet 1 (eCall m__law_next (aCons (eVar 0) (aCons (eC (.int 4)) aNil)))) (sSeq (sSet 2 (eCall m__law_next (aCons (eVar 0) (aCons (eOp powP (eC (.int 10)) (eC (.int 12))) aNil)))) g) (env0 3 [.ptr n] (P (pen ns M k c)))=R:=fun P n c S g R hg=>
    seq_go (ρ':=⟨[some (.sh (.ptr n)),some (.sh (.int w)),none],P (pen ns M (k + 1) c)⟩) (set_go (call_go (ps:=[.ptr n,.int 4]) rfl rfl rfl rfl (ew P n c S)) rfl rfl) (seq_go (ρ':=E n (P (pen ns M (k + 2) c))) (set_go (call_go (ps:=[.ptr n,.int 1000000000000]) rfl rfl rfl rfl (ez P n c S)) rfl rfl) hg)
  have t:∀ (i:Int) n mu,tT (eOp eqP (eVar 1) (eC (.int i))) blP (E n mu)=some (decide (w=i),E n mu):=fun i n mu=>tint' rfl
  by_cases h0':w=0
  · exact ⟨z % 21,fun c P n S=>runP_rt (ρ:=E n (P (pen ns M (k + 2) c))) (st P n c S _ _ (if_yes (t 0 _ _) (decide_eq_true h0') (ret_go (eOp_eq rfl rfl (modP_int (by decide))))))⟩
  · by_cases h1':w=1
    · exact ⟨999999999999 - z % 5,fun c P n S=>runP_rt (ρ:=E n (P (pen ns M (k + 2) c))) (st P n c S _ _ ((if_no (t 0 _ _) (decide_eq_false h0')).trans (if_yes (t 1 _ _) (decide_eq_true h1') (ret_go (eOp_eq (x:=.sh (.int 999999999999)) rfl (eOp_eq rfl rfl (modP_int (by decide))) rfl)))))⟩
    · by_cases h2':w=2
      · have b0:=Int.emod_nonneg z (b:=9999) (by decide)
        have b1:=Int.emod_lt_of_pos z (b:=9999) (by decide)
        exact ⟨1000000000000 / (1 + z % 9999) - 1,fun c P n S=>runP_rt (ρ:=E n (P (pen ns M (k + 2) c))) (st P n c S _ _ ((if_no (t 0 _ _) (decide_eq_false h0')).trans ((if_no (t 1 _ _) (decide_eq_false h1')).trans (if_yes (t 2 _ _) (decide_eq_true h2') (ret_go (eOp_eq (eOp_eq (x:=.sh (.int 1000000000000)) (y:=.sh (.int (1 + z % 9999))) rfl (eOp_eq rfl (eOp_eq rfl rfl (modP_int (by decide))) (addP_int _ _)) (fdivP_int (by omega) (by omega))) rfl rfl))))))⟩
      · exact ⟨z * 999983 % 1000000000000,fun c P n S=>runP_rt (ρ:=E n (P (pen ns M (k + 2) c))) (st P n c S _ _ ((if_no (t 0 _ _) (decide_eq_false h0')).trans ((if_no (t 1 _ _) (decide_eq_false h1')).trans ((if_no (t 2 _ _) (decide_eq_false h2')).trans (ret_go (eOp_eq (eOp_eq rfl rfl (mulP_r (by decide) (by decide))) (y:=.sh (.int 1000000000000)) rfl (modP_int (by decide))))))))⟩
theorem sign_at {i:Int} (h0:0<=i) (h1:i < 5):∃ s,ixP (.str "+-*<=") (.int i)=some (.sh (.str s)):=by
  have h5:("+-*<=" : Str).cps.toList.length=5:=by decide +kernel
  obtain ⟨c,hc,_⟩:=atI_some (l:=("+-*<=" : Str).cps.toList) (i:=i) h0 (by omega)
  refine ⟨⟨#[c]⟩,?_⟩
  show (if ("+-*<=" : Str).length<=100000 then (atI ("+-*<=" : Str).cps.toList i).map fun c=>Lc.sh (.str ⟨#[c]⟩) else none)=_
  rw [if_pos (by decide +kernel),hc]
  rfl
structure Kn where
  a:List Str
  b:List Str
  c:List Str
  d:List (Str × Nat)
noncomputable abbrev Kn.ca (K:Kn):List PV:=K.d.map fun x=>.tup [.str x.1,.int (x.2:Nat)]
noncomputable abbrev Kn.pv (K:Kn):PV:=.lst [.lst (K.a.map .str),.lst (K.b.map .str),.lst (K.c.map .str),.lst K.ca]
structure Kn.ok (K:Kn):Prop where
  a:K.a ≠ []
  d:∀ x ∈ K.d,x.2<=24
noncomputable def Fx (n:Nat) (p:PV):Prop:=flatP p=true/\Pn n p
theorem fx_str {n:Nat} {x:Str}:Fx (n + 1) (.str x):=⟨rfl,.str x⟩
theorem fx_int {n:Nat} {x:Int}:Fx (n + 1) (.int x):=⟨rfl,.int x⟩
theorem fx2 {n:Nat} {x y:PV} (a:Fx n x) (b:Fx n y):Fx (n + 1) (.tup [x,y]):=⟨by simp [flatP,flatPs,a.1,b.1],.tup _ (mem2 a.2 b.2)⟩
theorem fx3 {n:Nat} {x y z:PV} (a:Fx n x) (b:Fx n y) (c:Fx n z):Fx (n + 1) (.tup [x,y,z]):=⟨by simp [flatP,flatPs,a.1,b.1,c.1],.tup _ (memc a.2 (mem2 b.2 c.2))⟩
theorem Fx.mono {n m:Nat} {p:PV} (h:Fx n p) (l:n<=m):Fx m p:=⟨h.1,h.2.mono l⟩
theorem strs_mem {xs:List Str} {x:PV} (h:x ∈ xs.map PV.str):∃ s,x=.str s:=by
  obtain ⟨s,_,rfl⟩:=List.mem_map.mp h
  exact ⟨s,rfl⟩
theorem ne_eq {xs:List Str}:eqD 150 (.lst (xs.map .str)) (.lst [])=some (xs.isEmpty):=by
  cases xs with
  | nil=>rfl
  | cons x xs=>
    show (if ((x::xs).map PV.str).length=([]:List PV).length then eqDs (eqD 149) ((x::xs).map PV.str) [] else some false)=_
    rw [if_neg (by simp)]
    rfl
theorem ne_eqc {xs:List PV}:eqD 150 (.lst xs) (.lst [])=some (xs.isEmpty):=by
  cases xs with
  | nil=>rfl
  | cons x xs=>
    show (if (x::xs).length=([]:List PV).length then eqDs (eqD 149) (x::xs) [] else some false)=_
    rw [if_neg (by simp)]
    rfl
noncomputable def Bd:Nat->Int
  | 0=>3
  | d + 1=>3 + 2 * Bd d
theorem Bd_pos:∀ d,3<=Bd d
  | 0=>by decide
  | d + 1=>by have:=Bd_pos d; show 3<=3 + 2 * Bd d; omega
theorem Bd_mono:∀ {a b:Nat},a<=b->Bd a<=Bd b:=fun {a b} h=>by
  induction h with
  | refl=>exact Int.le_refl _
  | step _ ih=>rename_i m _; have:=Bd_pos m; show _<=3 + 2 * Bd m; omega
variable {ns:List Int} {M:Int} {K:Kn}
noncomputable abbrev XE (n:Nat) (d:Int) (K:Kn) (w:Int) (o4 o5 o6:Option Lc) (mu:Mu):Ev:=⟨[some (.sh (.ptr n)),some (.sh (.int d)),some (.sh K.pv),some (.sh (.int w)),o4,o5,o6],mu⟩
theorem expr_gen (hn:LS ns) (d:Nat):∀ (f:Nat) (k:Int),1<=d->d<=f->0<=k->k + Bd d < 99999999->∃ (e:PV) (k':Int),Fx (d + 1) e/\k<=k'/\k'<=k + Bd d/\∀ c,Dr ns M (fun n mu=>m__law_expression f [.ptr n,.int (d:Int),K.pv] mu) k c k' c (.sh e):=by
  induction d using Nat.strongRecOn with
  | _ d IH=>
    intro f k h1 hf h0 hb
    obtain ⟨g,rfl⟩:∃ g,f=g + 1:=⟨f - 1,by omega⟩
    have bp:=Bd_pos d
    obtain ⟨w,w0,w1,ew⟩:=next_eq (M:=M) (m:=9) hn h0 (by omega) (by decide)
    have st:∀ P n c,Spot P n->sSet 3 (eCall m__law_next (aCons (eVar 0) (aCons (eC (.int 9)) aNil))) (env0 7 [.ptr n,.int (d:Int),K.pv] (P (pen ns M k c)))=some (.nx (XE n d K w none none none (P (pen ns M (k + 1) c)))):=fun P n c S=>set_go (call_go (ps:=[.ptr n,.int 9]) rfl rfl rfl rfl (ew P n c S)) rfl rfl
    have t1:∀ n mu,tOrF (tT (eOp ltP (eVar 1) (eC (.int 2))) blP) (tT (eOp ltP (eVar 3) (eC (.int 2))) blP) (XE n d K w none none none mu)=some (decide ((d:Int) < 2) || decide (w < 2),XE n d K w none none none mu):=fun n mu=>or_go rfl rfl
    have t2:∀ n mu o4 o5 o6,tT (eOp eqP (eOp modP (eVar 3) (eC (.int 2))) (eC (.int 0))) blP (XE n d K w o4 o5 o6 mu)=some (decide (w % 2=0),XE n d K w o4 o5 o6 mu):=fun n mu o4 o5 o6=>tint' (eOp_eq rfl rfl (modP_int (by decide)))
    have t0:∀ n mu,tT (eOp eqP (eIx (eVar 2) (eC (.int 0))) (eLst aNil)) blP (XE n d K w none none none mu)=some (K.a.isEmpty,XE n d K w none none none mu):=fun n mu=>tT_eq (l:=.sh (.bl K.a.isEmpty)) (eOp_eq (x:=.sh (.lst (K.a.map .str))) (y:=.own (.lst [])) (ρ1:=XE n d K w none none none mu) rfl rfl (by show (eqD 150 (.lst (K.a.map .str)) (.lst [])).map _=_; rw [ne_eq]; rfl)) rfl
    cases hA:(decide ((d:Int) < 2) || decide (w < 2)) with
    | true=>
      cases hw:(decide (w % 2=0) || K.a.isEmpty) with
      | true=>
        obtain ⟨v,ev⟩:=number_eq (M:=M) (k:=k + 1) hn (by omega) (by omega)
        refine ⟨.tup [.str "num",.int v],k + 1 + 2,(fx2 (n:=1) fx_str fx_int).mono (by omega),by omega,by omega,fun c P n S=>runP_rt (ρ:=XE n d K w none none none (P (pen ns M (k + 1 + 2) c))) (seq_go (st P n c S) (if_yes (t1 _ _) hA ?_))⟩
        exact if_yes (or_go (t2 _ _ _ _ _) (t0 _ _)) hw (ret_go (tup_go (ls:=[.sh (.str "num"),.sh (.int v)]) (cons_go rfl (cons_go (call_go (ps:=[.ptr n]) (ls:=[.sh (.ptr n)]) (ρ1:=XE n d K w none none none (P (pen ns M (k + 1) c))) rfl rfl rfl rfl (ev c P n S)) rfl)) rfl rfl))
      | false=>
        have ha:K.a.map PV.str ≠ []:=by
          intro h
          have:K.a=[]:=by simpa using h
          rw [this] at hw
          simp at hw
        obtain ⟨x,hx,ex⟩:=pick_go (M:=M) (k:=k + 1) (xs:=K.a.map .str) hn (by omega) (by omega) ha
        obtain ⟨s,rfl⟩:=strs_mem hx
        refine ⟨.tup [.str "box",.str s],k + 1 + 1,(fx2 (n:=1) fx_str fx_str).mono (by omega),by omega,by omega,fun c P n S=>runP_rt (ρ:=XE n d K w none none none (P (pen ns M (k + 1 + 1) c))) (seq_go (st P n c S) (if_yes (t1 _ _) hA ?_))⟩
        exact (if_no (or_go (t2 _ _ _ _ _) (t0 _ _)) hw).trans (ret_go (tup_go (ls:=[.sh (.str "box"),.sh (.str s)]) (cons_go rfl (cons_go (ex P n c S (eVar 0) (eIx (eVar 2) (eC (.int 0))) [some (.sh (.ptr n)),some (.sh (.int d)),some (.sh K.pv),some (.sh (.int w)),none,none,none] (fun _=>rfl) (fun _=>rfl)) rfl)) rfl rfl))
    | false=>
      have hd:¬ (d:Int) < 2:=fun h=>by rw [decide_eq_true h] at hA; simp at hA
      obtain ⟨d',rfl⟩:∃ d',d=d' + 1:=⟨d - 1,by omega⟩
      have bs:Bd (d' + 1)=3 + 2 * Bd d':=rfl
      obtain ⟨e,k1,fx1,ka,kb,ee⟩:=IH d' (by omega) g (k + 1) (by omega) (by omega) (by omega) (by omega)
      have ed:((d' + 1:Nat):Int) - 1=(d':Int):=by omega
      have st4:∀ P n c,Spot P n->sSet 4 (eCall (m__law_expression g) (aCons (eVar 0) (aCons (eOp subP (eVar 1) (eC (.int 1))) (aCons (eVar 2) aNil)))) (XE n (d' + 1:Nat) K w none none none (P (pen ns M (k + 1) c)))=some (.nx (XE n (d' + 1:Nat) K w (some (.sh e)) none none (P (pen ns M k1 c)))):=fun P n c S=>by
        have e3:=ee c P n S
        rw [← ed] at e3
        exact set_go (call_go (ps:=[.ptr n,.int (((d' + 1:Nat):Int) - 1),K.pv]) (ls:=[.sh (.ptr n),.sh (.int (((d' + 1:Nat):Int) - 1)),.sh K.pv]) (ρ1:=XE n (d' + 1:Nat) K w none none none (P (pen ns M (k + 1) c))) rfl rfl rfl rfl e3) rfl rfl
      have t3:∀ n mu,tAndF (tT (eOp ltP (eVar 3) (eC (.int 4))) blP) (tT (eOp neP (eIx (eVar 2) (eC (.int 1))) (eLst aNil)) blP) (XE n (d' + 1:Nat) K w (some (.sh e)) none none mu)=some (decide (w < 4) && !K.b.isEmpty,XE n (d' + 1:Nat) K w (some (.sh e)) none none mu):=fun n mu=>and_go rfl (tT_eq (l:=.sh (.bl (!K.b.isEmpty))) (eOp_eq (x:=.sh (.lst (K.b.map .str))) (y:=.own (.lst [])) (ρ1:=XE n (d' + 1:Nat) K w (some (.sh e)) none none mu) rfl rfl (by show (eqD 150 (.lst (K.b.map .str)) (.lst [])).map _=_; rw [ne_eq]; rfl)) rfl)
      cases hw4:(decide (w < 4) && !K.b.isEmpty) with
      | true=>
        have hb':K.b.map PV.str ≠ []:=by
          intro h
          have:K.b=[]:=by simpa using h
          rw [this] at hw4
          simp at hw4
        obtain ⟨x,hx,ex⟩:=pick_go (M:=M) (k:=k1) (xs:=K.b.map .str) hn (by omega) (by omega) hb'
        obtain ⟨s,rfl⟩:=strs_mem hx
        refine ⟨.tup [.str "@",.str s,e],k1 + 1,fx3 fx_str fx_str (fx1.mono (by omega)),by omega,by omega,fun c P n S=>runP_rt (ρ:=XE n (d' + 1:Nat) K w (some (.sh e)) none none (P (pen ns M (k1 + 1) c))) (seq_go (st P n c S) ((if_no (t1 _ _) hA).trans (seq_go (st4 P n c S) (if_yes (t3 _ _) hw4 (ret_go ?_)))))⟩
        exact tup_go (ls:=[.sh (.str "@"),.sh (.str s),.sh e]) (cons_go rfl (cons_go (ex P n c S (eVar 0) (eIx (eVar 2) (eC (.int 1))) [some (.sh (.ptr n)),some (.sh (.int (d' + 1:Nat))),some (.sh K.pv),some (.sh (.int w)),some (.sh e),none,none] (fun _=>rfl) (fun _=>rfl)) (cons_go rfl rfl))) rfl rfl
      | false=>
        have bm:=Bd_mono (a:=min d' 2) (b:=d') (by omega)
        have bp':=Bd_pos d'
        obtain ⟨e',k2,fx2',ka2,kb2,ee2⟩:=IH (min d' 2) (by omega) g k1 (by omega) (by omega) (by omega) (by omega)
        obtain ⟨r,r0,r1,er⟩:=next_eq (M:=M) (m:=5) (k:=k2) hn (by omega) (by omega) (by decide)
        obtain ⟨s,es⟩:=sign_at r0 r1
        have mn:∀ n mu,eB min2 (aCons (eOp subP (eVar 1) (eC (.int 1))) (aCons (eC (.int 2)) aNil)) (XE n (d' + 1:Nat) K w (some (.sh e)) none none mu)=some (.sh (.int ((min d' 2:Nat):Int)),XE n (d' + 1:Nat) K w (some (.sh e)) none none mu):=fun n mu=>by
          refine b_go (ls:=[.sh (.int (((d' + 1:Nat):Int) - 1)),.sh (.int 2)]) (ps:=[.int (((d' + 1:Nat):Int) - 1),.int 2]) rfl rfl ?_
          show some (Lc.sh (.int (if (2:Int) < ((d' + 1:Nat):Int) - 1 then 2 else ((d' + 1:Nat):Int) - 1)))=_
          have:(if (2:Int) < ((d' + 1:Nat):Int) - 1 then 2 else ((d' + 1:Nat):Int) - 1)=((min d' 2:Nat):Int):=by split <;> omega
          rw [this]
        have st5:∀ P n c,Spot P n->sSet 5 (eCall (m__law_expression g) (aCons (eVar 0) (aCons (eB min2 (aCons (eOp subP (eVar 1) (eC (.int 1))) (aCons (eC (.int 2)) aNil))) (aCons (eVar 2) aNil)))) (XE n (d' + 1:Nat) K w (some (.sh e)) none none (P (pen ns M k1 c)))=some (.nx (XE n (d' + 1:Nat) K w (some (.sh e)) (some (.sh e')) none (P (pen ns M k2 c)))):=fun P n c S=>
          set_go (call_go (ps:=[.ptr n,.int ((min d' 2:Nat):Int),K.pv]) (ls:=[.sh (.ptr n),.sh (.int ((min d' 2:Nat):Int)),.sh K.pv]) (ρ1:=XE n (d' + 1:Nat) K w (some (.sh e)) none none (P (pen ns M k1 c))) (cons_go rfl (cons_go (mn _ _) (cons_go rfl rfl))) rfl rfl rfl (ee2 c P n S)) rfl rfl
        have st6:∀ P n c,Spot P n->sSet 6 (eIx (eC (.str "+-*<=")) (eCall m__law_next (aCons (eVar 0) (aCons (eC (.int 5)) aNil)))) (XE n (d' + 1:Nat) K w (some (.sh e)) (some (.sh e')) none (P (pen ns M k2 c)))=some (.nx (XE n (d' + 1:Nat) K w (some (.sh e)) (some (.sh e')) (some (.sh (.str s))) (P (pen ns M (k2 + 1) c)))):=fun P n c S=>
          set_go (ix_go (p:=.str "+-*<=") (q:=.int r) (l:=.sh (.str "+-*<=")) (m:=.sh (.int r)) (ρ1:=XE n (d' + 1:Nat) K w (some (.sh e)) (some (.sh e')) none (P (pen ns M k2 c))) rfl rfl (call_go (ps:=[.ptr n,.int 5]) (ls:=[.sh (.ptr n),.sh (.int 5)]) (ρ1:=XE n (d' + 1:Nat) K w (some (.sh e)) (some (.sh e')) none (P (pen ns M k2 c))) rfl rfl rfl rfl (er P n c S)) rfl (fun n h=>by cases h) es) rfl rfl
        have f1:Fx (d' + 1) e':=fx2'.mono (by omega)
        by_cases hw:w % 2=0
        · exact ⟨.tup [.str s,e',e],k2 + 1,fx3 fx_str f1 fx1,by omega,by omega,fun c P n S=>runP_rt (ρ:=XE n (d' + 1:Nat) K w (some (.sh e)) (some (.sh e')) (some (.sh (.str s))) (P (pen ns M (k2 + 1) c))) (seq_go (st P n c S) ((if_no (t1 _ _) hA).trans (seq_go (st4 P n c S) ((if_no (t3 _ _) hw4).trans (seq_go (st5 P n c S) (seq_go (st6 P n c S) (if_yes (t2 _ _ _ _ _) (decide_eq_true hw) rfl)))))))⟩
        · exact ⟨.tup [.str s,e,e'],k2 + 1,fx3 fx_str fx1 f1,by omega,by omega,fun c P n S=>runP_rt (ρ:=XE n (d' + 1:Nat) K w (some (.sh e)) (some (.sh e')) (some (.sh (.str s))) (P (pen ns M (k2 + 1) c))) (seq_go (st P n c S) ((if_no (t1 _ _) hA).trans (seq_go (st4 P n c S) ((if_no (t3 _ _) hw4).trans (seq_go (st5 P n c S) (seq_go (st6 P n c S) ((if_no (t2 _ _ _ _ _) (decide_eq_false hw)).trans rfl)))))))⟩
theorem expr2 (hn:LS ns) {k:Int} (h0:0<=k) (h1:k < 99000000):∃ (e:PV) (k':Int),Fx 12 e/\k<=k'/\k'<=k + 21/\∀ c,Dr ns M (fun n mu=>m__law_expression 40 [.ptr n,.int 2,K.pv] mu) k c k' c (.sh e):=by
  have b2:Bd 2=21:=rfl
  obtain ⟨e,k',fx,ka,kb,ee⟩:=expr_gen (ns:=ns) (M:=M) (K:=K) hn 2 40 k (by decide) (by decide) h0 (by omega)
  exact ⟨e,k',fx.mono (by decide),ka,by omega,ee⟩
theorem part_eq (hn:LS ns) {k:Int} (h0:0<=k) (h1:k < 99000000):∃ (e:PV) (k':Int),Fx 12 e/\k<=k'/\k'<=k + 383/\∀ c,Dr ns M (fun n mu=>m__law_part [.ptr n,K.pv] mu) k c k' c (.sh e):=by
  obtain ⟨a,a0,a1,ea⟩:=next_eq (M:=M) (m:=3) hn h0 (by omega) (by decide)
  obtain ⟨b,b0,b1,eb⟩:=next_eq (M:=M) (m:=9) (k:=k + 1) hn (by omega) (by omega) (by decide)
  have e2:k + 1 + 1=k + 2:=by omega
  rw [e2] at eb
  have q0:0<=b / 8/\b / 8<=1:=by omega
  obtain ⟨d,hd⟩:∃ d:Nat,(d:Int)=1 + a + 3 * (b / 8):=⟨(1 + a + 3 * (b / 8)).toNat,by omega⟩
  have bd:=Bd_mono (a:=d) (b:=6) (by omega)
  have b6:Bd 6=381:=rfl
  obtain ⟨e,k',fx,ka,kb,ee⟩:=expr_gen (ns:=ns) (M:=M) (K:=K) hn d 40 (k + 2) (by omega) (by omega) (by omega) (by omega)
  refine ⟨e,k',fx.mono (by omega),by omega,by omega,fun c P n S=>runP_rt (ρ:=⟨[some (.sh (.ptr n)),some (.sh K.pv)],P (pen ns M k' c)⟩) (ret_go ?_)⟩
  let E:Int->Ev:=fun k=>⟨[some (.sh (.ptr n)),some (.sh K.pv)],P (pen ns M k c)⟩
  have n1:eCall m__law_next (aCons (eVar 0) (aCons (eC (.int 3)) aNil)) (E k)=some (.sh (.int a),E (k + 1)):=call_go (ps:=[.ptr n,.int 3]) (ls:=[.sh (.ptr n),.sh (.int 3)]) (ρ1:=E k) rfl rfl rfl rfl (ea P n c S)
  have n2:eCall m__law_next (aCons (eVar 0) (aCons (eC (.int 9)) aNil)) (E (k + 1))=some (.sh (.int b),E (k + 2)):=call_go (ps:=[.ptr n,.int 9]) (ls:=[.sh (.ptr n),.sh (.int 9)]) (ρ1:=E (k + 1)) rfl rfl rfl rfl (eb P n c S)
  have dd:eOp addP (eOp addP (eC (.int 1)) (eCall m__law_next (aCons (eVar 0) (aCons (eC (.int 3)) aNil)))) (eOp mulP (eC (.int 3)) (eOp fdivP (eCall m__law_next (aCons (eVar 0) (aCons (eC (.int 9)) aNil))) (eC (.int 8)))) (E k)=some (.sh (.int (d:Int)),E (k + 2)):=by
    rw [hd]
    exact eOp_eq (x:=.sh (.int (1 + a))) (y:=.sh (.int (3 * (b / 8)))) (eOp_eq (x:=.sh (.int 1)) (y:=.sh (.int a)) rfl n1 (addP_int _ _)) (eOp_eq (x:=.sh (.int 3)) (y:=.sh (.int (b / 8))) rfl (eOp_eq (x:=.sh (.int b)) (y:=.sh (.int 8)) n2 rfl (fdivP_int (by decide) (by decide))) (mulP_l (by decide) (by decide))) (addP_int _ _)
  exact call_go (ps:=[.ptr n,.int (d:Int),K.pv]) (ls:=[.sh (.ptr n),.sh (.int (d:Int)),.sh K.pv]) (ρ1:=E (k + 2)) (cons_go (ρ1:=E k) rfl (cons_go dd (cons_go rfl rfl))) rfl rfl rfl (ee c P n S)
variable {ns:List Int} {M:Int} {K:Kn}
theorem len_rng {m:Nat}:(rngP 0 m).length=m:=by simp [rngP]
theorem mul_succ' {b:Int} {m:Nat}:b * ((m + 1:Nat):Int)=b * (m:Int) + b:=by rw [Int.natCast_succ,Int.mul_add,Int.mul_one]
theorem comp_draw (good:PV->Prop) (b:Int) (hb:0<=b) (te:EF) (A:Nat->List (Option Lc)) (T:Int)
    (H:∀ k,0<=k->k<=T->∃ (a:PV) (k':Int),good a/\k<=k'/\k'<=k + b/\∀ P n c,Spot P n->∀ o,∃ l,te ⟨o::A n,P (pen ns M k c)⟩=some (l,⟨o::A n,P (pen ns M k' c)⟩)/\l.pv=a):
    ∀ (m:Nat) (k:Int),0<=k->k + b * m<=T->∃ (as:List PV) (k':Int),as.length=m/\(∀ a ∈ as,good a)/\k<=k'/\k'<=k + b * m/\∀ P n c,Spot P n->∀ o acc xs,xs.length=m->acc.length + m<=1000->compP (bName 0) cTrue te xs ⟨o::A n,P (pen ns M k c)⟩ acc=some (acc++as,P (pen ns M k' c))
  | 0,k,h0,hK=>by
    refine ⟨[],k,rfl,fun a h=>(by cases h),by omega,by simp,fun P n c S o acc xs hx _=>?_⟩
    have:xs=[]:=List.length_eq_zero_iff.mp hx
    subst this
    simp [compP]
  | m + 1,k,h0,hK=>by
    rw [mul_succ'] at hK
    have bm:0<=b * (m:Int):=Int.mul_nonneg hb (by omega)
    obtain ⟨a,k1,ga,ka,kb,ea⟩:=H k h0 (by omega)
    obtain ⟨as,k2,hl,hg,kc,kd,ih⟩:=comp_draw good b hb te A T H m k1 (by omega) (by omega)
    refine ⟨a::as,k2,by simp [hl],memc ga hg,by omega,by rw [mul_succ']; omega,fun P n c S o acc xs hx hacc=>?_⟩
    match xs,hx with
    | x::xs,hx=>
      obtain ⟨l,e1,e2⟩:=ea P n c S (some (.sh x))
      refine comp_step1 (ρ1:=⟨some (.sh x)::A n,P (pen ns M k c)⟩) rfl e1 (by omega) ?_
      rw [e2,ih P n c S (some (.sh x)) (acc++[a]) xs (by simpa using hx) (by simp; omega)]
      simp
noncomputable def RowO (ns:List Int) (M:Int) (j:Nat) (F:Nat->Mu->Option (Lc × Mu)) (k c:Int):Prop:=∃ (r:Row) (k' c':Int),Dr ns M F k c k' c' (.sh r.pv)/\r.ok/\r.pn/\r.dep<=j/\c'=c + (r.cnt:Int)/\c'<=M/\k<=k'/\k'<=k + 1000 * (r.cnt:Int)
noncomputable def RowsO (ns:List Int) (M:Int) (j:Nat) (F:Nat->Mu->Option (Lc × Mu)) (k c:Int):Prop:=∃ (rs:Rows) (k' c':Int),Dr ns M F k c k' c' (.own (.lst rs.pvs))/\rs.ok/\rs.pns/\rs.dep<=j/\c'=c + (rs.cnt:Int)/\c'<=M/\k<=k'/\k'<=k + 1 + 1000 * (rs.cnt:Int)
noncomputable abbrev RE (n:Nat) (d:Int) (K:Kn) (w:Int) (one:PV) (o5 o6 o7 o8:Option Lc) (mu:Mu):Ev:=⟨[some (.sh (.ptr n)),some (.sh (.int d)),some (.sh K.pv),some (.sh (.int w)),some (.sh one),o5,o6,o7,o8],mu⟩
theorem isE_false {α:Type} {l:List α} {b:Bool} (h:(b && !l.isEmpty)=true):l ≠ []:=by
  intro e
  rw [e] at h
  simp at h
theorem map_ne {α β:Type} {f:α->β} {l:List α} (h:l ≠ []):l.map f ≠ []:=by
  intro e
  exact h (by simpa using e)
theorem row_gen {f j:Nat} {d:Int} (hn:LS ns) (hK:K.ok) (hM:M<=40) (H:d < 4->∀ k c,0<=k->0<=c->c<=M->k + 1<=2000000 + 1000 * c->RowsO ns M j (fun n mu=>m__law_rows f [.ptr n,.int (d + 1),K.pv,.int 4] mu) k c) {k c:Int} (hk:0<=k) (h0:0<=c) (hc:c < M) (hb:k<=2000000 + 1000 * c):
    RowO ns M (j + 1) (fun n mu=>m__law_row (f + 1) [.ptr n,.int d,K.pv] mu) k c:=by
  obtain ⟨w,hw0,hw1,ew⟩:=next_eq (ns:=ns) (M:=M) (k:=k) (m:=12) hn hk (by omega) (by decide)
  obtain ⟨one,k1,ox,ka,kb,eo⟩:=part_eq (ns:=ns) (M:=M) (K:=K) (k:=k + 1) hn (by omega) (by omega)
  let E:Nat->Option Lc->Option Lc->Option Lc->Option Lc->Mu->Ev:=fun n o5 o6 o7 o8 mu=>RE n d K w one o5 o6 o7 o8 mu
  have head:∀ (P:PV->Mu) (n:Nat),Spot P n->∀ (g:SF) R,g (E n none none none none (P (pen ns M k1 (c + 1))))=R->(sSeq (sSetC (eVar 0) (eC (.int 2)) (eOp addP (eIx (eVar 0) (eC (.int 2))) (eC (.int 1)))) (sSeq (sSet 3 (eCall m__law_next (aCons (eVar 0) (aCons (eC (.int 12)) aNil)))) (sSeq (sSet 4 (eCall m__law_part (aCons (eVar 0) (aCons (eVar 2) aNil)))) g))) (env0 9 [.ptr n,.int d,K.pv] (P (pen ns M k c)))=R:=fun P n S g R hg=>by
    let Z:List (Option Lc):=[some (.sh (.ptr n)),some (.sh (.int d)),some (.sh K.pv),none,none,none,none,none,none]
    have g2:sSetC (eVar 0) (eC (.int 2)) (eOp addP (eIx (eVar 0) (eC (.int 2))) (eC (.int 1))) ⟨Z,P (pen ns M k c)⟩=some (.nx ⟨Z,P (pen ns M k (c + 1))⟩):=by
      refine (setc_go (x:=.sh (.int (c + 1))) (j:=2) (n:=n) (k:=2) (o:=.sh (.ptr n)) (y:=.sh (.int 2)) (ρ1:=⟨Z,P (pen ns M k c)⟩) (ρ2:=⟨Z,P (pen ns M k c)⟩) (ρ3:=⟨Z,P (pen ns M k c)⟩) (eOp_eq (x:=.sh (.int c)) (y:=.sh (.int 1)) (ρ1:=⟨Z,P (pen ns M k c)⟩) (ixc_go (n:=n) (k:=2) (l:=.sh (.ptr n)) (m:=.sh (.int 2)) (ρ1:=⟨Z,P (pen ns M k c)⟩) rfl rfl rfl rfl (S.g _) rfl) rfl rfl) rfl rfl rfl rfl rfl (S.g _) rfl).trans ?_
      show some (Fl.nx ⟨_,(P (pen ns M k c)).set n (some (pen ns M k (c + 1)))⟩)=_
      rw [S.s]
    exact seq_go g2 (seq_go (ρ':=⟨[some (.sh (.ptr n)),some (.sh (.int d)),some (.sh K.pv),some (.sh (.int w)),none,none,none,none,none],P (pen ns M (k + 1) (c + 1))⟩) (set_go (call_go (ps:=[.ptr n,.int 12]) rfl rfl rfl rfl (ew P n (c + 1) S)) rfl rfl) (seq_go (ρ':=E n none none none none (P (pen ns M k1 (c + 1)))) (set_go (call_go (ps:=[.ptr n,K.pv]) rfl rfl rfl rfl (eo (c + 1) P n S)) rfl rfl) hg))
  have tq:∀ (i:Int) n mu,tAndF (tT (eOp ltP (eVar 1) (eC (.int 4))) blP) (tT (eOp ltP (eVar 3) (eC (.int i))) blP) (E n none none none none mu)=some (decide (d < 4) && decide (w < i),E n none none none none mu):=fun i n mu=>and_go rfl rfl
  have rc:∀ (P:PV->Mu) n,Spot P n->∀ o5 k c k' c' (rs:Rows),Dr ns M (fun n mu=>m__law_rows f [.ptr n,.int (d + 1),K.pv,.int 4] mu) k c k' c' (.own (.lst rs.pvs))->eCall (m__law_rows f) (aCons (eVar 0) (aCons (eOp addP (eVar 1) (eC (.int 1))) (aCons (eVar 2) (aCons (eC (.int 4)) aNil)))) (E n o5 none none none (P (pen ns M k c)))=some (.own (.lst rs.pvs),E n o5 none none none (P (pen ns M k' c'))):=fun P n S o5 k c k' c' rs h=>
    call_go (ps:=[.ptr n,.int (d + 1),K.pv,.int 4]) (ls:=[.sh (.ptr n),.sh (.int (d + 1)),.sh K.pv,.sh (.int 4)]) (ρ1:=E n o5 none none none (P (pen ns M k c))) rfl rfl rfl rfl (h P n S)
  cases hA:(decide (d < 4) && decide (w < 3)) with
  | true=>
    have hd:d < 4:=by rw [Bool.and_eq_true] at hA; exact of_decide_eq_true hA.1
    obtain ⟨ra,k2,c2,e1,oka,pa,da,ca,p2,ka2,kb2⟩:=H hd k1 (c + 1) (by omega) (by omega) (by omega) (by omega)
    obtain ⟨rb,k3,c3,e2,okb,pb,db,cb,p3,ka3,kb3⟩:=H hd k2 c2 (by omega) (by omega) p2 (by omega)
    refine ⟨.iff one ra rb,k3,c3,fun P n S=>?_,⟨ox.1,oka,okb⟩,⟨ox.2,pa,pb⟩,by simp only [Row.dep]; omega,by simp only [Row.cnt]; omega,p3,by omega,by simp only [Row.cnt]; omega⟩
    refine runP_rt (ρ:=E n (some (.sh (.lst ra.pvs))) none none none (P (pen ns M k3 c3))) (head P n S _ _ (if_yes (tq 3 n _) hA ?_))
    refine seq_go (ρ':=E n (some (.own (.lst ra.pvs))) none none none (P (pen ns M k2 c2))) (set_go (rc P n S none k1 (c + 1) k2 c2 ra e1) rfl rfl) (ret_go ?_)
    exact tup_go (ls:=[.sh (.str "if"),.sh one,.sh (.lst ra.pvs),.own (.lst rb.pvs)]) (cons_go (ρ1:=E n (some (.own (.lst ra.pvs))) none none none (P (pen ns M k2 c2))) rfl (cons_go (ρ1:=E n (some (.own (.lst ra.pvs))) none none none (P (pen ns M k2 c2))) rfl (cons_go (ρ1:=E n (some (.sh (.lst ra.pvs))) none none none (P (pen ns M k2 c2))) rfl (cons_go (rc P n S _ k2 c2 k3 c3 rb e2) rfl)))) rfl rfl
  | false=>
    cases hB:(decide (d < 4) && decide (w < 5)) with
    | true=>
      have hd:d < 4:=by rw [Bool.and_eq_true] at hB; exact of_decide_eq_true hB.1
      obtain ⟨ra,k2,c2,e1,oka,pa,da,ca,p2,ka2,kb2⟩:=H hd k1 (c + 1) (by omega) (by omega) (by omega) (by omega)
      refine ⟨.wh one ra,k2,c2,fun P n S=>?_,⟨ox.1,oka⟩,⟨ox.2,pa⟩,by simp only [Row.dep]; omega,by simp only [Row.cnt]; omega,p2,by omega,by simp only [Row.cnt]; omega⟩
      refine runP_rt (ρ:=E n none none none none (P (pen ns M k2 c2))) (head P n S _ _ ((if_no (tq 3 n _) hA).trans (if_yes (tq 5 n _) hB (ret_go ?_))))
      exact tup_go (ls:=[.sh (.str "while"),.sh one,.own (.lst ra.pvs)]) (cons_go (ρ1:=E n none none none none (P (pen ns M k1 (c + 1)))) rfl (cons_go (ρ1:=E n none none none none (P (pen ns M k1 (c + 1)))) rfl (cons_go (rc P n S none k1 (c + 1) k2 c2 ra e1) rfl))) rfl rfl
    | false=>
      have cnt1:∀ r:Row,r.cnt=1->c + 1=c + (r.cnt:Int):=fun r h=>by rw [h]; rfl
      have t7:∀ n mu,tAndF (tT (eOp ltP (eVar 3) (eC (.int 7))) blP) (tT (eOp neP (eIx (eVar 2) (eC (.int 1))) (eLst aNil)) blP) (E n none none none none mu)=some (decide (w < 7) && !K.b.isEmpty,E n none none none none mu):=fun n mu=>and_go rfl (tT_eq (l:=.sh (.bl (!K.b.isEmpty))) (eOp_eq (x:=.sh (.lst (K.b.map .str))) (y:=.own (.lst [])) (ρ1:=E n none none none none mu) rfl rfl (by show (eqD 150 (.lst (K.b.map .str)) (.lst [])).map _=_; rw [ne_eq]; rfl)) rfl)
      have lead:∀ (P:PV->Mu) (n:Nat),Spot P n->∀ (f1 f2 g:SF) R,g (E n none none none none (P (pen ns M k1 (c + 1))))=R->(sSeq (sSetC (eVar 0) (eC (.int 2)) (eOp addP (eIx (eVar 0) (eC (.int 2))) (eC (.int 1)))) (sSeq (sSet 3 (eCall m__law_next (aCons (eVar 0) (aCons (eC (.int 12)) aNil)))) (sSeq (sSet 4 (eCall m__law_part (aCons (eVar 0) (aCons (eVar 2) aNil)))) (sSeq (sIf (tAndF (tT (eOp ltP (eVar 1) (eC (.int 4))) blP) (tT (eOp ltP (eVar 3) (eC (.int 3))) blP)) f1 sNil) (sSeq (sIf (tAndF (tT (eOp ltP (eVar 1) (eC (.int 4))) blP) (tT (eOp ltP (eVar 3) (eC (.int 5))) blP)) f2 sNil) g))))) (env0 9 [.ptr n,.int d,K.pv] (P (pen ns M k c)))=R:=fun P n S f1 f2 g R hg=>head P n S _ _ ((if_no (tq 3 n _) hA).trans ((if_no (tq 5 n _) hB).trans hg))
      cases hC:(decide (w < 7) && !K.b.isEmpty) with
      | true=>
        obtain ⟨x,hx,ex⟩:=pick_go (M:=M) (k:=k1) (xs:=K.b.map .str) hn (by omega) (by omega) (map_ne (isE_false hC))
        obtain ⟨s,rfl⟩:=strs_mem hx
        obtain ⟨e2,k2,ox2,ka2,kb2,ee2⟩:=expr2 (ns:=ns) (M:=M) (K:=K) (k:=k1 + 1) hn (by omega) (by omega)
        refine ⟨.leaf "put" [.str s,e2,one],k2,c + 1,fun P n S=>?_,⟨⟨by decide +kernel,by decide +kernel,by decide +kernel⟩,by simp [flatP,flatPs,ox.1,ox2.1]⟩,memc (.str s) (mem2 ox2.2 ox.2),by simp only [Row.dep]; omega,rfl,by omega,by omega,by simp only [Row.cnt]; omega⟩
        refine runP_rt (ρ:=E n none none none none (P (pen ns M k2 (c + 1)))) (lead P n S _ _ _ _ (if_yes (t7 n _) hC (ret_go ?_)))
        exact tup_go (ls:=[.sh (.str "put"),.sh (.str s),.sh e2,.sh one]) (cons_go (ρ1:=E n none none none none (P (pen ns M k1 (c + 1)))) rfl (cons_go (ex P n (c + 1) S (eVar 0) (eIx (eVar 2) (eC (.int 1))) [some (.sh (.ptr n)),some (.sh (.int d)),some (.sh K.pv),some (.sh (.int w)),some (.sh one),none,none,none,none] (fun _=>rfl) (fun _=>rfl)) (cons_go (call_go (ps:=[.ptr n,.int 2,K.pv]) (ls:=[.sh (.ptr n),.sh (.int 2),.sh K.pv]) (ρ1:=E n none none none none (P (pen ns M (k1 + 1) (c + 1)))) rfl rfl rfl rfl (ee2 (c + 1) P n S)) rfl))) rfl rfl
      | false=>
        obtain ⟨x,hx,ex⟩:=pick_go (M:=M) (k:=k1) (xs:=K.a.map .str) hn (by omega) (by omega) (map_ne hK.a)
        obtain ⟨s,rfl⟩:=strs_mem hx
        let F:Nat->Option Lc->Option Lc->Mu->Ev:=fun n o7 o8 mu=>E n none (some (.sh (.str s))) o7 o8 mu
        have lead2:∀ (P:PV->Mu) (n:Nat),Spot P n->∀ (f1 f2 f3 g:SF) R,g (F n none none (P (pen ns M (k1 + 1) (c + 1))))=R->(sSeq (sSetC (eVar 0) (eC (.int 2)) (eOp addP (eIx (eVar 0) (eC (.int 2))) (eC (.int 1)))) (sSeq (sSet 3 (eCall m__law_next (aCons (eVar 0) (aCons (eC (.int 12)) aNil)))) (sSeq (sSet 4 (eCall m__law_part (aCons (eVar 0) (aCons (eVar 2) aNil)))) (sSeq (sIf (tAndF (tT (eOp ltP (eVar 1) (eC (.int 4))) blP) (tT (eOp ltP (eVar 3) (eC (.int 3))) blP)) f1 sNil) (sSeq (sIf (tAndF (tT (eOp ltP (eVar 1) (eC (.int 4))) blP) (tT (eOp ltP (eVar 3) (eC (.int 5))) blP)) f2 sNil) (sSeq (sIf (tAndF (tT (eOp ltP (eVar 3) (eC (.int 7))) blP) (tT (eOp neP (eIx (eVar 2) (eC (.int 1))) (eLst aNil)) blP)) f3 sNil) (sSeq (sSet 6 (eIx (eIx (eVar 2) (eC (.int 0))) (eCall m__law_next (aCons (eVar 0) (aCons (eB len1 (aCons (eIx (eVar 2) (eC (.int 0))) aNil)) aNil))))) g))))))) (env0 9 [.ptr n,.int d,K.pv] (P (pen ns M k c)))=R:=fun P n S f1 f2 f3 g R hg=>lead P n S _ _ _ _ ((if_no (t7 n _) hC).trans (seq_go (ρ':=F n none none (P (pen ns M (k1 + 1) (c + 1)))) (set_go (ex P n (c + 1) S (eVar 0) (eIx (eVar 2) (eC (.int 0))) [some (.sh (.ptr n)),some (.sh (.int d)),some (.sh K.pv),some (.sh (.int w)),some (.sh one),none,none,none,none] (fun _=>rfl) (fun _=>rfl)) rfl rfl) hg))
        have t8:∀ n mu,tAndF (tT (eOp eqP (eVar 3) (eC (.int 7))) blP) (tT (eOp neP (eIx (eVar 2) (eC (.int 2))) (eLst aNil)) blP) (F n none none mu)=some (decide (w=7) && !K.c.isEmpty,F n none none mu):=fun n mu=>and_go (tint' rfl) (tT_eq (l:=.sh (.bl (!K.c.isEmpty))) (eOp_eq (x:=.sh (.lst (K.c.map .str))) (y:=.own (.lst [])) (ρ1:=F n none none mu) rfl rfl (by show (eqD 150 (.lst (K.c.map .str)) (.lst [])).map _=_; rw [ne_eq]; rfl)) rfl)
        cases hD:(decide (w=7) && !K.c.isEmpty) with
        | true=>
          obtain ⟨y,hy,ey⟩:=pick_go (M:=M) (k:=k1 + 1) (xs:=K.c.map .str) hn (by omega) (by omega) (map_ne (isE_false hD))
          obtain ⟨z,rfl⟩:=strs_mem hy
          refine ⟨.leaf "out" [.str s,one,.str z],k1 + 1 + 1,c + 1,fun P n S=>?_,⟨⟨by decide +kernel,by decide +kernel,by decide +kernel⟩,by simp [flatP,flatPs,ox.1]⟩,memc (.str s) (mem2 ox.2 (.str z)),by simp only [Row.dep]; omega,rfl,by omega,by omega,by simp only [Row.cnt]; omega⟩
          refine runP_rt (ρ:=F n none none (P (pen ns M (k1 + 1 + 1) (c + 1)))) (lead2 P n S _ _ _ _ _ (if_yes (t8 n _) hD (ret_go ?_)))
          exact tup_go (ls:=[.sh (.str "out"),.sh (.str s),.sh one,.sh (.str z)]) (cons_go (ρ1:=F n none none (P (pen ns M (k1 + 1) (c + 1)))) rfl (cons_go (ρ1:=F n none none (P (pen ns M (k1 + 1) (c + 1)))) rfl (cons_go (ρ1:=F n none none (P (pen ns M (k1 + 1) (c + 1)))) rfl (cons_go (ey P n (c + 1) S (eVar 0) (eIx (eVar 2) (eC (.int 2))) [some (.sh (.ptr n)),some (.sh (.int d)),some (.sh K.pv),some (.sh (.int w)),some (.sh one),none,some (.sh (.str s)),none,none] (fun _=>rfl) (fun _=>rfl)) rfl)))) rfl rfl
        | false=>
          have t9:∀ n mu,tAndF (tT (eOp gtP (eVar 3) (eC (.int 8))) blP) (tT (eOp neP (eIx (eVar 2) (eC (.int 3))) (eLst aNil)) blP) (F n none none mu)=some (decide (8 < w) && !K.ca.isEmpty,F n none none mu):=fun n mu=>and_go rfl (tT_eq (l:=.sh (.bl (!K.ca.isEmpty))) (eOp_eq (x:=.sh (.lst K.ca)) (y:=.own (.lst [])) (ρ1:=F n none none mu) rfl rfl (by show (eqD 150 (.lst K.ca) (.lst [])).map _=_; rw [ne_eqc]; rfl)) rfl)
          cases hE:(decide (8 < w) && !K.ca.isEmpty) with
          | true=>
            obtain ⟨y,hy,ey⟩:=pick_go (M:=M) (k:=k1 + 1) (xs:=K.ca) hn (by omega) (by omega) (isE_false hE)
            obtain ⟨⟨nm,ct⟩,hq,rfl⟩:=List.mem_map.mp hy
            have hct:=hK.d _ hq
            have hct':ct<=24:=hct
            obtain ⟨as,k2,hl,hg,ka2,kb2,ec⟩:=comp_draw (ns:=ns) (M:=M) (Fx 12) 21 (by decide) (eCall (m__law_expression 40) (aCons (eVar 1) (aCons (eC (.int 2)) (aCons (eVar 2) aNil)))) (fun n=>[some (.sh (.ptr n)),some (.sh K.pv)]) 98000000 (fun k h0 h1=>by
              obtain ⟨e,k',ox',ka',kb',ee⟩:=expr2 (ns:=ns) (M:=M) (K:=K) (k:=k) hn h0 (by omega)
              exact ⟨e,k',ox',ka',kb',fun P n c S o=>⟨.sh e,call_go (ps:=[.ptr n,.int 2,K.pv]) (ls:=[.sh (.ptr n),.sh (.int 2),.sh K.pv]) (ρ1:=⟨[o,some (.sh (.ptr n)),some (.sh K.pv)],P (pen ns M k c)⟩) rfl rfl rfl rfl (ee c P n S),rfl⟩⟩) ct (k1 + 1 + 1) (by omega) (by omega)
            have hfl:∀ l:List PV,(∀ a ∈ l,Fx 12 a)->flatPs l=true:=fun l=>by
              induction l with
              | nil=>intro _; rfl
              | cons a l ih=>intro h; simp only [flatPs,(h a List.mem_cons_self).1,ih fun x hx=>h x (List.mem_cons_of_mem _ hx),Bool.and_self]
            refine ⟨.call (.str s) (.str nm) as,k2,c + 1,fun P n S=>?_,⟨rfl,rfl,hfl as hg,by omega⟩,⟨.str s,.str nm,fun p hp=>(hg p hp).2⟩,by simp only [Row.dep]; omega,rfl,by omega,by omega,by simp only [Row.cnt]; omega⟩
            let G:=F n (some (.sh (.str nm))) (some (.sh (.int (ct:Nat))))
            have ir:=iRange1_eq (a:=aCons (eVar 8) aNil) (ρ:=G (P (pen ns M (k1 + 1 + 1) (c + 1)))) (ρ1:=G (P (pen ns M (k1 + 1 + 1) (c + 1)))) (l:=.sh (.int (ct:Nat))) (n:=(ct:Nat)) rfl rfl (by omega) (by omega)
            have cc:eComp (iRange1 (aCons (eVar 8) aNil)) 1 [0,2] (bName 0) cTrue (eCall (m__law_expression 40) (aCons (eVar 1) (aCons (eC (.int 2)) (aCons (eVar 2) aNil)))) (G (P (pen ns M (k1 + 1 + 1) (c + 1))))=some (.own (.lst as),G (P (pen ns M k2 (c + 1)))):=
              (eComp_eq (m:=1) (ixs:=[0,2]) ir (ec P n (c + 1) S none [] (rngP 0 ((ct:Nat):Int).toNat) (by rw [len_rng]; omega) (by simp; omega))).trans rfl
            have sa:sAsg (eIx (eIx (eVar 2) (eC (.int 3))) (eCall m__law_next (aCons (eVar 0) (aCons (eB len1 (aCons (eIx (eVar 2) (eC (.int 3))) aNil)) aNil)))) (bSeq 2 (bCons (bName 7) (bCons (bName 8) bNil))) (F n none none (P (pen ns M (k1 + 1) (c + 1))))=some (.nx (G (P (pen ns M (k1 + 1 + 1) (c + 1))))):=by
              unfold sAsg
              rw [ey P n (c + 1) S (eVar 0) (eIx (eVar 2) (eC (.int 3))) [some (.sh (.ptr n)),some (.sh (.int d)),some (.sh K.pv),some (.sh (.int w)),some (.sh one),none,some (.sh (.str s)),none,none] (fun _=>rfl) (fun _=>rfl)]
              rfl
            refine runP_rt (ρ:=G (P (pen ns M k2 (c + 1)))) (lead2 P n S _ _ _ _ _ ((if_no (t8 n _) hD).trans (if_yes (t9 n _) hE (seq_go sa (ret_go ?_)))))
            exact tup_go (ls:=[.sh (.str "call"),.sh (.str s),.sh (.str nm),.own (.lst as)]) (cons_go (ρ1:=G (P (pen ns M (k1 + 1 + 1) (c + 1)))) rfl (cons_go (ρ1:=G (P (pen ns M (k1 + 1 + 1) (c + 1)))) rfl (cons_go (ρ1:=G (P (pen ns M (k1 + 1 + 1) (c + 1)))) rfl (cons_go cc rfl)))) rfl rfl
          | false=>
            refine ⟨.leaf "set" [.str s,one],k1 + 1,c + 1,fun P n S=>?_,⟨⟨by decide +kernel,by decide +kernel,by decide +kernel⟩,by simp [flatP,flatPs,ox.1]⟩,mem2 (.str s) ox.2,by simp only [Row.dep]; omega,rfl,by omega,by omega,by simp only [Row.cnt]; omega⟩
            exact runP_rt (ρ:=F n none none (P (pen ns M (k1 + 1) (c + 1)))) (lead2 P n S _ _ _ _ _ ((if_no (t8 n _) hD).trans ((if_no (t9 n _) hE).trans rfl)))
variable {ns:List Int} {M:Int} {K:Kn}
theorem for_step {b:BF} {body:SF} {x:PV} {xs:List PV} {ρ ρ1 ρ2:Ev} {R:Option Fl} (h1:b x ρ=some ρ1) (h2:body ρ1=some (.nx ρ2)) (h3:forP b body xs ρ2=R):forP b body (x::xs) ρ=R:=by
  rw [forP,h1,Option.bind_some,h2]
  exact h3
noncomputable abbrev rwB (f:Nat):SF:=(sIf (tT (eOp ltP (eIx (eVar 0) (eC (.int 2))) (eIx (eVar 0) (eC (.int 3)))) blP)
    (sApp 4 (eCall (m__law_row f) (aCons (eVar 0) (aCons (eVar 1) (aCons (eVar 2) aNil)))))
    sNil)
noncomputable abbrev W6 (n:Nat) (d:Int) (K:Kn) (most:PV) (l o:Option Lc) (mu:Mu):Ev:=⟨[some (.sh (.ptr n)),some (.sh (.int d)),some (.sh K.pv),some (.sh most),l,o],mu⟩
theorem rows_loop {f j:Nat} {d:Int} {most:PV} (H:∀ k c,0<=k->0<=c->c < M->k<=2000000 + 1000 * c->RowO ns M j (fun n mu=>m__law_row f [.ptr n,.int d,K.pv] mu) k c):
    ∀ (m:Nat) (k c:Int),0<=k->0<=c->c<=M->k<=2000000 + 1000 * c->∃ (rs:Rows) (k' c':Int),rs.ok/\rs.pns/\rs.dep<=j + 1/\c'=c + (rs.cnt:Int)/\c'<=M/\k<=k'/\k'<=k + 1000 * (rs.cnt:Int)/\∀ P n,Spot P n->∀ acc o xs,xs.length=m->acc.length + m<=1000->
      ∃ o',forP (bName 5) (rwB f) xs (W6 n d K most (some (.own (.lst acc))) o (P (pen ns M k c)))=some (.nx (W6 n d K most (some (.own (.lst (acc++rs.pvs)))) o' (P (pen ns M k' c'))))
  | 0,k,c,hk,h0,hc,hb=>by
    refine ⟨.nil,k,c,trivial,trivial,by simp only [Rows.dep]; omega,by simp [Rows.cnt],hc,by omega,by simp [Rows.cnt],fun P n S acc o xs hx _=>?_⟩
    have:xs=[]:=List.length_eq_zero_iff.mp hx
    subst this
    exact ⟨o,by simp [forP,Rows.pvs]⟩
  | m + 1,k,c,hk,h0,hc,hb=>by
    have t:∀ P n,Spot P n->∀ acc o,tT (eOp ltP (eIx (eVar 0) (eC (.int 2))) (eIx (eVar 0) (eC (.int 3)))) blP (W6 n d K most (some (.own (.lst acc))) o (P (pen ns M k c)))=some (decide (c < M),W6 n d K most (some (.own (.lst acc))) o (P (pen ns M k c))):=fun P n S acc o=>
      tT_go (l:=.sh (.bl (decide (c < M)))) (p:=.bl (decide (c < M))) (eOp_eq (x:=.sh (.int c)) (y:=.sh (.int M)) (ρ1:=W6 n d K most (some (.own (.lst acc))) o (P (pen ns M k c))) (ixc_go (n:=n) (k:=2) (l:=.sh (.ptr n)) (m:=.sh (.int 2)) (ρ1:=W6 n d K most (some (.own (.lst acc))) o (P (pen ns M k c))) rfl rfl rfl rfl (S.g _) rfl) (ixc_go (n:=n) (k:=3) (l:=.sh (.ptr n)) (m:=.sh (.int 3)) (ρ1:=W6 n d K most (some (.own (.lst acc))) o (P (pen ns M k c))) rfl rfl rfl rfl (S.g _) rfl) rfl) rfl rfl
    by_cases hp:c < M
    · obtain ⟨r,k1,c1,er,okr,pnr,dr,cr,p1,ka,kb⟩:=H k c hk h0 hp hb
      obtain ⟨rs,k2,c2,oks,pns,ds,cs,p2,kc,kd,ih⟩:=rows_loop (most:=most) H m k1 c1 (by omega) (by omega) p1 (by omega)
      refine ⟨.cons r rs,k2,c2,⟨okr,oks⟩,⟨pnr,pns⟩,by simp only [Rows.dep]; omega,by simp only [Rows.cnt]; omega,p2,by omega,by simp only [Rows.cnt]; omega,fun P n S acc o xs hx ha=>?_⟩
      match xs,hx with
      | x::xs,hx=>
        obtain ⟨o',e'⟩:=ih P n S (acc++[r.pv]) (some (.sh x)) xs (by simpa using hx) (by simp; omega)
        refine ⟨o',for_step (ρ1:=W6 n d K most (some (.own (.lst acc))) (some (.sh x)) (P (pen ns M k c))) rfl ((sIf_t ((t P n S acc (some (.sh x))).trans (by rw [decide_eq_true hp]))).trans ?_) (e'.trans (by simp [Rows.pvs]))⟩
        exact app_go (ws0:=acc) (ws:=acc) (l:=.sh r.pv) (p:=r.pv) (ρ1:=W6 n d K most (some (.own (.lst acc))) (some (.sh x)) (P (pen ns M k1 c1))) rfl (call_go (ps:=[.ptr n,.int d,K.pv]) (ls:=[.sh (.ptr n),.sh (.int d),.sh K.pv]) (ρ1:=W6 n d K most (some (.own (.lst acc))) (some (.sh x)) (P (pen ns M k c))) rfl rfl rfl rfl (er P n S)) rfl rfl (by omega) rfl
    · obtain ⟨rs,k2,c2,oks,pns,ds,cs,p2,kc,kd,ih⟩:=rows_loop (most:=most) H m k c hk h0 hc hb
      refine ⟨rs,k2,c2,oks,pns,ds,cs,p2,kc,kd,fun P n S acc o xs hx ha=>?_⟩
      match xs,hx with
      | x::xs,hx=>
        obtain ⟨o',e'⟩:=ih P n S acc (some (.sh x)) xs (by simpa using hx) (by omega)
        exact ⟨o',for_step (ρ1:=W6 n d K most (some (.own (.lst acc))) (some (.sh x)) (P (pen ns M k c))) rfl ((sIf_f ((t P n S acc (some (.sh x))).trans (by rw [decide_eq_false hp]))).trans rfl) e'⟩
theorem rows_gen {f j:Nat} {d most:Int} (hn:LS ns) (hM:M<=40) (hm:0 < most) (hm2:most < 900) (H:∀ k c,0<=k->0<=c->c < M->k<=2000000 + 1000 * c->RowO ns M j (fun n mu=>m__law_row f [.ptr n,.int d,K.pv] mu) k c) {k c:Int} (hk:0<=k) (h0:0<=c) (hc:c<=M) (hb:k + 1<=2000000 + 1000 * c):
    RowsO ns M (j + 1) (fun n mu=>m__law_rows (f + 1) [.ptr n,.int d,K.pv,.int most] mu) k c:=by
  obtain ⟨w,hw0,hw1,ew⟩:=next_eq (ns:=ns) (M:=M) (k:=k) (m:=most) hn hk (by omega) hm
  obtain ⟨rs,k',c',ok,pn,dp,ct,hp',ka,kb,e⟩:=rows_loop (most:=.int most) H w.toNat (k + 1) c (by omega) h0 hc hb
  refine ⟨rs,k',c',fun P n S=>?_,ok,pn,dp,ct,hp',by omega,by omega⟩
  obtain ⟨o',e'⟩:=e P n S [] none (rngP 0 w.toNat) len_rng (by simp; omega)
  let E0:=W6 n d K (.int most) (some (.own (.lst []))) none (P (pen ns M k c))
  have ir:=iRange1_eq (a:=aCons (eCall m__law_next (aCons (eVar 0) (aCons (eVar 3) aNil))) aNil) (ρ:=E0) (ρ1:=W6 n d K (.int most) (some (.own (.lst []))) none (P (pen ns M (k + 1) c))) (l:=.sh (.int w)) (n:=w) (cons_go (call_go (ps:=[.ptr n,.int most]) (ls:=[.sh (.ptr n),.sh (.int most)]) (ρ1:=E0) rfl rfl rfl rfl (ew P n c S)) rfl) rfl (by omega) (by omega)
  exact runP_rt (ρ:=⟨[some (.sh (.ptr n)),some (.sh (.int d)),some (.sh K.pv),some (.sh (.int most)),none,o'],P (pen ns M k' c')⟩) (seq_go (ρ':=E0) rfl (seq_go ((sFor_eq ir).trans e') rfl))
theorem row_all (hn:LS ns) (hK:K.ok) (hM:M<=40):∀ (j f:Nat) (k c:Int),2 * j + 1<=f->0<=k->0<=c->c < M->k<=2000000 + 1000 * c->RowO ns M (2 * j + 1) (fun n mu=>m__law_row f [.ptr n,.int (4 - j),K.pv] mu) k c
  | 0,f + 1,k,c,_,hk,h0,hc,hb=>row_gen (j:=0) hn hK hM (fun h=>absurd h (by decide)) hk h0 hc hb
  | j + 1,f + 2,k,c,hf,hk,h0,hc,hb=>row_gen (j:=2 * j + 2) hn hK hM (fun _ k c a1 a2 a3 a4=>by
      rw [show (4:Int) - ((j + 1:Nat):Int) + 1=4 - (j:Int) from by omega]
      exact rows_gen (j:=2 * j + 1) hn hM (by decide) (by decide) (fun k c=>row_all hn hK hM j f k c (by omega)) a1 a2 a3 a4) hk h0 hc hb
theorem rows_top (hn:LS ns) (hK:K.ok) (hM:M<=40) {most k c:Int} (hm:0 < most) (hm2:most < 900) (hk:0<=k) (h0:0<=c) (hc:c<=M) (hb:k + 1<=2000000 + 1000 * c):RowsO ns M 10 (fun n mu=>m__law_rows 40 [.ptr n,.int 0,K.pv,.int most] mu) k c:=
  rows_gen (f:=39) (j:=9) hn hM hm hm2 (fun k c a1 a2 a3 a4=>row_all hn hK hM 4 39 k c (by decide) a1 a2 a3 a4) hk h0 hc hb
variable {ns:List Int} {M:Int}
noncomputable abbrev LET:Str := "abcdefghijklmnopqrstuvwxyz"
noncomputable def ltr (i:Int):Str:=⟨#[LET.cps.toList.getD i.toNat 0]⟩
theorem ltr_len (i:Int):(ltr i).length=1:=rfl
theorem ltr_at {i:Int} (h0:0<=i) (h1:i < 26):ixP (.str LET) (.int i)=some (.sh (.str (ltr i))):=by
  have hl:LET.cps.toList.length=26:=by decide +kernel
  obtain ⟨c,h2,h3⟩:=atI_some (l:=LET.cps.toList) (i:=i) h0 (by omega)
  show (if LET.length<=100000 then (atI LET.cps.toList i).map (fun c=>Lc.sh (.str ⟨#[c]⟩)) else none)=_
  rw [if_pos (by decide +kernel),h2]
  unfold ltr
  rw [List.getD_eq_getElem?_getD,h3]
  rfl
theorem cut_len (z:Str) (lo hi:Option Int):(txtCut z lo hi).length<=z.length:=by
  unfold txtCut
  show ((z.cps.toList.drop _).take _).toArray.size<=z.cps.size
  rw [List.size_toArray,List.length_take,List.length_drop]
  have:z.cps.toList.length=z.cps.size:=Array.length_toList
  omega
theorem lensum:∀ xs:List Str,(∀ x ∈ xs,x.length=1)->(xs.map (·.length)).sum=xs.length
  | [],_=>rfl
  | x::xs,h=>by
    rw [List.map_cons,List.sum_cons,h x List.mem_cons_self,lensum xs fun y hy=>h y (List.mem_cons_of_mem _ hy),List.length_cons]
    omega
theorem strs_map:∀ ws:List Str,strsOf (ws.map .str)=some ws
  | []=>rfl
  | x::xs=>by
    rw [List.map_cons]
    unfold strsOf
    rw [strs_map xs]
    rfl
theorem addS {a b:Str} (h:a.length + b.length<=100000):addP (.str a) (.str b)=some (.sh (.str (a++b))):=by
  show (if a.length + b.length<=100000 then _ else _)=_
  rw [if_pos h]
theorem slx_go {f:EF} {lo hi:OF} {ρ ρ1 ρ2 ρ3:Ev} {l:Lc} {z:Str} {a b:Option Int} (h1:f ρ=some (l,ρ1)) (hl:l.pv=.str z) (h2:lo ρ1=some (a,ρ2)) (h3:hi ρ2=some (b,ρ3)) (hz:z.length<=100000):eSlx f lo hi ρ=some (.sh (.str (txtCut z a b)),ρ3):=by
  unfold eSlx
  rw [h1,Option.bind_some]
  dsimp only
  rw [h2,Option.bind_some]
  dsimp only
  rw [h3,Option.bind_some,hl]
  dsimp only
  rw [if_pos hz]
theorem osome_go {f:EF} {ρ ρ1:Ev} {l:Lc} {i:Int} (h:f ρ=some (l,ρ1)) (hl:l.pv=.int i):oSome f ρ=some (some i,ρ1):=by
  unfold oSome
  rw [h,Option.bind_some,hl]
noncomputable abbrev nmB:SF:=(sSeq (sSet 11 (eOp addP (eIx (eVar 2) (eOp modP (eOp addP (eVar 6) (eOp fdivP (eVar 10) (eC (.int 8)))) (eC (.int 26)))) (eSlx (eVar 8) oNone (oSome (eOp modP (eOp addP (eVar 6) (eVar 10)) (eC (.int 8)))))))
    (sSeq (sIf (tT (eOp eqP (eVar 3) (eC (.int 0))) blP)
    (sSeq (sSet 12 (eIx (eVar 2) (eOp modP (eOp addP (eVar 6) (eOp mulP (eC (.int 5)) (eVar 10))) (eC (.int 26)))))
    (sSet 11 (eOp addP (eOp addP (eSlx (eVar 8) oNone (oSome (eVar 5))) (eVar 12)) (eSlx (eVar 8) (oSome (eOp addP (eVar 5) (eC (.int 1)))) (oSome (eVar 4))))))
    sNil)
    (sSeq (sIf (tT (eOp eqP (eVar 11) (eC (.str "main"))) blP)
    (sSet 11 (eC (.str "niam")))
    sNil)
    (sApp 9 (eVar 11)))))
noncomputable abbrev NM (n:Nat) (w z a t:Int) (ls:PV) (base:Str) (o9 o10 o11 o12:Option Lc) (mu:Mu):Ev:=⟨[some (.sh (.ptr n)),some (.sh (.int 24)),some (.sh (.str LET)),some (.sh (.int w)),some (.sh (.int z)),some (.sh (.int a)),some (.sh (.int t)),some (.sh ls),some (.sh (.str base)),o9,o10,o11,o12],mu⟩
theorem iff_nx {c:TF} {f:SF} {ρ ρ1 ρ2:Ev} {b:Bool} (h:c ρ=some (b,ρ1)) (hb:b=true) (h2:f ρ1=some (.nx ρ2)):sIf c f sNil ρ=some (.nx ρ2):=by subst hb; exact (sIf_t h).trans h2
theorem iff_no {c:TF} {f:SF} {ρ ρ1:Ev} {b:Bool} (h:c ρ=some (b,ρ1)) (hb:b=false):sIf c f sNil ρ=some (.nx ρ1):=by subst hb; exact (sIf_f h).trans rfl
theorem nm_step {w z a t i:Int} {base:Str} (hb:base.length<=8) (hi:0<=i) (hi2:i < 100) (t0:0<=t):∃ x:Str,∀ (n:Nat) (ls:PV) (acc:List PV) (o11 o12:Option Lc) (mu:Mu),acc.length < 1000->∃ p11 p12,nmB (NM n w z a t ls base (some (.own (.lst acc))) (some (.sh (.int i))) o11 o12 mu)=some (.nx (NM n w z a t ls base (some (.own (.lst (acc++[.str x])))) (some (.sh (.int i))) p11 p12 mu)):=by
  let x1:Str:=ltr ((t + i / 8) % 26)++txtCut base none (some ((t + i) % 8))
  let x2:Str:=txtCut base none (some a)++ltr ((t + 5 * i) % 26)++txtCut base (some (a + 1)) (some z)
  have s1:∀ (n:Nat) (ls:PV) (acc:List PV) (o11 o12:Option Lc) (mu:Mu),sSet 11 (eOp addP (eIx (eVar 2) (eOp modP (eOp addP (eVar 6) (eOp fdivP (eVar 10) (eC (.int 8)))) (eC (.int 26)))) (eSlx (eVar 8) oNone (oSome (eOp modP (eOp addP (eVar 6) (eVar 10)) (eC (.int 8)))))) (NM n w z a t ls base (some (.own (.lst acc))) (some (.sh (.int i))) o11 o12 mu)=some (.nx (NM n w z a t ls base (some (.own (.lst acc))) (some (.sh (.int i))) (some (.sh (.str x1))) o12 mu)):=fun n ls acc o11 o12 mu=>by
    let G:=NM n w z a t ls base (some (.own (.lst acc))) (some (.sh (.int i))) o11 o12 mu
    have cl:=cut_len base none (some ((t + i) % 8))
    exact set_go (eOp_eq (x:=.sh (.str (ltr ((t + i / 8) % 26)))) (y:=.sh (.str (txtCut base none (some ((t + i) % 8))))) (ρ1:=G) (ix_go (p:=.str LET) (q:=.int ((t + i / 8) % 26)) (l:=.sh (.str LET)) (m:=.sh (.int ((t + i / 8) % 26))) (ρ1:=G) rfl rfl (eOp_eq (x:=.sh (.int (t + i / 8))) (y:=.sh (.int 26)) (ρ1:=G) (eOp_eq (x:=.sh (.int t)) (y:=.sh (.int (i / 8))) (ρ1:=G) rfl (eOp_eq (x:=.sh (.int i)) (y:=.sh (.int 8)) (ρ1:=G) rfl rfl (fdivP_int (by decide) (by decide))) (addP_int _ _)) rfl (modP_int (by decide))) rfl (fun n h=>by cases h) (ltr_at (Int.emod_nonneg _ (by decide)) (Int.emod_lt_of_pos _ (by decide)))) (slx_go (l:=.sh (.str base)) (ρ1:=G) (ρ2:=G) rfl rfl rfl (osome_go (l:=.sh (.int ((t + i) % 8))) (eOp_eq (x:=.sh (.int (t + i))) (y:=.sh (.int 8)) (ρ1:=G) rfl rfl (modP_int (by decide))) rfl) (by omega)) (addS (by rw [ltr_len]; omega))) rfl rfl
  have s2:∀ (n:Nat) (ls:PV) (acc:List PV) (o11 o12:Option Lc) (mu:Mu),sSeq (sSet 12 (eIx (eVar 2) (eOp modP (eOp addP (eVar 6) (eOp mulP (eC (.int 5)) (eVar 10))) (eC (.int 26))))) (sSet 11 (eOp addP (eOp addP (eSlx (eVar 8) oNone (oSome (eVar 5))) (eVar 12)) (eSlx (eVar 8) (oSome (eOp addP (eVar 5) (eC (.int 1)))) (oSome (eVar 4))))) (NM n w z a t ls base (some (.own (.lst acc))) (some (.sh (.int i))) o11 o12 mu)=some (.nx (NM n w z a t ls base (some (.own (.lst acc))) (some (.sh (.int i))) (some (.sh (.str x2))) (some (.sh (.str (ltr ((t + 5 * i) % 26))))) mu)):=fun n ls acc o11 o12 mu=>by
    let G0:=NM n w z a t ls base (some (.own (.lst acc))) (some (.sh (.int i))) o11 o12 mu
    let G:=NM n w z a t ls base (some (.own (.lst acc))) (some (.sh (.int i))) o11 (some (.sh (.str (ltr ((t + 5 * i) % 26))))) mu
    have c1:=cut_len base none (some a)
    have c2:=cut_len base (some (a + 1)) (some z)
    refine seq_go (ρ':=G) (set_go (ix_go (p:=.str LET) (q:=.int ((t + 5 * i) % 26)) (l:=.sh (.str LET)) (m:=.sh (.int ((t + 5 * i) % 26))) (ρ1:=G0) (ρ2:=G0) rfl rfl (eOp_eq (eOp_eq rfl (eOp_eq rfl rfl (mulP_l (by decide) (by decide))) (addP_int _ _)) rfl (modP_int (by decide))) rfl (fun n h=>by cases h) (ltr_at (Int.emod_nonneg _ (by decide)) (Int.emod_lt_of_pos _ (by decide)))) rfl rfl) (set_go (l:=.sh (.str x2)) (ρ1:=G) ?_ rfl rfl)
    exact eOp_eq (x:=.sh (.str (txtCut base none (some a)++ltr ((t + 5 * i) % 26)))) (y:=.sh (.str (txtCut base (some (a + 1)) (some z)))) (ρ1:=G) (eOp_eq (x:=.sh (.str (txtCut base none (some a)))) (y:=.sh (.str (ltr ((t + 5 * i) % 26)))) (ρ1:=G) (slx_go (l:=.sh (.str base)) (ρ1:=G) (ρ2:=G) rfl rfl rfl (osome_go (l:=.sh (.int a)) rfl rfl) (by omega)) rfl (addS (by rw [ltr_len]; omega))) (slx_go (l:=.sh (.str base)) (ρ1:=G) (ρ2:=G) rfl rfl (osome_go (l:=.sh (.int (a + 1))) rfl rfl) (osome_go (l:=.sh (.int z)) rfl rfl) (by omega)) (addS (by rw [PySem.Str.length_append,ltr_len]; omega))
  have s3:∀ x:Str,∃ y:Str,∀ (n:Nat) (ls:PV) (acc:List PV) (o12:Option Lc) (mu:Mu),acc.length < 1000->∃ p11,sSeq (sIf (tT (eOp eqP (eVar 11) (eC (.str "main"))) blP) (sSet 11 (eC (.str "niam"))) sNil) (sApp 9 (eVar 11)) (NM n w z a t ls base (some (.own (.lst acc))) (some (.sh (.int i))) (some (.sh (.str x))) o12 mu)=some (.nx (NM n w z a t ls base (some (.own (.lst (acc++[.str y])))) (some (.sh (.int i))) p11 o12 mu)):=fun x=>by
    have t:∀ (n:Nat) (ls:PV) (acc:List PV) (o12:Option Lc) (mu:Mu),tT (eOp eqP (eVar 11) (eC (.str "main"))) blP (NM n w z a t ls base (some (.own (.lst acc))) (some (.sh (.int i))) (some (.sh (.str x))) o12 mu)=some ((x == "main"),NM n w z a t ls base (some (.own (.lst acc))) (some (.sh (.int i))) (some (.sh (.str x))) o12 mu):=fun n ls acc o12 mu=>tT_eq (l:=.sh (.bl (x == "main"))) (eOp_eq rfl rfl rfl) rfl
    cases hx:(x == "main") with
    | true=>exact ⟨"niam",fun n ls acc o12 mu ha=>⟨some (.sh (.str "niam")),seq_go (iff_nx (t n ls acc o12 mu) hx rfl) (app_go (ws0:=acc) (ws:=acc) (l:=.sh (.str "niam")) rfl rfl rfl rfl (by omega) rfl)⟩⟩
    | false=>exact ⟨x,fun n ls acc o12 mu ha=>⟨some (.sh (.str x)),seq_go (iff_no (t n ls acc o12 mu) hx) (app_go (ws0:=acc) (ws:=acc) (l:=.sh (.str x)) rfl rfl rfl rfl (by omega) rfl)⟩⟩
  have tw:∀ (n:Nat) (ls:PV) (acc:List PV) (o11 o12:Option Lc) (mu:Mu),tT (eOp eqP (eVar 3) (eC (.int 0))) blP (NM n w z a t ls base (some (.own (.lst acc))) (some (.sh (.int i))) o11 o12 mu)=some (decide (w=0),NM n w z a t ls base (some (.own (.lst acc))) (some (.sh (.int i))) o11 o12 mu):=fun n ls acc o11 o12 mu=>tint' rfl
  by_cases hw:w=0
  · obtain ⟨y,hy⟩:=s3 x2
    refine ⟨y,fun n ls acc o11 o12 mu ha=>?_⟩
    obtain ⟨p11,e⟩:=hy n ls acc (some (.sh (.str (ltr ((t + 5 * i) % 26))))) mu ha
    exact ⟨p11,_,seq_go (s1 n ls acc o11 o12 mu) (seq_go (iff_nx (tw n ls acc _ _ mu) (decide_eq_true hw) (s2 n ls acc _ _ mu)) e)⟩
  · obtain ⟨y,hy⟩:=s3 x1
    refine ⟨y,fun n ls acc o11 o12 mu ha=>?_⟩
    obtain ⟨p11,e⟩:=hy n ls acc o12 mu ha
    exact ⟨p11,_,seq_go (s1 n ls acc o11 o12 mu) (seq_go (iff_no (tw n ls acc _ _ mu) (decide_eq_false hw)) e)⟩
theorem nm_loop {w z a t:Int} {base:Str} (hb:base.length<=8) (t0:0<=t):∀ xs:List PV,(∀ x ∈ xs,∃ i:Nat,i < 24/\x=.int (0 + (i:Int)))->∃ ys:List Str,ys.length=xs.length/\∀ (n:Nat) (ls:PV) (acc:List PV) (o10 o11 o12:Option Lc) (mu:Mu),acc.length + xs.length<=1000->∃ p10 p11 p12,forP (bName 10) nmB xs (NM n w z a t ls base (some (.own (.lst acc))) o10 o11 o12 mu)=some (.nx (NM n w z a t ls base (some (.own (.lst (acc++ys.map .str)))) p10 p11 p12 mu)):=by
  intro xs
  induction xs with
  | nil=>exact fun _=>⟨[],rfl,fun n ls acc o10 o11 o12 mu _=>⟨o10,o11,o12,by simp [forP]⟩⟩
  | cons x xs ih=>
    intro hx
    obtain ⟨i,hi,rfl⟩:=hx x List.mem_cons_self
    obtain ⟨y,hy⟩:=nm_step (w:=w) (z:=z) (a:=a) (t:=t) (i:=0 + (i:Int)) hb (by omega) (by omega) t0
    obtain ⟨ys,hl,e⟩:=ih fun v hv=>hx v (List.mem_cons_of_mem _ hv)
    refine ⟨y::ys,by simp [hl],fun n ls acc o10 o11 o12 mu ha=>?_⟩
    rw [List.length_cons] at ha
    obtain ⟨p11,p12,e1⟩:=hy n ls acc o11 o12 mu (by omega)
    obtain ⟨q10,q11,q12,e2⟩:=e n ls (acc++[.str y]) (some (.sh (.int (0 + (i:Int))))) p11 p12 mu (by simp; omega)
    exact ⟨q10,q11,q12,for_step (ρ1:=NM n w z a t ls base (some (.own (.lst acc))) (some (.sh (.int (0 + (i:Int))))) o11 o12 mu) rfl e1 (e2.trans (by simp))⟩
theorem names_eq {k:Int} (hn:LS ns) (h0:0<=k) (h1:k < 90000000):∃ (xs:List Str) (k':Int),xs.length=24/\k<=k'/\k'<=k + 20/\∀ c,Dr ns M (fun n mu=>m__law_names [.ptr n,.int 24] mu) k c k' c (.own (.lst (xs.map .str))):=by
  obtain ⟨w,w0,w1,ew⟩:=next_eq (M:=M) (m:=2) hn h0 (by omega) (by decide)
  obtain ⟨z,z0,z1,ez⟩:=next_eq (M:=M) (m:=8) (k:=k + 1) hn (by omega) (by omega) (by decide)
  obtain ⟨a,a0,a1,ea⟩:=next_eq (M:=M) (m:=1 + z) (k:=k + 1 + 1) hn (by omega) (by omega) (by omega)
  obtain ⟨t,t0,t1,et⟩:=next_eq (M:=M) (m:=26) (k:=k + 1 + 1 + 1) hn (by omega) (by omega) (by decide)
  obtain ⟨as,k2,hl,hg,ka,kb,ec⟩:=comp_draw (ns:=ns) (M:=M) (fun p=>∃ x:Str,p=.str x/\x.length=1) 1 (by decide) (eIx (eVar 1) (eCall m__law_next (aCons (eVar 2) (aCons (eC (.int 26)) aNil)))) (fun n=>[some (.sh (.str LET)),some (.sh (.ptr n))]) 98000000 (fun k h0 h1=>by
      obtain ⟨r,r0,r1,er⟩:=next_eq (ns:=ns) (M:=M) (m:=26) (k:=k) hn h0 (by omega) (by decide)
      exact ⟨.str (ltr r),k + 1,⟨ltr r,rfl,rfl⟩,by omega,by omega,fun P n c S o=>⟨.sh (.str (ltr r)),ix_go (p:=.str LET) (q:=.int r) (l:=.sh (.str LET)) (m:=.sh (.int r)) (ρ1:=⟨[o,some (.sh (.str LET)),some (.sh (.ptr n))],P (pen ns M k c)⟩) rfl rfl (call_go (ps:=[.ptr n,.int 26]) (ls:=[.sh (.ptr n),.sh (.int 26)]) (ρ1:=⟨[o,some (.sh (.str LET)),some (.sh (.ptr n))],P (pen ns M k c)⟩) rfl rfl rfl rfl (er P n c S)) rfl (fun n h=>by cases h) (ltr_at r0 r1),rfl⟩⟩) 8 (k + 1 + 1 + 1 + 1) (by omega) (by omega)
  have unstr:∀ l:List PV,(∀ p ∈ l,∃ x:Str,p=.str x/\x.length=1)->∃ ls:List Str,l=ls.map .str/\ls.length=l.length/\∀ x ∈ ls,x.length=1:=fun l=>by
    induction l with
    | nil=>exact fun _=>⟨[],rfl,rfl,mem0⟩
    | cons p l ih=>
      intro h
      obtain ⟨x,rfl,hx⟩:=h p List.mem_cons_self
      obtain ⟨ls,rfl,h2,h3⟩:=ih fun y hy=>h y (List.mem_cons_of_mem _ hy)
      exact ⟨x::ls,rfl,by simp,memc hx h3⟩
  obtain ⟨ls,rfl,hl2,hg2⟩:=unstr as hg
  let base:Str:=Txt.join "" ls
  have e0:("" : Str).length=0:=by decide +kernel
  have bl:base.length<=8:=by
    have:=join_len (z := "") (xs:=ls)
    rw [lensum ls hg2,e0] at this
    show (Txt.join "" ls).length<=8
    omega
  obtain ⟨ys,yl,ey⟩:=nm_loop (w:=w) (z:=1 + z) (a:=a) (t:=t) bl t0 (rngP 0 24) fun x hx=>mem_rng hx
  refine ⟨ys,k2,by rw [yl,len_rng],by omega,by omega,fun c P n S=>?_⟩
  obtain ⟨p10,p11,p12,el⟩:=ey n (.lst (ls.map .str)) [] none none none (P (pen ns M k2 c)) (by rw [len_rng]; decide)
  let E:Option Lc->Option Lc->Option Lc->Option Lc->Option Lc->Mu->Ev:=fun o3 o4 o5 o6 o7 mu=>⟨[some (.sh (.ptr n)),some (.sh (.int 24)),some (.sh (.str LET)),o3,o4,o5,o6,o7,none,none,none,none,none],mu⟩
  let E3:=E none none none none none (P (pen ns M k c))
  let E4:=E (some (.sh (.int w))) none none none none (P (pen ns M (k + 1) c))
  let E5:=E (some (.sh (.int w))) (some (.sh (.int (1 + z)))) none none none (P (pen ns M (k + 1 + 1) c))
  let E6:=E (some (.sh (.int w))) (some (.sh (.int (1 + z)))) (some (.sh (.int a))) none none (P (pen ns M (k + 1 + 1 + 1) c))
  let E7:=E (some (.sh (.int w))) (some (.sh (.int (1 + z)))) (some (.sh (.int a))) (some (.sh (.int t))) none (P (pen ns M (k + 1 + 1 + 1 + 1) c))
  let E8:=E (some (.sh (.int w))) (some (.sh (.int (1 + z)))) (some (.sh (.int a))) (some (.sh (.int t))) (some (.own (.lst (ls.map .str)))) (P (pen ns M k2 c))
  let N:=fun o9=>NM n w (1 + z) a t (.lst (ls.map .str)) base o9 none none none (P (pen ns M k2 c))
  have cc:eComp (iRange1 (aCons (eC (.int 8)) aNil)) 1 [2,0] (bName 0) cTrue (eIx (eVar 1) (eCall m__law_next (aCons (eVar 2) (aCons (eC (.int 26)) aNil)))) E7=some (.own (.lst (ls.map .str)),E (some (.sh (.int w))) (some (.sh (.int (1 + z)))) (some (.sh (.int a))) (some (.sh (.int t))) none (P (pen ns M k2 c))):=
    (eComp_eq (m:=1) (ixs:=[2,0]) (iRange1_eq (l:=.sh (.int 8)) (n:=8) (ρ1:=E7) rfl rfl (by decide) (by decide)) (ec P n c S none [] (rngP 0 8) len_rng (by decide))).trans rfl
  refine runP_rt (ρ:=NM n w (1 + z) a t (.lst (ls.map .str)) base none p10 p11 p12 (P (pen ns M k2 c))) ?_
  refine seq_go (ρ':=E3) rfl ?_
  refine seq_go (ρ':=E4) (set_go (call_go (ps:=[.ptr n,.int 2]) (ls:=[.sh (.ptr n),.sh (.int 2)]) (ρ1:=E3) rfl rfl rfl rfl (ew P n c S)) rfl rfl) ?_
  refine seq_go (ρ':=E5) (set_go (eOp_eq (x:=.sh (.int 1)) (y:=.sh (.int z)) (ρ1:=E4) rfl (call_go (ps:=[.ptr n,.int 8]) (ls:=[.sh (.ptr n),.sh (.int 8)]) (ρ1:=E4) rfl rfl rfl rfl (ez P n c S)) (addP_int _ _)) rfl rfl) ?_
  refine seq_go (ρ':=E6) (set_go (call_go (ps:=[.ptr n,.int (1 + z)]) (ls:=[.sh (.ptr n),.sh (.int (1 + z))]) (ρ1:=E5) rfl rfl rfl rfl (ea P n c S)) rfl rfl) ?_
  refine seq_go (ρ':=E7) (set_go (call_go (ps:=[.ptr n,.int 26]) (ls:=[.sh (.ptr n),.sh (.int 26)]) (ρ1:=E6) rfl rfl rfl rfl (et P n c S)) rfl rfl) ?_
  refine seq_go (ρ':=E8) (set_go cc rfl rfl) ?_
  refine seq_go (ρ':=N none) (set_go (l:=.sh (.str base)) (ρ1:=E (some (.sh (.int w))) (some (.sh (.int (1 + z)))) (some (.sh (.int a))) (some (.sh (.int t))) (some (.sh (.lst (ls.map .str)))) (P (pen ns M k2 c))) (eJoin_eq (l:=.sh (.str "")) (m:=.sh (.lst (ls.map .str))) (ρ1:=E8) rfl rfl rfl rfl (strs_map ls) ?_) rfl rfl) ?_
  · rw [lensum ls hg2,e0]
    omega
  refine seq_go (ρ':=N (some (.own (.lst [])))) rfl (seq_go ((sFor_eq (xs:=rngP 0 24) (iRange1_eq (l:=.sh (.int 24)) (n:=24) (ρ1:=N (some (.own (.lst [])))) rfl rfl (by decide) (by decide))).trans el) rfl)
variable {ns:List Int} {M:Int}
noncomputable abbrev RK:PV:=.lst [.str "low",.str "high"]
theorem rk_pick {k:Int} (hn:LS ns) (h0:0<=k) (h1:k < 90000000):∃ s:Str,∀ P n c,Spot P n->∀ vs,eIx (eVar 1) (eCall m__law_next (aCons (eVar 0) (aCons (eB len1 (aCons (eVar 1) aNil)) aNil))) ⟨some (.sh (.ptr n))::some (.sh RK)::vs,P (pen ns M k c)⟩=some (.sh (.str s),⟨some (.sh (.ptr n))::some (.sh RK)::vs,P (pen ns M (k + 1) c)⟩):=by
  obtain ⟨x,hx,ex⟩:=pick_go (ns:=ns) (M:=M) (k:=k) (xs:=[.str "low",.str "high"]) hn h0 (by omega) (by simp)
  obtain ⟨s,rfl⟩:∃ s,x=.str s:=by
    rcases List.mem_cons.mp hx with rfl | hx
    · exact ⟨_,rfl⟩
    · rcases List.mem_cons.mp hx with rfl | hx
      · exact ⟨_,rfl⟩
      · cases hx
  exact ⟨s,fun P n c S vs=>ex P n c S (eVar 0) (eVar 1) (some (.sh (.ptr n))::some (.sh RK)::vs) (fun _=>rfl) (fun _=>rfl)⟩
theorem rank_eq {k:Int} (hn:LS ns) (h0:0<=k) (h1:k < 80000000):∃ (p:PV) (k':Int),Fx 1 p/\k<=k'/\k'<=k + 2/\∀ c,Dr ns M (fun n mu=>m__law_rank [.ptr n,RK] mu) k c k' c (.sh p):=by
  obtain ⟨r,r0,r1,er⟩:=nx_go (ns:=ns) (M:=M) (m:=3) hn h0 (by omega) (by decide)
  obtain ⟨s,es⟩:=rk_pick (ns:=ns) (M:=M) (k:=k + 1) hn (by omega) (by omega)
  let E:Nat->Mu->Ev:=fun n mu=>⟨[some (.sh (.ptr n)),some (.sh RK)],mu⟩
  have t:∀ P n c,Spot P n->tT (eOp eqP (eCall m__law_next (aCons (eVar 0) (aCons (eC (.int 3)) aNil))) (eC (.int 0))) blP (E n (P (pen ns M k c)))=some (decide (r=0),E n (P (pen ns M (k + 1) c))):=fun P n c S=>tint' (er P n c S (eVar 0) (eC (.int 3)) [some (.sh (.ptr n)),some (.sh RK)] rfl rfl)
  by_cases h:r=0
  · exact ⟨.non,k + 1,⟨rfl,.non⟩,by omega,by omega,fun c P n S=>runP_rt (ρ:=E n (P (pen ns M (k + 1) c))) (if_yes (t P n c S) (decide_eq_true h) rfl)⟩
  · exact ⟨.str s,k + 1 + 1,fx_str,by omega,by omega,fun c P n S=>runP_rt (ρ:=E n (P (pen ns M (k + 1 + 1) c))) ((if_no (t P n c S) (decide_eq_false h)).trans (ret_go (es P n c S [])))⟩
theorem rank_go {k:Int} (hn:LS ns) (h0:0<=k) (h1:k < 80000000):∃ (p:PV) (k':Int),Fx 1 p/\k<=k'/\k'<=k + 2/\∀ P n c,Spot P n->∀ (fp fr:EF) (vs:List (Option Lc)),(∀ mu,fp ⟨vs,mu⟩=some (.sh (.ptr n),⟨vs,mu⟩))->(∀ mu,fr ⟨vs,mu⟩=some (.sh RK,⟨vs,mu⟩))->eCall m__law_rank (aCons fp (aCons fr aNil)) ⟨vs,P (pen ns M k c)⟩=some (.sh p,⟨vs,P (pen ns M k' c)⟩):=by
  obtain ⟨p,k',fx,ka,kb,e⟩:=rank_eq (ns:=ns) (M:=M) hn h0 h1
  exact ⟨p,k',fx,ka,kb,fun P n c S fp fr vs e1 e2=>call_go (ps:=[.ptr n,RK]) (cons_go (e1 _) (cons_go (e2 _) rfl)) rfl rfl rfl (e c P n S)⟩
noncomputable def csum:List Nat->Nat
  | []=>0
  | c::cs=>1 + c + csum cs
noncomputable abbrev cP (cs:List Nat):List PV:=cs.map fun c=>.int (c:Nat)
theorem uncs (b:Nat):∀ l:List PV,(∀ p ∈ l,∃ c:Nat,p=.int (c:Nat)/\c<=b)->∃ cs:List Nat,l=cP cs/\csum cs<=(b + 1) * l.length
  | [],_=>⟨[],rfl,Nat.zero_le _⟩
  | p::l,h=>by
    obtain ⟨c,rfl,hc⟩:=h p List.mem_cons_self
    obtain ⟨cs,rfl,h2⟩:=uncs b l fun y hy=>h y (List.mem_cons_of_mem _ hy)
    refine ⟨c::cs,rfl,?_⟩
    show 1 + c + csum cs<=(b + 1) * ((cP cs).length + 1)
    rw [Nat.mul_add]
    omega
theorem few {m:Int} (hm:0 < m) (hn:LS ns):∀ k:Int,0<=k->k<=90000000->∃ (a:PV) (k':Int),(∃ c:Nat,a=.int (c:Nat)/\c<=m.toNat - 1)/\k<=k'/\k'<=k + 1/\∀ P n c,Spot P n->∀ o,∃ l,eCall m__law_next (aCons (eVar 1) (aCons (eC (.int m)) aNil)) ⟨o::[some (.sh (.ptr n))],P (pen ns M k c)⟩=some (l,⟨o::[some (.sh (.ptr n))],P (pen ns M k' c)⟩)/\l.pv=a:=fun k h0 h1=>by
  obtain ⟨r,r0,r1,er⟩:=nx_go (ns:=ns) (M:=M) (m:=m) hn h0 (by omega) hm
  refine ⟨.int r,k + 1,⟨r.toNat,by rw [Int.toNat_of_nonneg r0],by omega⟩,by omega,by omega,fun P n c S o=>⟨.sh (.int r),er P n c S (eVar 1) (eC (.int m)) [o,some (.sh (.ptr n))] rfl rfl,rfl⟩⟩
theorem counts_eq {k:Int} (hn:LS ns) (h0:0<=k) (h1:k < 80000000):∃ (cs:List Nat) (k':Int),csum cs<=12/\k<=k'/\k'<=k + 20/\∀ c,Dr ns M (fun n mu=>m__law_counts [.ptr n] mu) k c k' c (.own (.lst (cP cs))):=by
  obtain ⟨w,w0,w1,ew⟩:=nx_go (ns:=ns) (M:=M) (m:=6) hn h0 (by omega) (by decide)
  let E:Nat->Option Lc->Mu->Ev:=fun n o mu=>⟨[some (.sh (.ptr n)),o],mu⟩
  let W:Option Lc:=some (.sh (.int w))
  have st:∀ P n c,Spot P n->sSet 1 (eCall m__law_next (aCons (eVar 0) (aCons (eC (.int 6)) aNil))) (E n none (P (pen ns M k c)))=some (.nx (E n W (P (pen ns M (k + 1) c)))):=fun P n c S=>set_go (ew P n c S (eVar 0) (eC (.int 6)) [some (.sh (.ptr n)),none] rfl rfl) rfl rfl
  have t:∀ (i:Int) n mu,tT (eOp eqP (eVar 1) (eC (.int i))) blP (E n W mu)=some (decide (w=i),E n W mu):=fun i n mu=>tint' rfl
  by_cases hw0:w=0
  · obtain ⟨as,k2,hl,hg,ka,kb,ec⟩:=comp_draw (ns:=ns) (M:=M) _ 1 (by decide) (eCall m__law_next (aCons (eVar 1) (aCons (eC (.int 2)) aNil))) (fun n=>[some (.sh (.ptr n))]) 90000000 (few (m:=2) (by decide) hn) 6 (k + 1) (by omega) (by omega)
    obtain ⟨cs,rfl,hs⟩:=uncs 1 as hg
    refine ⟨cs,k2,by omega,by omega,by omega,fun c P n S=>runP_rt (ρ:=E n W (P (pen ns M k2 c))) (seq_go (st P n c S) (if_yes (t 0 _ _) (decide_eq_true hw0) (ret_go ?_)))⟩
    exact (eComp_eq (m:=1) (ixs:=[0]) (iRange1_eq (l:=.sh (.int 6)) (n:=6) (ρ1:=E n W (P (pen ns M (k + 1) c))) rfl rfl (by decide) (by decide)) (ec P n c S none [] (rngP 0 6) len_rng (by decide))).trans rfl
  · by_cases hw1:w=1
    · obtain ⟨r,r0,r1,er⟩:=nx_go (ns:=ns) (M:=M) (m:=4) (k:=k + 1) hn (by omega) (by omega) (by decide)
      obtain ⟨q,rfl⟩:∃ q:Nat,r=(q:Int):=⟨r.toNat,by omega⟩
      refine ⟨[4,q],k + 1 + 1,by simp only [csum]; omega,by omega,by omega,fun c P n S=>runP_rt (ρ:=E n W (P (pen ns M (k + 1 + 1) c))) (seq_go (st P n c S) ((if_no (t 0 _ _) (decide_eq_false hw0)).trans (if_yes (t 1 _ _) (decide_eq_true hw1) (ret_go ?_))))⟩
      exact lst_go (ls:=[.sh (.int 4),.sh (.int (q:Int))]) (cons_go (ρ1:=E n W (P (pen ns M (k + 1) c))) rfl (cons_go (er P n c S (eVar 0) (eC (.int 4)) [some (.sh (.ptr n)),W] rfl rfl) rfl)) rfl rfl
    · obtain ⟨r,r0,r1,er⟩:=nx_go (ns:=ns) (M:=M) (m:=4) (k:=k + 1) hn (by omega) (by omega) (by decide)
      obtain ⟨as,k2,hl,hg,ka,kb,ec⟩:=comp_draw (ns:=ns) (M:=M) _ 1 (by decide) (eCall m__law_next (aCons (eVar 1) (aCons (eC (.int 3)) aNil))) (fun n=>[some (.sh (.ptr n))]) 90000000 (few (m:=3) (by decide) hn) r.toNat (k + 1 + 1) (by omega) (by omega)
      obtain ⟨cs,rfl,hs⟩:=uncs 2 as hg
      refine ⟨cs,k2,by omega,by omega,by omega,fun c P n S=>runP_rt (ρ:=E n W (P (pen ns M k2 c))) (seq_go (st P n c S) ((if_no (t 0 _ _) (decide_eq_false hw0)).trans ((if_no (t 1 _ _) (decide_eq_false hw1)).trans (ret_go ?_))))⟩
      exact (eComp_eq (m:=1) (ixs:=[0]) (iRange1_eq (l:=.sh (.int r)) (n:=r) (ρ1:=E n W (P (pen ns M (k + 1 + 1) c))) (cons_go (er P n c S (eVar 0) (eC (.int 4)) [some (.sh (.ptr n)),W] rfl rfl) rfl) rfl (by omega) (by omega)) (ec P n c S none [] (rngP 0 r.toNat) len_rng (by simp; omega))).trans rfl
noncomputable abbrev hdP (h:Str × List Str):PV:=.tup [.str h.1,.lst (h.2.map .str)]
noncomputable abbrev HE (n:Nat) (xs:List Str) (a:Nat) (acc:List PV) (o:Option Lc) (mu:Mu):Ev:=⟨[some (.sh (.ptr n)),some (.sh (.lst (xs.map .str))),some (.sh (.int (a:Nat))),some (.own (.lst acc)),o],mu⟩
noncomputable abbrev hdB:SF:=(sSeq (sApp 3 (eTup (aCons (eIx (eVar 1) (eVar 2)) (aCons (eSlx (eVar 1) (oSome (eOp addP (eVar 2) (eC (.int 1)))) (oSome (eOp addP (eOp addP (eVar 2) (eC (.int 1))) (eVar 4)))) aNil))))
    (sSet 2 (eOp addP (eOp addP (eVar 2) (eC (.int 1))) (eVar 4))))
theorem str_at {xs:List Str} {i:Nat} (h:i < xs.length):∃ x,ixP (.lst (xs.map .str)) (.int (i:Nat))=some (.sh (.str x)):=by
  obtain ⟨p,h2,h3⟩:=atI_some (l:=xs.map PV.str) (i:=(i:Nat)) (by omega) (by rw [List.length_map]; omega)
  rw [List.getElem?_map] at h3
  obtain ⟨x,hx,rfl⟩:=map_some h3
  exact ⟨x,by show (atI (xs.map PV.str) (i:Nat)).map _=_; rw [h2]; rfl⟩
theorem cut_str {xs:List Str} {a b:Option Int} (h:xs.length<=24):∃ ys:List Str,cutP (xs.map .str) a b=ys.map .str/\ys.length<=24:=by
  unfold cutP
  rw [← List.map_drop,← List.map_take]
  exact ⟨_,rfl,by rw [List.length_take,List.length_drop]; omega⟩
theorem slxl_go {f:EF} {lo hi:OF} {ρ ρ1 ρ2 ρ3:Ev} {l:Lc} {ps:List PV} {a b:Option Int} (h1:f ρ=some (l,ρ1)) (hl:l.pv=.lst ps) (h2:lo ρ1=some (a,ρ2)) (h3:hi ρ2=some (b,ρ3)):eSlx f lo hi ρ=some (.own (.lst (cutP ps a b)),ρ3):=by
  unfold eSlx
  rw [h1,Option.bind_some]
  dsimp only
  rw [h2,Option.bind_some]
  dsimp only
  rw [h3,Option.bind_some,hl]
theorem hd_loop {xs:List Str} (hx:xs.length=24):∀ (cs:List Nat) (a:Nat),a + csum cs<=24->∃ hs:List (Str × List Str),hs.length=cs.length/\(∀ h ∈ hs,h.2.length<=24)/\∀ (n:Nat) (acc:List PV) (o:Option Lc) (mu:Mu),acc.length + cs.length<=1000->∃ o',forP (bName 4) hdB (cP cs) (HE n xs a acc o mu)=some (.nx (HE n xs (a + csum cs) (acc++hs.map hdP) o' mu))
  | [],a,_=>⟨[],rfl,mem0,fun n acc o mu _=>⟨o,by simp [forP,csum]⟩⟩
  | c::cs,a,h=>by
    have h':a + (1 + c + csum cs)<=24:=h
    obtain ⟨x,ex⟩:=str_at (xs:=xs) (i:=a) (by omega)
    obtain ⟨ys,ey,yl⟩:=cut_str (xs:=xs) (a:=some ((a:Nat) + 1:Int)) (b:=some ((a:Nat) + 1 + (c:Nat):Int)) (by omega)
    obtain ⟨hs,hl,hg,ih⟩:=hd_loop hx cs (a + 1 + c) (by omega)
    refine ⟨(x,ys)::hs,by simp [hl],memc yl hg,fun n acc o mu hacc=>?_⟩
    rw [List.length_cons] at hacc
    obtain ⟨o',e'⟩:=ih n (acc++[hdP (x,ys)]) (some (.sh (.int (c:Nat)))) mu (by simp; omega)
    let G:=HE n xs a acc (some (.sh (.int (c:Nat)))) mu
    let G1:=HE n xs a (acc++[hdP (x,ys)]) (some (.sh (.int (c:Nat)))) mu
    have sl:eSlx (eVar 1) (oSome (eOp addP (eVar 2) (eC (.int 1)))) (oSome (eOp addP (eOp addP (eVar 2) (eC (.int 1))) (eVar 4))) G=some (.own (.lst (ys.map .str)),G):=by
      rw [← ey]
      exact slxl_go (l:=.sh (.lst (xs.map .str))) (ρ1:=G) (ρ2:=G) rfl rfl (osome_go (l:=.sh (.int ((a:Nat) + 1:Int))) rfl rfl) (osome_go (l:=.sh (.int ((a:Nat) + 1 + (c:Nat):Int))) rfl rfl)
    have tu:eTup (aCons (eIx (eVar 1) (eVar 2)) (aCons (eSlx (eVar 1) (oSome (eOp addP (eVar 2) (eC (.int 1)))) (oSome (eOp addP (eOp addP (eVar 2) (eC (.int 1))) (eVar 4)))) aNil)) G=some (.sh (hdP (x,ys)),G):=
      tup_go (ls:=[.sh (.str x),.own (.lst (ys.map .str))]) (cons_go (ix_go (p:=.lst (xs.map .str)) (q:=.int (a:Nat)) (l:=.sh (.lst (xs.map .str))) (m:=.sh (.int (a:Nat))) (ρ1:=G) (ρ2:=G) rfl rfl rfl rfl (fun n h=>by cases h) ex) (cons_go sl rfl)) rfl rfl
    have s1:sApp 3 (eTup (aCons (eIx (eVar 1) (eVar 2)) (aCons (eSlx (eVar 1) (oSome (eOp addP (eVar 2) (eC (.int 1)))) (oSome (eOp addP (eOp addP (eVar 2) (eC (.int 1))) (eVar 4)))) aNil))) G=some (.nx G1):=
      app_go (ws0:=acc) (ws:=acc) (l:=.sh (hdP (x,ys))) (p:=hdP (x,ys)) (ρ1:=G) rfl tu rfl rfl (by omega) rfl
    have s2:sSet 2 (eOp addP (eOp addP (eVar 2) (eC (.int 1))) (eVar 4)) G1=some (.nx (HE n xs (a + 1 + c) (acc++[hdP (x,ys)]) (some (.sh (.int (c:Nat)))) mu)):=rfl
    refine ⟨o',for_step (ρ1:=G) rfl (seq_go s1 s2) (e'.trans ?_)⟩
    rw [show a + 1 + c + csum cs=a + csum (c::cs) from by show _=a + (1 + c + csum cs); omega]
    simp
theorem heads_eq {k:Int} {xs:List Str} {a:Nat} (hn:LS ns) (h0:0<=k) (h1:k < 80000000) (hx:xs.length=24) (ha:a<=12):∃ (hs:List (Str × List Str)) (k':Int),hs.length<=12/\(∀ h ∈ hs,h.2.length<=24)/\k<=k'/\k'<=k + 20/\∀ c,Dr ns M (fun n mu=>m__law_heads [.ptr n,.lst (xs.map .str),.int (a:Nat)] mu) k c k' c (.own (.lst (hs.map hdP))):=by
  obtain ⟨cs,k',hc,ka,kb,ec⟩:=counts_eq (ns:=ns) (M:=M) hn h0 h1
  obtain ⟨hs,hl,hg,eh⟩:=hd_loop hx cs a (by omega)
  have cl:∀ cs:List Nat,cs.length<=csum cs:=fun cs=>by
    induction cs with
    | nil=>exact Nat.le_refl _
    | cons c cs ih=>show cs.length + 1<=1 + c + csum cs; omega
  have:=cl cs
  refine ⟨hs,k',by omega,hg,ka,kb,fun c P n S=>?_⟩
  obtain ⟨o',e⟩:=eh n [] none (P (pen ns M k' c)) (by simp; omega)
  let G:=HE n xs a [] none (P (pen ns M k c))
  exact runP_rt (ρ:=⟨[some (.sh (.ptr n)),some (.sh (.lst (xs.map .str))),some (.sh (.int ((a + csum cs:Nat):Int))),none,o'],P (pen ns M k' c)⟩) (seq_go (ρ':=G) rfl (seq_go ((sFor_eq (iof_go (l:=.own (.lst (cP cs))) (ρ1:=HE n xs a [] none (P (pen ns M k' c))) (call_go (ps:=[.ptr n]) (ls:=[.sh (.ptr n)]) (ρ1:=G) rfl rfl rfl rfl (ec c P n S)) rfl rfl)).trans e) rfl))
variable {ns:List Int} {M:Int}
theorem comp_drawE (Ok good:PV->Prop) (b:Int) (hb:0<=b) (te:EF) (A:Nat->List (Option Lc)) (T:Int)
    (H:∀ x,Ok x->∀ k,0<=k->k<=T->∃ (a:PV) (k':Int),good a/\k<=k'/\k'<=k + b/\∀ P n c,Spot P n->te ⟨some (.sh x)::A n,P (pen ns M k c)⟩=some (.sh a,⟨some (.sh x)::A n,P (pen ns M k' c)⟩)):
    ∀ (xs:List PV) (k:Int),(∀ x ∈ xs,Ok x)->0<=k->k + b * xs.length<=T->∃ (as:List PV) (k':Int),(∀ a ∈ as,good a)/\k<=k'/\k'<=k + b * xs.length/\∀ P n c,Spot P n->∀ o acc,acc.length + xs.length<=1000->compP (bName 0) cTrue te xs ⟨o::A n,P (pen ns M k c)⟩ acc=some (acc++as,P (pen ns M k' c))
  | [],k,_,h0,hK=>⟨[],k,mem0,by omega,by simp,fun P n c S o acc _=>by simp [compP]⟩
  | x::xs,k,hx,h0,hK=>by
    have el:b * (((x::xs).length:Nat):Int)=b * (xs.length:Int) + b:=by rw [List.length_cons,mul_succ']
    rw [el] at hK ⊢
    have bm:0<=b * (xs.length:Int):=Int.mul_nonneg hb (by omega)
    obtain ⟨a,k1,ga,ka,kb,ea⟩:=H x (hx x List.mem_cons_self) k h0 (by omega)
    obtain ⟨as,k2,hg,kc,kd,ih⟩:=comp_drawE Ok good b hb te A T H xs k1 (fun y hy=>hx y (List.mem_cons_of_mem _ hy)) (by omega) (by omega)
    refine ⟨a::as,k2,memc ga hg,by omega,by omega,fun P n c S o acc hacc=>?_⟩
    rw [List.length_cons] at hacc
    refine comp_step1 (ρ1:=⟨some (.sh x)::A n,P (pen ns M k c)⟩) rfl (ea P n c S) (by omega) ?_
    show compP _ _ _ xs _ (acc++[a])=_
    rw [ih P n c S (some (.sh x)) (acc++[a]) (by simp; omega)]
    simp
theorem loop_draw {α:Type} (pv:α->PV) (Ok:PV->Prop) (good:α->Prop) (cnt:α->Nat) (b:Int) (hb:0<=b) (bf:BF) (body:SF) (J:Nat->List PV->Mu->Ev->Prop) (T:Int)
    (H:∀ x,Ok x->∀ k c,0<=k->0<=c->c<=M->k<=T + 1000 * c->∃ (a:α) (k' c':Int),good a/\k<=k'/\c'=c + (cnt a:Int)/\c'<=M/\k'<=k + b + 1000 * (cnt a:Int)/\∀ P n,Spot P n->∀ acc ρ,J n acc (P (pen ns M k c)) ρ->acc.length < 1000->∃ ρ1 ρ2,bf x ρ=some ρ1/\body ρ1=some (.nx ρ2)/\J n (acc++[pv a]) (P (pen ns M k' c')) ρ2):
    ∀ (xs:List PV) (k c:Int),(∀ x ∈ xs,Ok x)->0<=k->0<=c->c<=M->k + b * xs.length<=T + 1000 * c->∃ (as:List α) (k' c':Int),as.length=xs.length/\(∀ a ∈ as,good a)/\k<=k'/\c'=c + ((as.map cnt).sum:Nat)/\c'<=M/\k'<=k + b * xs.length + 1000 * ((as.map cnt).sum:Nat)/\∀ P n,Spot P n->∀ acc ρ,J n acc (P (pen ns M k c)) ρ->acc.length + xs.length<=1000->∃ ρ',forP bf body xs ρ=some (.nx ρ')/\J n (acc++as.map pv) (P (pen ns M k' c')) ρ'
  | [],k,c,_,h0,hc,hM,hK=>⟨[],k,c,rfl,mem0,by omega,by simp,hM,by simp,fun P n S acc ρ j _=>⟨ρ,by simp [forP],by simpa using j⟩⟩
  | x::xs,k,c,hx,h0,hc,hM,hK=>by
    have el:b * (((x::xs).length:Nat):Int)=b * (xs.length:Int) + b:=by rw [List.length_cons,mul_succ']
    rw [el] at hK ⊢
    have bm:0<=b * (xs.length:Int):=Int.mul_nonneg hb (by omega)
    obtain ⟨a,k1,c1,ga,ka,ca,cm,kb,ea⟩:=H x (hx x List.mem_cons_self) k c h0 hc hM (by omega)
    obtain ⟨as,k2,c2,hl,hg,kc,cc,cm2,kd,ih⟩:=loop_draw pv Ok good cnt b hb bf body J T H xs k1 c1 (fun y hy=>hx y (List.mem_cons_of_mem _ hy)) (by omega) (by omega) cm (by omega)
    have sm:(((a::as).map cnt).sum:Nat)=cnt a + (as.map cnt).sum:=by simp
    refine ⟨a::as,k2,c2,by simp [hl],memc ga hg,by omega,by rw [sm]; omega,cm2,by rw [sm]; omega,fun P n S acc ρ j hacc=>?_⟩
    rw [List.length_cons] at hacc
    obtain ⟨ρ1,ρ2,e1,e2,j2⟩:=ea P n S acc ρ j (by omega)
    obtain ⟨ρ',e3,j3⟩:=ih P n S (acc++[pv a]) ρ2 j2 (by simp; omega)
    exact ⟨ρ',for_step e1 e2 e3,by simpa using j3⟩
theorem sum0 {α:Type}:∀ as:List α,(as.map fun _=>(0:Nat)).sum=0
  | []=>rfl
  | a::as=>by rw [List.map_cons,List.sum_cons,sum0 as]
noncomputable abbrev Bx:=Str × Nat × PV
noncomputable abbrev bxP (b:Bx):PV:=.tup [.str b.1,.int (b.2.1:Nat),b.2.2]
noncomputable abbrev grP (g:Str × Str × Str):PV:=.tup [.str g.1,.str g.2.1,.str g.2.2]
noncomputable abbrev GE (n:Nat) (xs:List Str) (o3 o4 o5 o6 o7 o8 o9 o10 o11 o12 o13 o14 o15 o16:Option Lc) (mu:Mu):Ev:=⟨[some (.sh (.ptr n)),some (.sh RK),some (.sh (.lst (xs.map .str))),o3,o4,o5,o6,o7,o8,o9,o10,o11,o12,o13,o14,o15,o16],mu⟩
noncomputable abbrev GB (n:Nat) (xs:List Str) (bx:List PV) (o4:Option Lc) (mu:Mu):Ev:=GE n xs (some (.own (.lst bx))) o4 none none none none none none none none none none none none mu
noncomputable abbrev GG (n:Nat) (xs:List Str) (bx gr:List PV) (o4 o6:Option Lc) (mu:Mu):Ev:=GE n xs (some (.own (.lst bx))) o4 (some (.own (.lst gr))) o6 none none none none none none none none none none mu
noncomputable abbrev bxB:SF:=(sApp 3 (eTup (aCons (eIx (eVar 2) (eOp addP (eC (.int 1)) (eVar 4))) (aCons (eB max2 (aCons (eC (.int 0)) (aCons (eOp subP (eCall m__law_next (aCons (eVar 0) (aCons (eC (.int 13)) aNil))) (eC (.int 4))) aNil))) (aCons (eCall m__law_rank (aCons (eVar 0) (aCons (eVar 1) aNil))) aNil)))))
noncomputable abbrev grB:SF:=(sSeq (sSet 6 (eIx (eVar 1) (eCall m__law_next (aCons (eVar 0) (aCons (eB len1 (aCons (eVar 1) aNil)) aNil)))))
    (sApp 5 (eTup (aCons (eIx (eVar 2) (eOp modP (eOp mulP (eC (.int 5)) (eVar 4)) (eC (.int 24)))) (aCons (eVar 6) (aCons (eIx (eVar 1) (eCall m__law_next (aCons (eVar 0) (aCons (eB len1 (aCons (eVar 1) aNil)) aNil)))) aNil))))))
noncomputable def Few (m:Nat) (x:PV):Prop:=∃ i:Nat,i < m/\x=.int (0 + (i:Int))
theorem box_draw {xs:List Str} (hn:LS ns) (hx:xs.length=24) (m:Nat) (hm:m<=12) {k c:Int} (hk:0<=k) (hc:0<=c) (hM:c<=M) (h40:M<=40) (hb:k<=1000000):∃ (as:List Bx) (k':Int),as.length=m/\(∀ a ∈ as,Fx 1 a.2.2)/\k<=k'/\k'<=k + 3 * m/\∀ P n,Spot P n->∀ acc o4,acc.length<=100->∃ p4,forP (bName 4) bxB (rngP 0 m) (GB n xs acc o4 (P (pen ns M k c)))=some (.nx (GB n xs (acc++as.map bxP) p4 (P (pen ns M k' c)))):=by
  obtain ⟨as,k',c',hl,hg,ka,cc,cm,kb,e⟩:=loop_draw (ns:=ns) (M:=M) bxP (Few 12) (fun a:Bx=>Fx 1 a.2.2) (fun _=>0) 3 (by decide) (bName 4) bxB (fun n acc mu ρ=>∃ o4,ρ=GB n xs acc o4 mu) 2000000 (by
    rintro x ⟨i,hi,rfl⟩ k c hk hc hM hb
    obtain ⟨x,ex⟩:=str_at (xs:=xs) (i:=1 + i) (by omega)
    obtain ⟨r,r0,r1,er⟩:=nx_go (ns:=ns) (M:=M) (m:=13) (k:=k) hn (by omega) (by omega) (by decide)
    obtain ⟨y,k2,hy,ka,kb,ey⟩:=rank_go (ns:=ns) (M:=M) (k:=k + 1) hn (by omega) (by omega)
    refine ⟨(x,(max 0 (r - 4)).toNat,y),k2,c,hy,by omega,by simp,hM,by simp; omega,fun P n S acc ρ hJ hacc=>?_⟩
    obtain ⟨o4,rfl⟩:=hJ
    let G:Int->Ev:=fun k=>GB n xs acc (some (.sh (.int (0 + (i:Int))))) (P (pen ns M k c))
    have sz:(((max 0 (r - 4)).toNat:Nat):Int)=(if r - 4 > 0 then r - 4 else 0):=by split <;> omega
    refine ⟨G k,GB n xs (acc++[bxP (x,(max 0 (r - 4)).toNat,y)]) (some (.sh (.int (0 + (i:Int))))) (P (pen ns M k2 c)),rfl,?_,_,rfl⟩
    have mx:eB max2 (aCons (eC (.int 0)) (aCons (eOp subP (eCall m__law_next (aCons (eVar 0) (aCons (eC (.int 13)) aNil))) (eC (.int 4))) aNil)) (G k)=some (.sh (.int (((max 0 (r - 4)).toNat:Nat):Int)),G (k + 1)):=by
      rw [sz]
      exact b_go (ls:=[.sh (.int 0),.sh (.int (r - 4))]) (ps:=[.int 0,.int (r - 4)]) (cons_go (ρ1:=G k) rfl (cons_go (eOp_eq (x:=.sh (.int r)) (y:=.sh (.int 4)) (er P n c S (eVar 0) (eC (.int 13)) (G k).vs rfl rfl) rfl rfl) rfl)) rfl rfl
    have ix:eIx (eVar 2) (eOp addP (eC (.int 1)) (eVar 4)) (G k)=some (.sh (.str x),G k):=by
      refine ix_go (p:=.lst (xs.map .str)) (q:=.int (1 + (0 + (i:Int)))) (l:=.sh (.lst (xs.map .str))) (m:=.sh (.int (1 + (0 + (i:Int))))) (ρ1:=G k) rfl rfl rfl rfl (fun n h=>by cases h) ?_
      rw [show (1:Int) + (0 + (i:Int))=((1 + i:Nat):Int) from by omega]
      exact ex
    exact app_go (ws0:=acc) (ws:=acc) (l:=.sh (bxP (x,(max 0 (r - 4)).toNat,y))) (ρ1:=G k2) rfl (tup_go (ls:=[.sh (.str x),.sh (.int (((max 0 (r - 4)).toNat:Nat):Int)),.sh y]) (cons_go ix (cons_go mx (cons_go (ey P n c S (eVar 0) (eVar 1) (G k).vs (fun _=>rfl) (fun _=>rfl)) rfl))) rfl rfl) rfl rfl (by omega) rfl) (rngP 0 m) k c (fun x hx=>by
      obtain ⟨i,hi,rfl⟩:=mem_rng hx
      exact ⟨i,by omega,rfl⟩) hk hc hM (by rw [len_rng]; omega)
  rw [sum0] at cc kb
  rw [len_rng] at hl kb
  have:c'=c:=by omega
  subst this
  refine ⟨as,k',hl,hg,ka,by omega,fun P n S acc o4 hacc=>?_⟩
  obtain ⟨ρ',e1,p4,rfl⟩:=e P n S acc _ ⟨o4,rfl⟩ (by rw [len_rng]; omega)
  exact ⟨p4,e1⟩
theorem grant_draw {xs:List Str} (bx:List PV) (hn:LS ns) (hx:xs.length=24) (m:Nat) (hm:m<=12) {k c:Int} (hk:0<=k) (hc:0<=c) (hM:c<=M) (h40:M<=40) (hb:k<=1000000):∃ (as:List (Str × Str × Str)) (k':Int),as.length=m/\k<=k'/\k'<=k + 3 * m/\∀ P n,Spot P n->∀ o4,∃ p4 p6,forP (bName 4) grB (rngP 0 m) (GG n xs bx [] o4 none (P (pen ns M k c)))=some (.nx (GG n xs bx (as.map grP) p4 p6 (P (pen ns M k' c)))):=by
  obtain ⟨as,k',c',hl,hg,ka,cc,cm,kb,e⟩:=loop_draw (ns:=ns) (M:=M) grP (Few 12) (fun a:Str × Str × Str=>True) (fun _=>0) 3 (by decide) (bName 4) grB (fun n acc mu ρ=>∃ o4 o6,ρ=GG n xs bx acc o4 o6 mu) 2000000 (by
    rintro x ⟨i,hi,rfl⟩ k c hk hc hM hb
    obtain ⟨q,hq⟩:∃ q:Nat,5 * (0 + (i:Int)) % 24=(q:Int):=⟨(5 * (0 + (i:Int)) % 24).toNat,by omega⟩
    obtain ⟨x,ex⟩:=str_at (xs:=xs) (i:=q) (by omega)
    obtain ⟨y,ey⟩:=rk_pick (ns:=ns) (M:=M) (k:=k) hn (by omega) (by omega)
    obtain ⟨z,ez⟩:=rk_pick (ns:=ns) (M:=M) (k:=k + 1) hn (by omega) (by omega)
    refine ⟨(x,y,z),k + 1 + 1,c,trivial,by omega,by simp,hM,by simp; omega,fun P n S acc ρ hJ hacc=>?_⟩
    obtain ⟨o4,o6,rfl⟩:=hJ
    let G:Option Lc->Int->Ev:=fun o6 k=>GG n xs bx acc (some (.sh (.int (0 + (i:Int))))) o6 (P (pen ns M k c))
    refine ⟨G o6 k,GG n xs bx (acc++[grP (x,y,z)]) (some (.sh (.int (0 + (i:Int))))) (some (.sh (.str y))) (P (pen ns M (k + 1 + 1) c)),rfl,?_,_,_,rfl⟩
    have ix:eIx (eVar 2) (eOp modP (eOp mulP (eC (.int 5)) (eVar 4)) (eC (.int 24))) (G (some (.sh (.str y))) (k + 1))=some (.sh (.str x),G (some (.sh (.str y))) (k + 1)):=by
      refine ix_go (p:=.lst (xs.map .str)) (q:=.int (5 * (0 + (i:Int)) % 24)) (l:=.sh (.lst (xs.map .str))) (m:=.sh (.int (5 * (0 + (i:Int)) % 24))) (ρ1:=G (some (.sh (.str y))) (k + 1)) rfl rfl (eOp_eq (eOp_eq rfl rfl (mulP_l (by decide) (by decide))) rfl (modP_int (by decide))) rfl (fun n h=>by cases h) ?_
      rw [hq]
      exact ex
    refine seq_go (ρ':=G (some (.sh (.str y))) (k + 1)) (set_go (ey P n c S _) rfl rfl) ?_
    exact app_go (ws0:=acc) (ws:=acc) (l:=.sh (grP (x,y,z))) (ρ1:=G (some (.sh (.str y))) (k + 1 + 1)) rfl (tup_go (ls:=[.sh (.str x),.sh (.str y),.sh (.str z)]) (cons_go ix (cons_go (ρ1:=G (some (.sh (.str y))) (k + 1)) rfl (cons_go (ez P n c S _) rfl))) rfl rfl) rfl rfl (by omega) rfl) (rngP 0 m) k c (fun x hx=>by
      obtain ⟨i,hi,rfl⟩:=mem_rng hx
      exact ⟨i,by omega,rfl⟩) hk hc hM (by rw [len_rng]; omega)
  rw [sum0] at cc kb
  rw [len_rng] at hl kb
  have:c'=c:=by omega
  subst this
  refine ⟨as,k',hl,ka,by omega,fun P n S o4=>?_⟩
  obtain ⟨ρ',e1,p4,p6,rfl⟩:=e P n S [] _ ⟨o4,none,rfl⟩ (by rw [len_rng]; simp; omega)
  exact ⟨p4,p6,by simpa using e1⟩
variable {ns:List Int} {M:Int}
theorem comp_pick {mu:Mu} {α:Type} (g:α->PV) (nm:α->Str) (c:α->Bool) (tc:TF) (te:EF) (m:Nat) (bf:BF) (Z:PV->List (Option Lc)->List (Option Lc)) (hb:∀ a vs,vs.length=m->bf (g a) ⟨vs,mu⟩=some ⟨Z (g a) vs,mu⟩/\(Z (g a) vs).length=m) (ht:∀ a vs,vs.length=m->tc ⟨Z (g a) vs,mu⟩=some (c a,⟨Z (g a) vs,mu⟩)) (he:∀ a vs,vs.length=m->te ⟨Z (g a) vs,mu⟩=some (.sh (.str (nm a)),⟨Z (g a) vs,mu⟩)):
    ∀ (as:List α) (vs:List (Option Lc)) (acc:List PV),vs.length=m->acc.length + as.length<=1000->compP bf tc te (as.map g) ⟨vs,mu⟩ acc=some (acc++((as.filter c).map nm).map .str,mu)
  | [],vs,acc,_,_=>by simp [compP]
  | a::as,vs,acc,hv,hl=>by
    rw [List.length_cons] at hl
    obtain ⟨e1,l1⟩:=hb a vs hv
    show (bf (g a) ⟨vs,mu⟩).bind _=_
    rw [e1,Option.bind_some]
    show (tc ⟨Z (g a) vs,mu⟩).bind _=_
    rw [ht a vs hv,Option.bind_some]
    cases h:c a with
    | false=>
      show compP bf tc te (as.map g) ⟨Z (g a) vs,mu⟩ acc=_
      rw [comp_pick g nm c tc te m bf Z hb ht he as _ acc l1 (by omega),List.filter_cons_of_neg (by simp [h])]
    | true=>
      show (te ⟨Z (g a) vs,mu⟩).bind _=_
      rw [he a vs hv,Option.bind_some,if_pos (by omega)]
      show compP bf tc te (as.map g) ⟨Z (g a) vs,mu⟩ (acc++[.str (nm a)])=_
      rw [comp_pick g nm c tc te m bf Z hb ht he as _ _ l1 (by simp; omega),List.filter_cons_of_pos (by simp [h])]
      simp
theorem one_len {vs:List (Option Lc)} (h:vs.length=1):∃ o,vs=[o]:=by
  match vs,h with
  | [o],_=>exact ⟨o,rfl⟩
theorem comp_one {mu:Mu} {α:Type} (g:α->PV) (nm:α->Str) (c:α->Bool) (tc:TF) (te:EF) (ht:∀ a,tc ⟨[some (.sh (g a))],mu⟩=some (c a,⟨[some (.sh (g a))],mu⟩)) (he:∀ a,te ⟨[some (.sh (g a))],mu⟩=some (.sh (.str (nm a)),⟨[some (.sh (g a))],mu⟩)) (as:List α) (h:as.length<=1000):compP (bName 0) tc te (as.map g) ⟨[none],mu⟩ []=some (((as.filter c).map nm).map .str,mu):=by
  have:=comp_pick (mu:=mu) g nm c tc te 1 (bName 0) (fun p _=>[some (.sh p)]) (fun a vs hv=>by obtain ⟨o,rfl⟩:=one_len hv; exact ⟨rfl,rfl⟩) (fun a vs _=>ht a) (fun a vs _=>he a) as [none] [] rfl (by simpa using h)
  simpa using this
theorem called_eq {mu:Mu} {hs:List (Str × List Str)} (h:hs.length<=100):compP (bSeq 2 (bCons (bName 0) (bCons (bName 1) bNil))) cTrue (eTup (aCons (eVar 0) (aCons (eB len1 (aCons (eVar 1) aNil)) aNil))) (hs.map hdP) ⟨[none,none],mu⟩ []=some ((hs.map fun h=>(h.1,h.2.length)).map fun x=>.tup [.str x.1,.int (x.2:Nat)],mu):=by
  have go:∀ (hs:List (Str × List Str)) (a b:Option Lc) (acc:List PV),acc.length + hs.length<=1000->compP (bSeq 2 (bCons (bName 0) (bCons (bName 1) bNil))) cTrue (eTup (aCons (eVar 0) (aCons (eB len1 (aCons (eVar 1) aNil)) aNil))) (hs.map hdP) ⟨[a,b],mu⟩ acc=some (acc++(hs.map fun h=>(h.1,h.2.length)).map fun x=>.tup [.str x.1,.int (x.2:Nat)],mu):=fun hs=>by
    induction hs with
    | nil=>intro a b acc _; simp [compP]
    | cons h hs ih=>
      intro a b acc hl
      rw [List.length_cons] at hl
      have e:eB len1 (aCons (eVar 1) aNil) ⟨[some (.sh (.str h.1)),some (.sh (.lst (h.2.map .str)))],mu⟩=some (.sh (.int (h.2.length:Nat)),⟨[some (.sh (.str h.1)),some (.sh (.lst (h.2.map .str)))],mu⟩):=by
        refine b_go (ls:=[.sh (.lst (h.2.map .str))]) (ps:=[.lst (h.2.map .str)]) rfl rfl ?_
        show some (Lc.sh (.int ((h.2.map PV.str).length:Nat)))=_
        rw [List.length_map]
      refine comp_step1 (ρ1:=⟨[some (.sh (.str h.1)),some (.sh (.lst (h.2.map .str)))],mu⟩) (l:=.sh (.tup [.str h.1,.int (h.2.length:Nat)])) rfl (tup_go (ls:=[.sh (.str h.1),.sh (.int (h.2.length:Nat))]) (cons_go rfl (cons_go e rfl)) rfl rfl) (by omega) ?_
      rw [ih _ _ _ (by simp; omega)]
      simp
      rfl
  simpa using go hs none none [] (by simp; omega)
noncomputable def ow:Bool->PV->Lc
  | true,p=>.own p
  | false,p=>.sh p
noncomputable abbrev FE (n:Nat) (xs:List Str) (bx gr hd:PV) (p4 p6:Option Lc) (b:Bool) (K:Kn) (acc:List PV) (o13 o14 o15 o16:Option Lc) (mu:Mu):Ev:=GE n xs (some (.sh bx)) p4 (some (.sh gr)) p6 (some (.sh hd)) (some (ow b (.lst (K.a.map .str)))) (some (ow b (.lst (K.b.map .str)))) (some (ow b (.lst (K.c.map .str)))) (some (ow b (.lst K.ca))) (some (.own (.lst acc))) o13 o14 o15 o16 mu
noncomputable abbrev Kn.fn (K:Kn) (nm:Str) (ps:List Str):Kn:=⟨K.a++[nm]++ps,K.b,K.c,K.d⟩
theorem addL {a b:List PV} (h:a.length + b.length<=1000):addP (.lst a) (.lst b)=some (.own (.lst (a++b))):=by
  show (if a.length + b.length<=100000 then _ else _)=_
  rw [if_pos (by omega)]
noncomputable abbrev knE:EF:=eLst (aCons (eOp addP (eOp addP (eVar 8) (eLst (aCons (eVar 13) aNil))) (eVar 14)) (aCons (eVar 9) (aCons (eVar 10) (aCons (eVar 11) aNil))))
noncomputable abbrev kmE:EF:=eLst (aCons (eVar 8) (aCons (eVar 9) (aCons (eVar 10) (aCons (eVar 11) aNil))))
variable {n:Nat} {xs ps:List Str} {bx gr hd:PV} {p4 p6 o13 o14 o15 o16:Option Lc} {b:Bool} {K:Kn} {acc:List PV} {nm:Str} {mu:Mu}
theorem kn_go (hl:K.a.length<=100) (hp:ps.length<=100):knE (FE n xs bx gr hd p4 p6 b K acc (some (.sh (.str nm))) (some (.sh (.lst (ps.map .str)))) o15 o16 mu)=some (.own (K.fn nm ps).pv,FE n xs bx gr hd p4 p6 false K acc (some (.sh (.str nm))) (some (.sh (.lst (ps.map .str)))) o15 o16 mu):=by
  have e:PV.lst (K.a.map .str++[.str nm]++ps.map .str)=.lst ((K.fn nm ps).a.map .str):=by simp
  have l1:(K.a.map PV.str).length + ([PV.str nm]:List PV).length<=1000:=by simp; omega
  have l2:(K.a.map PV.str++[PV.str nm]).length + (ps.map PV.str).length<=1000:=by simp; omega
  cases b <;> exact lst_go (ls:=[.own (.lst (K.a.map PV.str++[PV.str nm]++ps.map PV.str)),.sh (.lst (K.b.map .str)),.sh (.lst (K.c.map .str)),.sh (.lst K.ca)]) (cons_go (eOp_eq (x:=.own (.lst (K.a.map PV.str++[PV.str nm]))) (y:=.sh (.lst (ps.map PV.str))) (eOp_eq (x:=.sh (.lst (K.a.map PV.str))) (y:=.own (.lst [PV.str nm])) rfl rfl (addL l1)) rfl (addL l2)) (cons_go rfl (cons_go rfl (cons_go rfl rfl)))) rfl (by rw [← e]; rfl)
theorem km_go:kmE (FE n xs bx gr hd p4 p6 b K acc o13 o14 o15 o16 mu)=some (.own K.pv,FE n xs bx gr hd p4 p6 false K acc o13 o14 o15 o16 mu):=by
  cases b <;> exact lst_go (ls:=[.sh (.lst (K.a.map .str)),.sh (.lst (K.b.map .str)),.sh (.lst (K.c.map .str)),.sh (.lst K.ca)]) rfl rfl rfl
noncomputable abbrev fnB:SF:=(sSeq (sSet 15 (eCall (m__law_rows 40) (aCons (eVar 0) (aCons (eC (.int 0)) (aCons knE (aCons (eC (.int 5)) aNil))))))
    (sSeq (sSet 16 (eComp (iOf (eVar 14) walkP) 1 [0,1] (bName 0) cTrue (eTup (aCons (eVar 0) (aCons (eCall m__law_rank (aCons (eVar 1) (aCons (eVar 2) aNil))) aNil)))))
    (sApp 12 (eTup (aCons (eVar 13) (aCons (eCall m__law_rank (aCons (eVar 0) (aCons (eVar 1) aNil))) (aCons (eVar 16) (aCons (eVar 15) aNil))))))))
structure Fn.fine (f:Fn):Prop where
  ok:f.rows.ok
  pn:f.rows.pns
  dp:f.rows.dep<=10
  rk:Fx 1 f.rank
  pr:∃ as,f.params=.lst as/\∀ a ∈ as,Fx 2 a
theorem told_go (hn:LS ns) {ps:List Str} {k:Int} (hp:ps.length<=24) (h0:0<=k) (h1:k < 4000000):∃ (as:List PV) (k':Int),(∀ a ∈ as,Fx 2 a)/\k<=k'/\k'<=k + 48/\∀ P n c,Spot P n->∀ o,compP (bName 0) cTrue (eTup (aCons (eVar 0) (aCons (eCall m__law_rank (aCons (eVar 1) (aCons (eVar 2) aNil))) aNil))) (ps.map .str) ⟨[o,some (.sh (.ptr n)),some (.sh RK)],P (pen ns M k c)⟩ []=some (as,P (pen ns M k' c)):=by
  obtain ⟨as,k',hg,ka,kb,e⟩:=comp_drawE (ns:=ns) (M:=M) (fun x=>∃ s,x=.str s) (Fx 2) 2 (by decide) (eTup (aCons (eVar 0) (aCons (eCall m__law_rank (aCons (eVar 1) (aCons (eVar 2) aNil))) aNil))) (fun n=>[some (.sh (.ptr n)),some (.sh RK)]) 5000000 (by
    rintro x ⟨s,rfl⟩ k h0 h1
    obtain ⟨p,k',fx,ka,kb,e⟩:=rank_go (ns:=ns) (M:=M) (k:=k) hn h0 (by omega)
    refine ⟨.tup [.str s,p],k',fx2 fx_str fx,ka,kb,fun P n c S=>?_⟩
    exact tup_go (ls:=[.sh (.str s),.sh p]) (cons_go (ρ1:=⟨[some (.sh (.str s)),some (.sh (.ptr n)),some (.sh RK)],P (pen ns M k c)⟩) rfl (cons_go (e P n c S (eVar 1) (eVar 2) [some (.sh (.str s)),some (.sh (.ptr n)),some (.sh RK)] (fun _=>rfl) (fun _=>rfl)) rfl)) rfl rfl) (ps.map .str) k (fun x hx=>strs_mem hx) h0 (by rw [List.length_map]; omega)
  rw [List.length_map] at kb
  exact ⟨as,k',hg,ka,by omega,fun P n c S o=>by simpa using e P n c S o [] (by simp; omega)⟩
theorem fn_step (hn:LS ns) (hM:M<=40) (hl:K.a.length<=100) (ha:K.a ≠ []) (hd':∀ x ∈ K.d,x.2<=24) {h:Str × List Str} (hp:h.2.length<=24) {k c:Int} (hk:0<=k) (hc:0<=c) (hcM:c<=M) (hb:k<=1000000 + 1000 * c):∃ (f:Fn) (k' c':Int),f.fine/\k<=k'/\c'=c + (f.rows.cnt:Int)/\c'<=M/\k'<=k + 51 + 1000 * (f.rows.cnt:Int)/\∀ P n,Spot P n->∀ p4 p6 b acc o15 o16,acc.length < 1000->∃ p15 p16,fnB (FE n xs bx gr hd p4 p6 b K acc (some (.sh (.str h.1))) (some (.sh (.lst (h.2.map .str)))) o15 o16 (P (pen ns M k c)))=some (.nx (FE n xs bx gr hd p4 p6 false K (acc++[f.pv]) (some (.sh (.str h.1))) (some (.sh (.lst (h.2.map .str)))) p15 p16 (P (pen ns M k' c')))):=by
  obtain ⟨rs,k1,c1,er,okr,pnr,dr,cr,cm,ka,kb⟩:=rows_top (ns:=ns) (M:=M) (K:=K.fn h.1 h.2) (most:=5) (k:=k) (c:=c) hn ⟨by simp,hd'⟩ hM (by decide) (by decide) hk hc hcM (by omega)
  obtain ⟨as,k2,hg,ka2,kb2,et⟩:=told_go (ns:=ns) (M:=M) (ps:=h.2) (k:=k1) hn hp (by omega) (by omega)
  obtain ⟨p,k3,fx,ka3,kb3,ep⟩:=rank_go (ns:=ns) (M:=M) (k:=k2) hn (by omega) (by omega)
  refine ⟨⟨h.1,p,.lst as,rs⟩,k3,c1,⟨okr,pnr,dr,fx,as,rfl,hg⟩,by omega,cr,cm,by show k3<=k + 51 + 1000 * (rs.cnt:Int); omega,fun P n S p4 p6 b acc o15 o16 hacc=>?_⟩
  let F:Bool->Option Lc->Option Lc->Int->Int->Ev:=fun b o15 o16 k c=>FE n xs bx gr hd p4 p6 b K acc (some (.sh (.str h.1))) (some (.sh (.lst (h.2.map .str)))) o15 o16 (P (pen ns M k c))
  let R:=some (Lc.own (.lst rs.pvs))
  have s1:sSet 15 (eCall (m__law_rows 40) (aCons (eVar 0) (aCons (eC (.int 0)) (aCons knE (aCons (eC (.int 5)) aNil))))) (F b o15 o16 k c)=some (.nx (F false R o16 k1 c1)):=
    set_go (call_go (ps:=[.ptr n,.int 0,(K.fn h.1 h.2).pv,.int 5]) (ls:=[.sh (.ptr n),.sh (.int 0),.own (K.fn h.1 h.2).pv,.sh (.int 5)]) (ρ1:=F false o15 o16 k c) (cons_go (ρ1:=F b o15 o16 k c) rfl (cons_go (ρ1:=F b o15 o16 k c) rfl (cons_go (kn_go hl (by omega)) rfl))) rfl rfl rfl (er P n S)) rfl rfl
  have s2:sSet 16 (eComp (iOf (eVar 14) walkP) 1 [0,1] (bName 0) cTrue (eTup (aCons (eVar 0) (aCons (eCall m__law_rank (aCons (eVar 1) (aCons (eVar 2) aNil))) aNil)))) (F false R o16 k1 c1)=some (.nx (F false R (some (.own (.lst as))) k2 c1)):=
    set_go ((eComp_eq (m:=1) (ixs:=[0,1]) (iof_go (l:=.sh (.lst (h.2.map .str))) (ρ1:=F false R o16 k1 c1) rfl rfl rfl) (et P n c1 S none)).trans rfl) rfl rfl
  refine ⟨some (.sh (.lst rs.pvs)),some (.sh (.lst as)),seq_go s1 (seq_go s2 (app_go (ws0:=acc) (ws:=acc) (l:=.sh (Fn.pv ⟨h.1,p,.lst as,rs⟩)) (ρ1:=F false (some (.sh (.lst rs.pvs))) (some (.sh (.lst as))) k3 c1) rfl ?_ rfl rfl (by omega) rfl))⟩
  exact tup_go (ls:=[.sh (.str h.1),.sh p,.sh (.lst as),.sh (.lst rs.pvs)]) (cons_go (ρ1:=F false R (some (.own (.lst as))) k2 c1) rfl (cons_go (ep P n c1 S (eVar 0) (eVar 1) (F false R (some (.own (.lst as))) k2 c1).vs (fun _=>rfl) (fun _=>rfl)) (cons_go rfl (cons_go rfl rfl)))) rfl rfl
theorem fcnt_sum:∀ fs:List Fn,(fs.map fun f=>f.rows.cnt).sum=fcnt fs
  | []=>rfl
  | f::fs=>by rw [List.map_cons,List.sum_cons,fcnt_sum fs]; rfl
theorem fn_draw (hn:LS ns) (hM:M<=40) (hl:K.a.length<=100) (ha:K.a ≠ []) (hd':∀ x ∈ K.d,x.2<=24) {hs:List (Str × List Str)} (hh:hs.length<=12) (hp:∀ h ∈ hs,h.2.length<=24) {k:Int} (hk:0<=k) (h0:0<=M) (hb:k<=100000):∃ (fs:List Fn) (k' c':Int),(∀ f ∈ fs,f.fine)/\k<=k'/\c'=(fcnt fs:Int)/\c'<=M/\k'<=200000/\∀ P n,Spot P n->∀ p4 p6 b,∃ q4 q6 b' p13 p14 p15 p16,forP (bSeq 2 (bCons (bName 13) (bCons (bName 14) bNil))) fnB (hs.map hdP) (FE n xs bx gr hd p4 p6 b K [] none none none none (P (pen ns M k 0)))=some (.nx (FE n xs bx gr hd q4 q6 b' K (fs.map Fn.pv) p13 p14 p15 p16 (P (pen ns M k' c')))):=by
  obtain ⟨fs,k',c',fl,hg,ka,cc,cm,kb,e⟩:=loop_draw (ns:=ns) (M:=M) Fn.pv (fun x=>∃ h:Str × List Str,x=hdP h/\h.2.length<=24) Fn.fine (fun f=>f.rows.cnt) 51 (by decide) (bSeq 2 (bCons (bName 13) (bCons (bName 14) bNil))) fnB (fun n acc mu ρ=>∃ p4 p6 b o13 o14 o15 o16,ρ=FE n xs bx gr hd p4 p6 b K acc o13 o14 o15 o16 mu) 1000000 (by
    rintro x ⟨h,rfl,hp⟩ k c hk hc hcM hb
    obtain ⟨f,k',c',g,ka,cc,cm,kb,e⟩:=fn_step (ns:=ns) (M:=M) (xs:=xs) (bx:=bx) (gr:=gr) (hd:=hd) hn hM hl ha hd' hp hk hc hcM hb
    refine ⟨f,k',c',g,ka,cc,cm,kb,?_⟩
    rintro P n S acc ρ ⟨p4,p6,b,o13,o14,o15,o16,rfl⟩ hacc
    obtain ⟨p15,p16,e'⟩:=e P n S p4 p6 b acc o15 o16 hacc
    exact ⟨FE n xs bx gr hd p4 p6 b K acc (some (.sh (.str h.1))) (some (.sh (.lst (h.2.map .str)))) o15 o16 (P (pen ns M k c)),_,rfl,e',_,_,false,_,_,_,_,rfl⟩) (hs.map hdP) k 0 (fun x hx=>by
      obtain ⟨h,hm,rfl⟩:=List.mem_map.mp hx
      exact ⟨h,rfl,hp h hm⟩) hk (by decide) h0 (by rw [List.length_map]; omega)
  rw [fcnt_sum] at cc kb
  rw [List.length_map] at kb
  refine ⟨fs,k',c',hg,ka,by omega,cm,by omega,fun P n S p4 p6 b=>?_⟩
  obtain ⟨ρ',e1,q4,q6,b',o13,o14,o15,o16,rfl⟩:=e P n S [] _ ⟨p4,p6,b,none,none,none,none,rfl⟩ (by simp; omega)
  exact ⟨q4,q6,b',o13,o14,o15,o16,by simpa using e1⟩
variable {ns:List Int} {M:Int}
theorem choice {qs:List Int} {m:Nat} {fl:EF} {k:Int} (hm:qs.length=m) (h1m:0 < m) (hf:∀ ρ,fl ρ=some (.own (.lst (qs.map .int)),ρ)) (hn:LS ns) (h0:0<=k) (h1:k < 90000000):∃ q ∈ qs,∀ P n c,Spot P n->∀ vs,eIx fl (eCall m__law_next (aCons (eVar 0) (aCons (eC (.int (m:Nat))) aNil))) ⟨some (.sh (.ptr n))::vs,P (pen ns M k c)⟩=some (.sh (.int q),⟨some (.sh (.ptr n))::vs,P (pen ns M (k + 1) c)⟩):=by
  obtain ⟨r,r0,r1,er⟩:=nx_go (ns:=ns) (M:=M) (m:=(m:Nat)) hn h0 (by omega) (by omega)
  obtain ⟨p,h2,h3⟩:=atI_some (l:=qs.map PV.int) (i:=r) r0 (by rw [List.length_map,hm]; exact r1)
  rw [List.getElem?_map] at h3
  obtain ⟨q,hq,rfl⟩:=map_some h3
  refine ⟨q,List.mem_of_getElem? hq,fun P n c S vs=>ix_go (p:=.lst (qs.map .int)) (q:=.int r) (l:=.own (.lst (qs.map .int))) (m:=.sh (.int r)) (hf _) rfl (er P n c S (eVar 0) (eC (.int (m:Nat))) (some (.sh (.ptr n))::vs) rfl rfl) rfl (fun n h=>by cases h) ?_⟩
  show (atI (qs.map PV.int) r).map _=_
  rw [h2]
  rfl
theorem rng_draw {qs:List Int} {m:Nat} {fl:EF} {k:Int} (hm:qs.length=m) (h1m:0 < m) (hf:∀ ρ,fl ρ=some (.own (.lst (qs.map .int)),ρ)) (hq:∀ q ∈ qs,0 < q/\q<=12) (hn:LS ns) (h0:0<=k) (h1:k < 80000000):∃ t:Nat,t<=11/\∀ P n c,Spot P n->∀ vs,iRange1 (aCons (eCall m__law_next (aCons (eVar 0) (aCons (eIx fl (eCall m__law_next (aCons (eVar 0) (aCons (eC (.int (m:Nat))) aNil)))) aNil))) aNil) ⟨some (.sh (.ptr n))::vs,P (pen ns M k c)⟩=some (rngP 0 t,⟨some (.sh (.ptr n))::vs,P (pen ns M (k + 1 + 1) c)⟩):=by
  obtain ⟨q,hqm,eq⟩:=choice (ns:=ns) (M:=M) hm h1m hf hn h0 (by omega)
  have:=hq q hqm
  obtain ⟨r,r0,r1,er⟩:=next_eq (ns:=ns) (M:=M) (m:=q) (k:=k + 1) hn (by omega) (by omega) this.1
  exact ⟨r.toNat,by omega,fun P n c S vs=>iRange1_eq (l:=.sh (.int r)) (n:=r) (cons_go (call_go (ps:=[.ptr n,.int q]) (ls:=[.sh (.ptr n),.sh (.int q)]) (ρ1:=⟨some (.sh (.ptr n))::vs,P (pen ns M (k + 1) c)⟩) (cons_go (ρ1:=⟨some (.sh (.ptr n))::vs,P (pen ns M k c)⟩) rfl (cons_go (eq P n c S vs) rfl)) rfl rfl rfl (er P n c S)) rfl) rfl (by omega) (by omega)⟩
structure Pg.fine (P:Pg):Prop where
  bx:∀ p ∈ P.boxes,Fx 2 p
  gr:∀ p ∈ P.grants,Fx 2 p
  fn:∀ f ∈ P.fns,f.fine
  ok:P.rows.ok
  pn:P.rows.pns
  dp:P.rows.dep<=10
  ct:fcnt P.fns + P.rows.cnt<=40
  one:∃ x ps bs,P.boxes=.tup (.str x::ps)::bs
theorem all_map {α:Type} {g:α->PV} {Q:PV->Prop} {as:List α} (h:∀ a ∈ as,Q (g a)):∀ p ∈ as.map g,Q p:=fun p hp=>by
  obtain ⟨a,ha,rfl⟩:=List.mem_map.mp hp
  exact h a ha
theorem program_eq (hn:LS ns) (h0:0<=M) (hM:M<=40):∃ (G:Pg) (k' c':Int),G.fine/\∀ P n,Spot P n->m__law_program [.ptr n,RK] (P (pen ns M 1 0))=some (.sh (G.pvx (.ptr (P (pen ns M k' c')).length)),P (pen ns M k' c')++[some (.lst G.rows.pvs)]):=by
  obtain ⟨xs,k1,hx,ka1,kb1,en⟩:=names_eq (ns:=ns) (M:=M) (k:=1) hn (by decide) (by decide)
  obtain ⟨x0,ex0⟩:=str_at (xs:=xs) (i:=0) (by omega)
  obtain ⟨r0,k2,fx0,ka2,kb2,er0⟩:=rank_go (ns:=ns) (M:=M) (k:=k1) hn (by omega) (by omega)
  obtain ⟨t1,ht1,et1⟩:=rng_draw (ns:=ns) (M:=M) (qs:=[3,3,3,12]) (m:=4) (fl:=eLst (aCons (eC (.int 3)) (aCons (eC (.int 3)) (aCons (eC (.int 3)) (aCons (eC (.int 12)) aNil))))) (k:=k2) rfl (by decide) (fun _=>rfl) (by decide) hn (by omega) (by omega)
  obtain ⟨bs,k3,hbl,hbg,ka3,kb3,eb⟩:=box_draw (ns:=ns) (M:=M) (xs:=xs) hn hx t1 (by omega) (k:=k2 + 1 + 1) (c:=0) (by omega) (by decide) h0 hM (by omega)
  let b0:Bx:=(x0,0,r0)
  let BX:=(b0::bs).map bxP
  obtain ⟨t2,ht2,et2⟩:=rng_draw (ns:=ns) (M:=M) (qs:=[2,3,7]) (m:=3) (fl:=eLst (aCons (eC (.int 2)) (aCons (eC (.int 3)) (aCons (eC (.int 7)) aNil)))) (k:=k3) rfl (by decide) (fun _=>rfl) (by decide) hn (by omega) (by omega)
  obtain ⟨gs,k4,gl,ka4,kb4,eg⟩:=grant_draw (ns:=ns) (M:=M) (xs:=xs) BX hn hx t2 (by omega) (k:=k3 + 1 + 1) (c:=0) (by omega) (by decide) h0 hM (by omega)
  let GR:=gs.map grP
  have bl:BX.length<=12:=by show ((b0::bs).map bxP).length<=12; rw [List.length_map,List.length_cons]; omega
  obtain ⟨hs,k5,hh,hp,ka5,kb5,eh⟩:=heads_eq (ns:=ns) (M:=M) (k:=k4) (xs:=xs) (a:=BX.length) hn (by omega) (by omega) hx bl
  let nums:List Str:=((b0::bs).filter fun b:Bx=>((b.2.1:Nat):Int) == 0).map (·.1)
  let lists:List Str:=((b0::bs).filter fun b:Bx=>decide (0 < ((b.2.1:Nat):Int))).map (·.1)
  let whos:List Str:=(gs.filter fun _=>true).map (·.1)
  let K:Kn:=⟨nums,lists,whos,hs.map fun h=>(h.1,h.2.length)⟩
  have nl:nums.length<=100:=by
    show (((b0::bs).filter _).map _).length<=100
    rw [List.length_map]
    have:=List.length_filter_le (fun b:Bx=>((b.2.1:Nat):Int) == 0) (b0::bs)
    rw [List.length_cons] at this
    omega
  have nn:nums ≠ []:=by
    show ((b0::bs).filter _).map _ ≠ []
    rw [List.filter_cons_of_pos (by rfl)]
    simp
  have kd:∀ x ∈ K.d,x.2<=24:=fun x hx=>by
    obtain ⟨h,hm,rfl⟩:=List.mem_map.mp hx
    exact hp h hm
  let HD:PV:=.lst (hs.map hdP)
  obtain ⟨fs,k6,c6,hf,ka6,cc6,cm6,kb6,ef⟩:=fn_draw (ns:=ns) (M:=M) (K:=K) (xs:=xs) (bx:=.lst BX) (gr:=.lst GR) (hd:=HD) (hs:=hs) hn hM nl nn kd hh hp (k:=k5) (by omega) h0 (by omega)
  obtain ⟨q,hq,eq⟩:=choice (ns:=ns) (M:=M) (qs:=[5,9,41]) (m:=3) (fl:=eLst (aCons (eC (.int 5)) (aCons (eC (.int 9)) (aCons (eC (.int 41)) aNil)))) (k:=k6) rfl (by decide) (fun _=>rfl) hn (by omega) (by omega)
  have hq':0 < q/\q < 900:=(by decide:∀ q ∈ ([5,9,41]:List Int),0 < q/\q < 900) q hq
  obtain ⟨rs,k7,c7,er,okr,pnr,dr,cr,cm,ka7,kb7⟩:=rows_top (ns:=ns) (M:=M) (K:=K) (most:=q) (k:=k6 + 1) (c:=c6) hn ⟨nn,kd⟩ hM hq'.1 hq'.2 (by omega) (by omega) cm6 (by omega)
  refine ⟨⟨BX,GR,fs,rs⟩,k7,c7,⟨?_,?_,hf,okr,pnr,dr,?_,⟨x0,_,_,rfl⟩⟩,fun P n S=>?_⟩
  · exact all_map (memc (fx3 (n:=1) fx_str fx_int fx0) fun b hb=>fx3 (n:=1) fx_str fx_int (hbg b hb))
  · exact all_map fun g _=>fx3 (n:=1) fx_str fx_str fx_str
  · show fcnt fs + rs.cnt<=40
    omega
  let E0:Option Lc->Mu->Ev:=fun o2 mu=>⟨[some (.sh (.ptr n)),some (.sh RK),o2,none,none,none,none,none,none,none,none,none,none,none,none,none,none],mu⟩
  let N:=Lc.sh (.lst (xs.map .str))
  have s2:sSet 2 (eCall m__law_names (aCons (eVar 0) (aCons (eC (.int 24)) aNil))) (E0 none (P (pen ns M 1 0)))=some (.nx (E0 (some (.own (.lst (xs.map .str)))) (P (pen ns M k1 0)))):=
    set_go (call_go (ps:=[.ptr n,.int 24]) (ls:=[.sh (.ptr n),.sh (.int 24)]) (ρ1:=E0 none (P (pen ns M 1 0))) rfl rfl rfl rfl (en 0 P n S)) rfl rfl
  have s3:sSet 3 (eLst (aCons (eTup (aCons (eIx (eVar 2) (eC (.int 0))) (aCons (eC (.int 0)) (aCons (eCall m__law_rank (aCons (eVar 0) (aCons (eVar 1) aNil))) aNil)))) aNil)) (E0 (some (.own (.lst (xs.map .str)))) (P (pen ns M k1 0)))=some (.nx (GB n xs [bxP b0] none (P (pen ns M k2 0)))):=
    set_go (ρ1:=E0 (some N) (P (pen ns M k2 0))) (lst_go (ls:=[.sh (bxP b0)]) (cons_go (tup_go (ls:=[.sh (.str x0),.sh (.int 0),.sh r0]) (cons_go (ix_go (p:=.lst (xs.map .str)) (q:=.int 0) (l:=N) (m:=.sh (.int 0)) (ρ1:=E0 (some N) (P (pen ns M k1 0))) (ρ2:=E0 (some N) (P (pen ns M k1 0))) rfl rfl rfl rfl (fun n h=>by cases h) ex0) (cons_go (ρ1:=E0 (some N) (P (pen ns M k1 0))) rfl (cons_go (er0 P n 0 S (eVar 0) (eVar 1) (E0 (some N) []).vs (fun _=>rfl) (fun _=>rfl)) rfl))) rfl rfl) rfl) rfl rfl) rfl rfl
  obtain ⟨p4,eb'⟩:=eb P n S [bxP b0] none (by simp)
  have s4:sFor (iRange1 (aCons (eCall m__law_next (aCons (eVar 0) (aCons (eIx (eLst (aCons (eC (.int 3)) (aCons (eC (.int 3)) (aCons (eC (.int 3)) (aCons (eC (.int 12)) aNil))))) (eCall m__law_next (aCons (eVar 0) (aCons (eC (.int 4)) aNil)))) aNil))) aNil)) (bName 4) bxB (GB n xs [bxP b0] none (P (pen ns M k2 0)))=some (.nx (GB n xs BX p4 (P (pen ns M k3 0)))):=
    (sFor_eq (et1 P n 0 S _)).trans eb'
  obtain ⟨q4,q6,eg'⟩:=eg P n S p4
  have s5:sFor (iRange1 (aCons (eCall m__law_next (aCons (eVar 0) (aCons (eIx (eLst (aCons (eC (.int 2)) (aCons (eC (.int 3)) (aCons (eC (.int 7)) aNil)))) (eCall m__law_next (aCons (eVar 0) (aCons (eC (.int 3)) aNil)))) aNil))) aNil)) (bName 4) grB (GG n xs BX [] p4 none (P (pen ns M k3 0)))=some (.nx (GG n xs BX GR q4 q6 (P (pen ns M k4 0)))):=
    (sFor_eq (et2 P n 0 S _)).trans eg'
  have s7:sSet 7 (eCall m__law_heads (aCons (eVar 0) (aCons (eVar 2) (aCons (eRead (eB len1 (aCons (eVar 3) aNil))) aNil)))) (GG n xs BX GR q4 q6 (P (pen ns M k4 0)))=some (.nx (GE n xs (some (.own (.lst BX))) q4 (some (.own (.lst GR))) q6 (some (.own HD)) none none none none none none none none none (P (pen ns M k5 0)))):=
    set_go (call_go (ps:=[.ptr n,.lst (xs.map .str),.int (BX.length:Nat)]) (ls:=[.sh (.ptr n),.sh (.lst (xs.map .str)),.sh (.int (BX.length:Nat))]) (ρ1:=GG n xs BX GR q4 q6 (P (pen ns M k4 0))) (cons_go (ρ1:=GG n xs BX GR q4 q6 (P (pen ns M k4 0))) rfl (cons_go (ρ1:=GG n xs BX GR q4 q6 (P (pen ns M k4 0))) rfl (cons_go (eread_go (l:=.sh (.int (BX.length:Nat))) rfl rfl) rfl))) rfl rfl rfl (eh 0 P n S)) rfl rfl
  let mu5:=P (pen ns M k5 0)
  let B':=some (Lc.sh (.lst BX))
  let Q:Option Lc->Option Lc->Option Lc->Option Lc->Option Lc->Option Lc->Option Lc->Ev:=fun o3 o5 o7 o8 o9 o10 o11=>GE n xs o3 q4 o5 q6 o7 o8 o9 o10 o11 none none none none none mu5
  let OB:=some (Lc.own (.lst BX))
  let OG:=some (Lc.own (.lst GR))
  let OH:=some (Lc.own HD)
  let O8:=some (Lc.own (.lst (nums.map .str)))
  let O9:=some (Lc.own (.lst (lists.map .str)))
  let O10:=some (Lc.own (.lst (whos.map .str)))
  let O11:=some (Lc.own (.lst K.ca))
  have bl':(b0::bs).length<=1000:=by rw [List.length_cons]; omega
  have c8:=comp_one (mu:=mu5) bxP (·.1) (fun b:Bx=>((b.2.1:Nat):Int) == 0) (tT (eOp eqP (eIx (eVar 0) (eC (.int 1))) (eC (.int 0))) blP) (eIx (eVar 0) (eC (.int 0))) (fun _=>rfl) (fun _=>rfl) (b0::bs) bl'
  have c9:=comp_one (mu:=mu5) bxP (·.1) (fun b:Bx=>decide (0 < ((b.2.1:Nat):Int))) (tT (eOp gtP (eIx (eVar 0) (eC (.int 1))) (eC (.int 0))) blP) (eIx (eVar 0) (eC (.int 0))) (fun _=>rfl) (fun _=>rfl) (b0::bs) bl'
  have c10:=comp_one (mu:=mu5) grP (·.1) (fun _=>true) cTrue (eIx (eVar 0) (eC (.int 0))) (fun _=>rfl) (fun _=>rfl) gs (by omega)
  have c11:=called_eq (mu:=mu5) (hs:=hs) (by omega)
  have s8:sSet 8 (eComp (iOf (eVar 3) walkP) 1 [] (bName 0) (tT (eOp eqP (eIx (eVar 0) (eC (.int 1))) (eC (.int 0))) blP) (eIx (eVar 0) (eC (.int 0)))) (Q OB OG OH none none none none)=some (.nx (Q B' OG OH O8 none none none)):=
    set_go ((eComp_eq (m:=1) (ixs:=[]) (iof_go (l:=.sh (.lst BX)) (ρ1:=Q B' OG OH none none none none) rfl rfl rfl) c8).trans rfl) rfl rfl
  have s9:sSet 9 (eComp (iOf (eVar 3) walkP) 1 [] (bName 0) (tT (eOp gtP (eIx (eVar 0) (eC (.int 1))) (eC (.int 0))) blP) (eIx (eVar 0) (eC (.int 0)))) (Q B' OG OH O8 none none none)=some (.nx (Q B' OG OH O8 O9 none none)):=
    set_go ((eComp_eq (m:=1) (ixs:=[]) (iof_go (l:=.sh (.lst BX)) (ρ1:=Q B' OG OH O8 none none none) rfl rfl rfl) c9).trans rfl) rfl rfl
  have s10:sSet 10 (eComp (iOf (eVar 5) walkP) 1 [] (bName 0) cTrue (eIx (eVar 0) (eC (.int 0)))) (Q B' OG OH O8 O9 none none)=some (.nx (Q B' (some (.sh (.lst GR))) OH O8 O9 O10 none)):=
    set_go ((eComp_eq (m:=1) (ixs:=[]) (iof_go (l:=.sh (.lst GR)) (ρ1:=Q B' (some (.sh (.lst GR))) OH O8 O9 none none) rfl rfl rfl) c10).trans rfl) rfl rfl
  have s11:sSet 11 (eComp (iOf (eVar 7) walkP) 2 [] (bSeq 2 (bCons (bName 0) (bCons (bName 1) bNil))) cTrue (eTup (aCons (eVar 0) (aCons (eB len1 (aCons (eVar 1) aNil)) aNil)))) (Q B' (some (.sh (.lst GR))) OH O8 O9 O10 none)=some (.nx (Q B' (some (.sh (.lst GR))) (some (.sh HD)) O8 O9 O10 O11)):=
    set_go ((eComp_eq (m:=2) (ixs:=[]) (iof_go (l:=.sh HD) (ρ1:=Q B' (some (.sh (.lst GR))) (some (.sh HD)) O8 O9 O10 none) rfl rfl rfl) c11).trans rfl) rfl rfl
  obtain ⟨z4,z6,b',p13,p14,p15,p16,ef'⟩:=ef P n S q4 q6 true
  have s13:sFor (iOf (eVar 7) walkP) (bSeq 2 (bCons (bName 13) (bCons (bName 14) bNil))) fnB (FE n xs (.lst BX) (.lst GR) HD q4 q6 true K [] none none none none mu5)=some (.nx (FE n xs (.lst BX) (.lst GR) HD z4 z6 b' K (fs.map Fn.pv) p13 p14 p15 p16 (P (pen ns M k6 c6)))):=
    (sFor_eq (iof_go (l:=.sh HD) rfl rfl rfl)).trans ef'
  let F:Bool->Option Lc->Mu->Ev:=fun b o15 mu=>FE n xs (.lst BX) (.lst GR) HD z4 z6 b K (fs.map Fn.pv) p13 p14 o15 p16 mu
  have s15:sSet 15 (eCall (m__law_rows 40) (aCons (eVar 0) (aCons (eC (.int 0)) (aCons kmE (aCons (eIx (eLst (aCons (eC (.int 5)) (aCons (eC (.int 9)) (aCons (eC (.int 41)) aNil)))) (eCall m__law_next (aCons (eVar 0) (aCons (eC (.int 3)) aNil)))) aNil))))) (F b' p15 (P (pen ns M k6 c6)))=some (.nx (F false (some (.own (.lst rs.pvs))) (P (pen ns M k7 c7)))):=
    set_go (call_go (ps:=[.ptr n,.int 0,K.pv,.int q]) (ls:=[.sh (.ptr n),.sh (.int 0),.own K.pv,.sh (.int q)]) (ρ1:=F false p15 (P (pen ns M (k6 + 1) c6))) (cons_go (ρ1:=F b' p15 (P (pen ns M k6 c6))) rfl (cons_go (ρ1:=F b' p15 (P (pen ns M k6 c6))) rfl (cons_go km_go (cons_go (eq P n c6 S _) rfl)))) rfl rfl rfl (er P n S)) rfl rfl
  let mu7:=P (pen ns M k7 c7)
  let Z:Ev:=GE n xs B' z4 (some (.sh (.lst GR))) z6 (some (.sh HD)) (some (.sh (.lst (nums.map .str)))) (some (.sh (.lst (lists.map .str)))) (some (.sh (.lst (whos.map .str)))) (some (.sh (.lst K.ca))) (some (.sh (.lst (fs.map Fn.pv)))) p13 p14 (some (.sh (.ptr mu7.length))) p16 (mu7++[some (.lst rs.pvs)])
  have fin:sSealV 15 (sRet (eTup (aCons (eVar 3) (aCons (eVar 5) (aCons (eVar 12) (aCons (eVar 15) aNil)))))) (F false (some (.own (.lst rs.pvs))) mu7)=some (.rt (.sh (Pg.pvx ⟨BX,GR,fs,rs⟩ (.ptr mu7.length))) Z):=rfl
  exact runP_rt (ρ:=Z) (seq_go s2 (seq_go s3 (seq_go s4 (seq_go (ρ':=GG n xs BX [] p4 none (P (pen ns M k3 0))) rfl (seq_go s5 (seq_go s7 (seq_go s8 (seq_go s9 (seq_go s10 (seq_go s11 (seq_go (ρ':=FE n xs (.lst BX) (.lst GR) HD q4 q6 true K [] none none none none mu5) rfl (seq_go s13 (seq_go s15 fin)))))))))))))
theorem four_pick {i:Int} (h0:0<=i) (h1:i < 4):∃ M:Int,0<=M/\M<=40/\ixP (.lst [.int 8,.int 12,.int 16,.int 40]) (.int i)=some (.sh (.int M)):=by
  have h:i=0\/i=1\/i=2\/i=3:=by omega
  rcases h with rfl | rfl | rfl | rfl
  · exact ⟨8,by decide,by decide,rfl⟩
  · exact ⟨12,by decide,by decide,rfl⟩
  · exact ⟨16,by decide,by decide,rfl⟩
  · exact ⟨40,by decide,by decide,rfl⟩
theorem drawn_eq (hn:LS ns):∃ (G:Pg) (pn:PV),G.fine/\∀ mu:Mu,m__law_drawn [.lst (ns.map .int)] mu=some (.sh (G.pvx (.ptr (mu.length + 1))),mu++[some pn,some (.lst G.rows.pvs)]):=by
  obtain ⟨d,ed⟩:=cell_eq (ns:=ns) (k:=0) hn (by decide) (by decide)
  obtain ⟨M,m0,m1,em⟩:=four_pick (i:=d % 4) (Int.emod_nonneg _ (by decide)) (Int.emod_lt_of_pos _ (by decide))
  obtain ⟨G,k',c',fn,e⟩:=program_eq (ns:=ns) (M:=M) hn m0 m1
  refine ⟨G,pen ns M k' c',fn,fun mu=>?_⟩
  have S:Spot (fun x=>mu++[some x]) mu.length:=⟨fun x=>end_get,fun x y=>end_set⟩
  have e':=e _ _ S
  have el:((fun x=>mu++[some x]) (pen ns M k' c')).length=mu.length + 1:=by simp
  rw [el] at e'
  let A:=some (Lc.sh (.lst (ns.map .int)))
  have ea:m__law_drawn [.lst (ns.map .int)] mu=some (.sh (G.pvx (.ptr (mu.length + 1))),(fun x=>mu++[some x]) (pen ns M k' c')++[some (.lst G.rows.pvs)]):=by
    refine runP_rt (ρ:=⟨[A],(fun x=>mu++[some x]) (pen ns M k' c')++[some (.lst G.rows.pvs)]⟩) (ret_go (call_go (ps:=[.ptr mu.length,RK]) (ls:=[.sh (.ptr mu.length),.own RK]) (ρ1:=⟨[A],mu++[some (pen ns M 1 0)]⟩) (cons_go (ρ1:=⟨[A],mu++[some (pen ns M 1 0)]⟩) ?_ ?_) rfl rfl rfl e'))
    rotate_left
    · rfl
    refine seal_go (p:=pen ns M 1 0) (ρ1:=⟨[A],mu⟩) (lst_go (ls:=[.sh (.lst (ns.map .int)),.sh (.int 1),.sh (.int 0),.sh (.int M)]) (cons_go (ρ1:=⟨[A],mu⟩) rfl (cons_go (ρ1:=⟨[A],mu⟩) rfl (cons_go (ρ1:=⟨[A],mu⟩) rfl (cons_go ?_ rfl)))) rfl rfl) rfl
    exact ix_go (p:=.lst [.int 8,.int 12,.int 16,.int 40]) (q:=.int (d % 4)) (l:=.own (.lst [.int 8,.int 12,.int 16,.int 40])) (m:=.sh (.int (d % 4))) (ρ1:=⟨[A],mu⟩) rfl rfl (eOp_eq (x:=.sh (.int d)) (y:=.sh (.int 4)) (call_go (ps:=[.lst (ns.map .int),.int 0]) (ls:=[.sh (.lst (ns.map .int)),.sh (.int 0)]) (ρ1:=⟨[A],mu⟩) rfl rfl rfl rfl (ed mu)) rfl (modP_int (by decide))) rfl (fun n h=>by cases h) em
  rw [ea]
  simp
noncomputable def AbOk (ab:PV):Prop:=ab=.non\/∃ i,ab=.int i
noncomputable def Ent.fine (e:Ent):Prop:=e.ok/\e.r.pn
theorem mem_app {α:Type} {Q:α->Prop} {a b:List α} (ha:∀ x ∈ a,Q x) (hb:∀ x ∈ b,Q x):∀ x ∈ a++b,Q x:=fun x hx=>by
  rcases List.mem_append.mp hx with h | h
  · exact ha x h
  · exact hb x h
mutual
theorem Row.es_fine:∀ (r:Row) (w:Str) (ab:PV) (bl:Int) (k:Nat),r.ok->r.pn->r.dep<=13->r.cnt<=200->AbOk ab->∀ e ∈ r.es w ab bl k,e.fine
  | .leaf x ps,w,ab,bl,k,ok,pn,dp,ct,ha=>memc ⟨⟨ok,dp,ct,ha⟩,pn⟩ mem0
  | .call b n as,w,ab,bl,k,ok,pn,dp,ct,ha=>memc ⟨⟨ok,dp,ct,ha⟩,pn⟩ mem0
  | .wh e b,w,ab,bl,k,ok,pn,dp,ct,ha=>by
    have h1:b.dep + 1<=13:=dp
    have h2:b.cnt + 1<=200:=ct
    exact memc ⟨⟨ok,dp,ct,ha⟩,pn⟩ (Rows.es_fine b w (.int k) 0 (k + 1) ok.2 pn.2 (by omega) (by omega) (.inr ⟨_,rfl⟩))
  | .iff e b c,w,ab,bl,k,ok,pn,dp,ct,ha=>by
    have h1:max b.dep c.dep + 1<=13:=dp
    have h2:b.cnt + c.cnt + 1<=200:=ct
    exact memc ⟨⟨ok,dp,ct,ha⟩,pn⟩ (mem_app (Rows.es_fine b w (.int k) 0 (k + 1) ok.2.1 pn.2.1 (by omega) (by omega) (.inr ⟨_,rfl⟩)) (Rows.es_fine c w (.int k) 1 (k + 1 + b.cnt) ok.2.2 pn.2.2 (by omega) (by omega) (.inr ⟨_,rfl⟩)))
theorem Rows.es_fine:∀ (rs:Rows) (w:Str) (ab:PV) (bl:Int) (k:Nat),rs.ok->rs.pns->rs.dep<=14->rs.cnt<=200->AbOk ab->∀ e ∈ rs.es w ab bl k,e.fine
  | .nil,w,ab,bl,k,ok,pn,dp,ct,ha=>mem0
  | .cons r rs,w,ab,bl,k,ok,pn,dp,ct,ha=>by
    have h1:max (r.dep + 1) rs.dep<=14:=dp
    have h2:r.cnt + rs.cnt<=200:=ct
    exact mem_app (Row.es_fine r w ab bl k ok.1 pn.1 (by omega) (by omega) ha) (Rows.es_fine rs w ab bl (k + r.cnt) ok.2 pn.2 (by omega) (by omega) ha)
end
theorem fes_fine:∀ (fs:List Fn) (k:Nat),(∀ f ∈ fs,f.fine)->fcnt fs<=100->∀ e ∈ fes fs k,e.fine
  | [],k,_,_=>mem0
  | f::fs,k,h,hc=>by
    have h2:f.rows.cnt + fcnt fs<=100:=hc
    have hf:=h f List.mem_cons_self
    have:=hf.dp
    exact mem_app (Rows.es_fine f.rows f.name .non 0 k hf.ok hf.pn (by omega) (by omega) (.inl rfl)) (fes_fine fs _ (fun g hg=>h g (List.mem_cons_of_mem _ hg)) (by omega))
structure Pg.good (G:Pg):Prop where
  ok:G.ok
  es:∀ e ∈ G.es,e.fine
  ln:G.es.length<=100
theorem Pg.mk_good {G:Pg} (fn:∀ f ∈ G.fns,f.fine) (ok:G.rows.ok) (pn:G.rows.pns) (dp:G.rows.dep<=10) (ct:fcnt G.fns + G.rows.cnt<=50):G.good:=
  ⟨⟨fun f hf=>⟨(fn f hf).ok,by have:=(fn f hf).dp; omega⟩,ok,by omega,by omega⟩,mem_app (fes_fine G.fns 0 fn (by omega)) (Rows.es_fine G.rows _ _ _ _ ok pn (by omega) (by omega) (.inl rfl)),by
    show (fes G.fns 0++G.rows.es "main" .non 0 (fcnt G.fns)).length<=100
    rw [List.length_append,fes_len,Rows.es_len]
    omega⟩
noncomputable def Rows.snoc:Rows->Row->Rows
  | .nil,q=>.cons q .nil
  | .cons r rs,q=>.cons r (rs.snoc q)
theorem Rows.snoc_pvs:∀ (rs:Rows) (q:Row),(rs.snoc q).pvs=rs.pvs++[q.pv]
  | .nil,q=>rfl
  | .cons r rs,q=>by
    show r.pv::(rs.snoc q).pvs=_
    rw [Rows.snoc_pvs rs q]
    rfl
theorem Rows.snoc_ok:∀ (rs:Rows) (q:Row),rs.ok->q.ok->(rs.snoc q).ok
  | .nil,q,_,h=>⟨h,trivial⟩
  | .cons r rs,q,h1,h2=>⟨h1.1,Rows.snoc_ok rs q h1.2 h2⟩
theorem Rows.snoc_pns:∀ (rs:Rows) (q:Row),rs.pns->q.pn->(rs.snoc q).pns
  | .nil,q,_,h=>⟨h,trivial⟩
  | .cons r rs,q,h1,h2=>⟨h1.1,Rows.snoc_pns rs q h1.2 h2⟩
theorem Rows.snoc_dep:∀ (rs:Rows) (q:Row) (m:Nat),rs.dep<=m->q.dep + 1<=m->(rs.snoc q).dep<=m
  | .nil,q,m,_,h=>by show max (q.dep + 1) 1<=m; omega
  | .cons r rs,q,m,h1,h2=>by
    have h:max (r.dep + 1) rs.dep<=m:=h1
    have:=Rows.snoc_dep rs q m (by omega) h2
    show max (r.dep + 1) (rs.snoc q).dep<=m
    omega
theorem Rows.snoc_cnt:∀ (rs:Rows) (q:Row),(rs.snoc q).cnt=rs.cnt + q.cnt
  | .nil,q=>by show q.cnt + 0=0 + q.cnt; omega
  | .cons r rs,q=>by
    show r.cnt + (rs.snoc q).cnt=r.cnt + rs.cnt + q.cnt
    rw [Rows.snoc_cnt rs q]
    omega
theorem Rows.snoc_es:∀ (rs:Rows) (q:Row) (w:Str) (ab:PV) (bl:Int) (k:Nat),(rs.snoc q).es w ab bl k=rs.es w ab bl k++q.es w ab bl (k + rs.cnt)
  | .nil,q,w,ab,bl,k=>by
    show q.es w ab bl k++[]=[]++q.es w ab bl (k + 0)
    simp
  | .cons r rs,q,w,ab,bl,k=>by
    show r.es w ab bl k++(rs.snoc q).es w ab bl (k + r.cnt)=(r.es w ab bl k++rs.es w ab bl (k + r.cnt))++q.es w ab bl (k + (r.cnt + rs.cnt))
    rw [Rows.snoc_es rs q,List.append_assoc,Nat.add_assoc]
noncomputable abbrev svn (x:Str):Row:=.leaf "set" [.str x,.tup [.str "num",.int 7]]
noncomputable abbrev Pg.more (G:Pg) (x:Str):Pg:=⟨G.boxes,G.grants,G.fns,G.rows.snoc (svn x)⟩
theorem more_due (G:Pg) (x:Str):(G.more x).es.map Ent.due=G.es.map Ent.due++[.tup [.str "main",.non,.int 0,(svn x).pv]]:=by
  show (fes G.fns 0++(G.rows.snoc (svn x)).es "main" .non 0 (fcnt G.fns)).map Ent.due=(fes G.fns 0++G.rows.es "main" .non 0 (fcnt G.fns)).map Ent.due++_
  rw [Rows.snoc_es,← List.append_assoc,List.map_append]
  rfl
theorem eqDs_refl {f:PV->PV->Option Bool}:∀ ps:List PV,(∀ p ∈ ps,f p p=some true)->eqDs f ps ps=some true
  | [],_=>rfl
  | p::ps,h=>by
    show (f p p).bind _=_
    rw [h p List.mem_cons_self,Option.bind_some,eqDs_refl ps fun q hq=>h q (List.mem_cons_of_mem _ hq)]
    rfl
theorem eqD_refl:∀ (n:Nat) (p:PV),Pn n p->eqD n p p=some true
  | n + 1,.non,_=>rfl
  | n + 1,.int i,_=>by show some (i == i)=_; rw [int_beq]
  | n + 1,.str x,_=>by show some (x == x)=_; rw [beq_self_eq_true]
  | n + 1,.tup ps,.tup _ h=>by
    show (eqDs (eqD n) ps ps).map _=_
    rw [eqDs_refl ps fun p hp=>eqD_refl n p (h p hp)]
    show some (true && (ps.length == ps.length))=_
    rw [beq_self_eq_true]
    rfl
  | n + 1,.lst ps,.lst _ h=>by
    show (if ps.length=ps.length then eqDs (eqD n) ps ps else some false)=_
    rw [if_pos rfl,eqDs_refl ps fun p hp=>eqD_refl n p (h p hp)]
theorem flats_of {n:Nat}:∀ ps:List PV,(∀ p ∈ ps,Fx n p)->flatPs ps=true
  | [],_=>rfl
  | p::ps,h=>by
    show (flatP p && flatPs ps)=true
    rw [(h p List.mem_cons_self).1,flats_of ps fun q hq=>h q (List.mem_cons_of_mem _ hq)]
    rfl
theorem fns_res {mu:Mu} {k:Nat}:∀ fs:List Fn,(∀ f ∈ fs,f.fine)->(fs.map Fn.pv).map (resD mu (k + 1))=fs.map Fn.pv
  | [],_=>rfl
  | f::fs,h=>by
    obtain ⟨nm,rk,pr,rs⟩:=f
    have hf:=h ⟨nm,rk,pr,rs⟩ List.mem_cons_self
    obtain ⟨as,rfl,ha⟩:∃ as,pr=.lst as/\∀ a ∈ as,Fx 2 a:=hf.pr
    show PV.tup [resD mu k (.str nm),resD mu k rk,resD mu k (.lst as),resD mu k (.lst rs.pvs)]::(fs.map Fn.pv).map (resD mu (k + 1))=_
    rw [fns_res fs fun g hg=>h g (List.mem_cons_of_mem _ hg),resD_flat (.str nm) k rfl,resD_flat rk k hf.rk.1,resD_lst (flats_of as ha),Rows.resPvs rs k hf.ok]
    rfl
theorem pvx_res {G:Pg} {mu:Mu} {X:PV} (h:G.fine) (hX:resD mu 39 X=.lst G.rows.pvs):resD mu 40 (G.pvx X)=G.pvx (.lst G.rows.pvs):=by
  show PV.tup [resD mu 39 (.lst G.boxes),resD mu 39 (.lst G.grants),.lst ((G.fns.map Fn.pv).map (resD mu 38)),resD mu 39 X]=_
  rw [resD_lst (flats_of _ h.bx),resD_lst (flats_of _ h.gr),fns_res (k:=37) G.fns h.fn,hX]
theorem rows_pn {rs:Rows} (pn:rs.pns) (dp:rs.dep<=10):Pn 31 (.lst rs.pvs):=.lst _ (Rows.pn_pvs rs 30 pn (by omega))
theorem pg_pn {G:Pg} (h:G.fine):Pn 150 (G.pvx (.lst G.rows.pvs)):=by
  refine Pn.mono (n:=34) (.tup _ (memc (.lst _ fun p hp=>(h.bx p hp).2.mono (by decide)) (memc (.lst _ fun p hp=>(h.gr p hp).2.mono (by decide)) (memc (.lst _ fun p hp=>?_) (memc ((rows_pn h.pn h.dp).mono (by decide)) mem0))))) (by decide)
  obtain ⟨f,hf,rfl⟩:=List.mem_map.mp hp
  have g:=h.fn f hf
  obtain ⟨nm,rk,pr,rs⟩:=f
  obtain ⟨as,rfl,ha⟩:∃ as,pr=.lst as/\∀ a ∈ as,Fx 2 a:=g.pr
  exact .tup _ (memc (.str _) (memc (g.rk.2.mono (by decide)) (memc (.lst _ fun p hp=>(ha p hp).2.mono (by decide)) (memc (rows_pn g.pn g.dp) mem0))))
theorem melt_go {f:EF} {ρ ρ1:Ev} {a b c:PV} {n:Nat} {ws:List PV} (h:f ρ=some (.sh (.tup [a,b,c,.ptr n]),ρ1)) (hm:ρ1.mu[n]?=some (some (.lst ws))):eMelt f ρ=some (.sh (.tup [a,b,c,.lst ws]),⟨ρ1.vs,ρ1.mu.set n none⟩):=by
  unfold eMelt
  rw [h,Option.bind_some]
  show (match ρ1.mu[n]? with | some (some (.lst ws))=>_ | _=>_)=_
  rw [hm]
  rfl
theorem open_go {f:EF} {ρ ρ1:Ev} {n:Nat} {p:PV} (h:f ρ=some (.sh (.ptr n),ρ1)) (hm:ρ1.mu[n]?=some (some p)):eOpen f ρ=some (.own p,⟨ρ1.vs,ρ1.mu.set n none⟩):=by
  unfold eOpen
  rw [h,Option.bind_some]
  dsimp only
  rw [hm]
theorem eand_go {f g:EF} {ρ ρ1:Ev} {R:Option (Lc × Ev)} (h:f ρ=some (.sh (.bl true),ρ1)) (h2:g ρ1=R):eAnd f g ρ=R:=by
  unfold eAnd
  rw [h,Option.bind_some]
  exact h2
theorem sm_go {a:AF} {ρ ρ1:Ev} {ls:List Lc} {es:List Ent} (h:a ρ=some (ls,ρ1)) (hp:(ls.map Lc.pv).map (resD ρ1.mu 40)=[.lst (es.map Ent.due),.lst (es.map Ent.due)]) (g:∀ e ∈ es,e.fine):eCallD (m__law_same 40) a ρ=some (.sh (.bl true),ρ1):=
  calld_go h hp (same_eq 40 _ (due_pn (Nat.le_refl _) (fun e he=>(g e he).1) fun e he=>(g e he).2)) rfl
theorem res_a {es:List Ent} {A B:Mu} (g:∀ e ∈ es,e.fine):resD (A++(cells es A.length++B)) 40 (.lst (ents es A.length))=.lst (es.map Ent.due):=by
  show PV.lst ((ents es A.length).map (resD _ 39))=_
  rw [ents_res es 39 A B (fun e he=>(g e he).1) (by decide)]
theorem res_b {es:List Ent} {mu:Mu} (g:∀ e ∈ es,e.fine):resD mu 40 (.lst (es.map Ent.due))=.lst (es.map Ent.due):=by
  show PV.lst ((es.map Ent.due).map (resD _ 39))=_
  rw [due_res fun e he=>(g e he).1]
theorem res_p {es:List Ent} {A B:Mu} {n:Nat} (g:∀ e ∈ es,e.fine) (h:(A++(cells es A.length++B))[n]?=some (some (.lst (ents es A.length)))):resD (A++(cells es A.length++B)) 40 (.ptr n)=.lst (es.map Ent.due):=by
  show (match (A++(cells es A.length++B))[n]? with | some (some p)=>resD _ 39 p | _=>_)=_
  rw [h]
  show PV.lst ((ents es A.length).map (resD _ 38))=_
  rw [ents_res es 38 A B (fun e he=>(g e he).1) (by decide)]
section
variable {S pn:PV} {G:Pg} {x:Str} {ps bs:List PV} {Y B:Mu}
noncomputable abbrev cA (pn:PV) (G:Pg):Mu:=[some pn,some (.lst G.rows.pvs),some pn,none,none]
noncomputable abbrev VS (S:PV) (G:Pg) (o3 o4 o5 o6:Option Lc):List (Option Lc):=[some (.sh S),some (.sh (G.pvx (.ptr 1))),some (.sh (G.pvx (.lst G.rows.pvs))),o3,o4,o5,o6]
noncomputable abbrev dues (G:Pg):PV:=.lst (G.es.map Ent.due)
theorem law_fin {o4 o6:Option Lc} (fn:G.fine) (g:G.good):sRet (eAnd (eCallD (m__law_same 40) (aCons (eVar 5) (aCons (eVar 3) aNil))) (eReadD (eOp eqY (eVar 1) (eVar 2)))) ⟨VS S G (some (.sh (dues G))) o4 (some (.own (.lst (ents G.es (cA pn G++Y).length)))) o6,(cA pn G++Y)++(cells G.es (cA pn G++Y).length++B)⟩=some (.rt (.sh (.bl true)) ⟨VS S G (some (.sh (dues G))) o4 (some (.sh (.lst (ents G.es (cA pn G++Y).length)))) o6,(cA pn G++Y)++(cells G.es (cA pn G++Y).length++B)⟩):=by
  let Z:Ev:=⟨VS S G (some (.sh (dues G))) o4 (some (.sh (.lst (ents G.es (cA pn G++Y).length)))) o6,(cA pn G++Y)++(cells G.es (cA pn G++Y).length++B)⟩
  refine ret_go (eand_go (ρ1:=Z) (sm_go (es:=G.es) (ls:=[.sh (.lst (ents G.es (cA pn G++Y).length)),.sh (dues G)]) rfl ?_ g.es) (readd_go (l:=.sh (.bl true)) (ρ1:=Z.peekD) ?_ rfl))
  · show [resD Z.mu 40 (.lst (ents G.es (cA pn G++Y).length)),resD Z.mu 40 (dues G)]=_
    rw [res_b g.es,res_a g.es]
  · have h1:resD Z.mu 39 (.ptr 1)=.lst G.rows.pvs:=by
      show resD Z.mu 38 (.lst G.rows.pvs)=_
      exact Rows.resPvs G.rows 38 fn.ok
    have r1:resD Z.mu 40 (G.pvx (.ptr 1))=G.pvx (.lst G.rows.pvs):=pvx_res fn h1
    have r2:resD Z.mu 40 (G.pvx (.lst G.rows.pvs))=G.pvx (.lst G.rows.pvs):=pvx_res fn (Rows.resPvs G.rows 39 fn.ok)
    have q:eqY (resD Z.mu 40 (G.pvx (.ptr 1))) (resD Z.mu 40 (G.pvx (.lst G.rows.pvs)))=some (.sh (.bl true)):=by
      rw [r1,r2]
      show (eqD 150 (G.pvx (.lst G.rows.pvs)) (G.pvx (.lst G.rows.pvs))).map _=_
      rw [eqD_refl 150 _ (pg_pn fn)]
      rfl
    exact eOp_eq (x:=.sh (resD Z.mu 40 (G.pvx (.ptr 1)))) (y:=.sh (resD Z.mu 40 (G.pvx (.lst G.rows.pvs)))) (ρ1:=Z.peekD) rfl rfl q
noncomputable abbrev ifB:SF:=(sSeq (sAppC (eIy (eVar 1) (eC (.int 3))) (eVar 6))
    (sSeq (sIf (tNotF (tT (eCallD (m__law_same 40) (aCons (eCall m_numbered (aCons (eVar 1) aNil)) (aCons (eOp addP (eVar 3) (eLst (aCons (eTup (aCons (eC (.str "main")) (aCons (eC .non) (aCons (eC (.int 0)) (aCons (eVar 6) aNil))))) aNil))) aNil))) truP))
    (sRet (eC (.bl false)))
    sNil)
    (sExpr (ePopC (eIy (eVar 1) (eC (.int 3)))))))
theorem law_more {o4 o5:Option Lc} {C:Mu} (g:G.good) (hr:G.rows.pvs.length<=100) (g':(G.more x).good):∃ D:Mu,ifB ⟨VS S G (some (.sh (dues G))) o4 o5 (some (.sh (svn x).pv)),(cA pn G++Y)++C⟩=some (.nx ⟨VS S G (some (.sh (dues G))) o4 o5 (some (.sh (svn x).pv)),(cA pn G++Y)++(C++D)⟩):=by
  let G':=G.more x
  let vs:=VS S G (some (.sh (dues G))) o4 o5 (some (.sh (svn x).pv))
  let mu':Mu:=(([some pn,some (.lst (G.rows.pvs++[(svn x).pv])),some pn,none,none]:Mu)++Y)++C
  let D:=cells G'.es mu'.length
  have hR:PV.lst (G.rows.pvs++[(svn x).pv])=.lst G'.rows.pvs:=by rw [Rows.snoc_pvs]
  have hd:=more_due G x
  have iy:∀ mu,eIy (eVar 1) (eC (.int 3)) ⟨vs,mu⟩=some (.sh (.ptr 1),⟨vs,mu⟩):=fun mu=>rfl
  have s1:sAppC (eIy (eVar 1) (eC (.int 3))) (eVar 6) ⟨vs,(cA pn G++Y)++C⟩=some (.nx ⟨vs,mu'⟩):=
    appc_go (o:=.sh (.ptr 1)) (y:=.sh (svn x).pv) (n:=1) (ws0:=G.rows.pvs) (ws:=G.rows.pvs) (ρ1:=⟨vs,(cA pn G++Y)++C⟩) (ρ2:=⟨vs,(cA pn G++Y)++C⟩) (iy _) rfl rfl rfl rfl rfl (by omega) rfl
  have nu:m_numbered [G.pvx (.ptr 1)] mu'=some (.own (.lst (ents G'.es mu'.length)),mu'++D):=numbered_eq (P:=G') g'.ok (.inr ⟨1,rfl,by rw [← hR]; rfl⟩)
  have ln:(G.es.map Ent.due).length + ([PV.tup [.str "main",.non,.int 0,(svn x).pv]]:List PV).length<=1000:=by
    have:=g.ln
    rw [List.length_map]
    show G.es.length + 1<=1000
    omega
  have s2:eCallD (m__law_same 40) (aCons (eCall m_numbered (aCons (eVar 1) aNil)) (aCons (eOp addP (eVar 3) (eLst (aCons (eTup (aCons (eC (.str "main")) (aCons (eC .non) (aCons (eC (.int 0)) (aCons (eVar 6) aNil))))) aNil))) aNil)) ⟨vs,mu'⟩=some (.sh (.bl true),⟨vs,mu'++D⟩):=by
    refine sm_go (es:=G'.es) (ls:=[.own (.lst (ents G'.es mu'.length)),.own (.lst (G.es.map Ent.due++[PV.tup [.str "main",.non,.int 0,(svn x).pv]]))]) (cons_go (call_go (ps:=[G.pvx (.ptr 1)]) (ls:=[.sh (G.pvx (.ptr 1))]) (ρ1:=⟨vs,mu'⟩) rfl rfl rfl rfl nu) (cons_go (eOp_eq (x:=.sh (dues G)) (y:=.own (.lst [PV.tup [.str "main",.non,.int 0,(svn x).pv]])) (ρ1:=⟨vs,mu'++D⟩) rfl rfl (addL ln)) rfl)) ?_ g'.es
    show [resD (mu'++D) 40 (.lst (ents G'.es mu'.length)),resD (mu'++D) 40 (.lst (G.es.map Ent.due++[PV.tup [.str "main",.non,.int 0,(svn x).pv]]))]=_
    rw [← hd,res_b g'.es]
    have:=res_a (A:=mu') (B:=[]) g'.es
    rw [List.append_nil] at this
    rw [this]
  have s3:sExpr (ePopC (eIy (eVar 1) (eC (.int 3)))) ⟨vs,mu'++D⟩=some (.nx ⟨vs,((cA pn G++Y)++C)++D⟩):=
    expr_go (popc_go (o:=.sh (.ptr 1)) (n:=1) (ws:=G.rows.pvs) (p:=(svn x).pv) (ρ1:=⟨vs,mu'++D⟩) (iy _) rfl rfl rfl)
  refine ⟨D,?_⟩
  rw [← List.append_assoc]
  exact seq_go s1 (seq_go (iff_no (not_go (tT_go (p:=.bl true) s2 rfl rfl)) rfl) s3)
end
theorem iy3 {G:Pg} {X:PV} {x:Str} {ps bs:List PV} {o0 o2 o3 o4 o5 o6:Option Lc} {mu:Mu} (hx:G.boxes=.tup (.str x::ps)::bs):eIy (eIy (eIy (eVar 1) (eC (.int 0))) (eC (.int 0))) (eC (.int 0)) ⟨[o0,some (.sh (G.pvx X)),o2,o3,o4,o5,o6],mu⟩=some (.sh (.str x),⟨[o0,some (.sh (G.pvx X)),o2,o3,o4,o5,o6],mu⟩):=by
  obtain ⟨bx,gr,fs,rs⟩:=G
  cases hx
  have a0:∀ (p:PV) (l:List PV),atI (p::l) 0=some p:=fun p l=>by
    obtain ⟨q,h1,h2⟩:=atI_some (l:=p::l) (i:=0) (by decide) (by rw [List.length_cons]; omega)
    cases h2
    exact h1
  let Q:Ev:=⟨[o0,some (.sh (Pg.pvx ⟨.tup (.str x::ps)::bs,gr,fs,rs⟩ X)),o2,o3,o4,o5,o6],mu⟩
  have e1:eIy (eVar 1) (eC (.int 0)) Q=some (.sh (.lst (.tup (.str x::ps)::bs)),Q):=rfl
  have e2:eIy (eIy (eVar 1) (eC (.int 0))) (eC (.int 0)) Q=some (.sh (.tup (.str x::ps)),Q):=by
    unfold eIy at e1 ⊢
    rw [e1,Option.bind_some]
    show ((atI (.tup (.str x::ps)::bs) 0).map Lc.sh).map _=_
    rw [a0]
    rfl
  show eIy (eIy (eIy (eVar 1) (eC (.int 0))) (eC (.int 0))) (eC (.int 0)) Q=_
  generalize eIy (eIy (eVar 1) (eC (.int 0))) (eC (.int 0))=f at e2 ⊢
  unfold eIy
  rw [e2,Option.bind_some]
  show ((atI (.str x::ps) 0).map Lc.sh).map _=_
  rw [a0]
  rfl
theorem law_true (ns:List Int) (hn:ns.length<=63):∃ mu,m_law [.lst (ns.map PV.int)] []=some (.sh (.bl true),mu):=by
  obtain ⟨G,pn,fn,ed⟩:=drawn_eq (ns:=ns) hn
  obtain ⟨d,ec⟩:=cell_eq (ns:=ns) (k:=2) hn (by decide) (by decide)
  have e1:=ed []
  have e2:=ed [some pn,some (.lst G.rows.pvs)]
  generalize hS:PV.lst (ns.map PV.int)=S at e1 e2 ec ⊢
  obtain ⟨x,ps,bs,hx⟩:=fn.one
  have ct:=fn.ct
  have g:G.good:=Pg.mk_good fn.fn fn.ok fn.pn fn.dp (by omega)
  have g':(G.more x).good:=Pg.mk_good fn.fn (Rows.snoc_ok _ _ fn.ok ⟨⟨by decide +kernel,by decide +kernel,by decide +kernel⟩,rfl⟩) (Rows.snoc_pns _ _ fn.pn (mem2 (.str _) (.tup _ (mem2 (.str _) (.int _))))) (Rows.snoc_dep _ _ 10 fn.dp (by show 1 + 1<=10; decide)) (by
    show fcnt G.fns + (G.rows.snoc (svn x)).cnt<=50
    rw [Rows.snoc_cnt]
    show fcnt G.fns + (G.rows.cnt + 1)<=50
    omega)
  have eok:∀ e ∈ G.es,e.ok:=fun e he=>(g.es e he).1
  have epn:∀ e ∈ G.es,e.r.pn:=fun e he=>(g.es e he).2
  have el:=g.ln
  have hr:G.rows.pvs.length<=100:=by have:=Rows.pvs_len G.rows; omega
  let R:PV:=.lst G.rows.pvs
  let X1:=some (Lc.sh (G.pvx (.ptr 1)))
  let X2:=some (Lc.sh (G.pvx R))
  let V:Option Lc->Option Lc->Option Lc->Option Lc->Option Lc->Option Lc->List (Option Lc):=fun o1 o2 o3 o4 o5 o6=>[some (.sh S),o1,o2,o3,o4,o5,o6]
  have st1:sSet 1 (eCall m__law_drawn (aCons (eVar 0) aNil)) (env0 7 [S] [])=some (.nx ⟨V X1 none none none none none,[some pn,some R]⟩):=set_go (call_go (ps:=[S]) rfl rfl rfl rfl e1) rfl rfl
  have st2:sSet 2 (eMelt (eCall m__law_drawn (aCons (eVar 0) aNil))) ⟨V X1 none none none none none,[some pn,some R]⟩=some (.nx ⟨V X1 X2 none none none none,[some pn,some R,some pn,none]⟩):=
    set_go (melt_go (n:=3) (ws:=G.rows.pvs) (call_go (ps:=[S]) (ls:=[.sh S]) (ρ1:=⟨V X1 none none none none none,[some pn,some R]⟩) rfl rfl rfl rfl e2) rfl) rfl rfl
  let A:=cA pn G
  have st3:sSet 3 (eOpen (eCall m__law_laid (aCons (eVar 2) aNil))) ⟨V X1 X2 none none none none,[some pn,some R,some pn,none]⟩=some (.nx ⟨V X1 X2 (some (.own (dues G))) none none none,A⟩):=
    set_go (open_go (n:=4) (p:=dues G) (call_go (ps:=[G.pvx R]) (ls:=[.sh (G.pvx R)]) (ρ1:=⟨V X1 X2 none none none none,[some pn,some R,some pn,none]⟩) rfl rfl rfl rfl (laid_eq g.ok)) rfl) rfl rfl
  let n:=A.length + esz G.es
  let E:=some (PV.lst (ents G.es A.length))
  let mu4:Mu:=A++(cells G.es A.length++[E])
  let P4:=some (Lc.sh (.ptr n))
  have st4:sSet 4 (eSeal (eCall m_numbered (aCons (eVar 1) aNil))) ⟨V X1 X2 (some (.own (dues G))) none none none,A⟩=some (.nx ⟨V X1 X2 (some (.own (dues G))) P4 none none,mu4⟩):=by
    refine set_go (ρ1:=⟨V X1 X2 (some (.own (dues G))) none none none,(A++cells G.es A.length)++[E]⟩) (seal_go (n:=n) (p:=.lst (ents G.es A.length)) (ρ1:=⟨V X1 X2 (some (.own (dues G))) none none none,A++cells G.es A.length⟩) (call_go (ps:=[G.pvx (.ptr 1)]) (ls:=[.sh (G.pvx (.ptr 1))]) (ρ1:=⟨V X1 X2 (some (.own (dues G))) none none none,A⟩) rfl rfl rfl rfl (numbered_eq g.ok (.inr ⟨1,rfl,rfl⟩))) ?_) rfl ?_
    · show (A++cells G.es A.length).length=_
      rw [List.length_append,cells_len]
    · rw [List.append_assoc]
      rfl
  let D3:=some (Lc.sh (dues G))
  let Q4:Ev:=⟨V X1 X2 D3 P4 none none,mu4⟩
  have gn:mu4[n]?=some (some (.lst (ents G.es A.length))):=mid_get (by rw [cells_len])
  have t1:eCallD (m__law_same 40) (aCons (eVar 4) (aCons (eVar 3) aNil)) ⟨V X1 X2 (some (.own (dues G))) P4 none none,mu4⟩=some (.sh (.bl true),Q4):=by
    refine sm_go (es:=G.es) (ls:=[.sh (.ptr n),.sh (dues G)]) rfl ?_ g.es
    show [resD mu4 40 (.ptr n),resD mu4 40 (dues G)]=_
    rw [res_b g.es,res_p g.es gn]
  have t2:eCall m__law_apart (aCons (eVar 4) (aCons (eVar 3) (aCons (eCall m__law_cell (aCons (eVar 0) (aCons (eC (.int 2)) aNil))) aNil))) Q4=some (.sh (.bl true),Q4):=
    call_go (ps:=[.ptr n,dues G,.int d]) (ls:=[.sh (.ptr n),.sh (dues G),.sh (.int d)]) (ρ1:=Q4) (cons_go (ρ1:=Q4) rfl (cons_go (ρ1:=Q4) rfl (cons_go (call_go (ps:=[S,.int 2]) (ls:=[.sh S,.sh (.int 2)]) (ρ1:=Q4) rfl rfl rfl rfl (ec mu4)) rfl))) rfl rfl rfl (apart_eq (A:=A) (B:=[E]) (g:=n) rfl eok epn (by omega) fun X hX=>mid_get (by rw [hX]))
  have st5:=iff_no (c:=tOrF (tNotF (tT (eCallD (m__law_same 40) (aCons (eVar 4) (aCons (eVar 3) aNil))) truP)) (tNotF (tT (eCall m__law_apart (aCons (eVar 4) (aCons (eVar 3) (aCons (eCall m__law_cell (aCons (eVar 0) (aCons (eC (.int 2)) aNil))) aNil)))) truP))) (f:=sRet (eC (.bl false))) (or_go (b:=false) (b2:=false) (not_go (b:=true) (tT_go (p:=.bl true) t1 rfl rfl)) (not_go (b:=true) (tT_go (p:=.bl true) t2 rfl rfl))) rfl
  obtain ⟨Y,ey⟩:=spoiled_eq (A:=A) (B:=[]) (es:=G.es) eok (by omega)
  have st6:sExpr (eCall m__law_spoiled (aCons (eVar 4) aNil)) Q4=some (.nx ⟨V X1 X2 D3 P4 none none,A++Y⟩):=
    expr_go (call_go (ps:=[.ptr n]) (ls:=[.sh (.ptr n)]) (ρ1:=Q4) rfl rfl rfl rfl ey)
  let C:=cells G.es (A++Y).length
  let K5:=some (Lc.own (.lst (ents G.es (A++Y).length)))
  have st7:sSet 5 (eCall m_numbered (aCons (eVar 1) aNil)) ⟨V X1 X2 D3 P4 none none,A++Y⟩=some (.nx ⟨V X1 X2 D3 P4 K5 none,(A++Y)++C⟩):=
    set_go (call_go (ps:=[G.pvx (.ptr 1)]) (ls:=[.sh (G.pvx (.ptr 1))]) (ρ1:=⟨V X1 X2 D3 P4 none none,A++Y⟩) rfl rfl rfl rfl (numbered_eq g.ok (.inr ⟨1,rfl,rfl⟩))) rfl rfl
  let S6:=some (Lc.sh (svn x).pv)
  have st8:sSet 6 (eTup (aCons (eC (.str "set")) (aCons (eIy (eIy (eIy (eVar 1) (eC (.int 0))) (eC (.int 0))) (eC (.int 0))) (aCons (eTup (aCons (eC (.str "num")) (aCons (eC (.int 7)) aNil))) aNil)))) ⟨V X1 X2 D3 P4 K5 none,(A++Y)++C⟩=some (.nx ⟨V X1 X2 D3 P4 K5 S6,(A++Y)++C⟩):=by
    have iy:∀ mu,eIy (eIy (eIy (eVar 1) (eC (.int 0))) (eC (.int 0))) (eC (.int 0)) ⟨V X1 X2 D3 P4 K5 none,mu⟩=some (.sh (.str x),⟨V X1 X2 D3 P4 K5 none,mu⟩):=fun mu=>iy3 hx
    exact set_go (tup_go (ls:=[.sh (.str "set"),.sh (.str x),.sh (.tup [.str "num",.int 7])]) (cons_go rfl (cons_go (iy _) (cons_go rfl rfl))) rfl rfl) rfl rfl
  have lt:tT (eOp ltP (eLen (eVar 3)) (eC (.int 40))) blP ⟨V X1 X2 D3 P4 K5 S6,(A++Y)++C⟩=some (decide (((G.es.map Ent.due).length:Int) < 40),⟨V X1 X2 D3 P4 K5 S6,(A++Y)++C⟩):=rfl
  have st9:∃ D:Mu,sIf (tT (eOp ltP (eLen (eVar 3)) (eC (.int 40))) blP) ifB sNil ⟨V X1 X2 D3 P4 K5 S6,(A++Y)++C⟩=some (.nx ⟨V X1 X2 D3 P4 K5 S6,(A++Y)++(C++D)⟩):=by
    by_cases h:((G.es.map Ent.due).length:Int) < 40
    · obtain ⟨D,e⟩:=law_more (S:=S) (pn:=pn) (G:=G) (x:=x) (Y:=Y) (o4:=P4) (o5:=K5) (C:=C) g hr g'
      exact ⟨D,iff_nx lt (decide_eq_true h) e⟩
    · exact ⟨[],by rw [List.append_nil]; exact iff_no lt (decide_eq_false h)⟩
  obtain ⟨D,st9⟩:=st9
  exact ⟨_,runP_rt (seq_go st1 (seq_go st2 (seq_go st3 (seq_go st4 (seq_go st5 (seq_go st6 (seq_go st7 (seq_go st8 (seq_go st9 (law_fin (S:=S) (pn:=pn) (Y:=Y) (B:=D) (o4:=P4) (o6:=S6) fn g))))))))))⟩
theorem all_mk {l:PySem.W.OpenLaw} {w:World} {K:FG} {h:Heap} {mg:Str->Option Value} {fa f1 f2 f3 f4 f5 f6 f7 f8 f9 f10 f11 f12 f13 f14 f15 f16 f17 f18 f19 f20 f21 f22 f23 f24 f25 f26:Addr} (X:K.In h) (G:h.Ns mainGlobals mg) (hfa:mg "law" = some (.ref fa))
    {od1 an1 od2 an2 od3 an3 od4 an4 od5 an5 od6 an6 od7 an7 od8 an8 od9 an9 od10 an10 od11 an11 od12 an12 od13 an13 od14 an14 od15 an15 od16 an16 od17 an17 od18 an18 od19 an19 od20 an20 od21 an21 od22 an22 od23 an23 od24 an24 od25 an25 od26 an26:Option Addr} {sl1 sl2 sl3 sl4 sl5 sl6 sl7 sl8 sl9 sl10 sl11 sl12 sl13 sl14 sl15 sl16 sl17 sl18 sl19 sl20 sl21 sl22 sl23 sl24 sl25 sl26:Array (Option Value)} {oc1 kV1 dc1 pm1 cd1 ct1 oc2 kV2 dc2 pm2 cd2 ct2 oc3 kV3 dc3 pm3 cd3 ct3 oc4 kV4 dc4 pm4 cd4 ct4 oc5 kV5 dc5 pm5 cd5 ct5 oc6 kV6 dc6 pm6 cd6 ct6 oc7 kV7 dc7 pm7 cd7 ct7 oc8 kV8 dc8 pm8 cd8 ct8 oc9 kV9 dc9 pm9 cd9 ct9 oc10 kV10 dc10 pm10 cd10 ct10 oc11 kV11 dc11 pm11 cd11 ct11 oc12 kV12 dc12 pm12 cd12 ct12 oc13 kV13 dc13 pm13 cd13 ct13 oc14 kV14 dc14 pm14 cd14 ct14 oc15 kV15 dc15 pm15 cd15 ct15 oc16 kV16 dc16 pm16 cd16 ct16 oc17 kV17 dc17 pm17 cd17 ct17 oc18 kV18 dc18 pm18 cd18 ct18 oc19 kV19 dc19 pm19 cd19 ct19 oc20 kV20 dc20 pm20 cd20 ct20 oc21 kV21 dc21 pm21 cd21 ct21 oc22 kV22 dc22 pm22 cd22 ct22 oc23 kV23 dc23 pm23 cd23 ct23 oc24 kV24 dc24 pm24 cd24 ct24 oc25 kV25 dc25 pm25 cd25 ct25 oc26 kV26 dc26 pm26 cd26 ct26:Value}
    (a1:PySem.W.nsIn K mainGlobals "blocks_of" = some (some (.ref f1))) (l1:K.lookup f1=some ⟨oc1,od1,.func (PySem.W.fnOf "blocks_of" "blocks_of" (defArgs s_blocks_of) (defBody s_blocks_of) (defScope s_blocks_of) .none kV1 dc1 pm1 an1 cd1 ct1),sl1⟩) (c1:PySem.W.codeIn K cd1 "blocks_of" = true) (k1:PySem.W.keepIn K (.ref f1)=true)
    (a2:PySem.W.nsIn K mainGlobals "copied" = some (some (.ref f2))) (l2:K.lookup f2=some ⟨oc2,od2,.func (PySem.W.fnOf "copied" "copied" (defArgs s_copied) (defBody s_copied) (defScope s_copied) .none kV2 dc2 pm2 an2 cd2 ct2),sl2⟩) (c2:PySem.W.codeIn K cd2 "copied" = true) (k2:PySem.W.keepIn K (.ref f2)=true)
    (a3:PySem.W.nsIn K mainGlobals "all_copied" = some (some (.ref f3))) (l3:K.lookup f3=some ⟨oc3,od3,.func (PySem.W.fnOf "all_copied" "all_copied" (defArgs s_all_copied) (defBody s_all_copied) (defScope s_all_copied) .none kV3 dc3 pm3 an3 cd3 ct3),sl3⟩) (c3:PySem.W.codeIn K cd3 "all_copied" = true) (k3:PySem.W.keepIn K (.ref f3)=true)
    (a4:PySem.W.nsIn K mainGlobals "laid_out" = some (some (.ref f4))) (l4:K.lookup f4=some ⟨oc4,od4,.func (PySem.W.fnOf "laid_out" "laid_out" (defArgs s_laid_out) (defBody s_laid_out) (defScope s_laid_out) .none kV4 dc4 pm4 an4 cd4 ct4),sl4⟩) (c4:PySem.W.codeIn K cd4 "laid_out" = true) (k4:PySem.W.keepIn K (.ref f4)=true)
    (a5:PySem.W.nsIn K mainGlobals "numbered" = some (some (.ref f5))) (l5:K.lookup f5=some ⟨oc5,od5,.func (PySem.W.fnOf "numbered" "numbered" (defArgs s_numbered) (defBody s_numbered) (defScope s_numbered) .none kV5 dc5 pm5 an5 cd5 ct5),sl5⟩) (c5:PySem.W.codeIn K cd5 "numbered" = true) (k5:PySem.W.keepIn K (.ref f5)=true)
    (a6:PySem.W.nsIn K mainGlobals "_law_cell" = some (some (.ref f6))) (l6:K.lookup f6=some ⟨oc6,od6,.func (PySem.W.fnOf "_law_cell" "_law_cell" (defArgs s__law_cell) (defBody s__law_cell) (defScope s__law_cell) .none kV6 dc6 pm6 an6 cd6 ct6),sl6⟩) (c6:PySem.W.codeIn K cd6 "_law_cell" = true) (k6:PySem.W.keepIn K (.ref f6)=true)
    (a7:PySem.W.nsIn K mainGlobals "_law_next" = some (some (.ref f7))) (l7:K.lookup f7=some ⟨oc7,od7,.func (PySem.W.fnOf "_law_next" "_law_next" (defArgs s__law_next) (defBody s__law_next) (defScope s__law_next) .none kV7 dc7 pm7 an7 cd7 ct7),sl7⟩) (c7:PySem.W.codeIn K cd7 "_law_next" = true) (k7:PySem.W.keepIn K (.ref f7)=true)
    (a8:PySem.W.nsIn K mainGlobals "_law_names" = some (some (.ref f8))) (l8:K.lookup f8=some ⟨oc8,od8,.func (PySem.W.fnOf "_law_names" "_law_names" (defArgs s__law_names) (defBody s__law_names) (defScope s__law_names) .none kV8 dc8 pm8 an8 cd8 ct8),sl8⟩) (c8:PySem.W.codeIn K cd8 "_law_names" = true) (k8:PySem.W.keepIn K (.ref f8)=true)
    (a9:PySem.W.nsIn K mainGlobals "_law_number" = some (some (.ref f9))) (l9:K.lookup f9=some ⟨oc9,od9,.func (PySem.W.fnOf "_law_number" "_law_number" (defArgs s__law_number) (defBody s__law_number) (defScope s__law_number) .none kV9 dc9 pm9 an9 cd9 ct9),sl9⟩) (c9:PySem.W.codeIn K cd9 "_law_number" = true) (k9:PySem.W.keepIn K (.ref f9)=true)
    (a10:PySem.W.nsIn K mainGlobals "_law_expression" = some (some (.ref f10))) (l10:K.lookup f10=some ⟨oc10,od10,.func (PySem.W.fnOf "_law_expression" "_law_expression" (defArgs s__law_expression) (defBody s__law_expression) (defScope s__law_expression) .none kV10 dc10 pm10 an10 cd10 ct10),sl10⟩) (c10:PySem.W.codeIn K cd10 "_law_expression" = true) (k10:PySem.W.keepIn K (.ref f10)=true)
    (a11:PySem.W.nsIn K mainGlobals "_law_part" = some (some (.ref f11))) (l11:K.lookup f11=some ⟨oc11,od11,.func (PySem.W.fnOf "_law_part" "_law_part" (defArgs s__law_part) (defBody s__law_part) (defScope s__law_part) .none kV11 dc11 pm11 an11 cd11 ct11),sl11⟩) (c11:PySem.W.codeIn K cd11 "_law_part" = true) (k11:PySem.W.keepIn K (.ref f11)=true)
    (a12:PySem.W.nsIn K mainGlobals "_law_rows" = some (some (.ref f12))) (l12:K.lookup f12=some ⟨oc12,od12,.func (PySem.W.fnOf "_law_rows" "_law_rows" (defArgs s__law_rows) (defBody s__law_rows) (defScope s__law_rows) .none kV12 dc12 pm12 an12 cd12 ct12),sl12⟩) (c12:PySem.W.codeIn K cd12 "_law_rows" = true) (k12:PySem.W.keepIn K (.ref f12)=true)
    (a13:PySem.W.nsIn K mainGlobals "_law_row" = some (some (.ref f13))) (l13:K.lookup f13=some ⟨oc13,od13,.func (PySem.W.fnOf "_law_row" "_law_row" (defArgs s__law_row) (defBody s__law_row) (defScope s__law_row) .none kV13 dc13 pm13 an13 cd13 ct13),sl13⟩) (c13:PySem.W.codeIn K cd13 "_law_row" = true) (k13:PySem.W.keepIn K (.ref f13)=true)
    (a14:PySem.W.nsIn K mainGlobals "_law_rank" = some (some (.ref f14))) (l14:K.lookup f14=some ⟨oc14,od14,.func (PySem.W.fnOf "_law_rank" "_law_rank" (defArgs s__law_rank) (defBody s__law_rank) (defScope s__law_rank) .none kV14 dc14 pm14 an14 cd14 ct14),sl14⟩) (c14:PySem.W.codeIn K cd14 "_law_rank" = true) (k14:PySem.W.keepIn K (.ref f14)=true)
    (a15:PySem.W.nsIn K mainGlobals "_law_counts" = some (some (.ref f15))) (l15:K.lookup f15=some ⟨oc15,od15,.func (PySem.W.fnOf "_law_counts" "_law_counts" (defArgs s__law_counts) (defBody s__law_counts) (defScope s__law_counts) .none kV15 dc15 pm15 an15 cd15 ct15),sl15⟩) (c15:PySem.W.codeIn K cd15 "_law_counts" = true) (k15:PySem.W.keepIn K (.ref f15)=true)
    (a16:PySem.W.nsIn K mainGlobals "_law_heads" = some (some (.ref f16))) (l16:K.lookup f16=some ⟨oc16,od16,.func (PySem.W.fnOf "_law_heads" "_law_heads" (defArgs s__law_heads) (defBody s__law_heads) (defScope s__law_heads) .none kV16 dc16 pm16 an16 cd16 ct16),sl16⟩) (c16:PySem.W.codeIn K cd16 "_law_heads" = true) (k16:PySem.W.keepIn K (.ref f16)=true)
    (a17:PySem.W.nsIn K mainGlobals "_law_program" = some (some (.ref f17))) (l17:K.lookup f17=some ⟨oc17,od17,.func (PySem.W.fnOf "_law_program" "_law_program" (defArgs s__law_program) (defBody s__law_program) (defScope s__law_program) .none kV17 dc17 pm17 an17 cd17 ct17),sl17⟩) (c17:PySem.W.codeIn K cd17 "_law_program" = true) (k17:PySem.W.keepIn K (.ref f17)=true)
    (a18:PySem.W.nsIn K mainGlobals "_law_lay" = some (some (.ref f18))) (l18:K.lookup f18=some ⟨oc18,od18,.func (PySem.W.fnOf "_law_lay" "_law_lay" (defArgs s__law_lay) (defBody s__law_lay) (defScope s__law_lay) .none kV18 dc18 pm18 an18 cd18 ct18),sl18⟩) (c18:PySem.W.codeIn K cd18 "_law_lay" = true) (k18:PySem.W.keepIn K (.ref f18)=true)
    (a19:PySem.W.nsIn K mainGlobals "_law_laid" = some (some (.ref f19))) (l19:K.lookup f19=some ⟨oc19,od19,.func (PySem.W.fnOf "_law_laid" "_law_laid" (defArgs s__law_laid) (defBody s__law_laid) (defScope s__law_laid) .none kV19 dc19 pm19 an19 cd19 ct19),sl19⟩) (c19:PySem.W.codeIn K cd19 "_law_laid" = true) (k19:PySem.W.keepIn K (.ref f19)=true)
    (a20:PySem.W.nsIn K mainGlobals "_law_same" = some (some (.ref f20))) (l20:K.lookup f20=some ⟨oc20,od20,.func (PySem.W.fnOf "_law_same" "_law_same" (defArgs s__law_same) (defBody s__law_same) (defScope s__law_same) .none kV20 dc20 pm20 an20 cd20 ct20),sl20⟩) (c20:PySem.W.codeIn K cd20 "_law_same" = true) (k20:PySem.W.keepIn K (.ref f20)=true)
    (a21:PySem.W.nsIn K mainGlobals "_law_marked" = some (some (.ref f21))) (l21:K.lookup f21=some ⟨oc21,od21,.func (PySem.W.fnOf "_law_marked" "_law_marked" (defArgs s__law_marked) (defBody s__law_marked) (defScope s__law_marked) .none kV21 dc21 pm21 an21 cd21 ct21),sl21⟩) (c21:PySem.W.codeIn K cd21 "_law_marked" = true) (k21:PySem.W.keepIn K (.ref f21)=true)
    (a22:PySem.W.nsIn K mainGlobals "_law_cleaned" = some (some (.ref f22))) (l22:K.lookup f22=some ⟨oc22,od22,.func (PySem.W.fnOf "_law_cleaned" "_law_cleaned" (defArgs s__law_cleaned) (defBody s__law_cleaned) (defScope s__law_cleaned) .none kV22 dc22 pm22 an22 cd22 ct22),sl22⟩) (c22:PySem.W.codeIn K cd22 "_law_cleaned" = true) (k22:PySem.W.keepIn K (.ref f22)=true)
    (a23:PySem.W.nsIn K mainGlobals "_law_spoiled" = some (some (.ref f23))) (l23:K.lookup f23=some ⟨oc23,od23,.func (PySem.W.fnOf "_law_spoiled" "_law_spoiled" (defArgs s__law_spoiled) (defBody s__law_spoiled) (defScope s__law_spoiled) .none kV23 dc23 pm23 an23 cd23 ct23),sl23⟩) (c23:PySem.W.codeIn K cd23 "_law_spoiled" = true) (k23:PySem.W.keepIn K (.ref f23)=true)
    (a24:PySem.W.nsIn K mainGlobals "_law_apart" = some (some (.ref f24))) (l24:K.lookup f24=some ⟨oc24,od24,.func (PySem.W.fnOf "_law_apart" "_law_apart" (defArgs s__law_apart) (defBody s__law_apart) (defScope s__law_apart) .none kV24 dc24 pm24 an24 cd24 ct24),sl24⟩) (c24:PySem.W.codeIn K cd24 "_law_apart" = true) (k24:PySem.W.keepIn K (.ref f24)=true)
    (a25:PySem.W.nsIn K mainGlobals "_law_drawn" = some (some (.ref f25))) (l25:K.lookup f25=some ⟨oc25,od25,.func (PySem.W.fnOf "_law_drawn" "_law_drawn" (defArgs s__law_drawn) (defBody s__law_drawn) (defScope s__law_drawn) .none kV25 dc25 pm25 an25 cd25 ct25),sl25⟩) (c25:PySem.W.codeIn K cd25 "_law_drawn" = true) (k25:PySem.W.keepIn K (.ref f25)=true)
    (a26:PySem.W.nsIn K mainGlobals "law" = some (some (.ref f26))) (l26:K.lookup f26=some ⟨oc26,od26,.func (PySem.W.fnOf "law" "law" (defArgs s_law) (defBody s_law) (defScope s_law) .none kV26 dc26 pm26 an26 cd26 ct26),sl26⟩) (c26:PySem.W.codeIn K cd26 "law" = true) (k26:PySem.W.keepIn K (.ref f26)=true)
    (z0:PySem.W.nsIn K mainGlobals "bool" = some none)
    (z1:PySem.W.nsIn K mainGlobals "enumerate" = some none)
    (z2:PySem.W.nsIn K mainGlobals "int" = some none)
    (z3:PySem.W.nsIn K mainGlobals "isinstance" = some none)
    (z4:PySem.W.nsIn K mainGlobals "len" = some none)
    (z5:PySem.W.nsIn K mainGlobals "list" = some none)
    (z6:PySem.W.nsIn K mainGlobals "max" = some none)
    (z7:PySem.W.nsIn K mainGlobals "min" = some none)
    (z8:PySem.W.nsIn K mainGlobals "range" = some none)
    (z9:PySem.W.nsIn K mainGlobals "reversed" = some none)
    (z10:PySem.W.nsIn K mainGlobals "str" = some none)
    (z11:PySem.W.nsIn K mainGlobals "tuple" = some none)
    (z12:PySem.W.nsIn K mainGlobals "zip" = some none)
    (HL:∀ ns:List Int,ns.length<=63->∃ mu,m_law [.lst (ns.map PV.int)] []=some (.sh (.bl true),mu))
    : ∃ fd:FuncData,(∀ (s:Shared) (v:Value),BindsTo s fd ⟨[v],[]⟩ [("_law_script",v)])/\∀ base:Heap,K.In base->base.Ns mainGlobals mg->FnOk l.prog w K mg base CX0 87 fa fd ["_law_script"] (spLaw K):=by
  have F_blocks_of:DefAt K mg "blocks_of" s_blocks_of ["row"]:=⟨_,_,fun_mk (st:=s_blocks_of) l1 c1 k1,PySem.W.mg_of X G a1,(fun_mk (st:=s_blocks_of) l1 c1 k1).binds (ps:=["row"]) fun _ _ _ _ _ _ us hl=>by obtain ⟨_,rfl⟩:=ln1 hl; rfl⟩
  have F_copied:DefAt K mg "copied" s_copied ["row"]:=⟨_,_,fun_mk (st:=s_copied) l2 c2 k2,PySem.W.mg_of X G a2,(fun_mk (st:=s_copied) l2 c2 k2).binds (ps:=["row"]) fun _ _ _ _ _ _ us hl=>by obtain ⟨_,rfl⟩:=ln1 hl; rfl⟩
  have F_all_copied:DefAt K mg "all_copied" s_all_copied ["rows"]:=⟨_,_,fun_mk (st:=s_all_copied) l3 c3 k3,PySem.W.mg_of X G a3,(fun_mk (st:=s_all_copied) l3 c3 k3).binds (ps:=["rows"]) fun _ _ _ _ _ _ us hl=>by obtain ⟨_,rfl⟩:=ln1 hl; rfl⟩
  have F_laid_out:DefAt K mg "laid_out" s_laid_out ["where", "above", "block", "rows", "start"]:=⟨_,_,fun_mk (st:=s_laid_out) l4 c4 k4,PySem.W.mg_of X G a4,(fun_mk (st:=s_laid_out) l4 c4 k4).binds (ps:=["where", "above", "block", "rows", "start"]) fun _ _ _ _ _ _ us hl=>by obtain ⟨_,_,_,_,_,rfl⟩:=ln5 hl; rfl⟩
  have F_numbered:DefAt K mg "numbered" s_numbered ["program"]:=⟨_,_,fun_mk (st:=s_numbered) l5 c5 k5,PySem.W.mg_of X G a5,(fun_mk (st:=s_numbered) l5 c5 k5).binds (ps:=["program"]) fun _ _ _ _ _ _ us hl=>by obtain ⟨_,rfl⟩:=ln1 hl; rfl⟩
  have F__law_cell:DefAt K mg "_law_cell" s__law_cell ["_law_script", "_law_k"]:=⟨_,_,fun_mk (st:=s__law_cell) l6 c6 k6,PySem.W.mg_of X G a6,(fun_mk (st:=s__law_cell) l6 c6 k6).binds (ps:=["_law_script", "_law_k"]) fun _ _ _ _ _ _ us hl=>by obtain ⟨_,_,rfl⟩:=ln2 hl; rfl⟩
  have F__law_next:DefAt K mg "_law_next" s__law_next ["_law_pen", "_law_most"]:=⟨_,_,fun_mk (st:=s__law_next) l7 c7 k7,PySem.W.mg_of X G a7,(fun_mk (st:=s__law_next) l7 c7 k7).binds (ps:=["_law_pen", "_law_most"]) fun _ _ _ _ _ _ us hl=>by obtain ⟨_,_,rfl⟩:=ln2 hl; rfl⟩
  have F__law_names:DefAt K mg "_law_names" s__law_names ["_law_pen", "_law_total"]:=⟨_,_,fun_mk (st:=s__law_names) l8 c8 k8,PySem.W.mg_of X G a8,(fun_mk (st:=s__law_names) l8 c8 k8).binds (ps:=["_law_pen", "_law_total"]) fun _ _ _ _ _ _ us hl=>by obtain ⟨_,_,rfl⟩:=ln2 hl; rfl⟩
  have F__law_number:DefAt K mg "_law_number" s__law_number ["_law_pen"]:=⟨_,_,fun_mk (st:=s__law_number) l9 c9 k9,PySem.W.mg_of X G a9,(fun_mk (st:=s__law_number) l9 c9 k9).binds (ps:=["_law_pen"]) fun _ _ _ _ _ _ us hl=>by obtain ⟨_,rfl⟩:=ln1 hl; rfl⟩
  have F__law_expression:DefAt K mg "_law_expression" s__law_expression ["_law_pen", "_law_deep", "_law_known"]:=⟨_,_,fun_mk (st:=s__law_expression) l10 c10 k10,PySem.W.mg_of X G a10,(fun_mk (st:=s__law_expression) l10 c10 k10).binds (ps:=["_law_pen", "_law_deep", "_law_known"]) fun _ _ _ _ _ _ us hl=>by obtain ⟨_,_,_,rfl⟩:=ln3 hl; rfl⟩
  have F__law_part:DefAt K mg "_law_part" s__law_part ["_law_pen", "_law_known"]:=⟨_,_,fun_mk (st:=s__law_part) l11 c11 k11,PySem.W.mg_of X G a11,(fun_mk (st:=s__law_part) l11 c11 k11).binds (ps:=["_law_pen", "_law_known"]) fun _ _ _ _ _ _ us hl=>by obtain ⟨_,_,rfl⟩:=ln2 hl; rfl⟩
  have F__law_rows:DefAt K mg "_law_rows" s__law_rows ["_law_pen", "_law_deep", "_law_known", "_law_most"]:=⟨_,_,fun_mk (st:=s__law_rows) l12 c12 k12,PySem.W.mg_of X G a12,(fun_mk (st:=s__law_rows) l12 c12 k12).binds (ps:=["_law_pen", "_law_deep", "_law_known", "_law_most"]) fun _ _ _ _ _ _ us hl=>by obtain ⟨_,_,_,_,rfl⟩:=ln4 hl; rfl⟩
  have F__law_row:DefAt K mg "_law_row" s__law_row ["_law_pen", "_law_deep", "_law_known"]:=⟨_,_,fun_mk (st:=s__law_row) l13 c13 k13,PySem.W.mg_of X G a13,(fun_mk (st:=s__law_row) l13 c13 k13).binds (ps:=["_law_pen", "_law_deep", "_law_known"]) fun _ _ _ _ _ _ us hl=>by obtain ⟨_,_,_,rfl⟩:=ln3 hl; rfl⟩
  have F__law_rank:DefAt K mg "_law_rank" s__law_rank ["_law_pen", "_law_ranks"]:=⟨_,_,fun_mk (st:=s__law_rank) l14 c14 k14,PySem.W.mg_of X G a14,(fun_mk (st:=s__law_rank) l14 c14 k14).binds (ps:=["_law_pen", "_law_ranks"]) fun _ _ _ _ _ _ us hl=>by obtain ⟨_,_,rfl⟩:=ln2 hl; rfl⟩
  have F__law_counts:DefAt K mg "_law_counts" s__law_counts ["_law_pen"]:=⟨_,_,fun_mk (st:=s__law_counts) l15 c15 k15,PySem.W.mg_of X G a15,(fun_mk (st:=s__law_counts) l15 c15 k15).binds (ps:=["_law_pen"]) fun _ _ _ _ _ _ us hl=>by obtain ⟨_,rfl⟩:=ln1 hl; rfl⟩
  have F__law_heads:DefAt K mg "_law_heads" s__law_heads ["_law_pen", "_law_names_here", "_law_at"]:=⟨_,_,fun_mk (st:=s__law_heads) l16 c16 k16,PySem.W.mg_of X G a16,(fun_mk (st:=s__law_heads) l16 c16 k16).binds (ps:=["_law_pen", "_law_names_here", "_law_at"]) fun _ _ _ _ _ _ us hl=>by obtain ⟨_,_,_,rfl⟩:=ln3 hl; rfl⟩
  have F__law_program:DefAt K mg "_law_program" s__law_program ["_law_pen", "_law_ranks"]:=⟨_,_,fun_mk (st:=s__law_program) l17 c17 k17,PySem.W.mg_of X G a17,(fun_mk (st:=s__law_program) l17 c17 k17).binds (ps:=["_law_pen", "_law_ranks"]) fun _ _ _ _ _ _ us hl=>by obtain ⟨_,_,rfl⟩:=ln2 hl; rfl⟩
  have F__law_lay:DefAt K mg "_law_lay" s__law_lay ["_law_rows_here", "_law_where", "_law_told"]:=⟨_,_,fun_mk (st:=s__law_lay) l18 c18 k18,PySem.W.mg_of X G a18,(fun_mk (st:=s__law_lay) l18 c18 k18).binds (ps:=["_law_rows_here", "_law_where", "_law_told"]) fun _ _ _ _ _ _ us hl=>by obtain ⟨_,_,_,rfl⟩:=ln3 hl; rfl⟩
  have F__law_laid:DefAt K mg "_law_laid" s__law_laid ["_law_program_here"]:=⟨_,_,fun_mk (st:=s__law_laid) l19 c19 k19,PySem.W.mg_of X G a19,(fun_mk (st:=s__law_laid) l19 c19 k19).binds (ps:=["_law_program_here"]) fun _ _ _ _ _ _ us hl=>by obtain ⟨_,rfl⟩:=ln1 hl; rfl⟩
  have F__law_same:DefAt K mg "_law_same" s__law_same ["_law_got", "_law_due"]:=⟨_,_,fun_mk (st:=s__law_same) l20 c20 k20,PySem.W.mg_of X G a20,(fun_mk (st:=s__law_same) l20 c20 k20).binds (ps:=["_law_got", "_law_due"]) fun _ _ _ _ _ _ us hl=>by obtain ⟨_,_,rfl⟩:=ln2 hl; rfl⟩
  have F__law_marked:DefAt K mg "_law_marked" s__law_marked ["_law_row_here"]:=⟨_,_,fun_mk (st:=s__law_marked) l21 c21 k21,PySem.W.mg_of X G a21,(fun_mk (st:=s__law_marked) l21 c21 k21).binds (ps:=["_law_row_here"]) fun _ _ _ _ _ _ us hl=>by obtain ⟨_,rfl⟩:=ln1 hl; rfl⟩
  have F__law_cleaned:DefAt K mg "_law_cleaned" s__law_cleaned ["_law_row_here"]:=⟨_,_,fun_mk (st:=s__law_cleaned) l22 c22 k22,PySem.W.mg_of X G a22,(fun_mk (st:=s__law_cleaned) l22 c22 k22).binds (ps:=["_law_row_here"]) fun _ _ _ _ _ _ us hl=>by obtain ⟨_,rfl⟩:=ln1 hl; rfl⟩
  have F__law_spoiled:DefAt K mg "_law_spoiled" s__law_spoiled ["_law_told"]:=⟨_,_,fun_mk (st:=s__law_spoiled) l23 c23 k23,PySem.W.mg_of X G a23,(fun_mk (st:=s__law_spoiled) l23 c23 k23).binds (ps:=["_law_told"]) fun _ _ _ _ _ _ us hl=>by obtain ⟨_,rfl⟩:=ln1 hl; rfl⟩
  have F__law_apart:DefAt K mg "_law_apart" s__law_apart ["_law_got", "_law_due", "_law_start"]:=⟨_,_,fun_mk (st:=s__law_apart) l24 c24 k24,PySem.W.mg_of X G a24,(fun_mk (st:=s__law_apart) l24 c24 k24).binds (ps:=["_law_got", "_law_due", "_law_start"]) fun _ _ _ _ _ _ us hl=>by obtain ⟨_,_,_,rfl⟩:=ln3 hl; rfl⟩
  have F__law_drawn:DefAt K mg "_law_drawn" s__law_drawn ["_law_script"]:=⟨_,_,fun_mk (st:=s__law_drawn) l25 c25 k25,PySem.W.mg_of X G a25,(fun_mk (st:=s__law_drawn) l25 c25 k25).binds (ps:=["_law_script"]) fun _ _ _ _ _ _ us hl=>by obtain ⟨_,rfl⟩:=ln1 hl; rfl⟩
  have F_law:DefAt K mg "law" s_law ["_law_script"]:=⟨_,_,fun_mk (st:=s_law) l26 c26 k26,PySem.W.mg_of X G a26,(fun_mk (st:=s_law) l26 c26 k26).binds (ps:=["_law_script"]) fun _ _ _ _ _ _ us hl=>by obtain ⟨_,rfl⟩:=ln1 hl; rfl⟩
  have B:Blt mg ["bool", "enumerate", "int", "isinstance", "len", "list", "max", "min", "range", "reversed", "str", "tuple", "zip"]:=by
    intro x hx
    rcases List.mem_cons.mp hx with e | hx
    · rw [e]; exact PySem.W.mg_none_of X G z0
    rcases List.mem_cons.mp hx with e | hx
    · rw [e]; exact PySem.W.mg_none_of X G z1
    rcases List.mem_cons.mp hx with e | hx
    · rw [e]; exact PySem.W.mg_none_of X G z2
    rcases List.mem_cons.mp hx with e | hx
    · rw [e]; exact PySem.W.mg_none_of X G z3
    rcases List.mem_cons.mp hx with e | hx
    · rw [e]; exact PySem.W.mg_none_of X G z4
    rcases List.mem_cons.mp hx with e | hx
    · rw [e]; exact PySem.W.mg_none_of X G z5
    rcases List.mem_cons.mp hx with e | hx
    · rw [e]; exact PySem.W.mg_none_of X G z6
    rcases List.mem_cons.mp hx with e | hx
    · rw [e]; exact PySem.W.mg_none_of X G z7
    rcases List.mem_cons.mp hx with e | hx
    · rw [e]; exact PySem.W.mg_none_of X G z8
    rcases List.mem_cons.mp hx with e | hx
    · rw [e]; exact PySem.W.mg_none_of X G z9
    rcases List.mem_cons.mp hx with e | hx
    · rw [e]; exact PySem.W.mg_none_of X G z10
    rcases List.mem_cons.mp hx with e | hx
    · rw [e]; exact PySem.W.mg_none_of X G z11
    rcases List.mem_cons.mp hx with e | hx
    · rw [e]; exact PySem.W.mg_none_of X G z12
    cases hx
  have e:=hfa.symm.trans (PySem.W.mg_of X G a26)
  cases e
  refine ⟨PySem.W.fnOf "law" "law" (defArgs s_law) (defBody s_law) (defScope s_law) .none kV26 dc26 pm26 an26 cd26 ct26,fun s v=>.of_eq rfl,fun base _ _=>?_⟩
  have D_blocks_of:=ok_blocks_of (P:=l.prog) (w:=w) (base:=base) B F_blocks_of
  have R_copied:=all_copied (P:=l.prog) (w:=w) (base:=base) B F_copied F_all_copied 40
  have D_copied:=R_copied.1
  have D_all_copied:=R_copied.2
  have R_laid_out:=all_laid_out (P:=l.prog) (w:=w) (base:=base) B F_laid_out D_blocks_of D_copied 40
  have D_laid_out:=R_laid_out
  have D_numbered:=ok_numbered (P:=l.prog) (w:=w) (base:=base) B F_numbered D_laid_out
  have D__law_cell:=ok__law_cell (P:=l.prog) (w:=w) (base:=base) B F__law_cell
  have D__law_next:=ok__law_next (P:=l.prog) (w:=w) (base:=base) B F__law_next D__law_cell
  have D__law_names:=ok__law_names (P:=l.prog) (w:=w) (base:=base) B F__law_names D__law_next
  have D__law_number:=ok__law_number (P:=l.prog) (w:=w) (base:=base) B F__law_number D__law_next
  have R__law_expression:=all__law_expression (P:=l.prog) (w:=w) (base:=base) B F__law_expression D__law_next D__law_number 40
  have D__law_expression:=R__law_expression
  have D__law_part:=ok__law_part (P:=l.prog) (w:=w) (base:=base) B F__law_part D__law_expression D__law_next
  have R__law_rows:=all__law_rows (P:=l.prog) (w:=w) (base:=base) B F__law_rows F__law_row D__law_expression D__law_next D__law_part 40
  have D__law_rows:=R__law_rows.1
  have D__law_row:=R__law_rows.2
  have D__law_rank:=ok__law_rank (P:=l.prog) (w:=w) (base:=base) B F__law_rank D__law_next
  have D__law_counts:=ok__law_counts (P:=l.prog) (w:=w) (base:=base) B F__law_counts D__law_next
  have D__law_heads:=ok__law_heads (P:=l.prog) (w:=w) (base:=base) B F__law_heads D__law_counts
  have D__law_program:=ok__law_program (P:=l.prog) (w:=w) (base:=base) B F__law_program D__law_heads D__law_names D__law_next D__law_rank D__law_rows
  have D__law_lay:=ok__law_lay (P:=l.prog) (w:=w) (base:=base) B F__law_lay
  have D__law_laid:=ok__law_laid (P:=l.prog) (w:=w) (base:=base) B F__law_laid D__law_lay
  have R__law_same:=all__law_same (P:=l.prog) (w:=w) (base:=base) B F__law_same 40
  have D__law_same:=R__law_same
  have R__law_marked:=all__law_marked (P:=l.prog) (w:=w) (base:=base) B F__law_marked 40
  have D__law_marked:=R__law_marked
  have R__law_cleaned:=all__law_cleaned (P:=l.prog) (w:=w) (base:=base) B F__law_cleaned 40
  have D__law_cleaned:=R__law_cleaned
  have D__law_spoiled:=ok__law_spoiled (P:=l.prog) (w:=w) (base:=base) B F__law_spoiled D__law_marked
  have D__law_apart:=ok__law_apart (P:=l.prog) (w:=w) (base:=base) B F__law_apart D__law_cleaned D__law_marked D__law_same
  have D__law_drawn:=ok__law_drawn (P:=l.prog) (w:=w) (base:=base) B F__law_drawn D__law_cell D__law_program
  exact law_of (ok_law (P:=l.prog) (w:=w) (base:=base) B (fun_mk (st:=s_law) l26 c26 k26) D__law_apart D__law_cell D__law_drawn D__law_laid D__law_same D__law_spoiled D_numbered) HL
theorem walk {l:PySem.W.OpenLaw} {q:Program} {loose:List Str} {XP:(Str->Option Value)->Heap->Prop} {YP:World->Heap->Prop} {d:DefRec} {K:Params->FG} (hn:l.most=some 63) (hdf:d.params.defaults=[])
    (hY:∀ (w:World) (h:Heap),YP w h->(K w.params).In h)
    (F:∀ (w:World) (mg:Str->Option Value) (fa:Addr) (h:Heap),(K w.params).In h->h.Ns mainGlobals mg->mg d.name=some (.ref fa)->
      ∃ fd:FuncData,(∀ (s:Shared) (u:Value),BindsTo s fd ⟨[u],[]⟩ [("_law_script",u)])/\∀ base:Heap,(K w.params).In base->base.Ns mainGlobals mg->FnOk l.prog w (K w.params) mg base CX0 87 fa fd ["_law_script"] (spLaw (K w.params))):
    PySem.W.WalkO q loose XP YP l.row.toRowW d [] (fun f vs=>PySem.call f vs):=
  L2.walk_of (n:=63) (k:=87) (x := "_law_script") (CX:=fun _=>CX0) (sp:=fun w=>spLaw (K w.params)) hn (by decide) hdf ⟨rfl,by decide,by decide⟩ hY F (fun _ _ a ns hl _ hS=>⟨a,ns,rfl,hS,hl,fun _=>rfl⟩) fun _ _ _ _ _ z=>z
end Law
open PySem PySem.W PyProof.Rows
set_option maxRecDepth 100000 in
set_option maxHeartbeats 0 in
theorem PySem.Challenge.cw_hushwise_k13_rows_numbered_holds : PySem.Challenge.rw_hushwise_k13_rows_numbered.Holds := by
  w_on; o_law; k_head; (case hw=>w_witness2)
  k_fill
  refine Law.walk (l:=PySem.Challenge.rw_hushwise_k13_rows_numbered) rfl rfl (fun w h Y=>PySem.W.kIn_of Y) ?F
  case F=>
    intro w mg fa h KX G hmg
    refine' Law.all_mk KX G hmg ?a1 ?l1 ?c1 ?k1 ?a2 ?l2 ?c2 ?k2 ?a3 ?l3 ?c3 ?k3 ?a4 ?l4 ?c4 ?k4 ?a5 ?l5 ?c5 ?k5 ?a6 ?l6 ?c6 ?k6 ?a7 ?l7 ?c7 ?k7 ?a8 ?l8 ?c8 ?k8 ?a9 ?l9 ?c9 ?k9 ?a10 ?l10 ?c10 ?k10 ?a11 ?l11 ?c11 ?k11 ?a12 ?l12 ?c12 ?k12 ?a13 ?l13 ?c13 ?k13 ?a14 ?l14 ?c14 ?k14 ?a15 ?l15 ?c15 ?k15 ?a16 ?l16 ?c16 ?k16 ?a17 ?l17 ?c17 ?k17 ?a18 ?l18 ?c18 ?k18 ?a19 ?l19 ?c19 ?k19 ?a20 ?l20 ?c20 ?k20 ?a21 ?l21 ?c21 ?k21 ?a22 ?l22 ?c22 ?k22 ?a23 ?l23 ?c23 ?k23 ?a24 ?l24 ?c24 ?k24 ?a25 ?l25 ?c25 ?k25 ?a26 ?l26 ?c26 ?k26 ?z0 ?z1 ?z2 ?z3 ?z4 ?z5 ?z6 ?z7 ?z8 ?z9 ?z10 ?z11 ?z12 Law.law_true
    (case a1=>k_is)
    (case l1=>k_is)
    (case c1=>k_is)
    (case k1=>k_is)
    (case a2=>k_is)
    (case l2=>k_is)
    (case c2=>k_is)
    (case k2=>k_is)
    (case a3=>k_is)
    (case l3=>k_is)
    (case c3=>k_is)
    (case k3=>k_is)
    (case a4=>k_is)
    (case l4=>k_is)
    (case c4=>k_is)
    (case k4=>k_is)
    (case a5=>k_is)
    (case l5=>k_is)
    (case c5=>k_is)
    (case k5=>k_is)
    (case a6=>k_is)
    (case l6=>k_is)
    (case c6=>k_is)
    (case k6=>k_is)
    (case a7=>k_is)
    (case l7=>k_is)
    (case c7=>k_is)
    (case k7=>k_is)
    (case a8=>k_is)
    (case l8=>k_is)
    (case c8=>k_is)
    (case k8=>k_is)
    (case a9=>k_is)
    (case l9=>k_is)
    (case c9=>k_is)
    (case k9=>k_is)
    (case a10=>k_is)
    (case l10=>k_is)
    (case c10=>k_is)
    (case k10=>k_is)
    (case a11=>k_is)
    (case l11=>k_is)
    (case c11=>k_is)
    (case k11=>k_is)
    (case a12=>k_is)
    (case l12=>k_is)
    (case c12=>k_is)
    (case k12=>k_is)
    (case a13=>k_is)
    (case l13=>k_is)
    (case c13=>k_is)
    (case k13=>k_is)
    (case a14=>k_is)
    (case l14=>k_is)
    (case c14=>k_is)
    (case k14=>k_is)
    (case a15=>k_is)
    (case l15=>k_is)
    (case c15=>k_is)
    (case k15=>k_is)
    (case a16=>k_is)
    (case l16=>k_is)
    (case c16=>k_is)
    (case k16=>k_is)
    (case a17=>k_is)
    (case l17=>k_is)
    (case c17=>k_is)
    (case k17=>k_is)
    (case a18=>k_is)
    (case l18=>k_is)
    (case c18=>k_is)
    (case k18=>k_is)
    (case a19=>k_is)
    (case l19=>k_is)
    (case c19=>k_is)
    (case k19=>k_is)
    (case a20=>k_is)
    (case l20=>k_is)
    (case c20=>k_is)
    (case k20=>k_is)
    (case a21=>k_is)
    (case l21=>k_is)
    (case c21=>k_is)
    (case k21=>k_is)
    (case a22=>k_is)
    (case l22=>k_is)
    (case c22=>k_is)
    (case k22=>k_is)
    (case a23=>k_is)
    (case l23=>k_is)
    (case c23=>k_is)
    (case k23=>k_is)
    (case a24=>k_is)
    (case l24=>k_is)
    (case c24=>k_is)
    (case k24=>k_is)
    (case a25=>k_is)
    (case l25=>k_is)
    (case c25=>k_is)
    (case k25=>k_is)
    (case a26=>k_is)
    (case l26=>k_is)
    (case c26=>k_is)
    (case k26=>k_is)
    (case z0=>k_is)
    (case z1=>k_is)
    (case z2=>k_is)
    (case z3=>k_is)
    (case z4=>k_is)
    (case z5=>k_is)
    (case z6=>k_is)
    (case z7=>k_is)
    (case z8=>k_is)
    (case z9=>k_is)
    (case z10=>k_is)
    (case z11=>k_is)
    (case z12=>k_is)
