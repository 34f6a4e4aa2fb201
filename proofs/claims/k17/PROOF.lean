import PyProof.Rows.All
import Wide.All
import OpenK.AllK
import Wide.FinOn
import Lean
import PyProof.EqAt
import PyProof.EqKinds
import PyProof.TupleCall
import PyProof.NeKinds
import PyProof.StrBlockI
import PyProof.WalksEnum
import PyProof.EnumMake
import PyProof.ZipIter
import PyProof.Rows.SortStr
import PyProof.Rows.SetFrom
import PyProof.CollectWalk
import PyProof.SetRoads
import PyProof.DictWalks
import PyProof.SumWalk
import PyProof.Rows.SumGenD
import PyProof.DictItems
import KE.KRevIter
import PyProof.Rows.FStrParts
import PyProof.StationsW
import PyProof.ReprRoads
import PyProof.ReprLen
import PyProof.ReprStr
import PyProof.StrLawsRepr
import PyProof.FString
import KE.KIsAll
import PyProof.ListRange
import PyProof.Rows.StrSplitAre
import KE.KIntText
import OpenK.KTop
import KE.KEqDict
import PyProof.AutoSeq1
import PyProof.StrCalls
import PySem.Challenge.RW_hushwise_k17_texts_read
set_option Elab.async false
set_option linter.all false
set_option bootstrap.genMatcherCode false
set_option genSizeOf false
set_option compiler.extract_closed false
set_option maxRecDepth 100000
set_option maxHeartbeats 8000000
noncomputable section
abbrev FG:=PySem.W.Frag
section
open PySem PySem.Spec PyProof.Rows
abbrev aay:=@Option.bind_some
abbrev aaz:=@List.mem_cons_self
abbrev aaA:=@List.mem_cons_of_mem
abbrev aaB:=@Heap.get?_push_of_some
abbrev aaC:=@List.length_cons
abbrev aaD:=@List.getElem?_eq_some_iff
abbrev aaE:=@Nat.le_refl
abbrev aaF:=@List.size_toArray
abbrev aaG:=@Nat.lt_of_lt_of_le
abbrev aaH:=@List.length_append
abbrev aaI:=@List.mem_cons
abbrev aaJ:=@Heap.lt_size
abbrev aaK:=@List.getElem?_eq_getElem
abbrev aaL:=@Heap.get?_push_size
abbrev aaM:=@Option.some.inj
abbrev aaT:=@List.length_map
abbrev aaU:=@List.sublist_cons_self
abbrev aaV:=@List.map_cons
abbrev aaW:=@List.getElem?_append_right
abbrev aaX:=@Nat.le_trans
abbrev aaY:=@PassesOwn.never
abbrev aaZ:=@List.append_assoc
abbrev aa0:=@List.mem_map
abbrev aa1:=@List.append_nil
abbrev aa2:=@List.getElem?_map
abbrev aa3:=@Nat.ne_of_lt
abbrev aa4:=@List.filterMap_cons_none
abbrev aa5:=@List.getElem?_set_self
abbrev aa6:=@List.lookup_cons
abbrev aa7:=@Int.emod_lt_of_pos
abbrev aa8:=@List.mem_append_right
abbrev aa9:=@PySem.F.plainAttrs_list
abbrev aba:=@Bool.false_ne_true
abbrev abb:=@PySem.F.slot_list_append
abbrev abd:=@PySem.F.type_list_append
abbrev abe:=@List.getElem?_set_ne
abbrev abf:=@List.mem_of_getElem?
abbrev abg:=@List.mem_filterMap
abbrev abh:=@Int.emod_nonneg
abbrev abi:=@List.perm_middle
abbrev abj:=@List.sublist_append_left
abbrev abk:=@List.cons_append
abbrev abl:=@Nat.lt_succ_self
abbrev abm:=@Array.length_toList
abbrev abn:=@List.map_map
abbrev abo:=@List.not_mem_nil
abbrev abp:=@Nat.ne_of_gt
abbrev abq:=@List.mem_append
abbrev abr:=@List.getElem?_append_left
abbrev abt:=@List.map_append
abbrev abu:=@List.nodup_cons
abbrev abv:=@List.prefix_refl
abbrev abw:=@List.getElem?_eq_none
abbrev abx:=@List.mem_singleton
abbrev aby:=@List.mem_append_left
abbrev abz:=@List.map_nil
abbrev abA:=@Nat.lt_irrefl
abbrev abB:=@List.map_congr_left
abbrev abC:=@Heap.size_push
abbrev abD:=@List.zip_cons_cons
abbrev abE:=@List.set_set
abbrev abF:=@List.of_mem_zip
abbrev abG:=@List.foldl_cons
abbrev abH:=@List.nil_append
abbrev abI:=@F.slot_tuple_iterator_next
abbrev abJ:=@List.getD_eq_getElem?_getD
abbrev abK:=@Nat.le_of_succ_le
abbrev abL:=@Nat.lt_succ_of_lt
abbrev abM:=@List.sublist_append_right
abbrev abN:=@List.drop_eq_getElem_cons
abbrev abO:=@Nat.zero_le
abbrev abP:=@PySem.mem_of_lookup
abbrev abQ:=@List.length_set
abbrev abR:=@Option.map_some
abbrev abS:=@List.length_nil
abbrev abT:=@List.zip_append
abbrev abU:=@List.Sublist.refl
abbrev abV:=@Nat.sub_self
abbrev abW:=@List.length_take
abbrev abX:=@Bool.and_eq_true
abbrev abY:=@Nat.le_succ
abbrev abZ:=@Nat.le_of_lt
abbrev ab0:=@Option.isSome_iff_exists
abbrev ab1:=@Heap.get?_update_other
abbrev ab2:=@List.take_of_length_le
abbrev ab3:=@Nat.le_of_not_lt
abbrev ab4:=@Nat.le_add_right
abbrev ab5:=@Heap.get?_update_self
abbrev ab6:=@List.perm_append_comm
abbrev ab7:=@F.slot_zip_next
abbrev ab8:=@List.eq_nil_of_length_eq_zero
abbrev ab9:=@List.filterMap_cons
abbrev aca:=@List.length_reverse
abbrev acb:=@F.args_tuple_iterator_next_1
abbrev acd:=@F.entry_tuple_iterator_next
abbrev ace:=@List.prefix_append
abbrev acf:=@W.kia_one
abbrev acg:=@Bool.false_eq_true
abbrev ach:=@W.kia_tup
abbrev aci:=@W.cellsFrom_some
abbrev acj:=@Option.getD_some
abbrev ack:=@List.drop_length
abbrev acl:=@W.methodCall_KW
abbrev acn:=@List.forIn_cons
abbrev aco:=@List.nodup_nil
abbrev acp:=@wpAny_bind
abbrev acq:=@if_pos
abbrev acr:=@if_neg
abbrev acs:=@wpAny_pure
abbrev acu:=@decide_eq_false
abbrev acv:=@decide_eq_true
abbrev acw:=@beq_eq_false_iff_ne
abbrev acx:=@beq_self_eq_true
end
namespace L2
open PySem PySem.Spec PyProof.Rows
variable {aeQ:List (Addr×Obj)} {E:Value->Shared->Prop} {s:Shared} {A:Around} {w:World} {P:Program}
abbrev Key:=Sum Int Str
def Tf:Key->Value->Bool
 | .inl k,v=>Value.isInt k v
 | .inr x,v=>Value.isStrOf x v
def ZW (w:World):Key->Int
 | .inl k=>hashInt k
 | .inr x=>hashStr w x
theorem iu:∀{k:Key} {v:Value},Tf k v=true->(∃i t,k=Sum.inl i/\v=Value.int i t)\/(∃x t,k=Sum.inr x/\v=Value.str x t)
 | .inl i,v,h=>by obtain⟨t,e⟩:=Value.isInt_shape h;exact .inl ⟨i,t,rfl,e⟩
 | .inr x,v,h=>by obtain⟨t,e⟩:=Value.isStrOf_shape h;exact .inr ⟨x,t,rfl,e⟩
theorem Wf (a b:Int):decide ((Sum.inl a:Key)=Sum.inl b)=(a==b):=by
 by_cases e:a=b
 . subst e; simp
 . have h:¬ (Sum.inl a:Key)=Sum.inl b:=λq=>e (Sum.inl.inj q);rw[acu h];exact(acw.mpr e).symm
theorem Wg (a b:Str):decide ((Sum.inr a:Key)=Sum.inr b)=decide (a=b):=by
 by_cases e:a=b
 .  simp
 . have h:¬ (Sum.inr a:Key)=Sum.inr b:=λq=>e (Sum.inr.inj q);rw[acu h,acu e]
theorem Wh (a:Int) (b:Str):decide ((Sum.inl a:Key)=Sum.inr b)=false:=acu (λq=>nomatch q)
theorem Wi (a:Str) (b:Int):decide ((Sum.inr a:Key)=Sum.inl b)=false:=acu (λq=>nomatch q)
def Dp (prog:Program) (w:World):PySem.KeyKind prog w Key where
 is:=Tf
 hash:=ZW w
 inj:=λv a b ha hb=>by
  rcases iu ha with ⟨i,t,rfl,rfl⟩ | ⟨x,t,rfl,rfl⟩
  . rcases iu hb with ⟨j,u,rfl,e⟩ | ⟨y,u,rfl,e⟩
    . injection e with e1 _; rw[e1]
    . exact nomatch e
  . rcases iu hb with ⟨j,u,rfl,e⟩ | ⟨y,u,rfl,e⟩
    . exact nomatch e
    . injection e with e1 _; rw[e1]
 byValue:=λk v h=>by rcases iu h with ⟨i,t,rfl,rfl⟩ | ⟨x,t,rfl,rfl⟩<;>rfl
 pyHash:=λhv h=>by
  rcases iu hv with ⟨i,t,rfl,rfl⟩ | ⟨x,t,rfl,rfl⟩
  . exact wpAny_pyHash_int h
  . exact wpAny_pyHash_str h
 eqBool:=λhu hv h=>by
  rcases iu hu with ⟨i,t,rfl,rfl⟩ | ⟨x,t,rfl,rfl⟩
  . rcases iu hv with ⟨j,u,rfl,rfl⟩ | ⟨y,u,rfl,rfl⟩
    . rw[Wf]at h; exact wpAny_eqBool_int h
    . rw[Wh]at h; exact SeqAt.EqAt.int_str i t y u _ _ _ _ h
  . rcases iu hv with ⟨j,u,rfl,rfl⟩ | ⟨y,u,rfl,rfl⟩
    . rw[Wi]at h; exact SeqAt.EqAt.str_int x t j u _ _ _ _ h
    . rw[Wg]at h; exact wpAny_eqBool_str h
 «strs»:=λk x t v h=>by
  rcases iu h with ⟨i,u,rfl,e⟩ | ⟨y,u,rfl,e⟩
  . exact nomatch e
  . injection e with e1 _;subst e1;cases v<;>rfl
inductive V where
 | non | bl (b:Bool) | int (i:Int) | str (x:Str) | byt (b:Array UInt8) | flt (b:UInt64) | ref (a:Addr) | ty (n:String)
 deriving DecidableEq
def RelV:V->Value->Prop
 | .non,u=>u=Value.none
 | .bl b,u=>u=Value.bool b
 | .int i,u=>∃t,u=Value.int i t
 | .str x,u=>∃t,u=Value.str x t
 | .byt b,u=>∃t,u=Value.bytes b t
 | .flt b,u=>∃t,u=Value.float b t
 | .ref a,u=>u=Value.ref a
 | .ty n,u=>u=Value.type n
abbrev Vals:List V->List Value->Prop:=Paired RelV
theorem Vals.length (r:Vals xs us):xs.length=us.length:=Paired.length r
theorem Vals.get:∀{xs:List V} {us:List Value} {i:Nat} {x:V},Vals xs us->xs[i]?=some x->∃u,us[i]?=some u/\RelV x u
 | _,_,_,_,.nil,e=>by simp at e
 | _,_,0,_,.cons r _,e=>by simp at e; subst e; exact⟨_,rfl,r⟩
 | _,_,i+1,x,.cons _ t,e=>by obtain⟨u,h1,h2⟩:=Vals.get t (by simpa using e);exact⟨u,by simpa using h1,h2⟩
theorem Vals.set (r:RelV x u):∀{xs:List V} {us:List Value} (i:Nat),Vals xs us->Vals (xs.set i x) (us.set i u)
 | _,_,_,.nil=>.nil
 | _,_,0,.cons _ t=>.cons r t
 | _,_,i+1,.cons q t=>.cons q (Vals.set r i t)
theorem Vals.append:∀{xs ys:List V} {us ws:List Value},Vals xs us->Vals ys ws->Vals (xs++ys) (us++ws)
 | _,_,_,_,.nil,s=>s
 | _,_,_,_,.cons r t,s=>.cons r (Vals.append t s)
theorem Vals.take:∀{xs:List V} {us:List Value} (n:Nat),Vals xs us->Vals (xs.take n) (us.take n)
 | _,_,0,_=>.nil
 | _,_,_+1,.nil=>.nil
 | _,_,n+1,.cons r t=>.cons r (Vals.take n t)
theorem Vals.drop:∀{xs:List V} {us:List Value} (n:Nat),Vals xs us->Vals (xs.drop n) (us.drop n)
 | _,_,0,r=>r
 | _,_,_+1,.nil=>.nil
 | _,_,n+1,.cons _ t=>Vals.drop n t
def uY:Option V->Option Value->Prop
 | some v,some u=>RelV v u
 | none,none=>True
 | _,_=>False
def KV {κ:Type}:List (κ×V)->List (κ×Value)->Prop:=Paired λ(p:κ×V) (q:κ×Value)=>p.1=q.1/\RelV p.2 q.2
def kV:Key->V
 | .inl i=>.int i
 | .inr x=>.str x
inductive HO where
 | lst (xs:List V)
 | tup (xs:List V)
 | dK (kvs:List (Key×V)) | dT (kvs:List (List Key×V))
 | set (S:Int->Bool) (n:Nat)
 | ins (C dx:Addr) (fs:List (Str×V))
 | own (x:Addr)
 | xd (fs:List (Str×V))
 | met (f x:Addr)
 | rng (lo hi:Int)
 | frz (o:Obj) (u:HO)
 | tbl (ps:Array Value)
 | ext (φ:Heap->Prop)
abbrev Hp:=Addr->Option HO
def upd (H:Hp) (a:Addr) (o:HO):Hp:=λb=>if b=a then some o else H b
theorem dm:upd H a o a=some o:=by unfold upd; rw[acq rfl]
theorem dh (h:b≠a):upd H a o b=H b:=by unfold upd; rw[acr h]
theorem fJ {H:Hp} (h:H a=some o) (h':H b=none):a≠b:=by intro e; subst e; rw[h]at h'; cases h'
section
variable (P:Program) (w:World)
def kE (H:Hp) (h:Heap) (a:Addr):HO->Prop
 | .lst xs=>xs.length<=sizeLine/\∃(its:List Value) (n:Nat),Vals xs its/\h.get? a=some { cls:=.type "list",data:=.seq its.toArray n }
 | .tup xs=>xs.length<=sizeLine/\∃its:List Value,Vals xs its/\IsTup h a its.toArray
 | .dK kvs=>kvs.length<=sizeLine/\(a==sysModules)=false/\∃vs,KV kvs vs/\h.DictOf (Dp P w) a vs
 | .dT kvs=>kvs.length<=sizeLine/\(a==sysModules)=false/\∃xs:List (List Key×Addr×Value),
  Paired (λ(p:List Key×V) (q:List Key×Addr×Value)=>p.1=q.1/\H q.2.1=some (.tup (p.1.map kV))/\RelV p.2 q.2.2) kvs xs/\
  ∃o es ep,h.get? a=some o/\o.ExactDict/\o.data=.dict es ep/\es.toList=xs.map (entryOfKey (tupleKind (Dp P w)))/\(xs.map (·.1)).Nodup
 | .set S n=>h.SetOf (intKind P w) a S n
 | .ins C dx fs=>H dx=some (.own a)/\fs.length<=1000/\dx≠a/\h.get? a=some (W.instObj C dx)/\
  ∃mA,h.Ns1 dx mA/\(∀f,uY (fs.lookup f) (mA f))/\PySem.Within mA (fs.map (·.1))
 | .own _=>∃o,h.get? a=some o
 | .xd fs=>∃mA,h.Ns1 a mA/\∀f,uY (fs.lookup f) (mA f)
 | .rng lo hi=>∃t u v,h.get? a=some { cls:=.type "range",data:=.fields #[.int lo t,.int hi u,.int 1 v] }
 | .frz o u=>h.get? a=some o/\kE H h a u
 | .tbl ps=>h.get? a=some { cls:=.none,data:=.fields ps }
 | .met f x=>h.get? a=some (W.methodObj (.ref f) (.ref x))
 | .ext φ=>φ h/\(∃o,h.get? a=some o)/\∀h1 h2:Heap,φ h1->(∀o,h1.get? a=some o->h2.get? a=some o)->φ h2
def lQ (H:Hp) (h:Heap):Prop:=∀a o,H a=some o->kE P w H h a o
end
section
variable {P:Program} {w:World} {H H':Hp} {h h':Heap} {a:Addr} {o:HO}
theorem kE.lt (x:kE P w H h a o):a<h.objs.size:=by
 cases o with
 | lst xs=>obtain⟨_,_,_,_,e⟩:=x; exact aaJ e
 | tup xs=>obtain⟨_,_,_,p⟩:=x; exact p.lt
 | dK kvs=>obtain⟨_,_,_,_,o,_,_,e,_⟩:=x; exact aaJ e
 | dT kvs=>obtain⟨_,_,_,_,o,_,_,e,_⟩:=x; exact aaJ e
 | set S n=>obtain⟨o,_,_,_,e,_⟩:=x; exact aaJ e
 | ins C dx fs=>obtain⟨_,_,_,e,_⟩:=x; exact aaJ e
 | own y=>obtain⟨_,e⟩:=x; exact aaJ e
 | xd fs=>obtain⟨_,⟨_,_,_,e,_⟩,_⟩:=x; exact aaJ e
 | rng lo hi=>obtain⟨_,_,_,e⟩:=x; exact aaJ e
 | frz ob u=>obtain⟨e,_⟩:=x; exact aaJ e
 | tbl ps=>exact aaJ (x)
 | met f y=>exact aaJ (x)
 | ext φ=>obtain⟨_,⟨_,e⟩,_⟩:=x; exact aaJ e
theorem Paired.mapP:∀{l₁:List α} {l₂:List β},Paired F l₁ l₂->(∀a b,F a b->G a b)->Paired G l₁ l₂
 | _,_,.nil,_=>.nil
 | _,_,.cons r t,f=>.cons (f _ _ r) (Paired.mapP t f)
theorem kE.stay (x:kE P w H h a o) (k:∀b u,(b=a\/H b=some (.own a))->h.get? b=some u->h'.get? b=some u)
 (ho:∀b,H b=some (.own a)->H' b=some (.own a)) (ht:∀b xs,H b=some (.tup xs)->H' b=some (.tup xs)):kE P w H' h' a o:=by
 induction o with
 | lst xs=>obtain⟨z,its,n,r,e⟩:=x; exact⟨z,its,n,r,k _ _ (.inl rfl) e⟩
 | tup xs=>obtain⟨z,its,r,ob,e,c⟩:=x; exact⟨z,its,r,ob,k _ _ (.inl rfl) e,c⟩
 | dK kvs=>obtain⟨z,y,vs,r,ob,es,ep,e,c⟩:=x; exact⟨z,y,vs,r,ob,es,ep,k _ _ (.inl rfl) e,c⟩
 | dT kvs=>
  obtain⟨z,y,xs,r,ob,es,ep,e,c⟩:=x;exact⟨z,y,xs,Paired.mapP r λp q z=>⟨z.1,ht _ _ z.2.1,z.2.2⟩,ob,es,ep,k _ _ (.inl rfl) e,c⟩
 | set S n=>obtain⟨ob,es,ep,t,e,c⟩:=x; exact⟨ob,es,ep,t,k _ _ (.inl rfl) e,c⟩
 | ins C dx fs=>
  obtain⟨d,z,ne,e,mA,⟨od,es,ep,e2,c⟩,r⟩:=x;exact⟨ho _ d,z,ne,k _ _ (.inl rfl) e,mA,⟨od,es,ep,k _ _ (.inr d) e2,c⟩,r⟩
 | own y=>obtain⟨ob,e⟩:=x; exact⟨ob,k _ _ (.inl rfl) e⟩
 | xd fs=>obtain⟨mA,⟨od,es,ep,e,c⟩,r⟩:=x; exact⟨mA,⟨od,es,ep,k _ _ (.inl rfl) e,c⟩,r⟩
 | rng lo hi=>obtain⟨t,u,v,e⟩:=x; exact⟨t,u,v,k _ _ (.inl rfl) e⟩
 | frz ob u ih=>obtain⟨e,q⟩:=x; exact⟨k _ _ (.inl rfl) e,ih q⟩
 | tbl ps=>
  have e:=x;exact k a _ (.inl rfl) e
 | met f y=>
  have e:=x;exact k a _ (.inl rfl) e
 | ext φ=>obtain⟨p,⟨o,e⟩,st⟩:=x; exact⟨st _ _ p λo q=>k _ _ (.inl rfl) q,⟨o,k _ _ (.inl rfl) e⟩,st⟩
theorem lQ.lt (x:lQ P w H h) (e:H a=some o):a<h.objs.size:=(x a o e).lt
theorem lQ.fresh (x:lQ P w H h) (e:h.objs.size<=a):H a=none:=by
 cases q:H a with
 | none=>rfl
 | some u=>exact absurd (aaG (x.lt q) e) (abA _)
theorem lQ.kept (x:lQ P w H h) (k:∀b u,h.get? b=some u->h'.get? b=some u):lQ P w H h':=λa o e=>
 (x a o e).stay (λb u _ q=>k b u q) (λ_ q=>q) λ_ _ q=>q
theorem lQ.laid (x:lQ P w H h) (k:∀b u,h.get? b=some u->h'.get? b=some u) (hp:h.objs.size<=a) (new:kE P w (upd H a o) h' a o):lQ P w (upd H a o) h':=λb u e=>by
 have hn:=x.fresh hp;by_cases hb:b=a
 . subst hb; rw[dm]at e; cases e; exact new
 . rw[dh hb]at e;exact(x b u e).stay (λc v _ q=>k c v q) (λc q=>by rw[dh (fJ q hn)]; exact q) λc xs q=>by rw[dh (fJ q hn)]; exact q
end
def Rd (H:Hp) (a:Addr) (u:HO):Prop:=H a=some u\/∃o,H a=some (.frz o u)
theorem Rd.ok (r:Rd H a u) (x:lQ P w H h):kE P w H h a u:=by
 rcases r with r | ⟨o,r⟩
 . exact x a u r
 . obtain⟨_,q⟩:=x a _ r;exact q
def Tg:Option HO->Prop
 | some (.lst _)=>True
 | some (.dK _)=>True
 | some (.dT _)=>True
 | some (.set _ _)=>True
 | some (.ins _ _ _)=>True
 | some (.ext _)=>True
 | _=>False
section
variable {P:Program} {w:World} {H:Hp} {h h':Heap} {x e:Addr} {o':HO}
theorem lQ.write (ok:lQ P w H h) (mu:Tg (H x)) (he:e=x\/H e=some (.own x)) (k:∀b u,b≠e->h.get? b=some u->h'.get? b=some u) (heo:∃u,h'.get? e=some u)
 (new:kE P w (upd H x o') h' x o'):lQ P w (upd H x o') h':=λb u q=>by
 have nown:∀c y,H c=some (.own y)->c≠x:=λc y r z=>by subst z; rw[r]at mu; exact mu
 have ntup:∀c xs,H c=some (.tup xs)->c≠x:=λc xs r z=>by subst z; rw[r]at mu; exact mu
 by_cases hb:b=x
 . subst hb; rw[dm]at q; cases q; exact new
 . rw[dh hb]at q;by_cases hbe:b=e
   . have q':H b=some (.own x):=by
      rcases he with z | z
      . exact absurd (hbe.trans z) hb
      . rw[hbe]; exact z
     rw[q]at q'; cases q';obtain⟨v,hv⟩:=heo;exact⟨v,by rw[hbe]; exact hv⟩
   . refine(ok b u q).stay (λc v hc r=>k c v ?_ r) (λc r=>by rw[dh (nown c b r)]; exact r) λc xs r=>by rw[dh (ntup c xs r)]; exact r
     rcases hc with rfl | hc
     . exact hbe
     . rintro rfl;rcases he with z | z
       . exact nown c b hc z
       . rw[hc]at z; cases z; exact hb rfl
end
structure Un (fs ex:List Addr) (H H':Hp) (h h':Heap):Prop where
 keep:∀b o,h.get? b=some o->H b=none->b∉fs->b∉ex->h'.get? b=some o
 slot:∀b o,h.get? b=some o->H b=none->b∈fs->b∉ex->∃sl,h'.get? b=some { o with slots:=sl }
 free:∀b o,h.get? b=some o->H b=none->b∉ex->H' b=none
 there:∀b o,h.get? b=some o->b∉ex->∃o',h'.get? b=some o'
 tups:∀b xs,H b=some (.tup xs)->H' b=some (.tup xs)
 frzs:∀b o u,H b=some (.frz o u)->H' b=some (.frz o u)
 tbls:∀b ps,H b=some (.tbl ps)->∃more,H' b=some (.tbl (ps++more))
section
variable {fs fs' ex ex':List Addr} {H H1 H2:Hp} {h h1 h2 h':Heap} {a x e:Addr} {o:HO}
theorem Un.any (u:Un fs ex H H1 h h1) (q:h.get? b=some ob) (n:H b=none) (hx:b∉ex):∃sl,h1.get? b=some { ob with slots:=sl }:=by
 by_cases hb:b∈fs
 . exact u.slot b ob q n hb hx
 . exact⟨ob.slots,u.keep b ob q n hb hx⟩
theorem Un.kept (k:∀b u,h.get? b=some u->h'.get? b=some u):Un fs ex H H h h':=
 ⟨λb ob q _ _ _=>k b ob q,λb ob q _ _ _=>⟨ob.slots,k b ob q⟩,λ_ _ _ n _=>n,λb ob q _=>⟨ob,k b ob q⟩,λ_ _ q=>q,λ_ _ _ q=>q,λ_ ps q=>⟨#[],by rw[q]; simp⟩⟩
theorem Un.refl:Un fs ex H H h h:=Un.kept λ_ _ q=>q
theorem Un.laid (k:∀b u,h.get? b=some u->h'.get? b=some u) (hp:h.objs.size<=a) (hn:H a=none):Un fs ex H (upd H a o) h h' where
 keep:=λb u q _ _ _=>k b u q
 slot:=λb u q _ _ _=>⟨u.slots,k b u q⟩
 free:=λb u q n _=>by rw[dh (aa3 (aaG (aaJ q) hp))]; exact n
 there:=λb u q _=>⟨u,k b u q⟩
 tups:=λb xs q=>by rw[dh (fJ q hn)]; exact q
 frzs:=λb u xs q=>by rw[dh (fJ q hn)]; exact q
 tbls:=λb ps q=>⟨#[],by rw[dh (fJ q hn),q]; simp⟩
theorem Un.write (mu:Tg (H x)) (he:e=x\/H e=some (.own x)) (k:∀b u,b≠e->h.get? b=some u->h'.get? b=some u) (heo:∃u,h'.get? e=some u):Un fs ex H (upd H x o) h h':=by
 have hx:∀b,H b=none->b≠x:=λb n z=>by subst z; rw[n]at mu; exact mu
 have hb:∀b,H b=none->b≠e:=λb n z=>by
  subst z;rcases he with r | r
  . exact hx b n r
  . rw[n]at r; cases r
 have hm:∀b u,H b=some u->¬ Tg (some u)->b≠x:=λb u q nm z=>by subst z; rw[q]at mu; exact nm mu
 refine⟨λb u q n _ _=>k b u (hb b n) q,λb u q n _ _=>⟨u.slots,k b u (hb b n) q⟩,λb u q n _=>by rw[dh (hx b n)]; exact n,λb u q _=>?_,
  λb xs q=>by rw[dh (hm b _ q λz=>z)]; exact q,λb u xs q=>by rw[dh (hm b _ q λz=>z)]; exact q,λb ps q=>⟨#[],by rw[dh (hm b _ q λz=>z),q]; simp⟩⟩
 by_cases hbe:b=e
 . subst hbe; exact heo
 . exact⟨u,k b u hbe q⟩
end
def Th (h:Heap) (H:Hp):List Addr:=(List.range h.objs.size).filter λa=>(H a).isSome
def ww (h:Heap) (H:Hp):Heap:=W.hideAll h (Th h H)
theorem Oz (h:Heap) (H:Hp):(ww h H).objs.size=h.objs.size:=W.hideAll_size _ _
theorem QX (e:h.get? b=some o) (n:H b=none):(ww h H).get? b=some o:=
 W.hideAll_get _ e λhm=>by have q:=(List.mem_filter.mp hm).2;rw[n]at q; simp at q
theorem Us (e:(ww h H).get? b=some o):h.get? b=some o/\H b=none:=by
 have e':=W.of_hideAll (Th h H) e;refine⟨e',?_⟩;cases q:H b with
 | none=>rfl
 | some x=>
  have hm:b∈Th h H:=List.mem_filter.mpr ⟨List.mem_range.mpr (aaJ e'),by simp[q]⟩;have z:(ww h H).get? b=none:=W.hideAll_none (Th h H) hm;rw[z]at e; cases e
def Ut (g h:Heap) (L:Addr):List (Addr×Obj):=(List.range h.objs.size).filterMap λa=>if a=L\/(g.get? a).isSome=true then none else (h.get? a).map λo=>(a,o)
def rest (g h:Heap) (L d:Addr):List (Addr×Obj):=(Ut g h L).filter λp=>decide (p.1≠d)
structure Mod (K:FG) (mg:Str->Option Value) (base:Heap):Prop where
 kin:K.In base
 glob:base.Ns mainGlobals mg
 blt:∃mb,base.Ns builtinsNs mb/\∀x:Str,x ≠ "__name__" -> mb x=bootBuiltins x
 nolimit:base.NoLimit
structure Cx where
 prog:Program
 w:World
 K:FG
 mg:Str->Option Value
 base:Heap
 A:Around
 N:List Str
 s₀:Shared
 H0:Hp
 env:Env
 outer:List Env
 stack:List Env
 ex:List Addr
 fn:Str->Bool
 calm:Bool
 pn:List (Addr×Obj)
 xe:Value->Shared->Prop
def frs (l:List Env):List Addr:=l.filterMap (·.frame)
abbrev Cx.fs (X:Cx):List Addr:=frs X.outer
def OD (sc:Scope) (x:Str):Prop:=sc.names.lookup x=some .local\/sc.names.lookup x=some .cell\/sc.names.lookup x=some .free
def Loc (sc:Scope) (x:Str):Prop:=sc.names.lookup x=some .local\/sc.names.lookup x=some .cell
def Look (env:Env) (h:Heap) (m:Str->Option Value) (x:Str) (u:Value):Prop:=
 (env.kindOf x=some .local/\m x=some u)\/((env.kindOf x=some .cell\/env.kindOf x=some .free)/\∃c,env.cells.lookup x=some c/\h.IsCell c (some u))
structure Cx.Ok (X:Cx):Prop where
 mod:Mod X.K X.mg X.base
 kind:X.env.scope.kind=.function
 glob:X.env.globals=mainGlobals
 blt:X.env.builtins=builtinsNs
 above:X.s₀.heap.objs.size<=X.env.locals
 inj:∀x y c,X.env.cells.lookup x=some c->X.env.cells.lookup y=some c->x=y
 has:∀x,(X.env.kindOf x=some .cell\/X.env.kindOf x=some .free)->∃c,X.env.cells.lookup x=some c
 cab:∀x c,X.fn x=true->X.env.cells.lookup x=some c->X.s₀.heap.objs.size<=c
 hd:X.calm=true->X.A.handled=none
 frames:X.A.frames=some X.stack
 stk:X.stack=X.outer\/(X.stack=X.env::X.outer/\X.env.frame=some X.env.locals)
 exf:∀b∈X.ex,b≠X.env.locals/\∀x c,X.env.cells.lookup x=some c->c≠b
 bs:∀b o,X.base.get? b=some o->X.s₀.heap.get? b=some o/\X.H0 b=none
 bsz:X.base.objs.size<=X.s₀.heap.objs.size
 noex:∀b o,X.base.get? b=some o->b∉X.ex
 exfs:∀b∈X.ex,b∉X.fs
 funs:X.s₀.heap.FunFrames X.base X.outer
 frf:∀b∈X.fs,X.H0 b=none
structure Inv (X:Cx) (aeQ:List (Addr×Obj)) (U:List (Option V)) (H:Hp) (s:Shared):Prop where
 ok:X.Ok
 os:s.os=X.s₀.os
 bare:AllBare s.gens
 base:Un X.fs X.ex X.H0 H X.s₀.heap s.heap
 loc:∃m,s.heap.Ns X.env.locals m/\∀(i:Nat) (x:Str) (v:V),X.N[i]?=some x->U[i]?=some (some v)->OD X.env.scope x->∃u,RelV v u/\Look X.env s.heap m x u
 cell:∀x c,X.env.cells.lookup x=some c->∃v,s.heap.IsCell c v
 free:H X.env.locals=none
 freeC:∀x c,X.env.cells.lookup x=some c->H c=none
 pin:∀p∈X.pn++aeQ,s.heap.get? p.1=some p.2/\H p.1=none/\p.1≠X.env.locals/\p.1∉X.fs/\∀v,p.2.data≠.cell v
 hok:lQ X.prog X.w H s.heap
 len:U.length=X.N.length
section
variable {X:Cx} {aeQ:List (Addr×Obj)} {U:List (Option V)} {H H':Hp} {s:Shared} {h':Heap}
theorem Cx.Ok.nofr (ok:X.Ok) (e:X.base.get? b=some o):b∉X.fs:=λhb=>by have:=(ok.funs.mem hb).1;rw[e]at this; cases this
theorem Inv.bs (I:Inv X aeQ U H s):∀b o,X.base.get? b=some o->s.heap.get? b=some o/\H b=none:=λb o e=>
 ⟨I.base.keep b o (I.ok.bs b o e).1 (I.ok.bs b o e).2 (I.ok.nofr e) (I.ok.noex b o e),I.base.free b o (I.ok.bs b o e).1 (I.ok.bs b o e).2 (I.ok.noex b o e)⟩
theorem Inv.bk (I:Inv X aeQ U H s):∀b o,X.base.get? b=some o->s.heap.get? b=some o:=λb o e=>(I.bs b o e).1
theorem Inv.mod (I:Inv X aeQ U H s):Mod X.K X.mg X.base:=I.ok.mod
theorem Inv.kIn (I:Inv X aeQ U H s):X.K.In s.heap:=I.ok.mod.kin.keeps I.bk
theorem Inv.lt (I:Inv X aeQ U H s):X.env.locals<s.heap.objs.size:=let ⟨_,hn,_⟩:=I.loc; hn.lt
theorem Inv.sz (I:Inv X aeQ U H s):X.s₀.heap.objs.size<=s.heap.objs.size:=aaX I.ok.above (abZ I.lt)
theorem Inv.nofs (I:Inv X aeQ U H s) (h:s.heap.objs.size<=a):a∉X.fs:=λhb=>by obtain⟨_,o,ho,_⟩:=I.ok.funs.mem hb;exact absurd (aaG (aaJ ho) (aaX I.sz h)) (abA _)
theorem Inv.cne (I:Inv X aeQ U H s):∀x c,X.env.cells.lookup x=some c->c≠X.env.locals:=λx c e z=>by obtain⟨v,o,ho,hd⟩:=I.cell x c e;obtain⟨m,⟨o',es,ep,ho',hd',_⟩,_⟩:=I.loc;rw[z,ho']at ho; cases ho; rw[hd']at hd; cases hd
theorem Inv.funs (I:Inv X aeQ U H s):s.heap.FunFrames X.base X.outer:=by
 have all:∀(l:List Env),(∀b∈frs l,b∈X.fs)->X.s₀.heap.FunFrames X.base l->s.heap.FunFrames X.base l:=by
  intro l;induction l with
  | nil=>intro _ _; trivial
  | cons env r ih=>
   intro hs hl;obtain⟨hk,⟨L,o,hf,hn,ho,hd⟩,hr⟩:=hl;have hL:=hs L (by unfold frs; rw[ab9,hf]; exact aaz);obtain⟨sl,e⟩:=I.base.slot L o ho (I.ok.frf L hL) hL λz=>I.ok.exfs L z hL;exact⟨hk,⟨L,_,hf,hn,e,hd⟩,ih (λb hb=>hs b (by unfold frs; rw[ab9,hf]; exact aaA _ hb)) hr⟩
 exact all X.outer (λ_ hb=>hb) I.ok.funs
theorem Inv.stack (I:Inv X aeQ U H s):s.heap.FunFrames X.base X.stack:=by
 rcases I.ok.stk with e | ⟨e,hf⟩
 . rw[e]; exact I.funs
 . rw[e];obtain⟨m,hn,_⟩:=I.loc;refine .cons (by rw[I.ok.kind]; decide) hf hn ?_ I.funs;exact Heap.get?_none_of_le (aaX I.ok.bsz I.ok.above)
theorem Inv.stkSub (I:Inv X aeQ U H s):∀b∈frs X.stack,b∈X.env.locals::X.fs:=λb hb=>by
 rcases I.ok.stk with e | ⟨e,hf⟩
 . rw[e]at hb; exact aaA _ hb
 . rw[e]at hb;unfold frs at hb;rw[ab9,hf]at hb;exact hb
theorem Inv.stkFree (I:Inv X aeQ U H s):∀b∈frs X.stack,H b=none:=λb hb=>by
 rcases aaI.mp (I.stkSub b hb) with e | hb
 . rw[e]; exact I.free
 . obtain⟨_,o,ho,_⟩:=I.ok.funs.mem hb;exact I.base.free b o ho (I.ok.frf b hb) λz=>I.ok.exfs b z hb
theorem Inv.step {ch:List Addr} (I:Inv X aeQ U H s)
 (hch:∀b∈ch,(b∈X.ex\/X.s₀.heap.objs.size<=b)/\b≠X.env.locals/\(∀x c,X.env.cells.lookup x=some c->c≠b)/\∀p∈X.pn++aeQ,p.1≠b)
 (keep:∀b o,b≠X.env.locals->b∉X.fs->b∉ch->s.heap.get? b=some o->H b=none->h'.get? b=some o)
 (slot:∀b o,b≠X.env.locals->b∈X.fs->b∉ch->s.heap.get? b=some o->H b=none->∃sl,h'.get? b=some { o with slots:=sl }) (free:∀b o,b∉ch->s.heap.get? b=some o->H b=none->H' b=none)
 (there:∀b o,b∉ch->s.heap.get? b=some o->∃o',h'.get? b=some o')
 (tups:∀b xs,H b=some (.tup xs)->H' b=some (.tup xs)) (frzs:∀b o u,H b=some (.frz o u)->H' b=some (.frz o u)) (tbls:∀b ps,H b=some (.tbl ps)->∃more,H' b=some (.tbl (ps++more)))
 (ns:∀m,s.heap.Ns X.env.locals m->h'.Ns X.env.locals m) (hok:lQ X.prog X.w H' h') (hg:AllBare g'):
 Inv X aeQ U H' { s with heap:=h',gens:=g',drawn:=d',toks:=t' }:=by
 have neL:∀b o,X.s₀.heap.get? b=some o->b≠X.env.locals:=λb o e=>aa3 (aaG (aaJ e) I.ok.above);have neC:∀b o,X.s₀.heap.get? b=some o->b∉X.ex->b∉ch:=λb o e hx hb=>by
  rcases (hch b hb).1 with z | z
  . exact hx z
  . exact absurd (aaG (aaJ e) z) (abA _)
 have cellK:∀x c,X.env.cells.lookup x=some c->∀v,s.heap.IsCell c v->h'.IsCell c v:=λx c e v ⟨o,ho,hd⟩=>by
  have nch:=λz=>(hch c z).2.2.1 x c e rfl;by_cases hc:c∈X.fs
  . obtain⟨sl,q⟩:=slot c o (I.cne x c e) hc nch ho (I.freeC x c e);exact⟨_,q,hd⟩
  . exact⟨o,keep c o (I.cne x c e) hc nch ho (I.freeC x c e),hd⟩
 refine⟨I.ok,I.os,hg,⟨λb o e n hb hx=>?_,λb o e n hb hx=>?_,λb o e n hx=>?_,λb o e hx=>?_,λb xs e=>tups b xs (I.base.tups b xs e),λb o xs e=>frzs b o xs (I.base.frzs b o xs e),λb ps e=>?_⟩,?_,λx c e=>?_,?_,λx c e=>?_,λp hp=>?_,hok,I.len⟩
 . exact keep b o (neL b o e) hb (neC b o e hx) (I.base.keep b o e n hb hx) (I.base.free b o e n hx)
 . obtain⟨sl,e1⟩:=I.base.slot b o e n hb hx;obtain⟨sl',e2⟩:=slot b _ (neL b o e) hb (neC b o e hx) e1 (I.base.free b o e n hx);exact⟨sl',e2⟩
 . obtain⟨o',e1⟩:=I.base.there b o e hx;exact free b o' (neC b o e hx) e1 (I.base.free b o e n hx)
 . obtain⟨o',e1⟩:=I.base.there b o e hx;exact there b o' (neC b o e hx) e1
 . obtain⟨m1,e1⟩:=I.base.tbls b ps e;obtain⟨m2,e2⟩:=tbls b _ e1;exact⟨m1++m2,by rw[e2,Array.append_assoc]⟩
 . obtain⟨m,hn,hl⟩:=I.loc;refine⟨m,ns m hn,λi x v e1 e2 e3=>?_⟩;obtain⟨u,r,l⟩:=hl i x v e1 e2 e3;refine⟨u,r,?_⟩;rcases l with l | ⟨k,c,e,z⟩
   . exact .inl l
   . exact .inr ⟨k,c,e,cellK x c e _ z⟩
 . obtain⟨v,z⟩:=I.cell x c e;exact⟨v,cellK x c e v z⟩
 . obtain⟨m,⟨o,_,_,ho,_⟩,_⟩:=I.loc;exact free _ o (λz=>(hch _ z).2.1 rfl) ho I.free
 . obtain⟨v,o,ho,hd⟩:=I.cell x c e;exact free c o (λz=>(hch c z).2.2.1 x c e rfl) ho (I.freeC x c e)
 . obtain⟨e,n,ne,nf,d⟩:=I.pin p hp;have nch:=λz=>(hch p.1 z).2.2.2 p hp rfl;exact⟨keep p.1 p.2 ne nf nch e n,free p.1 p.2 nch e n,ne,nf,d⟩
theorem Inv.un (I:Inv X aeQ U H s) (u:Un X.fs [] H H' s.heap h') (hok:lQ X.prog X.w H' h'):Inv X aeQ U H' { s with heap:=h',toks:=t' }:=by
 obtain⟨m,⟨o,es,ep,ho,r⟩,_⟩:=id I.loc;obtain⟨sl,hL⟩:=u.any ho I.free (by simp);exact I.step (ch:=[]) (λ_ z=>nomatch z) (λb o _ hb _ e n=>u.keep b o e n hb (by simp)) (λb o _ hb _ e n=>u.slot b o e n hb (by simp)) (λb o _ e n=>u.free b o e n (by simp)) (λb o _ e=>u.there b o e (by simp)) u.tups u.frzs u.tbls (λm' hm=>by obtain⟨o',es',ep',ho',r'⟩:=hm;rw[ho]at ho'; cases ho';exact⟨_,es',ep',hL,r'⟩) hok I.bare
theorem Inv.call (I:Inv X aeQ U H s) (u:Un (frs X.stack) ch H H' s.heap h') (hok:lQ X.prog X.w H' h') (hg:AllBare g')
 (hch:∀b∈ch,(b∈X.ex\/X.s₀.heap.objs.size<=b)/\b≠X.env.locals/\(∀x c,X.env.cells.lookup x=some c->c≠b)/\∀p∈X.pn++aeQ,p.1≠b):
 Inv X aeQ U H' { s with heap:=h',gens:=g',drawn:=d',toks:=t' }:=by
 obtain⟨m,⟨o,es,ep,ho,r⟩,_⟩:=id I.loc;obtain⟨sl,hL⟩:=u.any ho I.free λz=>(hch _ z).2.1 rfl;exact I.step hch (λb o hL hb hc e n=>u.keep b o e n (λz=>(aaI.mp (I.stkSub b z)).elim hL hb) hc) (λb o _ _ hc e n=>u.any e n hc) (λb o hc e n=>u.free b o e n hc) (λb o hc e=>u.there b o e hc) u.tups u.frzs u.tbls (λm' hm=>by obtain⟨o',es',ep',ho',r'⟩:=hm;rw[ho]at ho'; cases ho';exact⟨_,es',ep',hL,r'⟩) hok hg
theorem Inv.turned (I:Inv X aeQ U H s) (k:∀b o,b≠it->s.heap.get? b=some o->h'.get? b=some o) (hn:H it=none) (hL:it≠X.env.locals)
 (h1:it∈X.ex\/X.s₀.heap.objs.size<=it) (h2:∀x c,X.env.cells.lookup x=some c->c≠it) (h3:∀p∈X.pn++aeQ,p.1≠it):Inv X aeQ U H { s with heap:=h',toks:=t' }:=by
 have nit:∀b u,H b=some u->b≠it:=λb u e z=>by rw[z,hn]at e; cases e
 refine I.step (ch:=[it]) (λb hb=>?_) (λb o _ _ hc e _=>k b o (λz=>hc (by simp[z])) e) (λb o _ _ hc e _=>⟨o.slots,k b o (λz=>hc (by simp[z])) e⟩) (λ_ _ _ _ n=>n)
  (λb o hc e=>⟨o,k b o (λz=>hc (by simp[z])) e⟩) (λ_ _ e=>e) (λ_ _ _ e=>e) (λb ps e=>⟨#[],by rw[e]; simp⟩) (λm hm=>?_) (λb u e=>?_) I.bare
 . have e:b=it:=by simpa using hb
   subst e;exact⟨h1,hL,h2,h3⟩
 . obtain⟨o,es,ep,ho,r⟩:=hm;exact⟨o,es,ep,k _ o (Ne.symm hL) ho,r⟩
 . refine(I.hok b u e).stay (λc v hc q=>k c v ?_ q) (λ_ q=>q) λ_ _ q=>q;rcases hc with z | z
   . rw[z]; exact nit b u e
   . exact nit c _ z
theorem Inv.tok (I:Inv X aeQ U H s) (t:Nat):Inv X aeQ U H { s with toks:=t }:=I.un Un.refl I.hok
theorem Inv.kept (I:Inv X aeQ U H s) (k:∀b u,s.heap.get? b=some u->h'.get? b=some u):Inv X aeQ U H { s with heap:=h',toks:=t' }:=I.un (Un.kept k) (I.hok.kept k)
theorem Inv.laid (I:Inv X aeQ U H s) (k:∀b u,s.heap.get? b=some u->h'.get? b=some u) (hp:s.heap.objs.size<=a) (new:kE X.prog X.w (upd H a o) h' a o):
 Inv X aeQ U (upd H a o) { s with heap:=h',toks:=t' }:=I.un (Un.laid k hp (I.hok.fresh hp)) (I.hok.laid k hp new)
theorem Inv.write (I:Inv X aeQ U H s) (mu:Tg (H x)) (he:e=x\/H e=some (.own x)) (k:∀b u,b≠e->s.heap.get? b=some u->h'.get? b=some u) (heo:∃u,h'.get? e=some u)
 (new:kE X.prog X.w (upd H x o) h' x o):Inv X aeQ U (upd H x o) { s with heap:=h',toks:=t' }:=I.un (Un.write mu he k heo) (I.hok.write mu he k heo new)
theorem Inv.pins_of (I:Inv X aeQ U H s) (h:∀p∈pins',s.heap.get? p.1=some p.2/\H p.1=none/\p.1≠X.env.locals/\p.1∉X.fs/\∀v,p.2.data≠.cell v):Inv X pins' U H s:=
 ⟨I.ok,I.os,I.bare,I.base,I.loc,I.cell,I.free,I.freeC,λp hp=>(abq.mp hp).elim (λz=>I.pin p (aby _ z)) (h p),I.hok,I.len⟩
theorem Hv {N:List Str} (hN:N.Nodup) {i j:Nat} (a:N[i]?=some x) (b:N[j]?=some x):i=j:=by obtain⟨h1,e1⟩:=aaD.mp a;obtain⟨h2,e2⟩:=aaD.mp b;exact(List.getElem_inj hN).mp (e1.trans e2.symm)
theorem Ff (I:Inv X aeQ U H s) (hN:X.N.Nodup) (hi:X.N[i]?=some x) (hx:Loc X.env.scope x) (r:RelV v u)
 (h:∀s',Inv X aeQ (U.set i (some v)) H s'->(∃a,Heap.SameBut a s.heap s'.heap/\(a=X.env.locals\/X.env.cells.lookup x=some a))->Q () s') (hf:X.fn x=true\/X.env.scope.names.lookup x=some .local:=by first | exact .inl rfl | exact .inr rfl | assumption):wpAny M A (storeName X.env x u) Q E s:=by
 obtain⟨m,hn,hl⟩:=id I.loc;have hcls:(X.env.scope.kind==.class||(X.env.scope.kind==.module&&X.env.locals != X.env.globals))=false:=by rw[I.ok.kind]; rfl
 have hiU:i<U.length:=by rw[I.len]; exact(aaD.mp hi).1
 have cne:=I.cne;have tracked:∀{a:Addr} {h':Heap},(∃o,s.heap.get? a=some o/\H a=none)->Heap.SameBut a s.heap h'->lQ X.prog X.w H h':=λ{a h'} ha hs b ob e=>by
  obtain⟨_,_,hfree⟩:=ha;refine(I.hok b ob e).stay (λc w' hc q=>(hs.2 c ?_).trans q) (λ_ q=>q) λ_ _ q=>q;rintro rfl;rcases hc with rfl | hc
  . rw[hfree]at e; cases e
  . rw[hfree]at hc; cases hc
 rcases hx with hk | hk
 . refine wpAny_storeName_local hk hn (λh' hn' hs=>?_) hcls;obtain⟨oL,_,_,hoL,_⟩:=id hn;refine h _ ⟨I.ok,I.os,I.bare,⟨λb o e n hb hx=>?_,λb o e n hb hx=>?_,I.base.free,λb o e hx=>?_,I.base.tups,I.base.frzs,I.base.tbls⟩,⟨_,hn',λj y v' e1 e2 e3=>?_⟩,λy c e=>?_,I.free,I.freeC,λp hp=>?_,tracked ⟨oL,hoL,I.free⟩ hs,by simpa using I.len⟩ ⟨_,hs,.inl rfl⟩
   . exact(hs.2 b (aa3 (aaG (aaJ e) I.ok.above))).trans (I.base.keep b o e n hb hx)
   . obtain⟨sl,e1⟩:=I.base.slot b o e n hb hx;exact⟨sl,(hs.2 b (aa3 (aaG (aaJ e) I.ok.above))).trans e1⟩
   . obtain⟨o',e1⟩:=I.base.there b o e hx;exact⟨o',(hs.2 b (aa3 (aaG (aaJ e) I.ok.above))).trans e1⟩
   . by_cases hj:j=i
     . subst hj;rw[hi]at e1; cases e1;rw[aa5 hiU]at e2;cases e2;exact⟨u,r,.inl ⟨hk,by simp⟩⟩
     . rw[abe (Ne.symm hj)]at e2;obtain⟨u',r',q⟩:=hl j y v' e1 e2 e3;refine⟨u',r',?_⟩;rcases q with ⟨k,e⟩ | ⟨k,c,e,z⟩
       . refine .inl ⟨k,?_⟩;have:y≠x:=λe=>hj (Hv hN e1 (e▸hi));simp[this,e]
       . exact .inr ⟨k,c,e,z.sameBut hs (cne y c e)⟩
   . obtain⟨w',z⟩:=I.cell y c e;exact⟨w',z.sameBut hs (cne y c e)⟩
   . obtain⟨e,n,ne,nf,d⟩:=I.pin p hp;exact⟨(hs.2 p.1 ne).trans e,n,ne,nf,d⟩
 . have hfn:X.fn x=true:=by
    rcases hf with z | z
    . exact z
    . rw[z]at hk; cases hk
   obtain⟨c,hc⟩:=I.ok.has x (.inl hk);obtain⟨w',z⟩:=I.cell x c hc;refine wpAny_storeName_cell I.ok.kind hk hc z (λh' hc' hs=>?_);obtain⟨oc,hoc,hocd⟩:=id z;refine h { s with heap:=h' } ⟨I.ok,I.os,I.bare,⟨λb o e n hb hx=>?_,λb o e n hb hx=>?_,I.base.free,λb o e hx=>?_,I.base.tups,I.base.frzs,I.base.tbls⟩,⟨m,hn.sameBut hs (Ne.symm (cne x c hc)),λj y v' e1 e2 e3=>?_⟩,λy c' e=>?_,I.free,I.freeC,λp hp=>?_,tracked ⟨oc,hoc,I.freeC x c hc⟩ hs,by simpa using I.len⟩ ⟨c,hs,.inr hc⟩
   . exact(hs.2 b (aa3 (aaG (aaJ e) (I.ok.cab x c hfn hc)))).trans (I.base.keep b o e n hb hx)
   . obtain⟨sl,e1⟩:=I.base.slot b o e n hb hx;exact⟨sl,(hs.2 b (aa3 (aaG (aaJ e) (I.ok.cab x c hfn hc)))).trans e1⟩
   . obtain⟨o',e1⟩:=I.base.there b o e hx;exact⟨o',(hs.2 b (aa3 (aaG (aaJ e) (I.ok.cab x c hfn hc)))).trans e1⟩
   . by_cases hj:j=i
     . subst hj;rw[hi]at e1; cases e1;rw[aa5 hiU]at e2;cases e2;exact⟨u,r,.inr ⟨.inl hk,c,hc,hc'⟩⟩
     . rw[abe (Ne.symm hj)]at e2;obtain⟨u',r',q⟩:=hl j y v' e1 e2 e3;refine⟨u',r',?_⟩;rcases q with q | ⟨k,c',e,z'⟩
       . exact .inl q
       . refine .inr ⟨k,c',e,z'.sameBut hs ?_⟩;rintro rfl;exact hj (Hv hN e1 (I.ok.inj _ _ _ e hc▸hi))
   . by_cases hcc:c'=c
     . subst hcc; exact⟨_,hc'⟩
     . obtain⟨w2,z2⟩:=I.cell y c' e;exact⟨w2,z2.sameBut hs hcc⟩
   . obtain⟨e,n,ne,nf,d⟩:=I.pin p hp;refine⟨(hs.2 p.1 ?_).trans e,n,ne,nf,d⟩;intro q;rw[q,hoc]at e;have q':=aaM e;exact d w' (by rw[<-q']; exact hocd)
theorem Hw (I:Inv X aeQ U H s) (hN:X.N.Nodup) (hi:X.N[i]?=some x) (hx:Loc X.env.scope x) (r:RelV v u)
 (h:∀s',Inv X aeQ (U.set i (some v)) H s'->Q () s') (hf:X.fn x=true\/X.env.scope.names.lookup x=some .local:=by first | exact .inl rfl | exact .inr rfl | assumption):wpAny M A (storeName X.env x u) Q E s:=
 Ff I hN hi hx r (λs' I' _=>h s' I') hf
theorem Inv.call' (I:Inv X aeQ U H s) (ho:s'.os=s.os) (u:Un (frs X.stack) ch H H' s.heap s'.heap) (hok:lQ X.prog X.w H' s'.heap) (hg:AllBare s'.gens)
 (hch:∀b∈ch,(b∈X.ex\/X.s₀.heap.objs.size<=b)/\b≠X.env.locals/\(∀x c,X.env.cells.lookup x=some c->c≠b)/\∀p∈X.pn++aeQ,p.1≠b):Inv X aeQ U H' s':=by
 obtain⟨h',g',d',t',o'⟩:=s';have e:=ho;subst e;exact I.call u hok hg hch
end
abbrev XK:=Value->Option Addr->Hp->Prop
abbrev St:=List (Option V)
abbrev VK:=V->Hp->Prop
abbrev TE:=St->Hp->VK->Prop
abbrev TT:=St->Hp->(Bool->Hp->Prop)->Prop
abbrev TA:=St->Hp->(List V->Hp->Prop)->Prop
structure Ends where
 nx:St->Hp->Prop
 rt:VK
 bk:St->Hp->Prop:=λ_ _=>False
 ct:St->Hp->Prop:=λ_ _=>False
abbrev TS:=Ends->St->Hp->Prop
def EP (X:Cx) (aeQ:List (Addr×Obj)) (U:St) (Q:VK) (u:Value) (s':Shared):Prop:=∃v H',Inv X aeQ U H' s'/\RelV v u/\Q v H'
def TP (X:Cx) (aeQ:List (Addr×Obj)) (U:St) (Q:Bool->Hp->Prop) (b:Bool) (s':Shared):Prop:=∃H',Inv X aeQ U H' s'/\Q b H'
def AP (X:Cx) (aeQ:List (Addr×Obj)) (U:St) (Q:List V->Hp->Prop) (us:List Value) (s':Shared):Prop:=∃vs H',Inv X aeQ U H' s'/\Vals vs us/\Q vs H'
def SP (X:Cx) (aeQ:List (Addr×Obj)) (D:Ends) (f:Flow) (s':Shared):Prop:=
 match f with
 | .next=>∃U' H',Inv X aeQ U' H' s'/\D.nx U' H'
 | .brk=>∃U' H',Inv X aeQ U' H' s'/\D.bk U' H'
 | .cont=>∃U' H',Inv X aeQ U' H' s'/\D.ct U' H'
 | .ret u=>∃v U' H',Inv X aeQ U' H' s'/\RelV v u/\D.rt v H'
def PE (X:Cx) (e:Expr) (t:TE):Prop:=
 ∀(aeQ:List (Addr×Obj)) (s:Shared) (U:St) (H:Hp) (Q:VK),Inv X aeQ U H s->t U H Q->wpAny (model X.prog X.w) X.A (eval e X.env) (EP X aeQ U Q) X.xe s
def PT (X:Cx) (e:Expr) (t:TT):Prop:=
 ∀(aeQ:List (Addr×Obj)) (s:Shared) (U:St) (H:Hp) (Q:Bool->Hp->Prop),Inv X aeQ U H s->t U H Q->wpAny (model X.prog X.w) X.A (isTrue e X.env (eval e X.env)) (TP X aeQ U Q) X.xe s
def PW (X:Cx) (e:Expr) (t:TT):Prop:=
 ∀(whole:Sem Value) (aeQ:List (Addr×Obj)) (s:Shared) (U:St) (H:Hp) (Q:Bool->Hp->Prop),Inv X aeQ U H s->t U H Q->wpAny (model X.prog X.w) X.A (isTrue e X.env whole) (TP X aeQ U Q) X.xe s
theorem PW.pt (h:PW X e t):PT X e t:=h _
def PA (X:Cx) (es:List Expr) (t:TA):Prop:=
 ∀(pos:Pos) (aeQ:List (Addr×Obj)) (s:Shared) (U:St) (H:Hp) (Q:List V->Hp->Prop),Inv X aeQ U H s->t U H Q->wpAny (model X.prog X.w) X.A (spliced (backTo pos (starEach es X.env))) (AP X aeQ U Q) X.xe s
def PS (X:Cx) (st:Stmt) (t:TS):Prop:=
 ∀(aeQ:List (Addr×Obj)) (s:Shared) (U:St) (H:Hp) (D:Ends),Inv X aeQ U H s->t D U H->wpAny (model X.prog X.w) X.A (exec st X.env) (SP X aeQ D) X.xe s
def ju (X:Cx) (st:List Stmt) (t:TS):Prop:=
 ∀(aeQ:List (Addr×Obj)) (s:Shared) (U:St) (H:Hp) (D:Ends),Inv X aeQ U H s->t D U H->wpAny (model X.prog X.w) X.A (execs st X.env) (SP X aeQ D) X.xe s
theorem cL (h:wpAny M A t Q E s) (hQ:∀a s,Q a s->Q' a s):wpAny M A t Q' E s:=wpAny_mono h hQ λ_ _ x=>x
section
variable {X:Cx}
theorem bin (ha:PE X a ta) (hb:PE X b tb) {R:V->V->Hp->Prop} (I:Inv X aeQ U H s) (h:ta U H λx H1=>tb U H1 λy H2=>R x y H2)
 {f:Value->Value->Sem α}
 (hf:∀v u s2 x y H2,Inv X aeQ U H2 s2->RelV x v->RelV y u->R x y H2->wpAny (model X.prog X.w) X.A (f v u) Q X.xe s2):
 wpAny (model X.prog X.w) X.A (eval a X.env) (λv s₁=>wpAny (model X.prog X.w) X.A (eval b X.env) (λu s₂=>wpAny (model X.prog X.w) X.A (f v u) Q X.xe s₂) X.xe s₁) X.xe s:=by
 refine cL (ha aeQ s U H _ I h) λv s1 ⟨x,H1,I1,r1,q1⟩=>?_;refine cL (hb aeQ s1 U H1 _ I1 q1) λu s2 ⟨y,H2,I2,r2,q2⟩=>?_;exact hf v u s2 x y H2 I2 r1 r2 q2
def wy (i:Nat):TE:=λU H Q=>∃v,U[i]?=some (some v)/\Q v H
def tC (v:V):TE:=λ_ H Q=>Q v H
theorem Wj (hN:X.N[i]?=some x) (hv:OD X.env.scope x) (hd:(x==("__debug__" : Str))=false:=by decide) (hcd:(x==("__classdict__" : Str))=false:=by decide):PE X (.Name x pos) (wy i):=by
 intro aeQ s U H Q I h;obtain⟨v,e,h⟩:=h;obtain⟨m,hn,hl⟩:=I.loc;obtain⟨u,r,l⟩:=hl i x v hN e hv;have fin:EP X aeQ U Q u s:=⟨v,H,I,r,h⟩;rcases l with ⟨hk,hm⟩ | ⟨hk,c,hc,hcell⟩
 . exact wpAny_Name (wpAny_loadName_local I.ok.kind hk hn hm fin) hd
 . rcases hk with hk | hk
   . exact wpAny_Name (wpAny_loadName_cell I.ok.kind hk hc hcell fin) hd
   . exact wpAny_Name (wpAny_loadName_free I.ok.kind hk hc hcell fin hcd) hd
theorem Wk {i j pos}:PE X (.Constant (.int i) j pos) (tC (.int i)):=λ_ _ _ H _ I h=>wpAny_Constant_int ⟨.int i,H,I.tok _,⟨_,rfl⟩,h⟩
theorem wz {b j pos}:PE X (.Constant (.bool b) j pos) (tC (.bl b)):=λ_ _ _ H _ I h=>Constant_bool ⟨.bl b,H,I,rfl,h⟩
theorem Wl {j pos}:PE X (.Constant .none j pos) (tC .non):=λ_ _ _ H _ I h=>Constant_none ⟨.non,H,I,rfl,h⟩
theorem Wm {x j pos}:PE X (.Constant (.str x) j pos) (tC (.str x)):=λ_ _ _ H _ I h=>Calls.Constant_str ⟨.str x,H,I.tok _,⟨_,rfl⟩,h⟩
def Gl (X:Cx) (x:Str):Prop:=X.env.kindOf x=some .globalImplicit
theorem Dq (I:Inv X aeQ U H s) (hg:Gl X x) (hm:X.mg x=some u) (h:Q u s)
 (hd:(x==("__debug__" : Str))=false:=by decide):wpAny (model X.prog X.w) X.A (eval (.Name x pos) X.env) Q E s:=
 Calls.Name_function_global I.ok.kind hg (Calls.loadGlobal_global (by rw[I.ok.glob]; exact I.mod.glob.keeps I.bk) hm h) hd
theorem rJ (I:Inv X aeQ U H s) (hg:Gl X x) (hm:X.mg x=none) (hv:bootBuiltins x=some u) (h:Q u s)
 (hn:x ≠ "__name__" := by decide) (hd:(x==("__debug__" : Str))=false:=by decide):wpAny (model X.prog X.w) X.A (eval (.Name x pos) X.env) Q E s:=by
 obtain⟨mb,h1,h2⟩:=I.mod.blt;exact Calls.Name_function_global I.ok.kind hg (Calls.loadGlobal_builtin (by rw[I.ok.glob]; exact I.mod.glob.keeps I.bk) hm (by rw[I.ok.blt]; exact h1.keeps I.bk) ((h2 x hn).trans hv) h) hd
theorem zP (hg:Gl X x) (hm:X.mg x=some u) (r:RelV v u) (hd:(x==("__debug__" : Str))=false:=by decide):PE X (.Name x pos) (tC v):=
 λ_ _ _ H _ I h=>Dq I hg hm ⟨v,H,I,r,h⟩ hd
theorem my (hg:Gl X x) (hm:X.mg x=none) (hv:bootBuiltins x=some u) (r:RelV v u) (hn:x ≠ "__name__" := by decide) (hd:(x==("__debug__" : Str))=false:=by decide):PE X (.Name x pos) (tC v):=
 λ_ _ _ H _ I h=>rJ I hg hm hv ⟨v,H,I,r,h⟩ hn hd
variable {a b:Expr} {ta tb:TE} {pos:Pos}
variable {tA tB':TT} {rest:List Expr}
def Wn (t u:TT):TT:=λU H Q=>t U H λc H1=>if c=true then u U H1 Q else Q false H1
def Zm (t u:TT):TT:=λU H Q=>t U H λc H1=>if c=true then Q true H1 else u U H1 Q
def ZX (t:TT):TT:=λU H Q=>t U H λc H1=>Q (!c) H1
theorem Uu (ha:PT X a tA):PW X (.BoolOp .And [a] pos) tA:=by
 intro wh aeQ s U H Q I h;refine isTrue_and (cL (ha aeQ s U H Q I h) λc s1 e=>?_);cases c with
 | true=>exact isTrue_and_nil e
 | false=>exact e
theorem Wo (ha:PT X a tA):PW X (.BoolOp .Or [a] pos) tA:=by
 intro wh aeQ s U H Q I h;refine isTrue_or (cL (ha aeQ s U H Q I h) λc s1 e=>?_);cases c with
 | false=>exact isTrue_or_nil e
 | true=>exact e
theorem Wq (ha:PT X a tA) (hb:PW X (.BoolOp .And (b::rest) pos) tB'):PW X (.BoolOp .And (a::b::rest) pos) (Wn tA tB'):=by
 intro wh aeQ s U H Q I h;refine isTrue_and (cL (ha aeQ s U H _ I h) λc s1 ⟨H1,I1,q1⟩=>?_);cases c with
 | true=>exact hb wh aeQ s1 U H1 Q I1 q1
 | false=>exact⟨H1,I1,q1⟩
theorem YH (ha:PT X a tA) (hb:PW X (.BoolOp .Or (b::rest) pos) tB'):PW X (.BoolOp .Or (a::b::rest) pos) (Zm tA tB'):=by
 intro wh aeQ s U H Q I h;refine isTrue_or (cL (ha aeQ s U H _ I h) λc s1 ⟨H1,I1,q1⟩=>?_);cases c with
 | true=>exact⟨H1,I1,q1⟩
 | false=>exact hb wh aeQ s1 U H1 Q I1 q1
theorem Wr (ha:PT X a tA):PT X (.UnaryOp .Not a pos) (ZX tA):=by intro aeQ s U H Q I h;exact isTrue_not (ha aeQ s U H (λc H1=>Q (!c) H1) I h)
def YJ (ta tb:TE):TE:=λU H Q=>ta U H λx H1=>∃c,x=.bl c/\if c=true then tb U H1 Q else Q (.bl false) H1
def ZZ (ta tb:TE):TE:=λU H Q=>ta U H λx H1=>∃c,x=.bl c/\if c=true then Q (.bl true) H1 else tb U H1 Q
def YK (ta:TE):TE:=λU H Q=>ta U H λx H1=>∃c,x=.bl c/\Q (.bl (!c)) H1
theorem Ws {op} (h:PE X a t):PE X (.BoolOp op [a] pos) t:=λaeQ s U H Q I hw=>BoolOp_one (h aeQ s U H Q I hw)
theorem Wt (ha:PE X a ta) (hb:PE X (.BoolOp .And (b::rest) pos) tb):PE X (.BoolOp .And (a::b::rest) pos) (YJ ta tb):=by
 intro aeQ s U H Q I h;refine BoolOp_and (cL (ha aeQ s U H _ I h) λv s1 ⟨x,H1,I1,r1,q1⟩=>?_);obtain⟨c,rfl,q1⟩:=q1;cases r1;refine wpAny_truthy_bool ?_;cases c with
 | true=>exact hb aeQ s1 U H1 Q I1 q1
 | false=>exact⟨.bl false,H1,I1,rfl,q1⟩
theorem YL (ha:PE X a ta) (hb:PE X (.BoolOp .Or (b::rest) pos) tb):PE X (.BoolOp .Or (a::b::rest) pos) (ZZ ta tb):=by
 intro aeQ s U H Q I h;refine BoolOp_or (cL (ha aeQ s U H _ I h) λv s1 ⟨x,H1,I1,r1,q1⟩=>?_);obtain⟨c,rfl,q1⟩:=q1;cases r1;refine wpAny_truthy_bool ?_;cases c with
 | false=>exact hb aeQ s1 U H1 Q I1 q1
 | true=>exact⟨.bl true,H1,I1,rfl,q1⟩
theorem Wu (ha:PE X a ta):PE X (.UnaryOp .Not a pos) (YK ta):=by intro aeQ s U H Q I h;refine UnaryOp_ (cL (ha aeQ s U H _ I h) λv s1 ⟨x,H1,I1,r1,q1⟩=>?_);obtain⟨c,rfl,q1⟩:=q1;cases r1;exact not_of (wpAny_truthy_bool ⟨.bl (!c),H1,I1,rfl,q1⟩)
def tIf (t:TT) (ta tb:TE):TE:=λU H Q=>t U H λc H1=>if c=true then ta U H1 Q else tb U H1 Q
theorem QZ (hc:PT X c tA) (ha:PE X a ta) (hb:PE X b tb):PE X (.IfExp c a b pos) (tIf tA ta tb):=by
 intro aeQ s U H Q I h;refine wpAny_IfExp (cL (hc aeQ s U H _ I h) λd s1 ⟨H1,I1,q1⟩=>?_);cases d with
 | true=>exact ha aeQ s1 U H1 Q I1 q1
 | false=>exact hb aeQ s1 U H1 Q I1 q1
end
def cM (K:FG) (H:Hp) (a:Addr) (xs:List V):Prop:=
 Rd H a (.lst xs)\/
  ∃(o:Obj) (its:Array Value) (n:Nat),K.lookup a=some o/\o.cls=.type "list" /\ o.dict=none/\o.data=.seq its n/\its.size<=sizeLine/\Vals xs its.toList
def eU (K:FG) (H:Hp) (a:Addr) (xs:List V):Prop:=
 Rd H a (.tup xs)\/
  ∃(o:Obj) (its:Array Value) (n:Nat),K.lookup a=some o/\o.cls=.type "tuple" /\ o.data=.seq its n/\its.size<=sizeLine/\Vals xs its.toList
def Z3:Value->Option V
 | .none=>some .non
 | .bool b=>some (.bl b)
 | .int i _=>some (.int i)
 | .str x _=>some (.str x)
 | .bytes b _=>some (.byt b)
 | .float b _=>some (.flt b)
 | .ref a=>some (.ref a)
 | .type n=>some (.ty n)
 | _=>none
theorem RelV.abs (r:RelV x u):Z3 u=some x:=by
 cases x with
 | non=>cases r; rfl
 | bl _=>cases r; rfl
 | int _=>obtain⟨t,rfl⟩:=r; rfl
 | str _=>obtain⟨t,rfl⟩:=r; rfl
 | byt _=>obtain⟨t,rfl⟩:=r; rfl
 | flt _=>obtain⟨t,rfl⟩:=r; rfl
 | ref _=>cases r; rfl
 | ty _=>cases r; rfl
theorem RelV.inj (r:RelV x u) (q:RelV y u):x=y:=aaM (r.abs.symm.trans q.abs)
theorem Vals.inj:∀{xs ys:List V} {us:List Value},Vals xs us->Vals ys us->xs=ys
 | _,_,_,.nil,.nil=>rfl
 | _,_,_,.cons r t,.cons r' t'=>by rw[r.inj r',Vals.inj t t']
section
variable {X:Cx} {aeQ:List (Addr×Obj)} {U:St} {H:Hp} {s:Shared} {a:Addr} {xs ys:List V}
theorem cM.of {K:FG} (h:H a=some (.lst xs)):cM K H a xs:=.inl (.inl h)
theorem eU.of {K:FG} (h:H a=some (.tup xs)):eU K H a xs:=.inl (.inl h)
theorem Inv.list (I:Inv X aeQ U H s) (h:cM X.K H a xs):∃its:List Value,Vals xs its/\PlainL s.heap a its.toArray/\xs.length<=sizeLine:=by
 rcases h with h | ⟨o,its,n,hk,hc,hd,hs,hz,r⟩
 . obtain⟨z,its,n,r,e⟩:=h.ok I.hok;exact⟨its,r,⟨_,n,e,rfl,rfl,rfl⟩,z⟩
 . refine⟨its.toList,r,⟨o,n,I.kIn a o hk,hc,hd,by simpa using hs⟩,?_⟩;have e:=r.length;simp only[abm]at e;omega
theorem Inv.tuple (I:Inv X aeQ U H s) (h:eU X.K H a xs):∃its:List Value,Vals xs its/\IsTup s.heap a its.toArray/\xs.length<=sizeLine:=by
 rcases h with h | ⟨o,its,n,hk,hc,hs,hz,r⟩
 . obtain⟨z,its,r,p⟩:=h.ok I.hok;exact⟨its,r,p,z⟩
 . refine⟨its.toList,r,⟨o,I.kIn a o hk,hc,n,by simpa using hs⟩,?_⟩;have e:=r.length;simp only[abm]at e;omega
theorem Inv.list_inj (I:Inv X aeQ U H s) (h:cM X.K H a xs) (h':cM X.K H a ys):xs=ys:=by
 obtain⟨its,r,⟨o,n,e,_,_,d⟩,_⟩:=I.list h;obtain⟨its',r',⟨o',n',e',_,_,d'⟩,_⟩:=I.list h';rw[e]at e'; cases e';rw[d]at d';injection d' with d1 _;have:its=its':=by simpa using congrArg Array.toList d1
 subst this;exact r.inj r'
theorem Inv.tuple_inj (I:Inv X aeQ U H s) (h:eU X.K H a xs) (h':eU X.K H a ys):xs=ys:=by
 obtain⟨its,r,⟨o,e,_,n,d⟩,_⟩:=I.tuple h;obtain⟨its',r',⟨o',e',_,n',d'⟩,_⟩:=I.tuple h';rw[e]at e'; cases e';rw[d]at d';injection d' with d1 _;have:its=its':=by simpa using congrArg Array.toList d1
 subst this;exact r.inj r'
end
abbrev Cx.wish (X:Cx) (E:Value->Shared->Prop):Cx:={ X with xe:=E }
abbrev Cx.nox (X:Cx):Cx:=X.wish λ_ _=>False
theorem Cx.Ok.wish {X:Cx} (ok:X.Ok) (E:Value->Shared->Prop):(X.wish E).Ok:=
 ⟨ok.mod,ok.kind,ok.glob,ok.blt,ok.above,ok.inj,ok.has,ok.cab,ok.hd,ok.frames,ok.stk,ok.exf,ok.bs,ok.bsz,ok.noex,ok.exfs,ok.funs,ok.frf⟩
theorem Cx.Ok.unwish {X:Cx} (ok:(X.wish E).Ok):X.Ok:=
 ⟨ok.mod,ok.kind,ok.glob,ok.blt,ok.above,ok.inj,ok.has,ok.cab,ok.hd,ok.frames,ok.stk,ok.exf,ok.bs,ok.bsz,ok.noex,ok.exfs,ok.funs,ok.frf⟩
section
variable {X:Cx} {aeQ:List (Addr×Obj)} {U:St} {H:Hp} {s:Shared} {E:Value->Shared->Prop}
theorem Inv.wish (I:Inv X aeQ U H s) (E:Value->Shared->Prop):Inv (X.wish E) aeQ U H s:=⟨I.ok.wish E,I.os,I.bare,I.base,I.loc,I.cell,I.free,I.freeC,I.pin,I.hok,I.len⟩
theorem Inv.unwish (I:Inv (X.wish E) aeQ U H s):Inv X aeQ U H s:=⟨I.ok.unwish,I.os,I.bare,I.base,I.loc,I.cell,I.free,I.freeC,I.pin,I.hok,I.len⟩
theorem SP.unwish (h:SP (X.wish E) aeQ D f s'):SP X aeQ D f s':=by
 cases f with
 | next=>obtain⟨U',H',I,q⟩:=h; exact⟨U',H',I.unwish,q⟩
 | brk=>obtain⟨U',H',I,q⟩:=h; exact⟨U',H',I.unwish,q⟩
 | cont=>obtain⟨U',H',I,q⟩:=h; exact⟨U',H',I.unwish,q⟩
 | ret u=>obtain⟨v,U',H',I,r,q⟩:=h; exact⟨v,U',H',I.unwish,r,q⟩
theorem ju.nox {st:List Stmt} (h:ju X.nox st t):ju X st t:=λaeQ s U H D I hw=>
 wpAny_mono (h aeQ s U H D (I.wish _) hw) (λ_ _ q=>q.unwish) λ_ _ z=>False.elim z
end
section
variable {X:Cx} {st:Stmt} {rest:List Stmt} {t u:TS} {e:Expr} {te:TE} {pos:Pos}
def YM:TS:=λD U H=>D.nx U H
def Z4 (t u:TS):TS:=λD U H=>t { D with nx:=u D } U H
theorem Uv:ju X [] YM:=λ_ _ U H _ I h=>wpAny_execs_nil ⟨U,H,I,h⟩
theorem Q0 (h1:PS X st t) (h2:ju X rest u):ju X (st::rest) (Z4 t u):=by
 intro aeQ s U H D I h;refine wpAny_execs_cons (cL (h1 aeQ s U H { D with nx:=u D } I h) λf s1 q=>?_);cases f with
 | next=>
  obtain⟨U',H',I',q⟩:=q;exact h2 aeQ s1 U' H' D I' q
 | ret v=>exact q
 | brk=>exact q
 | cont=>exact q
theorem Uw (h1:PS X st t):ju X [st] t:=by
 intro aeQ s U H D I h;refine wpAny_execs_cons (cL (h1 aeQ s U H D I h) λf s1 q=>?_);cases f with
 | next=>exact wpAny_execs_nil q
 | ret v=>exact q
 | brk=>exact q
 | cont=>exact q
theorem Inv.quiet (I:Inv X aeQ U H s):interactive X.env=false:=by simp[interactive,I.ok.kind]
def G9 (te:TE):TS:=λD U H=>te U H λ_ H1=>D.nx U H1
theorem jL (he:PE X e te) (hs:swapsWith e none pos.line X.env=pure false:=by rfl):PS X (.Expr e pos) (G9 te):=by intro aeQ s U H D I h;exact wpAny_Expr_any (cL (he aeQ s U H _ I h) λv s1 ⟨x,H1,I1,r1,q1⟩=>⟨U,H1,I1,q1⟩) I.quiet hs
def Z5 (te:TE):TS:=λD U H=>te U H D.rt
theorem OJ (he:PE X e te):PS X (.Return (some e) pos) (Z5 te):=by intro aeQ s U H D I h;exact wpAny_Return_some (cL (he aeQ s U H _ I h) λv s1 ⟨x,H1,I1,r1,q1⟩=>⟨x,U,H1,I1,r1,q1⟩)
def Z6 (c:TT) (t u:TS):TS:=λD U H=>c U H λb H1=>if b=true then t D U H1 else u D U H1
theorem YQ (hc:PT X c tc) (ha:ju X a t) (hb:ju X b u):PS X (.If c a b pos) (Z6 tc t u):=by
 intro aeQ s U H D I h;refine wpAny_If (cL (hc aeQ s U H _ I h) λd s1 ⟨H1,I1,q1⟩=>?_);cases d with
 | true=>exact ha aeQ s1 U H1 D I1 q1
 | false=>exact hb aeQ s1 U H1 D I1 q1
end
abbrev TG:=V->St->Hp->(St->Hp->Prop)->Prop
abbrev xP:=List V->St->Hp->(St->Hp->Prop)->Prop
def PG (X:Cx) (target:Expr) (t:TG):Prop:=
 ∀(aeQ:List (Addr×Obj)) (s:Shared) (U:St) (H:Hp) (v:V) (u:Value) (Q:St->Hp->Prop),Inv X aeQ U H s->RelV v u->t v U H Q->
  wpAny (model X.prog X.w) X.A (assign target X.env u) (λ_ s'=>∃U' H',Inv X aeQ U' H' s'/\Q U' H') X.xe s
def O1_ (X:Cx) (ts:List Expr) (t:xP):Prop:=
 ∀(aeQ:List (Addr×Obj)) (s:Shared) (U:St) (H:Hp) (vs:List V) (us:List Value) (Q:St->Hp->Prop),Inv X aeQ U H s->Vals vs us->t vs U H Q->
  wpAny (model X.prog X.w) X.A (assignInOrder ((assignEach ts X.env).map (·.2)) us) (λ_ s'=>∃U' H',Inv X aeQ U' H' s'/\Q U' H') X.xe s
abbrev Q3:=V->V->V->Hp->(Hp->Prop)->Prop
def Wv (X:Cx) (t:Q3):Prop:=
 ∀(aeQ:List (Addr×Obj)) (s:Shared) (U:St) (H:Hp) (o i v:V) (ov iv u:Value) (Q:Hp->Prop),Inv X aeQ U H s->RelV o ov->RelV i iv->RelV v u->t o i v H Q->
  wpAny (model X.prog X.w) X.A (setItem ov iv u) (λ_ s'=>∃H',Inv X aeQ U H' s'/\Q H') X.xe s
section
variable {X:Cx} {pos:Pos}
def Ha (i:Nat):TG:=λv U H Q=>Q (U.set i (some v)) H
theorem Ux (hN:X.N.Nodup) (hi:X.N[i]?=some x) (hx:Loc X.env.scope x) (hf:X.fn x=true\/X.env.scope.names.lookup x=some .local:=by first | exact .inl rfl | exact .inr rfl | assumption):PG X (.Name x pos) (Ha i):=by intro aeQ s U H v u Q I r h;exact wpAny_assign_Name (Hw I hN hi hx r (λs' I'=>⟨_,H,I',h⟩) hf)
def Ww:xP:=λvs U H Q=>vs=[]/\Q U H
def Ti (t:TG) (u:xP):xP:=λvs U H Q=>∃v r,vs=v::r/\t v U H λU' H'=>u r U' H' Q
theorem jM:O1_ X [] Ww:=by intro aeQ s U H vs us Q I r h;obtain⟨e,h⟩:=h;subst e;exact assignInOrder_nil ⟨U,H,I,h⟩
theorem cF (h1:PG X e t) (h2:O1_ X es u)
 (hs:(assignEach (e::es) X.env).map (·.2)=assign e X.env::(assignEach es X.env).map (·.2):=by rfl):O1_ X (e::es) (Ti t u):=by
 intro aeQ s U H vs us Q I r h;obtain⟨v,vr,e1,h⟩:=h;subst e1;cases r with
 | cons r rr=>
  rw[hs];refine assignInOrder_cons (cL (h1 aeQ s U H _ _ _ I r h) λ_ s1 ⟨U1,H1,I1,q1⟩=>?_);exact h2 aeQ s1 U1 H1 _ _ Q I1 rr q1
def Z7 (K:FG) (n:Nat) (t:xP):TG:=λv U H Q=>∃a xs,v=.ref a/\eU K H a xs/\xs.length=n/\t xs U H Q
theorem Wx (hc:X.calm=true) (h:O1_ X es t)
 (hn:(assignEach es X.env).length=n:=by rfl) (hst:(assignEach es X.env).findIdx? (·.1)=none:=by rfl):PG X (.Tuple es k pos) (Z7 X.K n t):=by
 intro aeQ s U H v u Q I r hw;obtain⟨a,xs,e1,hq,hl,hw⟩:=hw;subst e1;cases r;obtain⟨its,rv,ht,hz⟩:=I.tuple hq;refine assign_Tuple_tuple (I.ok.hd hc) ht (by simp[hn,<-hl,rv.length]) hst λh' hx=>?_;have I1:=I.kept (t':=s.toks) λb o e=>hx b o (aa3 (aaJ e)) e;exact h aeQ _ U H xs _ Q I1 (by simpa using rv) hw
def Wy (to ti:TE) (t:Q3):TG:=λv U H Q=>to U H λo H1=>ti U H1 λi H2=>t o i v H2 λH3=>Q U H3
theorem O2_ (ho:PE X o to) (hi:PE X i ti) (hs:Wv X t)
 (ha:∀v,assign (.Subscript o i pos) X.env v=(do
   let ov <-holding [v] (eval o X.env)
   let iv <-holding [v,ov] (eval i X.env)
   standAt pos
   holding [v,ov,iv] (setItem ov iv v)
   release [v,ov,iv] []):=by intro _; rfl):PG X (.Subscript o i pos) (Wy to ti t):=by
 intro aeQ s U H v u Q I r h
 rw[ha]
 refine acp (wpAny_holding (cL (ho aeQ s U H _ I h) λov s1 ⟨x,H1,I1,r1,q1⟩=>?_))
 refine acp (wpAny_holding (cL (hi aeQ s1 U H1 _ I1 q1) λiv s2 ⟨y,H2,I2,r2,q2⟩=>?_))
 refine acp (wpAny_standAt (acp (wpAny_holding (cL (hs aeQ s2 U H2 x y v ov iv u _ I2 r1 r2 r q2) λ_ s3 ⟨H3,I3,q3⟩=>?_))))
 exact wpAny_release ⟨U,H3,I3,q3⟩
def Q4 (te:TE) (g:TG):TS:=λD U H=>te U H λx H1=>g x U H1 D.nx
theorem Hx (he:PE X e te) (hg:PG X tg g) (hs:swapsWithSole [tg] e pos.line X.env=pure false:=by rfl) (hw:swappedStores [tg] e X.env=pure none:=by rfl)
 (h1:(assignEach [tg] X.env).map (·.2)=[assign tg X.env]:=by rfl):PS X (.Assign [tg] e pos) (Q4 te g):=by
 intro aeQ s U H D I h;refine wpAny_Assign_stores (cL (he aeQ s U H _ I h) λv s1 ⟨x,H1,I1,r1,q1⟩=>?_) hs hw;rw[h1];exact cL (hg aeQ s1 U H1 x v _ I1 r1 q1) λ_ s2 q=>q
theorem Wz (hN:X.N.Nodup) (hi:X.N[i]?=some x) (hx:Loc X.env.scope x) (he:PE X e te) (hs:swapsWith e (some (.Name x pos')) pos.line X.env=pure false:=by rfl) (hf:X.fn x=true\/X.env.scope.names.lookup x=some .local:=by first | exact .inl rfl | exact .inr rfl | assumption):
 PS X (.Assign [.Name x pos'] e pos) (Q4 te (Ha i)):=by
 intro aeQ s U H D I h;refine wpAny_Assign_Name (cL (he aeQ s U H _ I h) λv s1 ⟨y,H1,I1,r1,q1⟩=>?_) hs;exact Hw I1 hN hi hx r1 (λs2 I2=>⟨_,H1,I2,q1⟩) hf
def WD (c:TT) (tb:TS):TS:=λD U H=>∃W:Nat->St->Hp->Prop,(∃m,W m U H)/\∀m U H,W m U H->
 c U H λb H1=>if b=true then ∃N:St->Hp->Prop,(∀U' H',N U' H'->∃m',m'<m/\W m' U' H')/\tb { D with nx:=N,ct:=N,bk:=D.nx } U H1 else D.nx U H1
theorem Q5 (hp:PassesOwn (model X.prog X.w) X.A X.env X.xe) (hc:PT X c tc) (hb:ju X body tb):PS X (.While c body [] pos) (WD tc tb):=by
 intro aeQ s U H D I h;obtain⟨W,⟨m0,w0⟩,turn⟩:=h;refine wpAny_While (codeAny_whileLoop (λn s'=>∃U' H',Inv X aeQ U' H' s'/\W n U' H') ?_ m0 ⟨U,H,I,w0⟩);rintro n s1 ⟨U1,H1,I1,w1⟩;refine wpAny_passesOwn hp (cL (hc aeQ s1 U1 H1 _ I1 (turn n U1 H1 w1)) λb s2 ⟨H2,I2,q2⟩=>?_);cases b with
 | true=>
  obtain⟨N,hN,q2⟩:=q2;refine wpAny_passesOwn hp (cL (hb aeQ s2 U1 H2 _ I2 q2) λf s3 q3=>?_);cases f with
  | next=>
   obtain⟨U3,H3,I3,n3⟩:=q3;obtain⟨m',hm,w3⟩:=hN U3 H3 n3;exact⟨m',hm,U3,H3,I3,w3⟩
  | cont=>
   obtain⟨U3,H3,I3,n3⟩:=q3;obtain⟨m',hm,w3⟩:=hN U3 H3 n3;exact⟨m',hm,U3,H3,I3,w3⟩
  | brk=>exact q3
  | ret v=>exact q3
 | false=>
  exact wpAny_execs_nil ⟨U1,H2,I2,q2⟩
end
structure It where
 go:Nat->Hp->Prop
 yld:Nat->Hp->V->Hp->Prop
 stop:Nat->Hp->Prop
def qp (X:Cx) (aeQ:List (Addr×Obj)) (H:Hp) (b:Addr):Prop:=
 H b=none/\b≠X.env.locals/\b∉X.fs/\(b∈X.ex\/X.s₀.heap.objs.size<=b)/\(∀x c,X.env.cells.lookup x=some c->c≠b)/\∀p∈X.pn++aeQ,p.1≠b
theorem Inv.fpOk (I:Inv X aeQ U H s) (hb:s.heap.objs.size<=b) (hn:H' b=none):qp X aeQ H' b:=by
 refine⟨hn,abp (aaG I.lt hb),I.nofs hb,.inr (aaX I.sz hb),λx c e z=>?_,λp hp z=>?_⟩
 . obtain⟨v,q⟩:=I.cell x c e;exact absurd (aaG q.lt (by rw[z]; exact hb)) (abA _)
 . exact absurd (aaG (aaJ (I.pin p hp).1) (by rw[z]; exact hb)) (abA _)
structure Turn (P:Program) (w:World) (K:FG) (tg:Expr) (J:It) (fp:List Addr) (it:Addr) (tn:Nat->Heap->Prop):Prop where
 mem:it∈fp
 obj:∀i h,tn i h->∀b∈fp,∃o,h.get? b=some o/\∀v,o.data≠.cell v
 keep:∀i h h',tn i h->(∀b∈fp,∀o,h.get? b=some o->h'.get? b=some o)->tn i h'
 item:∀(X:Cx),X.prog=P->X.w=w->X.K=K->X.calm=true->∀(i:Nat) (aeQ:List (Addr×Obj)) (s:Shared) (U:St) (H:Hp) (E:Value->Shared->Prop),Inv X aeQ U H s->(∀b∈fp,qp X aeQ H b)->tn i s.heap->J.go i H->
  wpAny (model P w) X.A (pyNext (.ref it)) (λr s1=>∃u,r=some u/\
   wpAny (model P w) X.A (letOwnedTupleGo tg (.ref it) u) (λ_ s2=>∃x H',Inv X aeQ U H' s2/\RelV x u/\J.yld i H x H'/\tn (i+1) s2.heap/\∀b∈fp,H' b=none) E s1) E s
 done:∀(X:Cx),X.prog=P->X.w=w->X.K=K->X.calm=true->∀(i:Nat) (aeQ:List (Addr×Obj)) (s:Shared) (U:St) (H:Hp) (E:Value->Shared->Prop),Inv X aeQ U H s->(∀b∈fp,qp X aeQ H b)->tn i s.heap->J.stop i H->
  wpAny (model P w) X.A (pyNext (.ref it)) (λr s1=>r=none/\Inv X aeQ U H s1) E s
 self:∀(A:Around) (i:Nat) (s:Shared) (Q:Value->Shared->Prop) (E:Value->Shared->Prop),tn i s.heap->Q (.ref it) s->wpAny (model P w) A (pyIter (.ref it)) Q E s
abbrev TI:=St->Hp->(It->Hp->Prop)->Prop
def PIE (X:Cx) (aeQ:List (Addr×Obj)) (U:St) (tg:Expr) (R:It->Hp->Prop) (itv:Value) (s2:Shared):Prop:=
 ∃(it:Addr) (fp:List Addr) (tn:Nat->Heap->Prop) (J:It) (H':Hp),itv=.ref it/\Inv X aeQ U H' s2/\Turn X.prog X.w X.K tg J fp it tn/\tn 0 s2.heap/\(∀b∈fp,qp X aeQ H' b)/\R J H'
def PI (X:Cx) (tg iter:Expr) (wi:TI):Prop:=
 ∀(aeQ:List (Addr×Obj)) (s:Shared) (U:St) (H:Hp) (R:It->Hp->Prop),Inv X aeQ U H s->wi U H R->
  wpAny (model X.prog X.w) X.A (eval iter X.env) (λv s1=>wpAny (model X.prog X.w) X.A (pyIter v) (PIE X aeQ U tg R) X.xe s1) X.xe s
theorem Hb (ho:s.heap.get? it=some o) (hc:o.cls=.type n) (hd:o.data=.fields vs)
 (hn:["enumerate", "zip", "dict_itemiterator", "dict_reverseitemiterator", "odict_iterator", "itertools.zip_longest", "itertools.pairwise"].contains n=false) (hQ:Q () s):wpAny M A (letOwnedTupleGo tg (.ref it) u) Q E s:=by
 cases tg<;>first
  | exact acs hQ
  | (cases u<;>first
      | exact acs hQ
      | (refine acp (wpAny_load ho ?_)
         rw[hc,hd];show wpAny M A (if (["enumerate", "zip", "dict_itemiterator", "dict_reverseitemiterator", "odict_iterator", "itertools.zip_longest", "itertools.pairwise"].contains n&&vs[0]?==some (rawInt _))=true then _ else _) Q E s;rw[acr (by intro h; rw[hn,Bool.false_and]at h; cases h)];exact acs hQ))
def Lb (K:FG) (a:Addr):It:=
 ⟨λi H=>∃xs x,cM K H a xs/\xs[i]?=some x,λi H x H'=>H'=H/\∀xs,cM K H a xs->xs[i]?=some x,λi H=>∃xs,cM K H a xs/\xs.length<=i⟩
def Tj (K:FG) (a:Addr):It:=
 ⟨λi H=>∃xs x,eU K H a xs/\xs[i]?=some x,λi H x H'=>H'=H/\∀xs,eU K H a xs->xs[i]?=some x,λi H=>∃xs,eU K H a xs/\xs.length<=i⟩
def Tn (lo:Int) (n:Nat):It:=⟨λi _=>i<n,λi H x H'=>H'=H/\x=.int (lo+i),λi _=>n<=i⟩
theorem Fg {K:FG} (a it:Addr):Turn P w K tg (Lb K a) [it] it (λi h=>h.IsListIter it a i) where
 mem:=by simp
 obj:=λi h st b hb=>by
  have e:b=it:=by simpa using hb
  subst e;obtain⟨o,e,c,d⟩:=st;exact⟨o,e,λv z=>by rw[d]at z; cases z⟩
 keep:=λi h h' st k=>st.at λo e=>k it (by simp) o e
 item:=by intro X hP hw hK hc i aeQ s U H E I hf st hg;subst hP hw hK;obtain⟨xs,x,hq,hx⟩:=hg;obtain⟨its,rv,p,hz⟩:=I.list hq;obtain⟨u,hu,ru⟩:=rv.get hx;obtain⟨f0,f1,f2,f3,f4,f5⟩:=hf it (by simp);refine wpAny_pyNext_list_item st p.isList (by simpa using hu) λh' st' sb=>?_;have I1:=I.turned (t':=s.toks) (λb o hb e=>(sb.2 b hb).trans e) f0 f1 f3 f4 f5;obtain⟨o,e,c,d⟩:=id st';exact⟨u,rfl,Hb e c d (by decide) ⟨x,H,I1,ru,⟨rfl,λys hy=>by rw[I.list_inj hy hq]; exact hx⟩,st',λb hb=>(hf b hb).1⟩⟩
 done:=by intro X hP hw hK hc i aeQ s U H E I hf st hg;subst hP hw hK;obtain⟨xs,hq,hx⟩:=hg;obtain⟨its,rv,p,hz⟩:=I.list hq;obtain⟨f0,f1,f2,f3,f4,f5⟩:=hf it (by simp);have hl:=rv.length;exact wpAny_pyNext_list_end (I.ok.hd hc) st p.isList (by simp; omega) λh' eb=>⟨rfl,I.turned (λb o hb e=>eb b o hb e) f0 f1 f3 f4 f5⟩
 self:=λ_ _ _ _ _ st h=>wpAny_pyIter_listiter st h
theorem Nh {K:FG} (a it:Addr):Turn P w K tg (Tj K a) [it] it (λi h=>h.IsTupleIter it a i) where
 mem:=by simp
 obj:=λi h st b hb=>by
  have e:b=it:=by simpa using hb
  subst e;obtain⟨o,e,c,d⟩:=st;exact⟨o,e,λv z=>by rw[d]at z; cases z⟩
 keep:=λi h h' st k=>st.at λo e=>k it (by simp) o e
 item:=by intro X hP hw hK hc i aeQ s U H E I hf st hg;subst hP hw hK;obtain⟨xs,x,hq,hx⟩:=hg;obtain⟨its,rv,p,hz⟩:=I.tuple hq;obtain⟨u,hu,ru⟩:=rv.get hx;obtain⟨f0,f1,f2,f3,f4,f5⟩:=hf it (by simp);refine wpAny_pyNext_tuple_item st (p) (by simpa using hu) λh' st' sb=>?_;have I1:=I.turned (t':=s.toks) (λb o hb e=>(sb.2 b hb).trans e) f0 f1 f3 f4 f5;obtain⟨o,e,c,d⟩:=id st';exact⟨u,rfl,Hb e c d (by decide) ⟨x,H,I1,ru,⟨rfl,λys hy=>by rw[I.tuple_inj hy hq]; exact hx⟩,st',λb hb=>(hf b hb).1⟩⟩
 done:=by intro X hP hw hK hc i aeQ s U H E I hf st hg;subst hP hw hK;obtain⟨xs,hq,hx⟩:=hg;obtain⟨its,rv,p,hz⟩:=I.tuple hq;obtain⟨f0,f1,f2,f3,f4,f5⟩:=hf it (by simp);have hl:=rv.length;exact wpAny_pyNext_tuple_end (I.ok.hd hc) st (p) (by simp; omega) λh' eb=>⟨rfl,I.turned (λb o hb e=>eb b o hb e) f0 f1 f3 f4 f5⟩
 self:=λ_ _ _ _ _ st h=>wpAny_pyIter_tupleiter st h
theorem Ni {K:FG} (it:Addr) (lo:Int) (n:Nat):Turn P w K tg (Tn lo n) [it] it (λi h=>IsRangeIter h it (lo+(i:Nat)*1) ((n:Int)-(i:Nat)) 1) where
 mem:=by simp
 obj:=λi h st b hb=>by
  have e:b=it:=by simpa using hb
  subst e;exact⟨_,st,λv z=>by have z':=z;cases z'⟩
 keep:=λi h h' st k=>k it (by simp) _ st
 item:=by intro X hP hw hK hc i aeQ s U H E I hf st hg;subst hP hw hK;obtain⟨f0,f1,f2,f3,f4,f5⟩:=hf it (by simp);have W:=Walks.range (prog:=X.prog) (w:=X.w) (I.ok.hd hc) it lo 1 n;refine W.item i s _ _ hg st λv h' tk hv st' kk=>?_;obtain⟨t,rfl⟩:=hv;have I1:Inv X aeQ U H { s with heap:=h',toks:=tk }:=I.turned (λb o hb e=>kk b o (by simpa using hb) e) f0 f1 f3 f4 f5;refine⟨_,rfl,Hb (n := "range_iterator") st' rfl rfl (by decide) ⟨.int (lo+i),H,I1,⟨t,?_⟩,⟨rfl,rfl⟩,st',λb hb=>(hf b hb).1⟩⟩;rw[Int.mul_one]
 done:=by intro X hP hw hK hc i aeQ s U H E I hf st hg;obtain⟨f0,f1,f2,f3,f4,f5⟩:=hf it (by simp);exact wpAny_pyNext_range_end (I.ok.hd hc) st (by have:n<=i:=hg; omega) λh' eb=>⟨rfl,I.turned (λb o hb e=>eb b o hb e) f0 f1 f3 f4 f5⟩
 self:=λ_ _ _ _ _ st h=>wpAny_pyIter_rangeiter st h
section
variable {X:Cx} {tg:Expr}
def YS (K:FG) (tl:TE):TI:=λU H R=>tl U H λx H1=>∃a,x=.ref a/\(∃xs,cM K H1 a xs)/\R (Lb K a) H1
theorem Uy (hl:PE X l tl):PI X tg l (YS X.K tl):=by
 intro aeQ s U H R I h;refine cL (hl aeQ s U H _ I h) λv s1 ⟨x,H1,I1,r1,q1⟩=>?_;obtain⟨a,e,⟨xs,hq⟩,q⟩:=q1;subst e;cases r1;obtain⟨its,rv,p,hz⟩:=I1.list hq;refine wpAny_pyIter_list p.isList ?_;refine⟨s1.heap.objs.size,[s1.heap.objs.size],_,_,H1,rfl,I1.kept λb o e=>aaB _ e,Fg a _,⟨_,aaL _ rfl,rfl,rfl⟩,λb hb=>?_,q⟩;have e:b=s1.heap.objs.size:=by simpa using hb
 subst e;exact I1.fpOk (aaE _) (I1.hok.fresh (aaE _))
theorem Q6 {lo hi:Int} (I:Inv X aeQ U H s) (h1:-(2 ^ 62)<=lo) (h2:lo<2 ^ 62) (h3:-(2 ^ 62)<=hi) (h4:hi<2 ^ 62)
 (q:R (Tn lo (hi-lo).toNat) H):wpAny (model X.prog X.w) X.A (pyIter (.ref s.heap.objs.size)) (PIE X aeQ U tg R) E { s with heap:=s.heap.push { cls:=.type "range",data:=.fields #[.int lo t,.int hi u,.int 1 v] },toks:=tk }:=by
 refine wpAny_pyIter_range (IsRange.new ..) (small_one h1 h2 h3 h4) ?_;have I1:Inv X aeQ U H { s with heap:=s.heap.push { cls:=.type "range",data:=.fields #[.int lo t,.int hi u,.int 1 v] },toks:=tk }:=I.kept λb o e=>aaB _ e;refine⟨(s.heap.push { cls:=.type "range",data:=.fields #[.int lo t,.int hi u,.int 1 v] }).objs.size,[(s.heap.push { cls:=.type "range",data:=.fields #[.int lo t,.int hi u,.int 1 v] }).objs.size],_,_,H,rfl,
  I1.kept λb o e=>aaB _ e,Ni _ lo (hi-lo).toNat,?_,λb hb=>?_,q⟩
 . have e1:lo+((0:Nat):Int)*1=lo:=by simp
   have e2:(((hi-lo).toNat:Nat):Int)-((0:Nat):Int)=Builtin.Range.rangeSize lo hi 1:=by rw[rangeSize_one]; split<;>omega
   rw[e1,e2];exact aaL _ rfl
 . have e:b=(s.heap.push { cls:=.type "range",data:=.fields #[.int lo t,.int hi u,.int 1 v] }).objs.size:=by simpa using hb
   subst e;exact I1.fpOk (aaE _) (I1.hok.fresh (aaE _))
def YT (ta:TA):TI:=λU H R=>ta U H λvs H1=>∃j:Int,vs=[.int j]/\-(2 ^ 62)<=j/\j<2 ^ 62/\R (Tn 0 j.toNat) H1
theorem O3_ (hg:Gl X "range") (hm:X.mg "range" = none) (ha:PA X [a] ta) (hs:starEach [a] X.env=[(false,eval a X.env)]:=by rfl):PI X tg (.Call (.Name "range" p) [a] [] pos) (YT ta):=by
 intro aeQ s U H R I h;refine Call_ (rJ I hg hm boot_range (PyProof.Rows.callWith_type1 (cL (ha pos aeQ s U H _ I h) λus s1 ⟨vs,H1,I1,r1,q1⟩=>?_) hs rfl));obtain⟨j,e,q1,q2,q⟩:=q1;subst e;cases r1 with
 | cons r rr=>
  cases rr;obtain⟨t,rfl⟩:=r;exact call_range_1 (Q6 I1 (by omega) (by omega) q1 q2 (by simpa using q))
def Z9 (wi:TI) (g:TG) (tb:TS):TS:=λD U H=>wi U H λJ H1=>∃W:Nat->Nat->St->Hp->Prop,(∃m,W 0 m U H1)/\∀i m U H,W i m U H->
 (J.stop i H/\D.nx U H)\/(J.go i H/\∃N:St->Hp->Prop,(∀U' H',N U' H'->∃m',m'<m/\W (i+1) m' U' H')/\∀x H',J.yld i H x H'->g x U H' λU2 H2=>tb { D with nx:=N,ct:=N,bk:=D.nx } U2 H2)
def yu (fp:List Addr) (h:Heap):List (Addr×Obj):=fp.filterMap λb=>(h.get? b).map λo=>(b,o)
theorem wA (hb:b∈fp) (e:h.get? b=some o):(b,o)∈yu fp h:=abg.mpr ⟨b,hb,by rw[e]; rfl⟩
theorem O4_ (hp:p∈yu fp h):p.1∈fp/\h.get? p.1=some p.2:=by
 obtain⟨b,hb,e⟩:=abg.mp hp;cases q:h.get? b with
 | none=>rw[q]at e; cases e
 | some o=>
  rw[q]at e;have e':=aaM e;subst e';exact⟨hb,q⟩
theorem Inv.pinned (I:Inv X aeQ U H s) (hf:∀b∈fp,qp X aeQ H b) (ho:∀b∈fp,∃o,s.heap.get? b=some o/\∀v,o.data≠.cell v):Inv X (aeQ++yu fp s.heap) U H s:=
 I.pins_of λp hp=>(abq.mp hp).elim (λz=>I.pin p (aa8 _ z)) λz=>by obtain⟨hb,e⟩:=O4_ z;obtain⟨f0,f1,f2,_⟩:=hf p.1 hb;obtain⟨o,e',d⟩:=ho p.1 hb;rw[e]at e'; cases e';exact⟨e,f0,f1,f2,d⟩
theorem Inv.unpinned (I:Inv X (aeQ++pl) U H s):Inv X aeQ U H s:=I.pins_of λp hp=>I.pin p (aa8 _ (aby _ hp))
theorem O5 (hp:PassesOwn (model X.prog X.w) X.A X.env X.xe) (hc:X.calm=true) (hi:PI X tg iter wi) (hg:PG X tg g) (hb:ju X body tb)
 (hs:∀x,foldedSetIterable iter X.env x=pure x:=by intro _; rfl):PS X (.For tg iter body [] pos) (Z9 wi g tb):=by
 intro aeQ s U H D I h;refine wpAny_For (cL (hi aeQ s U H _ I h) λv s1 h1=>cL h1 λitv s2 h2=>?_) hs;obtain⟨it,fp,tn,J,H2,e,I2,T,st2,f2,W,⟨m0,w0⟩,turn⟩:=h2;subst e;have stat:∀{H':Hp},(∀b∈fp,H' b=none)->∀b∈fp,qp X aeQ H' b:=λhn b hb=>⟨hn b hb,(f2 b hb).2⟩;refine codeAny_forLoop_any (λn s'=>∃i U' H',Inv X aeQ U' H' s'/\tn i s'.heap/\(∀b∈fp,H' b=none)/\W i n U' H') ?_ m0 ⟨0,U,H2,I2,st2,λb hb=>(f2 b hb).1,w0⟩;rintro n s3 ⟨i,U3,H3,I3,st3,fr3,w3⟩;rcases turn i n U3 H3 w3 with ⟨stop,qn⟩ | ⟨go,N,hN,step⟩
 . refine wpAny_passesOwn hp (cL (T.done X rfl rfl rfl hc i aeQ s3 U3 H3 X.xe I3 (stat fr3) st3 stop) λr s4 ⟨hr,I4⟩=>?_);subst hr;exact wpAny_execs_nil ⟨U3,H3,I4,qn⟩
 . refine wpAny_passesOwn hp (cL (T.item X rfl rfl rfl hc i aeQ s3 U3 H3 X.xe I3 (stat fr3) st3 go) λr s4 ⟨u,hr,h4⟩=>?_);subst hr;refine wpAny_passesOwn hp (cL h4 λ_ s5 ⟨x,H5,I5,r5,y5,st5,fr5⟩=>?_);have I5':=I5.pinned (stat fr5) (T.obj _ _ st5);refine wpAny_passesOwn hp (cL (hg _ s5 U3 H5 x u _ I5' r5 (step x H5 y5)) λ_ s6 ⟨U6,H6,I6,q6⟩=>?_);refine wpAny_passesOwn hp (cL (hb _ s6 U6 H6 _ I6 q6) λf s7 q7=>?_);have again:∀{U7:St} {H7:Hp},Inv X (aeQ++yu fp s5.heap) U7 H7 s7->N U7 H7->∃m,m<n/\∃i U' H',Inv X aeQ U' H' s7/\tn i s7.heap/\(∀b∈fp,H' b=none)/\W i m U' H':=λ{U7 H7} I7 n7=>by obtain⟨m',hm,w7⟩:=hN U7 H7 n7;refine⟨m',hm,i+1,U7,H7,I7.unpinned,T.keep _ _ _ st5 λb hb o e=>(I7.pin (b,o) (aa8 _ (aa8 _ (wA hb e)))).1,λb hb=>?_,w7⟩;obtain⟨o,e,d⟩:=T.obj _ _ st5 b hb;exact(I7.pin (b,o) (aa8 _ (aa8 _ (wA hb e)))).2.1
   cases f with
   | next=>obtain⟨U7,H7,I7,n7⟩:=q7; exact again I7 n7
   | cont=>obtain⟨U7,H7,I7,n7⟩:=q7; exact again I7 n7
   | brk=>obtain⟨U7,H7,I7,q7⟩:=q7; exact⟨U7,H7,I7.unpinned,q7⟩
   | ret v=>obtain⟨x7,U7,H7,I7,r7,q7⟩:=q7; exact⟨x7,U7,H7,I7.unpinned,r7,q7⟩
end
abbrev R2:=V->V->Hp->VK->Prop
def gh (X:Cx) (f:Value->Value->Sem Value) (r:R2):Prop:=
 ∀(aeQ:List (Addr×Obj)) (s:Shared) (U:St) (H:Hp) (x y:V) (v u:Value) (Q:VK),Inv X aeQ U H s->RelV x v->RelV y u->r x y H Q->
  wpAny (model X.prog X.w) X.A (f v u) (EP X aeQ U Q) X.xe s
def WF (X:Cx) (f:Value->Sem Value) (r:V->Hp->VK->Prop):Prop:=
 ∀(aeQ:List (Addr×Obj)) (s:Shared) (U:St) (H:Hp) (x:V) (v:Value) (Q:VK),Inv X aeQ U H s->RelV x v->r x H Q->
  wpAny (model X.prog X.w) X.A (f v) (EP X aeQ U Q) X.xe s
def nF (X:Cx) (f:Value) (r:List V->Hp->VK->Prop):Prop:=
 ∀(aeQ:List (Addr×Obj)) (s:Shared) (U:St) (H:Hp) (xs:List V) (us:List Value) (Q:VK),Inv X aeQ U H s->Vals xs us->r xs H Q->
  wpAny (model X.prog X.w) X.A (call f us) (EP X aeQ U Q) X.xe s
def aaa (X:Cx) (r:V->Hp->(Bool->Hp->Prop)->Prop):Prop:=
 ∀(aeQ:List (Addr×Obj)) (s:Shared) (U:St) (H:Hp) (x:V) (v:Value) (Q:Bool->Hp->Prop),Inv X aeQ U H s->RelV x v->r x H Q->
  wpAny (model X.prog X.w) X.A (truthy v) (TP X aeQ U Q) X.xe s
def O6 (r:R2) (ta tb:TE):TE:=λU H Q=>ta U H λx H1=>tb U H1 λy H2=>r x y H2 Q
def tUn (r:V->Hp->VK->Prop) (ta:TE):TE:=λU H Q=>ta U H λx H1=>r x H1 Q
def rI (C:Int->Int->Prop) (g:Int->Int->V):R2:=λx y H Q=>∃i j,x=.int i/\y=.int j/\C i j/\Q (g i j) H
def vH (g:Int->Int->V):R2:=λx y H Q=>∃i j,x=.int i/\y=.int j/\Q (g i j) H
def rU (g:Int->V):V->Hp->VK->Prop:=λx H Q=>∃i,x=.int i/\Q (g i) H
section
variable {X:Cx} {a b c:Expr} {ta tb tc:TE} {pos:Pos}
theorem Q7 (ha:PE X a ta) (hb:PE X b tb) {R:V->V->Hp->Prop} (I:Inv X aeQ U H s)
 (h:ta U H λx H1=>tb U H1 λy H2=>R x y H2) {f:Value->Value->Sem Value}
 (hf:∀v u s2 x y H2,Inv X aeQ U H2 s2->RelV x v->RelV y u->R x y H2->wpAny (model X.prog X.w) X.A (f v u) Q X.xe s2):
 wpAny (model X.prog X.w) X.A (eval a X.env) (λv s₁=>wpAny (model X.prog X.w) X.A (eval b X.env) (λu s₂=>wpAny (model X.prog X.w) X.A (f v u) Q X.xe s₂) X.xe s₁) X.xe s:=by
 refine cL (ha aeQ s U H _ I h) λv s1 ⟨x,H1,I1,r1,q1⟩=>?_;refine cL (hb aeQ s1 U H1 _ I1 q1) λu s2 ⟨y,H2,I2,r2,q2⟩=>?_;exact hf v u s2 x y H2 I2 r1 r2 q2
theorem YW (ho:gh X (binaryOp op) r) (ha:PE X a ta) (hb:PE X b tb):PE X (.BinOp a op b pos) (O6 r ta tb):=by intro aeQ s U H Q I h;exact wpAny_BinOp (Q7 ha hb I h λv u s2 x y H2 I2 rx ry q=>ho aeQ s2 U H2 x y v u Q I2 rx ry q)
theorem YX (ho:WF X (unaryOp op) r) (ha:PE X a ta):PE X (.UnaryOp op a pos) (tUn r ta):=by intro aeQ s U H Q I h;exact UnaryOp_ (cL (ha aeQ s U H _ I h) λv s1 ⟨x,H1,I1,r1,q1⟩=>ho aeQ s1 U H1 x v Q I1 r1 q1)
theorem Tp {g:Int->Int->Int}
 (rule:∀(i j:Int) (t u:Tok) (s:Shared) (Q:Value->Shared->Prop) (E:Value->Shared->Prop),C i j->Q (.int (g i j) s.toks) { s with toks:=s.toks+1 }->wpAny (model X.prog X.w) X.A (f (.int i t) (.int j u)) Q E s):
 gh X f (rI C λi j=>.int (g i j)):=by
 intro aeQ s U H x y v u Q I rx ry h;obtain⟨i,j,rfl,rfl,hc,q⟩:=h;obtain⟨t,rfl⟩:=rx;obtain⟨t',rfl⟩:=ry;exact rule i j t t' s _ _ hc ⟨.int (g i j),H,I.tok _,⟨_,rfl⟩,q⟩
theorem WK {g:Int->Int->Int}
 (rule:∀(i j:Int) (t u:Tok) (s:Shared) (Q:Value->Shared->Prop) (E:Value->Shared->Prop),Q (.int (g i j) s.toks) { s with toks:=s.toks+1 }->wpAny (model X.prog X.w) X.A (f (.int i t) (.int j u)) Q E s):
 gh X f (vH λi j=>.int (g i j)):=by
 intro aeQ s U H x y v u Q I rx ry h;obtain⟨i,j,rfl,rfl,q⟩:=h;obtain⟨t,rfl⟩:=rx;obtain⟨t',rfl⟩:=ry;exact rule i j t t' s _ _ ⟨.int (g i j),H,I.tok _,⟨_,rfl⟩,q⟩
theorem Q8 {g:Int->Int->Bool}
 (rule:∀(i j:Int) (t u:Tok) (s:Shared) (Q:Value->Shared->Prop) (E:Value->Shared->Prop),Q (.bool (g i j)) s->wpAny (model X.prog X.w) X.A (f (.int i t) (.int j u)) Q E s):
 gh X f (vH λi j=>.bl (g i j)):=by
 intro aeQ s U H x y v u Q I rx ry h;obtain⟨i,j,rfl,rfl,q⟩:=h;obtain⟨t,rfl⟩:=rx;obtain⟨t',rfl⟩:=ry;exact rule i j t t' s _ _ ⟨.bl (g i j),H,I,rfl,q⟩
def WL (i j:Int):Prop:=0<j/\j<1073741824
def WM (i j:Int):Prop:=0<=j/\j<=1000000/\i.natAbs<2 ^ 64
def Nj (i j:Int):Prop:=(-(2 ^ 64)<i/\i<2 ^ 64)\/(-(2 ^ 64)<j/\j<2 ^ 64)
theorem Nj.ok (h:Nj i j):IntMulOk i j:=by
 rcases h with ⟨h1,h2⟩ | ⟨h1,h2⟩
 . exact .of_left (intBits_le_64 h1 h2)
 . exact .of_right (intBits_le_64 h1 h2)
theorem WN:gh X (binaryOp .Add) (vH λi j=>.int (i+j)):=WK λ_ _ _ _ _ _ _ q=>add_int q
theorem tD:gh X (binaryOp .Sub) (vH λi j=>.int (i-j)):=WK λ_ _ _ _ _ _ _ q=>sub_int q
theorem pB:gh X (binaryOp .Mult) (rI Nj λi j=>.int (i*j)):=Tp λ_ _ _ _ _ _ _ hc q=>mul_int q hc.ok
theorem Ld:gh X (binaryOp .FloorDiv) (rI WL λi j=>.int (i/j)):=Tp λi j _ _ _ _ _ hc q=>by have h1:=hc.1;have h2:=hc.2;exact floordiv_int (by omega) (by rw[Int.fdiv_eq_ediv_of_nonneg i (by omega)]; exact q) (.inl (PyProof.noPylong_small (by omega)))
theorem jT:gh X (binaryOp .Mod) (rI (λ_ j=>0<j) λi j=>.int (i%j)):=Tp λi j _ _ _ _ _ hc q=>by have h1:=hc;exact mod_int' (by omega) (by rw[Int.fmod_eq_emod_of_nonneg i (by omega)]; exact q)
theorem Bv:gh X (binaryOp .Pow) (rI WM λi j=>.int (i ^ j.toNat)):=Tp λ_ _ _ _ _ _ _ hc q=>pow_int_small hc.1 hc.2.1 hc.2.2 q
theorem unI {g:Int->Int}
 (rule:∀(i:Int) (t:Tok) (s:Shared) (Q:Value->Shared->Prop) (E:Value->Shared->Prop),Q (.int (g i) s.toks) { s with toks:=s.toks+1 }->wpAny (model X.prog X.w) X.A (f (.int i t)) Q E s):
 WF X f (rU λi=>.int (g i)):=by
 intro aeQ s U H x v Q I rx h;obtain⟨i,rfl,q⟩:=h;obtain⟨t,rfl⟩:=rx;exact rule i t s _ _ ⟨.int (g i),H,I.tok _,⟨_,rfl⟩,q⟩
theorem WP:WF X (unaryOp .USub) (rU λi=>.int (-i)):=unI λ_ _ _ _ _ q=>neg_int q
end
def scal:V->V->Bool
 | .non,.non=>true | .non,.int _=>true | .int _,.non=>true | .non,.bl _=>true | .bl _,.non=>true | .non,.str _=>true | .str _,.non=>true
 | .int _,.int _=>true | .bl _,.bl _=>true | .str _,.str _=>true | .byt _,.byt _=>true
 | .int _,.str _=>true | .str _,.int _=>true | .bl _,.str _=>true | .str _,.bl _=>true
 | _,_=>false
section
variable {X:Cx} {a b c:Expr} {ta tb tc:TE} {pos:Pos}
theorem Bw (I:Inv X aeQ U H s) (q:Q (.bl k) H) (e:k=k'):EP X aeQ U Q (.bool k') s:=by subst e;exact⟨.bl k,H,I,rfl,q⟩
theorem n8:gh X (compareOp .Lt) (vH λi j=>.bl (decide (i<j))):=Q8 λ_ _ _ _ _ _ _ q=>lt_int q
theorem Hc:gh X (compareOp .LtE) (vH λi j=>.bl (decide (i<=j))):=Q8 λ_ _ _ _ _ _ _ q=>le_int q
theorem Tq:gh X (compareOp .Gt) (vH λi j=>.bl (decide (j<i))):=Q8 λ_ _ _ _ _ _ _ q=>gt_int q
theorem O7:gh X (compareOp .In) (λx y H Q=>∃i j,x=.str i/\y=.str j/\Q (.bl (!(Builtin.Str.occurrences j i 0 j.length 1).isEmpty)) H):=by intro aeQ s U H x y v u Q I rx ry h;obtain⟨i,j,rfl,rfl,q⟩:=h;obtain⟨t,rfl⟩:=rx;obtain⟨t',rfl⟩:=ry;exact in_str (Bw I q rfl)
theorem tE:gh X (compareOp .Is) (λx y H Q=>y=.non/\Q (.bl (decide (x=.non))) H):=by
 intro aeQ s U H x y v u Q I rx ry h;obtain⟨rfl,q⟩:=h;cases ry;refine is_none_gen (Bw I q ?_);cases x<;>first
  | (cases rx; rfl)
  | (obtain⟨t,rfl⟩:=rx; rfl)
theorem Ds:gh X (compareOp .IsNot) (λx y H Q=>y=.non/\Q (.bl (!decide (x=.non))) H):=by
 intro aeQ s U H x y v u Q I rx ry h;obtain⟨rfl,q⟩:=h;cases ry;refine isnot_none_gen (Bw I q ?_);cases x<;>first
  | (cases rx; rfl)
  | (obtain⟨t,rfl⟩:=rx; rfl)
theorem Hy:gh X (compareOp .NotIn) (λx y H Q=>∃i j,x=.str i/\y=.str j/\Q (.bl (!(!(Builtin.Str.occurrences j i 0 j.length 1).isEmpty))) H):=by intro aeQ s U H x y v u Q I rx ry h;obtain⟨i,j,rfl,rfl,q⟩:=h;obtain⟨t,rfl⟩:=rx;obtain⟨t',rfl⟩:=ry;exact notIn_str (Bw I q rfl)
theorem gh.or (h:gh X f r) (h':gh X f r'):gh X f (λx y H Q=>r x y H Q\/r' x y H Q):=by
 intro aeQ s U H x y v u Q I rx ry q;rcases q with q | q
 . exact h aeQ s U H x y v u Q I rx ry q
 . exact h' aeQ s U H x y v u Q I rx ry q
theorem bf (b:Expr) (h:op≠.In:=by decide) (h2:op≠.NotIn:=by decide):behindInMarks op b=false:=by
 have e1:(op==CmpOp.In)=false:=by cases op<;>first | rfl | exact absurd rfl h
 have e2:(op==CmpOp.NotIn)=false:=by cases op<;>first | rfl | exact absurd rfl h2
 cases b<;>simp[behindInMarks,e1,e2]
theorem Uz (ho:gh X (compareOp op) r) (ha:PE X a ta) (hb:PE X b tb) (hm:behindInMarks op b=false):PE X (.Compare a [op] [b] pos) (O6 r ta tb):=by intro aeQ s U H Q I h;exact wpAny_Compare1 (Q7 ha hb I h λv u s2 x y H2 I2 rx ry q=>ho aeQ s2 U H2 x y v u Q I2 rx ry q) hm
def Nk (t:TE):TT:=λU H Q=>t U H λx H'=>∃k,x=.bl k/\Q k H'
theorem UG (ho:gh X (compareOp op) r) (ha:PE X a ta) (hb:PE X b tb) (hm:behindInMarks op b=false):PT X (.Compare a [op] [b] pos) (Nk (O6 r ta tb)):=by
 intro aeQ s U H Q I h;refine wpAny_isTrue_Compare1 (cL (ha aeQ s U H _ I h) λv s1 ⟨x,H1,I1,r1,q1⟩=>cL (hb aeQ s1 U H1 _ I1 q1) λu s2 ⟨y,H2,I2,r2,q2⟩=>
  cL (ho aeQ s2 U H2 x y v u _ I2 r1 r2 q2) λc s3 ⟨z,H3,I3,r3,k,e,q3⟩=>?_) hm
 subst e;cases r3;exact wpAny_truthy_bool ⟨H3,I3,q3⟩
def Hz (r r':R2) (ta tb tc:TE):TE:=λU H Q=>ta U H λx H1=>tb U H1 λy H2=>r x y H2 λz H3=>∃k,z=.bl k/\
 (if k=true then tc U H3 λw' H4=>r' y w' H4 Q else Q (.bl false) H3)
theorem Q9 (ho:gh X (compareOp op) r) (ho':gh X (compareOp op') r') (ha:PE X a ta) (hb:PE X b tb) (hc:PE X c tc)
 (hm:lastMarks [op,op'] [b,c]=false:=by with_unfolding_all rfl):PE X (.Compare a [op,op'] [b,c] pos) (Hz r r' ta tb tc):=by
 intro aeQ s U H Q I h;refine Compare_chain (cL (ha aeQ s U H _ I h) λv s1 ⟨x,H1,I1,r1,q1⟩=>chain_link (cL (hb aeQ s1 U H1 _ I1 q1) λu s2 ⟨y,H2,I2,r2,q2⟩=>
  cL (ho aeQ s2 U H2 x y v u _ I2 r1 r2 q2) λd s3 ⟨z,H3,I3,r3,k,e,q3⟩=>?_)) hm
 subst e;cases r3;refine wpAny_truthy_bool ?_;cases k with
 | false=>exact ite_ff ⟨.bl false,H3,I3,rfl,q3⟩
 | true=>exact ite_tt (chain_last (cL (hc aeQ s3 U H3 _ I3 q3) λw' s4 ⟨z',H4,I4,r4,q4⟩=>ho' aeQ s4 U H4 y z' u w' Q I4 r2 r4 q4))
theorem Ra (ho:gh X (compareOp op) r) (ho':gh X (compareOp op') r') (ha:PE X a ta) (hb:PE X b tb) (hc:PE X c tc)
 (hm:lastMarks [op,op'] [b,c]=false:=by with_unfolding_all rfl):PT X (.Compare a [op,op'] [b,c] pos) (Nk (Hz r r' ta tb tc)):=by
 intro aeQ s U H Q I h;refine isTrue_chain (cL (ha aeQ s U H _ I h) λv s1 ⟨x,H1,I1,r1,q1⟩=>test_link (cL (hb aeQ s1 U H1 _ I1 q1) λu s2 ⟨y,H2,I2,r2,q2⟩=>
  cL (ho aeQ s2 U H2 x y v u _ I2 r1 r2 q2) λd s3 ⟨z,H3,I3,r3,k,e,q3⟩=>?_)) hm
 subst e;cases r3;refine wpAny_truthy_bool ?_;cases k with
 | false=>
  obtain⟨k',e',q'⟩:=q3;cases e';exact ite_ff ⟨H3,I3,q'⟩
 | true=>
  refine ite_tt (test_last (cL (hc aeQ s3 U H3 _ I3 q3) λw' s4 ⟨z',H4,I4,r4,q4⟩=>cL (ho' aeQ s4 U H4 y z' u w' _ I4 r2 r4 q4) λd' s5 ⟨z2,H5,I5,r5,k2,e2,q5⟩=>?_));subst e2;cases r5;exact wpAny_truthy_bool ⟨H5,I5,q5⟩
def Rb (K:FG) (x:V) (H:Hp) (k:Bool):Prop:=
 match x with
 | .non=>k=false
 | .bl b=>k=b
 | .int i=>k=(i != 0)
 | .str y=>y.length<=sizeLine/\k=((y.length:Int) != 0)
 | .byt y=>y.size<=sizeLine/\k=((y.size:Int) != 0)
 | .ref p=>(∃xs,cM K H p xs/\k=!xs.isEmpty)\/(∃xs,eU K H p xs/\k=!xs.isEmpty)\/∃kvs,H p=some (.dK kvs)/\k=!kvs.isEmpty
 | _=>False
theorem Nm (r:KV kvs vs):(!vs.isEmpty)=!kvs.isEmpty:=by cases r<;>rfl
theorem By (r:Vals xs its):(!its.toArray.isEmpty)=!xs.isEmpty:=by cases r<;>simp
theorem vI:(sizeLine:Nat)<2 ^ 63:=by  decide
theorem WQ:aaa X (λx H Q=>∃k,Rb X.K x H k/\Q k H):=by
 intro aeQ s U H x v Q I rx h;obtain⟨k,e,q⟩:=h;have hs:=sizeLine_eq;cases x with
 | non=>
  cases rx;have e':=e;subst e';exact truthy_none ⟨H,I,q⟩
 | bl b=>
  cases rx;have e':=e;subst e';exact wpAny_truthy_bool ⟨H,I,q⟩
 | int i=>
  obtain⟨t,rfl⟩:=rx;have e':=e;subst e';exact PySem.P.truthy_int ⟨H,I,q⟩
 | str y=>
  obtain⟨t,rfl⟩:=rx;obtain⟨hy,e'⟩:y.length<=sizeLine/\k=((y.length:Int) != 0):=e;subst e';exact PySem.P.truthy_str (by omega) ⟨H,I.tok _,q⟩
 | byt y=>
  obtain⟨t,rfl⟩:=rx;obtain⟨hy,e'⟩:y.size<=sizeLine/\k=((y.size:Int) != 0):=e;subst e';exact W.truthy_bytes (by omega) ⟨H,I.tok _,q⟩
 | ref p=>
  cases rx;have e':=e;rcases e' with ⟨xs,hx,e'⟩ | ⟨xs,hx,e'⟩ | ⟨kvs,hx,e'⟩
  . subst e';obtain⟨its,r,pl,hz⟩:=I.list hx;have hlen:=r.length;exact wpAny_truthy_list pl.isList (by simp only[aaF]; omega) ⟨H,I.tok _,by rw[By r]; exact q⟩
  . subst e';obtain⟨its,r,pl,hz⟩:=I.tuple hx;have hlen:=r.length;exact truthy_tuple pl (by simp only[aaF]; omega) ⟨H,I.tok _,by rw[By r]; exact q⟩
  . subst e';obtain⟨hz,hS,vs,r,m⟩:kvs.length<=sizeLine/\(p==sysModules)=false/\∃vs,KV kvs vs/\s.heap.DictOf (Dp X.prog X.w) p vs:=I.hok p _ hx;have hlen:=Paired.length r;exact wpAny_truthy_dict hS m (by omega) ⟨H,I.tok _,by rw[Nm r]; exact q⟩
 | _=>exact(e).elim
theorem Rc (ha:PE X a ta) (he:∀whole,isTrue a X.env whole=(do let v <-whole; standAt a.pos; holding [v] (truthy v))):
 PT X a (λU H Q=>ta U H λx H'=>∃k,Rb X.K x H' k/\Q k H'):=by
 intro aeQ s U H Q I h;exact isTrue_plain (cL (ha aeQ s U H _ I h) λv s1 ⟨x,H1,I1,r1,q1⟩=>WQ aeQ s1 U H1 x v Q I1 r1 q1) (he _)
theorem Np:gh X (binaryOp .Add) (λx y H Q=>∃i j,x=.str i/\y=.str j/\i.length+j.length<=sizeLine/\Q (.str (i++j)) H):=by intro aeQ s U H x y v u Q I rx ry h;obtain⟨i,j,rfl,rfl,hz,q⟩:=h;obtain⟨t,rfl⟩:=rx;obtain⟨t',rfl⟩:=ry;exact add_str (λt' tk=>⟨.str (i++j),H,I.tok _,⟨_,rfl⟩,q⟩) hz
theorem vals1 (r:Vals [x] us):∃u,us=[u]/\RelV x u:=by
 cases r with
 | cons r1 r2=>cases r2; exact⟨_,rfl,r1⟩
theorem vals2 (r:Vals [x,y] us):∃u w',us=[u,w']/\RelV x u/\RelV y w':=by
 cases r with
 | cons r1 r2=>
  cases r2 with
  | cons r3 r4=>cases r4; exact⟨_,_,rfl,r1,r3⟩
theorem Fi (hc:X.calm=true):nF X (.builtin "max") (λxs H Q=>∃i j,xs=[.int i,.int j]/\Q (.int (if j>i then j else i)) H):=by
 intro aeQ s U H xs us Q I r h;obtain⟨i,j,rfl,q⟩:=h;obtain⟨u,w',rfl,⟨t,rfl⟩,⟨t',rfl⟩⟩:=vals2 r;refine max_two_ints (I.ok.hd hc) λh' tk k=>⟨_,H,I.kept k,?_,q⟩;by_cases hj:j>i
 . rw[acq hj,acq hj]; exact⟨_,rfl⟩
 . rw[acr hj,acr hj]; exact⟨_,rfl⟩
theorem Fj (hc:X.calm=true):nF X (.builtin "min") (λxs H Q=>∃i j,xs=[.int i,.int j]/\Q (.int (if j<i then j else i)) H):=by
 intro aeQ s U H xs us Q I r h;obtain⟨i,j,rfl,q⟩:=h;obtain⟨u,w',rfl,⟨t,rfl⟩,⟨t',rfl⟩⟩:=vals2 r;refine min_two_ints (I.ok.hd hc) λh' tk k=>⟨_,H,I.kept k,?_,q⟩;by_cases hj:j<i
 . rw[acq hj,acq hj]; exact⟨_,rfl⟩
 . rw[acr hj,acr hj]; exact⟨_,rfl⟩
theorem tG:nF X (.type "str") (λxs H Q=>∃i,xs=[.int i]/\i.natAbs.log2<1920/\Q (.str (toString i)) H):=by intro aeQ s U H xs us Q I r h;obtain⟨i,rfl,hz,q⟩:=h;obtain⟨u,rfl,t,rfl⟩:=vals1 r;exact PySem.P.str_of_int hz ⟨.str _,H,I.tok _,⟨_,rfl⟩,q⟩
def Rf (K:FG) (x:V) (H:Hp) (n:Nat):Prop:=
 match x with
 | .str y=>y.length<=sizeLine/\n=y.length
 | .byt y=>y.size<=sizeLine/\n=y.size
 | .ref p=>(∃xs,cM K H p xs/\n=xs.length)\/∃xs,eU K H p xs/\n=xs.length
 | _=>False
theorem Aw:nF X (.builtin "len") (λxs H Q=>∃x n,xs=[x]/\Rf X.K x H n/\Q (.int n) H):=by
 intro aeQ s U H xs us Q I r h;obtain⟨x,n,rfl,e,q⟩:=h;obtain⟨u,rfl,rx⟩:=vals1 r;have hs:=sizeLine_eq;cases x with
 | str y=>
  obtain⟨t,rfl⟩:=rx;obtain⟨hy,e'⟩:y.length<=sizeLine/\n=y.length:=e;subst e';exact len_str (by omega) ⟨.int _,H,I.tok _,⟨_,rfl⟩,q⟩
 | byt y=>
  obtain⟨t,rfl⟩:=rx;obtain⟨hy,e'⟩:y.size<=sizeLine/\n=y.size:=e;subst e';exact W.len_bytes (by omega) ⟨.int _,H,I.tok _,⟨_,rfl⟩,q⟩
 | ref p=>
  cases rx;have e':=e;rcases e' with ⟨xs,hx,e'⟩ | ⟨xs,hx,e'⟩
  . subst e';obtain⟨its,r',pl,hz⟩:=I.list hx;have hlen:=r'.length;exact Calls.call_len_list pl.isList (by simp only[aaF]; omega) ⟨.int xs.length,H,I.tok _,⟨_,by simp only[aaF]; rw[hlen]⟩,q⟩
  . subst e';obtain⟨its,r',pl,hz⟩:=I.tuple hx;have hlen:=r'.length;exact len_tuple pl (by simp only[aaF]; omega) ⟨.int xs.length,H,I.tok _,⟨_,by simp only[aaF]; rw[hlen]⟩,q⟩
 | _=>exact(e).elim
end
structure Ax (h:Heap) (x dx C:Addr) (mA:Str->Option Value):Prop where
 obj:h.get? x=some (W.instObj C dx)
 ns:h.Ns1 dx mA
 ne:dx≠x
theorem O8 {h:Heap} (n:h.Ns1 dx mA):∃od,h.get? dx=some od/\∀name,W.lookIn name od=some (mA name):=by
 obtain⟨o,es,ep,ho,hd,hk,_,hm⟩:=n;refine⟨o,ho,λname=>?_⟩;have e:=hm name;unfold nsFind findBy at e;rw[<-Array.find?_toList]at e;unfold W.lookIn;rw[hd];dsimp only;split
 . rename_i y q;rw[q]at e;exact congrArg some e
 . rename_i q;rw[q]at e;have a:es.toList.any (·.refKey)=false:=by rw[List.any_eq_false];intro y hy;obtain⟨z,t,hkey⟩:=hk y (Array.mem_toList_iff.mp hy);simp[DictEntry.refKey,hkey]
   have a':¬ es.toList.any (·.refKey)=true:=by rw[a]; exact aba
   rw[acr a'];exact congrArg some e
theorem Ax.look (I:Ax h x dx C mA):∃od,W.InstAt h x (W.instObj C dx) C (some od)/\∀name,W.lookIn name od=some (mA name):=
 let ⟨od,ho,hl⟩:=O8 I.ns
 ⟨od,⟨I.obj,rfl,rfl,ho⟩,hl⟩
section
variable {prog:Program} {w:World} {A:Around} {E:Value->Shared->Prop} {s:Shared} {K:FG} {x dx C f:Addr} {mA:Str->Option Value} {name:Str} {v:Value}
theorem UJ (X:K.In s.heap) (I:Ax s.heap x dx C mA) (hg:W.plainGet K C name=true) (hh:W.hasDictIn K C=true)
 (ha:W.findIn K (.ref C) name=some none) (hv:mA name=some v) (hv':W.handedIn v=true) (h:Q v { s with toks:=s.toks+1 }):
 wpAny (model prog w) A (getAttr (.ref x) name expr) Q E s:=by
 obtain⟨od,J,hl⟩:=I.look;exact W.get_value X J (W.plainGet_of hg).1 (W.findObj_own hh ha rfl (by rw[hl,hv])) hv' h
theorem Rg (X:K.In s.heap) (I:Ax s.heap x dx C mA) (hg:W.plainGet K C name=true)
 (hf:W.findIn K (.ref C) name=some (some (.ref f))) (ht:W.isFn K (.ref f)=true) (hv:mA name=none) (h:Q (.ref f,[.ref x]) s):
 wpAny (model prog w) A (getMethod (.ref x) name pl) Q E s:=by
 obtain⟨od,J,hl⟩:=I.look;exact W.method_fn X J (W.plainGet_of hg).1 (W.plainGet_of hg).2 hf (beq_iff_eq.mp ht) (by show (W.lookIn name od).map (·.isSome)=some false; rw[hl,hv]; rfl) h
theorem UL (X:K.In s.heap) (I:Ax s.heap x dx C mA)
 (hs:W.findIn K (.ref C) "__setattr__" = some (some (.builtin "object.__setattr__"))) (hp:W.plainOver K C=true) (ht:W.takerIn K C name=some none) (hh:W.hasDictIn K C=true)
 (hw:PySem.Within mA ns) (hsz:ns.length<=sizeLine)
 (h:∀h',Ax h' x dx C (λy=>if y=name then some v else mA y)->Heap.SameBut dx s.heap h'->Q () { s with heap:=h',toks:=s.toks+2 }):
 wpAny (model prog w) A (setAttr (.ref x) name v) Q E s:=by
 obtain⟨od,J,hl⟩:=I.look;refine W.set_plain X J hs (W.osa_open X J hp ht λb=>?_);obtain⟨cd,hc,hd'⟩:=W.any_some hh;have hx:=I.obj;refine acp (acs (acp (acp (wpAny_loadPart hx (acp (W.Looks.here (W.looks_clsIn X hc) ?_))))));rw[hd'];refine acs (acp (acs (acp ?_)));refine wpAny_nsSet1 I.ns λh' hn2 hs2=>?_;obtain⟨oD,esD,epD,hoD,hdD,hcD⟩:=hn2.count (PySem.Within.cons name v hw);refine acp (wpAny_lookBehind hoD (by rw[hdD]; exact pastItsLine_dict (aaX hcD (by rw[aaC]; omega))) ?_);exact acs (h _ ⟨(hs2.2 _ (Ne.symm I.ne)).trans I.obj,hn2,I.ne⟩ hs2)
theorem Rh (X:K.In s.heap) (hm:W.makesIn K C=true)
 (hi:W.findIn K (.ref C) "__init__" = some (some (.ref f))) (hf:W.typeIn K (.ref f)=some (.type "function"))
 (h:codeAny (model prog w) (A.under (.builtin "type.__call__" ⟨.ref C::vs,kw⟩)) (.call (.ref f) ⟨.ref (s.heap.objs.size+1)::vs,kw⟩) (W.InitBack (s.heap.objs.size+1) R)
   { s with heap:=(s.heap.push W.emptyDict).push (W.instObj C s.heap.objs.size) }):
 codeAny (model prog w) A (.call (.ref C) ⟨vs,kw⟩) R s:=by
 exact W.make_core (W.makes_of X hm) (W.looks_findIn X hi) (λself=>W.bind_fn X self hf) (.inl rfl) h
end
def jH (f:Str) (v:V):List (Str×V)->List (Str×V)
 | []=>[(f,v)]
 | (g,x)::r=>if g=f then (g,v)::r else (g,x)::jH f v r
theorem Ao (f g:Str) (v:V):∀fs:List (Str×V),(jH f v fs).lookup g=if g=f then some v else fs.lookup g
 | []=>by
  show List.lookup g [(f,v)]=_;by_cases h:g=f
  . have hb:=beq_iff_eq.mpr h;simp only[List.lookup,hb,acq h]
  . have hb:=acw.mpr h;simp only[List.lookup,hb,acr h]
 | (k,x)::r=>by
  have ih:=Ao f g v r;rw[show jH f v ((k,x)::r)=(if k=f then (k,v)::r else (k,x)::jH f v r) from rfl];by_cases hk:k=f
  . rw[acq hk];by_cases h:g=k
    . have hb:=beq_iff_eq.mpr h;simp only[List.lookup,hb,acq (h.trans hk)]
    . have hb:=acw.mpr h;simp only[List.lookup,hb,acr (λe:g=f=>h (e.trans hk.symm))]
  . rw[acr hk];by_cases h:g=k
    . have hb:=beq_iff_eq.mpr h;simp only[List.lookup,hb,acr (λe:g=f=>hk (h.symm.trans e))]
    . have hb:=acw.mpr h;simp only[List.lookup,hb];exact ih
theorem yw (f:Str) (v:V):∀fs:List (Str×V),f∈(jH f v fs).map (·.1)/\∀g,g∈fs.map (·.1)->g∈(jH f v fs).map (·.1)
 | []=>⟨by simp[jH],λg h=>by simp at h⟩
 | (k,x)::r=>by
  obtain⟨i1,i2⟩:=yw f v r;rw[show jH f v ((k,x)::r)=(if k=f then (k,v)::r else (k,x)::jH f v r) from rfl];by_cases hk:k=f
  . subst hk;exact⟨by simp,λg h=>by simpa using h⟩
  . rw[acr hk];refine⟨?_,λg h=>?_⟩
    . exact aaA _ i1
    . rcases aaI.mp h with e | e
      . exact aaI.mpr (.inl e)
      . exact aaA _ (i2 g e)
theorem Aq (f:Str) (v:V):∀fs:List (Str×V),(jH f v fs).length<=fs.length+1
 | []=>by simp[jH]
 | (k,x)::r=>by
  have ih:=Aq f v r;rw[show jH f v ((k,x)::r)=(if k=f then (k,v)::r else (k,x)::jH f v r) from rfl];by_cases hk:k=f
  . rw[acq hk,aaC,aaC]; omega
  . rw[acr hk,aaC,aaC]; omega
theorem uY.some_of (r:uY (some v) o):∃u,o=some u/\RelV v u:=by
 cases o with
 | none=>exact(r).elim
 | some u=>exact⟨u,rfl,r⟩
theorem uY.none_of (r:uY none o):o=none:=by
 cases o with
 | none=>rfl
 | some u=>exact(r).elim
theorem O9 (r:RelV v u):W.handedIn u=true:=by
 cases v with
 | non=>cases (r); rfl
 | bl b=>cases (r); rfl
 | int i=>obtain⟨t,e⟩:=(r); cases e; rfl
 | str x=>obtain⟨t,e⟩:=(r); cases e; rfl
 | byt b=>obtain⟨t,e⟩:=(r); cases e; rfl
 | flt b=>obtain⟨t,e⟩:=(r); cases e; rfl
 | ref a=>cases (r); rfl
 | ty n=>cases (r); rfl
section
variable {P:Program} {w:World} {H H':Hp} {h h':Heap} {a C dx:Addr} {fs fs':List (Str×V)}
theorem Dt (hok:lQ P w H h) (e:H a=some (.ins C dx fs)):∃mA,Ax h a dx C mA/\(∀f,uY (fs.lookup f) (mA f))/\PySem.Within mA (fs.map (·.1))/\fs.length<=1000/\H dx=some (.own a):=by obtain⟨d,z,ne,ob,mA,n,r,q⟩:=(hok a _ e);exact⟨mA,⟨ob,n,ne⟩,r,q,z,d⟩
end
structure lG (K:FG) (C:Addr):Prop where
 pg:W.plainGet K C Str.empty=true
 hd:W.hasDictIn K C=true
 po:W.plainOver K C=true
 sa:W.findIn K (.ref C) "__setattr__" = some (some (.builtin "object.__setattr__"))
theorem lG.get {K:FG} (c:lG K C) (f:Str):W.plainGet K C f=true:=c.pg
def lR (K:FG) (C:Addr) (f:Str):Prop:=W.findIn K (.ref C) f=some none
theorem lR.taker {K:FG} (n:lR K C f):W.takerIn K C f=some none:=by unfold W.takerIn;rw[show W.findIn K (.ref C) f=some none from n];rfl
structure Meth (K:FG) (C:Addr) (m:Str) (f:Addr):Prop where
 at_:W.findIn K (.ref C) m=some (some (.ref f))
 fn:W.isFn K (.ref f)=true
 kp:W.keepIn K (.ref f)=true
section
variable {X:Cx} {aeQ:List (Addr×Obj)} {U:St} {H:Hp} {s:Shared} {a C dx:Addr} {fs:List (Str×V)} {f:Str} {v:V} {A:Around} {E:Value->Shared->Prop}
theorem Nq (I:Inv X aeQ U H s) (e:H a=some (.ins C dx fs)) (c:lG X.K C) (n:lR X.K C f) (l:fs.lookup f=some v)
 (h:∀u s',Inv X aeQ U H s'->RelV v u->Q u s'):wpAny (model X.prog X.w) A (getAttr (.ref a) f b) Q E s:=by
 obtain⟨mA,O_,r,_⟩:=Dt I.hok e;obtain⟨u,hu,ru⟩:=uY.some_of (by rw[<-l]; exact r f);exact UJ I.kIn O_ (c.get f) c.hd n hu (O9 ru) (h u _ (I.tok _) ru)
theorem wB (I:Inv X aeQ U H s) (e:H a=some (.ins C dx fs)) (c:lG X.K C) (k:Meth X.K C m g) (l:fs.lookup m=none)
 (h:Q (.ref g,[.ref a]) s):wpAny (model X.prog X.w) A (getMethod (.ref a) m pl) Q E s:=by
 obtain⟨mA,O_,r,_⟩:=Dt I.hok e;have hn:=uY.none_of (by rw[<-l]; exact r m);exact Rg I.kIn O_ (c.get m) k.at_ k.fn hn h
theorem Nr (I:Inv X aeQ U H s) (e:H a=some (.ins C dx fs)) (c:lG X.K C) (n:lR X.K C f) (hl:fs.length<1000) (ry:RelV y u)
 (h:∀s',Inv X aeQ U (upd H a (.ins C dx (jH f y fs))) s'->Q () s'):wpAny (model X.prog X.w) A (setAttr (.ref a) f u) Q E s:=by
 obtain⟨mA,O_,r,wi,_,ho⟩:=Dt I.hok e;have hz:(fs.map (·.1)).length<=sizeLine:=by rw[aaT,sizeLine_eq]; omega
 refine UL I.kIn O_ c.sa c.po n.taker c.hd wi hz λh' O'_ sb=>h _ ?_;have hd:∃o,h'.get? dx=some o:=let ⟨o,_,_,e',_⟩:=O'_.ns; ⟨o,e'⟩;refine I.write (by rw[e]; exact True.intro) (.inr ho) (λb q hb z=>(sb.2 b hb).trans z) hd ?_;refine⟨by rw[dh O_.ne]; exact ho,?_,O_.ne,O'_.obj,_,O'_.ns,λg=>?_,λg hg=>?_⟩
 . have:=Aq f y fs; omega
 . rw[Ao];by_cases q:g=f
   . rw[acq q,acq q]; exact ry
   . rw[acr q,acr q]; exact r g
 . by_cases q:g=f
   . rw[q]; exact(yw f y fs).1
   . refine(yw f y fs).2 g (wi g λz=>hg ?_);show (if g=f then some u else mA g)=none;rw[acr q]; exact z
theorem Inv.made (I:Inv X aeQ U H s):Inv X aeQ U (upd (upd H s.heap.objs.size (.own (s.heap.objs.size+1))) (s.heap.objs.size+1) (.ins C s.heap.objs.size []))
 { s with heap:=(s.heap.push W.emptyDict).push (W.instObj C s.heap.objs.size) }:=by
 have e1:(s.heap.push W.emptyDict).get? s.heap.objs.size=some W.emptyDict:=aaL s.heap rfl;have e2:((s.heap.push W.emptyDict).push (W.instObj C s.heap.objs.size)).get? (s.heap.objs.size+1)=some (W.instObj C s.heap.objs.size):=by
  have:=aaL (s.heap.push W.emptyDict) (o:=W.instObj C s.heap.objs.size) rfl
  rwa [abC]at this
 have e3:(s.heap.push W.emptyDict).Ns s.heap.objs.size (λ_=>none):=⟨W.emptyDict,#[],_,e1,rfl,(λe he=>absurd he (by simp)),λ_=>rfl⟩;have I1:=I.laid (o:=.own (s.heap.objs.size+1)) (t':=s.toks) (λb u q=>aaB _ q) (aaE _) ⟨_,e1⟩;refine I1.laid (λb u q=>aaB _ q) (Nat.le_of_eq (abC _ _)) ?_;have ne:s.heap.objs.size≠s.heap.objs.size+1:=aa3 (abl _);refine⟨by rw[dh ne,dm],abO _,ne,e2,λ_=>none,(Heap.Ns1.of_empty e3).at λo q=>aaB _ q,λ_=>True.intro,λy hy=>absurd rfl hy⟩
theorem UT (hb:attributeBase e f env (eval e env)=eval e env)
 (h:wpAny (model prog w) A (eval e env) (λo s₁=>wpAny (model prog w) A (getAttr o f true) Q E s₁) E s):wpAny (model prog w) A (eval (.Attribute e f pos) env) Q E s:=
 Attribute_any_ h (by rw[arm_eval_Attribute,hb])
end
def aab (K:FG) (ta:TE) (f:Str):TE:=λU H Q=>ta U H λx H1=>∃a C dx fs v,x=.ref a/\H1 a=some (.ins C dx fs)/\lG K C/\lR K C f/\fs.lookup f=some v/\Q v H1
def aac (K:FG) (ta tv:TE) (f:Str):TS:=λD U H=>tv U H λy H1=>ta U H1 λx H2=>∃a C dx fs,x=.ref a/\H2 a=some (.ins C dx fs)/\lG K C/\lR K C f/\fs.length<1000/\
 D.nx U (upd H2 a (.ins C dx (jH f y fs)))
section
variable {X:Cx} {o e value:Expr} {f:Str} {pos pos' tpos:Pos} {ta tv:TE}
theorem WR (he:PE X e ta) (hb:attributeBase e f X.env (eval e X.env)=eval e X.env):PE X (.Attribute e f pos) (aab X.K ta f):=by intro aeQ s U H Q I h;refine UT hb (cL (he aeQ s U H _ I h) λu s1 ⟨x,H1,I1,rx,a,C,dx,fs,v,ex,ea,c,n,l,q⟩=>?_);subst ex;obtain rfl:u=Value.ref a:=rx;exact Nq I1 ea c n l λu' s2 I2 ru=>⟨v,H1,I2,ru,q⟩
theorem WT (ha:PE X o ta) (hv:PE X value tv) (hs:swapsWith value (some (.Attribute o f pos')) pos.line X.env=pure false):PS X (.Assign [.Attribute o f pos'] value pos) (aac X.K ta tv f):=by intro aeQ s U H D I h;refine plainObj_wpAny_Assign_Attribute (cL (hv aeQ s U H _ I h) λu s1 ⟨y,H1,I1,ry,q⟩=>cL (ha aeQ s1 U H1 _ I1 q) λov s2 ⟨x,H2,I2,rx,a,C,dx,fs,ex,ea,c,n,l,q2⟩=>?_) hs;subst ex;obtain rfl:ov=Value.ref a:=rx;exact Nr I2 ea c n l ry λs3 I3=>⟨U,_,I3,q2⟩
def Ri:V->V->Hp->VK->Prop:=λx y H Q=>∃i j,x=.int i/\y=.int j/\Q (.int (i+j)) H
theorem YD (he:PE X e te) (I:Inv X aeQ U H s)
 (h:te U H λx H1=>∃a C dx fs g,x=.ref a/\H1 a=some (.ins C dx fs)/\lG X.K C/\Meth X.K C m g/\fs.lookup m=none/\
   ∀s1,Inv X aeQ U H1 s1->wpAny (model X.prog X.w) X.A (callWith pos (.ref g) [.ref a] (backTo pos (starEach args X.env)) (backToKw pos (keywordEach [] X.env))) Q X.xe s1)
 (ht:eval (.Call (.Attribute e m apos) args [] pos) X.env=(do
   let ov <-eval e X.env
   standAt apos.atName
   let (f,first) <-holding [ov] (getMethod ov m pl)
   callWith pos f first (backTo pos (starEach args X.env)) (backToKw pos (keywordEach [] X.env)))):
 wpAny (model X.prog X.w) X.A (eval (.Call (.Attribute e m apos) args [] pos) X.env) Q X.xe s:=by
 refine acl (cL (he aeQ s U H _ I h) λu s1 ⟨x,H1,I1,rx,a,C,dx,fs,g,ex,ea,c,k,l,q⟩=>?_) ht
 subst ex
 obtain rfl:u=Value.ref a:=rx
 exact wB I1 ea c k l (q s1 I1)
end
section
variable {X:Cx} {aeQ:List (Addr×Obj)} {U:St} {H:Hp} {s:Shared} {A:Around} {E:Value->Shared->Prop} {Q:Value->Shared->Prop} {c:Value} {b:Bool}
end
structure gW (b:Bool) (k:Nat) (A:Around):Prop where
 hd:b=true->A.handled=none
 dp:A.depth+3*k+5<recursionLimit
 un:A.units+16*k+200<cLine
 gd:A.guards=some []
abbrev lL:=gW true
theorem gW.mono (r:gW b k A) (h:j<=k):gW b j A:=⟨r.hd,by have:=r.dp; omega,by have:=r.un; omega,r.gd⟩
theorem gW.deeper (r:gW b (k+1) A) (env:Env):gW b k (A.deeper env):=
 ⟨r.hd,by have:=r.dp; show A.depth+1+3*k+5<_; omega,by have:=r.un; show A.units+3+16*k+200<_; omega,r.gd⟩
theorem Nt:(A.under (.builtin "type.__call__" ⟨.ref C::us,kw⟩)).depth=A.depth+1:=by
 first | rfl | simp[Code.weight]
theorem Nu:(A.under (.builtin "type.__call__" ⟨.ref C::us,kw⟩)).units=A.units+1:=by
 first | rfl | simp[Code.cUnits]
theorem gW.make (r:gW b (k+1) A) (C:Addr) (us:List Value) (kw:List (Str×Value)):gW b k (A.under (.builtin "type.__call__" ⟨.ref C::us,kw⟩)):=
 ⟨r.hd,by have:=r.dp; rw[Nt]; omega,by have:=r.un; rw[Nu]; omega,by first | exact r.gd | (simpa [Around.under,Code.isGuard,guardIds] using r.gd)⟩
theorem gW.depth (r:gW b k A):A.depth<recursionLimit:=by have:=r.dp; omega
def HD:TA:=λ_ H Q=>Q [] H
def zQ (ta:TE) (tr:TA):TA:=λU H Q=>ta U H λx H1=>tr U H1 λxs H2=>Q (x::xs) H2
section
variable {X:Cx} {e:Expr} {es:List Expr} {te:TE} {t:TA} {pos:Pos}
theorem mR:PA X [] HD:=λ_ _ _ _ H Q I h=>Calls.spliced_nil ⟨[],H,I,.nil,h⟩
theorem fj (ha:PE X e te) (hr:PA X es t) (hs:starEach (e::es) X.env=(false,eval e X.env)::starEach es X.env:=by rfl):PA X (e::es) (zQ te t):=by intro pos aeQ s U H Q I h;rw[hs];refine Calls.spliced_cons (cL (ha aeQ s U H _ I h) λu s1 ⟨x,H1,I1,r1,q1⟩=>?_);exact cL (hr pos aeQ s1 U H1 _ I1 q1) λus s2 ⟨xs,H2,I2,r2,q2⟩=>⟨x::xs,H2,I2,.cons r1 r2,q2⟩
def WW (t:TA):TE:=λU H Q=>t U H λxs H1=>xs.length<=sizeLine/\∀p,H1 p=none->Q (.ref p) (upd H1 p (.tup xs))
def aad (t:TA):TE:=λU H Q=>t U H λxs H1=>xs.length<=sizeLine/\∀p,H1 p=none->Q (.ref p) (upd H1 p (.lst xs))
theorem HH {x1} (h:PA X es t):PE X (.Tuple es x1 pos) (WW t):=by intro aeQ s U H Q I hq;refine wpAny_Tuple_spliced (cL (h pos aeQ s U H _ I hq) λus s1 ⟨xs,H1,I1,r,z,q⟩=>⟨by rw[<-r.length]; exact z,?_⟩);have hf:=I1.hok.fresh (aaE _);refine⟨.ref s1.heap.objs.size,upd H1 s1.heap.objs.size (.tup xs),I1.laid (λb u e=>aaB _ e) (aaE _) ?_,rfl,q _ hf⟩;exact⟨z,us,r,⟨_,aaL _ rfl,rfl,_,rfl⟩⟩
theorem WX (h:PA X es t):PE X (.List es pos) (aad t):=by intro aeQ s U H Q I hq;refine wpAny_List_spliced (cL (h pos aeQ s U H _ I hq) λus s1 ⟨xs,H1,I1,r,z,q⟩=>⟨by rw[<-r.length]; exact z,?_⟩);have hf:=I1.hok.fresh (aaE _);refine⟨.ref s1.heap.objs.size,upd H1 s1.heap.objs.size (.lst xs),I1.laid (λb u e=>aaB _ e) (aaE _) ?_,rfl,q _ hf⟩;exact⟨z,us,0,r,aaL _ rfl⟩
end
abbrev Sp:=List V->Hp->VK->XK->Prop
abbrev xQ:=List Env->Hp->Shared->XK->Value->Shared->Prop
structure Ay (P:Program) (w:World) (K:FG) (mg:Str->Option Value) (base:Heap) (A:Around) (outer:List Env) (s:Shared) (H:Hp):Prop where
 frames:A.frames=some outer
 mod:Mod K mg base
 bs:∀b o,base.get? b=some o->s.heap.get? b=some o/\H b=none
 bsz:base.objs.size<=s.heap.objs.size
 funs:s.heap.FunFrames base outer
 frf:∀b∈frs outer,H b=none
 hok:lQ P w H s.heap
 bare:AllBare s.gens
def CE (outer:List Env) (P:Program) (w:World) (H:Hp) (s:Shared) (Q:VK) (u:Value) (s':Shared):Prop:=
 ∃v H',s'.os=s.os/\AllBare s'.gens/\Un (frs outer) [] H H' s.heap s'.heap/\lQ P w H' s'.heap/\RelV v u/\Q v H'
def CR (CX:xQ) (outer:List Env) (P:Program) (w:World) (H:Hp) (s:Shared) (Q:VK) (E:XK) (r:Result) (s':Shared):Prop:=
 match r with
 | .ok (.ret u)=>CE outer P w H s Q u s'
 | .ok _=>False
 | .error e=>CX outer H s E e s'
structure sG (b:Bool) (P:Program) (w:World) (K:FG) (mg:Str->Option Value) (base:Heap) (CX:xQ) (k:Nat) (f:Addr) (fd:FuncData) (ps:List Str) (sp:Sp):Prop where
 len:∀vs H Q E,sp vs H Q E->vs.length=ps.length
 run:∀(A:Around) (outer:List Env) (s:Shared) (H:Hp) (args:Args) (us:List Value) (vs:List V) (Q:VK) (E:XK),gW b k A->Ay P w K mg base A outer s H->BindsTo s fd args (ps.zip us)->Vals vs us->sp vs H Q E->
  codeAny (model P w) A (.call (.ref f) args) (CR CX outer P w H s Q E) s
abbrev oH:=sG true
theorem sG.imp {K:FG} (F:sG b P w K mg base CX k f fd ps sp)
 (h:∀vs H Q E,sp' vs H Q E->sp vs H Q E):sG b P w K mg base CX k f fd ps sp':=
 ⟨λvs H Q E q=>F.len vs H Q E (h _ _ _ _ q),λA outer s H args us vs Q E hr he hb hv hs=>F.run A outer s H args us vs Q E hr he hb hv (h _ _ _ _ hs)⟩
theorem Ay.make {K:FG} (e:Ay P w K mg base A outer s H) (C:Addr) (us:List Value) (kw:List (Str×Value)):
 Ay P w K mg base (A.under (.builtin "type.__call__" ⟨.ref C::us,kw⟩)) outer s H:=⟨by first | exact e.frames | (simpa [Around.under,Code.envs,Code.isFrame,pushEnvs] using e.frames),e.mod,e.bs,e.bsz,e.funs,e.frf,e.hok,e.bare⟩
section
variable {X:Cx} {aeQ:List (Addr×Obj)} {U:St} {H:Hp} {s s':Shared}
theorem Inv.env0 (I:Inv X aeQ U H s):Ay X.prog X.w X.K X.mg X.base X.A X.stack s H:=
 ⟨I.ok.frames,I.ok.mod,I.bs,aaX I.ok.bsz I.sz,I.stack,I.stkFree,I.hok,I.bare⟩
theorem Inv.after (I:Inv X aeQ U H s) (h:CE X.stack X.prog X.w H s Q u s'):EP X aeQ U Q u s':=by obtain⟨v,H',os,bare,un,hok,r,q⟩:=h;obtain⟨hh,g,d,t,os'⟩:=s';obtain rfl:os'=s.os:=os;exact⟨v,H',I.call un hok bare (λb z=>absurd z (by simp)),r,q⟩
end
def Nv (sp:Sp) (dvs:List V) (E:XK) (t:TA):TE:=λU H Q=>t U H λvs H1=>sp (vs++dvs) H1 Q E
def Nx (C:Addr) (m:Str) (sp:Sp) (dvs:List V) (E:XK) (ta:TE) (t:TA):TE:=λU H Q=>ta U H λx H1=>∃a dx fs,x=.ref a/\H1 a=some (.ins C dx fs)/\fs.lookup m=none/\
 t U H1 λvs H2=>sp (x::(vs++dvs)) H2 Q E
def Tr (C:Addr) (sp:Sp) (dvs:List V) (E:XK) (t:TA):TE:=λU H Q=>t U H λvs H1=>∀x dx,H1 x=none->H1 dx=none->dx≠x->
 sp (.ref x::(vs++dvs)) (upd (upd H1 dx (.own x)) x (.ins C dx [])) (λv H2=>v=.non/\Q (.ref x) H2) E
def Binds (K:FG) (fd:FuncData) (ps:List Str) (ds:List Value):Prop:=
 ∀(s:Shared) (us:List Value),K.In s.heap->(us++ds).length=ps.length->BindsTo s fd ⟨us,[]⟩ (ps.zip (us++ds))
theorem Binds.all {K:FG} (h:∀us:List Value,us.length=ps.length->bindArgs fd ⟨us,[]⟩=pure (ps.zip us)):Binds K fd ps []:=λs us _ hl=>by rw[aa1]at hl ⊢;exact .of_eq (h us hl)
def yx (CX:xQ) (X:Cx) (E:XK):Prop:=∀(aeQ:List (Addr×Obj)) (U:St) (H:Hp) (s:Shared) (e:Value) (s':Shared),Inv X aeQ U H s->CX X.stack H s E e s'->X.xe e s'
section
variable {X:Cx} {CX:xQ} {k:Nat} {f C:Addr} {fd:FuncData} {ps:List Str} {sp:Sp} {dvs:List V} {ds:List Value} {E:XK} {x m:Str} {p pos apos:Pos} {e o:Expr} {es:List Expr} {ta:TE} {t:TA}
theorem BJ (F:sG b X.prog X.w X.K X.mg X.base CX k f fd ps sp) (hr:gW b k X.A) (hb:Binds X.K fd ps ds) (hd:Vals dvs ds) (hx:∀H s e s',Inv X aeQ U H s->CX X.stack H s E e s'->X.xe e s')
 (I:Inv X aeQ U H s) (r:Vals vs us) (h:sp (vs++dvs) H Q E):wpAny (model X.prog X.w) X.A (call (.ref f) us) (EP X aeQ U Q) X.xe s:=by
 have r2:=r.append hd;have hl:(us++ds).length=ps.length:=by rw[<-r2.length]; exact F.len _ _ _ _ h
 refine wpAny_call (codeAny_mono (F.run X.A X.stack s H ⟨us,[]⟩ (us++ds) (vs++dvs) Q E hr I.env0 (hb s us I.kIn hl) r2 h) λr s' hq=>?_);cases r with
 | error e=>exact hx H s e s' I hq
 | ok fl=>
  cases fl with
  | ret u=>exact I.after hq
  | next=>exact False.elim hq
  | brk=>exact False.elim hq
  | cont=>exact False.elim hq
theorem Le (F:sG b X.prog X.w X.K X.mg X.base CX k f fd ps sp) (hr:gW b k X.A) (hg:Gl X x) (hm:X.mg x=some (.ref f)) (hk:W.keepIn X.K (.ref f)=true) (hb:Binds X.K fd ps ds) (hd:Vals dvs ds) (hx:yx CX X E)
 (ha:PA X (e::es) t) (hdb:(x==("__debug__" : Str))=false:=by decide) (he:starEach (e::es) X.env=(false,eval e X.env)::starEach es X.env:=by rfl) (hpl:(backTo pos (starEach es X.env)).any (·.1)=false:=by rfl):
 PE X (.Call (.Name x p) (e::es) [] pos) (Nv sp dvs E t):=by
 intro aeQ s U H Q I h;refine wpAny_Call_Name_kw (Dq I hg hm ?_ hdb);refine W.callWith_K I.ok.mod.kin hk (cL (ha pos aeQ s U H _ I h) λus s1 ⟨vs,H1,I1,r,q⟩=>⟨I1.kIn,?_⟩) he hpl;exact BJ F hr hb hd (hx _ _) I1 r q
theorem UV (he:PE X o ta) (c:lG X.K C) (hm:Meth X.K C m f) (F:oH X.prog X.w X.K X.mg X.base CX k f fd ps sp) (hr:lL k X.A) (hb:Binds X.K fd ps ds) (hd:Vals dvs ds) (hx:yx CX X E) (ha:PA X (e::es) t)
 (hst:starEach (e::es) X.env=(false,eval e X.env)::starEach es X.env:=by rfl) (hpl:(backTo pos (starEach es X.env)).any (·.1)=false:=by rfl)
 (ht:eval (.Call (.Attribute o m apos) (e::es) [] pos) X.env=(do
   let ov <-eval o X.env
   standAt apos.atName
   let (f,first) <-holding [ov] (getMethod ov m pl)
   callWith pos f first (backTo pos (starEach (e::es) X.env)) (backToKw pos (keywordEach [] X.env))):=by rfl):
 PE X (.Call (.Attribute o m apos) (e::es) [] pos) (Nx C m sp dvs E ta t):=by
 intro aeQ s U H Q I h
 refine acl (cL (he aeQ s U H _ I h) λu s1 ⟨x,H1,I1,rx,a,dx,fs,ex,ea,l,q⟩=>?_) ht
 subst ex
 obtain rfl:u=Value.ref a:=rx
 refine wB I1 ea c hm l ?_
 refine W.callWith_K I.ok.mod.kin hm.kp (cL (ha pos aeQ s1 U H1 _ I1 q) λus s2 ⟨vs,H2,I2,r,q2⟩=>⟨I2.kIn,?_⟩) hst hpl
 exact BJ (vs:=.ref a::vs) F hr hb hd (hx _ _) I2 (.cons rfl r) q2
theorem Rj (he:PE X o ta) (c:lG X.K C) (hm:Meth X.K C m f) (F:oH X.prog X.w X.K X.mg X.base CX k f fd ps sp) (hr:lL k X.A) (hb:Binds X.K fd ps ds) (hd:Vals dvs ds) (hx:yx CX X E)
 (ht:eval (.Call (.Attribute o m apos) [] [] pos) X.env=(do
   let ov <-eval o X.env
   standAt apos.atName
   let (f,first) <-holding [ov] (getMethod ov m pl)
   callWith pos f first (backTo pos (starEach [] X.env)) (backToKw pos (keywordEach [] X.env))):=by rfl):
 PE X (.Call (.Attribute o m apos) [] [] pos) (Nx C m sp dvs E ta HD):=by
 intro aeQ s U H Q I h
 refine acl (cL (he aeQ s U H _ I h) λu s1 ⟨x,H1,I1,rx,a,dx,fs,ex,ea,l,q⟩=>?_) ht
 subst ex
 obtain rfl:u=Value.ref a:=rx
 refine wB I1 ea c hm l ?_
 exact W.callWith_K0 I1.kIn hm.kp (BJ (vs:=[.ref a]) F hr hb hd (hx _ _) I1 (.cons rfl .nil) q)
structure Mk (K:FG) (C f:Addr):Prop where
 makes:W.makesIn K C=true
 init:W.findIn K (.ref C) "__init__" = some (some (.ref f))
 fn:W.isFn K (.ref f)=true
 kp:W.keepIn K (.ref C)=true
theorem Rk (M:Mk X.K C f) (F:oH X.prog X.w X.K X.mg X.base CX k f fd ps sp) (hr:lL (k+1) X.A) (hb:Binds X.K fd ps ds) (hd:Vals dvs ds)
 (hx:∀H s e s',Inv X aeQ U H s->CX X.stack H s E e s'->X.xe e s') (I:Inv X aeQ U H s) (r:Vals vs us)
 (h:∀x dx,H x=none->H dx=none->dx≠x->sp (.ref x::(vs++dvs)) (upd (upd H dx (.own x)) x (.ins C dx [])) (λv H2=>v=.non/\Q (.ref x) H2) E):
 wpAny (model X.prog X.w) X.A (call (.ref C) us) (EP X aeQ U Q) X.xe s:=by
 have hq:=h (s.heap.objs.size+1) s.heap.objs.size (I.hok.fresh (abY _)) (I.hok.fresh (aaE _)) (aa3 (abl _));have I2:=Inv.made (C:=C) I;have r2:Vals (V.ref (s.heap.objs.size+1)::(vs++dvs)) (Value.ref (s.heap.objs.size+1)::(us++ds)):=.cons rfl (r.append hd);have hl:(Value.ref (s.heap.objs.size+1)::us++ds).length=ps.length:=by have e:=r2.length;rw[F.len _ _ _ _ hq]at e;exact e.symm
 refine wpAny_call (Rh I.kIn M.makes M.init (beq_iff_eq.mp M.fn) (codeAny_mono (F.run _ X.stack _ _ ⟨Value.ref (s.heap.objs.size+1)::us,[]⟩ (Value.ref (s.heap.objs.size+1)::(us++ds)) _ _ E (hr.make C us [])
  (I2.env0.make C us []) (hb _ (Value.ref (s.heap.objs.size+1)::us) I2.kIn hl) r2 hq) λr s' hq'=>?_))
 cases r with
 | error e=>exact hx _ _ e s' I2 hq'
 | ok fl=>
  cases fl with
  | ret u=>
   obtain⟨v,H',I3,rv,ev,q3⟩:=I2.after hq';subst ev;exact⟨rv,⟨V.ref (s.heap.objs.size+1),H',I3,rfl,q3⟩⟩
  | next=>exact False.elim hq'
  | brk=>exact False.elim hq'
  | cont=>exact False.elim hq'
theorem UW (M:Mk X.K C f) (F:oH X.prog X.w X.K X.mg X.base CX k f fd ps sp) (hr:lL (k+1) X.A) (hg:Gl X x) (hm:X.mg x=some (.ref C)) (hb:Binds X.K fd ps ds) (hd:Vals dvs ds) (hx:yx CX X E)
 (ha:PA X (e::es) t) (hdb:(x==("__debug__" : Str))=false:=by decide) (he:starEach (e::es) X.env=(false,eval e X.env)::starEach es X.env:=by rfl) (hpl:(backTo pos (starEach es X.env)).any (·.1)=false:=by rfl):
 PE X (.Call (.Name x p) (e::es) [] pos) (Tr C sp dvs E t):=by
 intro aeQ s U H Q I h;refine wpAny_Call_Name_kw (Dq I hg hm ?_ hdb);refine W.callWith_K I.ok.mod.kin M.kp (cL (ha pos aeQ s U H _ I h) λus s1 ⟨vs,H1,I1,r,q⟩=>⟨I1.kIn,?_⟩) he hpl;exact Rk M F hr hb hd (hx _ _) I1 r q
end
section
variable {X:Cx} {CX:xQ} {k:Nat} {f C:Addr} {fd:FuncData} {ps ks:List Str} {sp:Sp} {E:XK} {x m:Str} {p pos apos kpos:Pos} {e o:Expr} {es:List Expr} {kws:List Keyword} {te ta:TE} {t tk:TA} {nm:Option Str}
variable {g:List Value->List Value->List Value} {gV:List V->List V->List V}
end
structure bF (N P:List Str) (sc:Scope):Prop where
 kind:sc.kind=.function
 co:sc.isCoroutine=false
 gen:sc.isGenerator=false
 nd:N.Nodup
 pre:N.take P.length=P
 par:∀x∈P,sc.names.lookup x=some .local\/sc.names.lookup x=some .cell
 nofree:∀y∈sc.names,y.2≠.free
theorem Fo {kindOf:Str->Option NameKind}:∀{binds:List (Str×Value)} {m:Str->Option Value},(∀v,(x,v)∉binds)->bindL kindOf binds m x=m x
 | [],_,_=>rfl
 | (n,v)::r,m,h=>by
  unfold bindL;rw[Fo λw hw=>h w (aaA _ hw)];split
  . have:x≠n:=by rintro rfl; exact h v aaz
    simp[this]
  . rfl
theorem Fp {kindOf:Str->Option NameKind}:∀{binds:List (Str×Value)} {m:Str->Option Value},(∀v,(x,v)∉binds)->bindC kindOf binds m x=m x
 | [],_,_=>rfl
 | (n,v)::r,m,h=>by
  unfold bindC;rw[Fp λw hw=>h w (aaA _ hw)];split
  . rfl
  . have:x≠n:=by rintro rfl; exact h v aaz
    simp[this]
theorem Fq {kindOf:Str->Option NameKind}:∀{P:List Str} {vs:List Value} {i:Nat} {m:Str->Option Value},P.Nodup->P[i]?=some x->vs[i]?=some v->kindOf x=some .local->
 bindL kindOf (P.zip vs) m x=some v
 | [],_,_,_,_,h,_,_=>by simp at h
 | _::_,[],_,_,_,_,h,_=>by simp at h
 | p::P,w::vs,0,m,nd,h1,h2,hk=>by simp at h1 h2; subst h1; subst h2;show bindL kindOf ((p,w)::P.zip vs) m p=_;unfold bindL;rw[Fo λv hv=>(abu.mp nd).1 (abF hv).1,acq hk];simp
 | p::P,w::vs,i+1,m,nd,h1,h2,hk=>by unfold bindL;exact Fq (abu.mp nd).2 (by simpa using h1) (by simpa using h2) hk
theorem Ft {kindOf:Str->Option NameKind}:∀{P:List Str} {vs:List Value} {i:Nat} {m:Str->Option Value},P.Nodup->P[i]?=some x->vs[i]?=some v->kindOf x≠some .local->
 bindC kindOf (P.zip vs) m x=some v
 | [],_,_,_,_,h,_,_=>by simp at h
 | _::_,[],_,_,_,_,h,_=>by simp at h
 | p::P,w::vs,0,m,nd,h1,h2,hk=>by simp at h1 h2; subst h1; subst h2;show bindC kindOf ((p,w)::P.zip vs) m p=_;unfold bindC;rw[Fp λv hv=>(abu.mp nd).1 (abF hv).1,acr hk];simp
 | p::P,w::vs,i+1,m,nd,h1,h2,hk=>by unfold bindC;exact Ft (abu.mp nd).2 (by simpa using h1) (by simpa using h2) hk
def start (N:List Str) (vs:List V):St:=vs.map some++List.replicate (N.length-vs.length) none
def uE (b:Bool) (CX:xQ) (P:Program) (w:World) (K:FG) (mg:Str->Option Value) (base:Heap) (N:List Str) (qual:Str) (scope:Scope) (f:Addr) (cd:Value) (A:Around) (outer:List Env) (s:Shared) (H:Hp) (E:XK):Cx where
 prog:=P
 w:=w
 K:=K
 mg:=mg
 base:=base
 A:=A.deeper (envOfC qual scope s.heap.objs.size f cd)
 N:=N
 s₀:=s
 H0:=H
 env:=envOfC qual scope s.heap.objs.size f cd
 outer:=outer
 stack:=envOfC qual scope s.heap.objs.size f cd::outer
 ex:=[]
 calm:=b
 fn:=λ_=>true
 pn:=[]
 xe:=λe s'=>wpAny (model P w) (A.deeper (envOfC qual scope s.heap.objs.size f cd)) (leaving (envOfC qual scope s.heap.objs.size f cd) e) (λ_ s''=>CX outer H s E e s'') (λe' s''=>CX outer H s E e' s'') s'
abbrev Rm:=uE true
theorem HJ {sc:Scope} (h:sc.names.lookup x=some .cell):∃c,(cellsFrom n sc.names []).lookup x=some c:=by have q:=aci sc.names n [] (.inl h);exact ab0.mp q
theorem Pa {K:FG} {E:XK}
 (S:bF N ps scope) (hd:cm=true->A.handled=none) (e0:Ay P w K mg base A outer s H) (hl:vs.length=ps.length) (r:Vals vs us)
 (x:InCallC s s.heap.objs.size (bindL (envOfC qual scope s.heap.objs.size f cd).kindOf (ps.zip us) λ_=>none) (cellsFrom (s.heap.objs.size+1) scope.names []) (bindC (envOfC qual scope s.heap.objs.size f cd).kindOf (ps.zip us) λ_=>none) s1):
 Inv (uE cm CX P w K mg base N qual scope f cd A outer s H E) [] (start N vs) H s1:=by
 have hpl:ps.length<=N.length:=by have:=congrArg List.length S.pre; rw[abW]at this; omega
 obtain⟨h1,tk,rfl,hk⟩:=x.done;have noA:∀b:Addr,b∉(uE cm CX P w K mg base N qual scope f cd A outer s H E).ex:=λb z=>absurd (show b∈([]:List Addr) from z) (by simp);refine⟨⟨e0.mod,S.kind,rfl,rfl,aaE _,λy z c h1 h2=>?_,λy hy=>?_,λy c _ h=>?_,hd,Around.frames_deeper e0.frames,.inr ⟨rfl,rfl⟩,λb z=>absurd z (noA b),e0.bs,e0.bsz,λb _ _=>noA b,λb z=>absurd z (noA b),e0.funs,e0.frf⟩,
  rfl,e0.bare,Un.kept hk,⟨_,x.toInCall.ns,λi y v h1 h2 h3=>?_⟩,λy c h=>⟨_,x.cell y c h⟩,e0.hok.fresh (aaE _),λy c h=>?_,λp hp=>absurd (show p∈([]:List (Addr×Obj)) from hp) (by simp),e0.hok.kept hk,?_⟩
 . exact name_of_addr x.apart (abP h1) (abP h2)
 . rcases hy with hy | hy
   . exact HJ hy
   . exact absurd rfl (S.nofree _ (abP hy))
 . exact abZ (x.above y c (abP h))
 . have hi:i<vs.length:=by
    unfold start at h2;by_cases hi:i<vs.length
    . exact hi
    . rw[aaW (by simpa using hi)]at h2;rw[List.getElem?_replicate]at h2;split at h2<;>cases h2
   have ha:vs[i]?=some v:=by
    unfold start at h2;rw[abr (by simpa using hi),aa2]at h2;cases e:vs[i]? with
    | none=>rw[e]at h2; cases h2
    | some a=>rw[e]at h2; cases h2; rfl
   obtain⟨u,hu,rv⟩:=r.get ha;have hp:ps[i]?=some y:=by rw[<-S.pre,List.getElem?_take_of_lt (by omega)]; exact h1
   have ndP:ps.Nodup:=by rw[<-S.pre]; exact S.nd.sublist (List.take_sublist _ _)
   refine⟨u,rv,?_⟩;rcases S.par y (abf hp) with k | k
   . exact .inl ⟨k,Fq ndP hp hu k⟩
   . obtain⟨c,e⟩:=HJ k;refine .inr ⟨.inl k,c,e,?_⟩;have q:=x.cell y c e;rw[Ft ndP hp hu (by show scope.names.lookup y≠_; rw[k]; decide)]at q;exact q
 . exact e0.hok.fresh (abZ (x.above y c (abP h)))
 . unfold start;show _=N.length;rw[aaH,aaT,List.length_replicate];omega
theorem YZ {K:FG} {dV kV doc pm cdv ct oc:Value}
 (lk:K.lookup f=some ⟨oc,od,.func (W.fnOf name qual params body scope dV kV doc pm an cdv ct),osl⟩) (hcd:W.codeIn K cdv qual=true) (S:bF N ps scope)
 (len:∀vs H Q E,sp vs H Q E->vs.length=ps.length)
 (hbody:∀(A:Around) (outer:List Env) (s:Shared) (H:Hp) (vs:List V) (Q:VK) (E:XK),gW b k (A.deeper (envOfC qual scope s.heap.objs.size f cdv))->sp vs H Q E->
   ∃t,ju (uE b CX P w K mg base N qual scope f cdv A outer s H E) body t/\t { nx:=λ_ H'=>Q .non H',rt:=Q } (start N vs) H):
 sG b P w K mg base CX (k+1) f (W.fnOf name qual params body scope dV kV doc pm an cdv ct) ps sp:=by
 refine⟨len,λA outer s H args us vs Q E hr e0 hb r hsp=>?_⟩;have hl:=len _ _ _ _ hsp;have KX:=e0.mod.kin.keeps λb o e=>(e0.bs b o e).1;have lim:=e0.mod.nolimit.keeps λb o e=>(e0.bs b o e).1;have hkind:∀y∈ps.zip us,scope.names.lookup y.1=some .local\/(scope.names.lookup y.1=some .cell/\((cellsFrom (s.heap.objs.size+1) scope.names []).lookup y.1).isSome=true):=λ⟨n,v⟩ hy=>by
  rcases S.par n (abF hy).1 with q | q
  . exact .inl q
  . exact .inr ⟨q,aci _ _ _ (.inl q)⟩
 refine codeAny_call_function hr.depth (KX _ _ lk) rfl S.co S.gen rfl (W.codeRec_of KX hcd) (hb _ _ _ _ ?_);refine wpAny_newFunctionEnv_cells S.kind hkind λenv he s1 x=>?_;subst he;refine⟨lim.keeps x.toInCall.keep,codeAny_func ?_⟩;obtain⟨t,ht,hq⟩:=hbody A outer s H vs Q E (hr.deeper _) hsp;have I:Inv (uE b CX P w K mg base N qual scope f cdv A outer s H E) [] (start N vs) H s1:=Pa S hr.hd e0 hl r x;refine wpAny_mono (ht [] s1 (start N vs) H _ I hq) (λfl s' hs=>?_) λe s' hs=>hs;have fin:∀{U':St} {H':Hp} {v:V} {u:Value},Inv (uE b CX P w K mg base N qual scope f cdv A outer s H E) [] U' H' s'->RelV v u->Q v H'->CE outer P w H s Q u s':=
  λ{U' H' v u} J rv q=>⟨v,H',J.os,J.bare,J.base,J.hok,rv,q⟩
 cases fl with
 | ret u=>
  obtain⟨v,U',H',J,rv,q⟩:=hs;exact fin J rv q
 | next=>
  obtain⟨U',H',J,q⟩:=hs;exact fin (v:=V.non) J rfl q
 | brk=>
  obtain⟨_,_,_,q⟩:=hs;exact False.elim q
 | cont=>
  obtain⟨_,_,_,q⟩:=hs;exact False.elim q
section
variable {X:Cx} {x:Str} {p pos:Pos} {e:Expr} {es:List Expr} {t:TA} {id T:String} {r:List V->Hp->VK->Prop}
def Fv (r:List V->Hp->VK->Prop) (t:TA):TE:=λU H Q=>t U H λvs H1=>r vs H1 Q
theorem fX (hc:nF X (.builtin id) r) (hg:Gl X x) (hm:X.mg x=none) (hv:bootBuiltins x=some (.builtin id)) (ha:PA X (e::es) t) (hn:x ≠ "__name__" := by decide) (hdb:(x==("__debug__" : Str))=false:=by decide)
 (he:starEach (e::es) X.env=(false,eval e X.env)::starEach es X.env:=by rfl) (hpl:(backTo pos (starEach es X.env)).any (·.1)=false:=by rfl):PE X (.Call (.Name x p) (e::es) [] pos) (Fv r t):=by
 intro aeQ s U H Q I h;refine wpAny_Call_Name_kw (rJ I hg hm hv ?_ hn hdb);exact PyProof.Rows.callWith_builtin1 (cL (ha pos aeQ s U H _ I h) λus s1 ⟨vs,H1,I1,r1,q1⟩=>hc aeQ s1 U H1 vs us Q I1 r1 q1) he hpl
theorem lH (hc:nF X (.type T) r) (hg:Gl X x) (hm:X.mg x=none) (hv:bootBuiltins x=some (.type T)) (ha:PA X (e::es) t) (hn:x ≠ "__name__" := by decide) (hdb:(x==("__debug__" : Str))=false:=by decide)
 (he:starEach (e::es) X.env=(false,eval e X.env)::starEach es X.env:=by rfl) (hpl:(backTo pos (starEach es X.env)).any (·.1)=false:=by rfl):PE X (.Call (.Name x p) (e::es) [] pos) (Fv r t):=by
 intro aeQ s U H Q I h;refine wpAny_Call_Name_kw (rJ I hg hm hv ?_ hn hdb);exact PyProof.Rows.callWith_type1 (cL (ha pos aeQ s U H _ I h) λus s1 ⟨vs,H1,I1,r1,q1⟩=>hc aeQ s1 U H1 vs us Q I1 r1 q1) he hpl
end
end L2
namespace HT
open PySem PySem.Spec PyProof.Rows
section
open PySem.SeqAt
open PySem.AutoSeq1 (wpAny_loadPart')
open PySem.MeetsSeq PySem.MeetsSeq2 PySem.MeetsSeq3
end
section
variable {prog:Program} {w:World} {A:Around} {E:Value->Shared->Prop} {s:Shared}
theorem cat_tup (ht:IsTup s.heap t vs.toArray) (hb:IsTup s.heap b ws.toArray) (hv:vs≠[])
 (h1:ws=[]->Q (.ref t) s) (h2:ws≠[]->Q (.ref s.heap.objs.size) { s with heap:=s.heap.push { cls:=.type "tuple",data:=.seq (vs++ws).toArray } })
 (hsz:vs.length+ws.length<=sizeLine):wpAny (model prog w) A (binaryOp .Add (.ref t) (.ref b)) Q E s:=by
 obtain⟨⟨cls,dd,data,sl⟩,ho,hc,n,hd⟩:=id ht;obtain⟨⟨cls2,dd2,data2,sl2⟩,ho2,hc2,n2,hd2⟩:=id hb;subst hc hd hc2 hd2;have e:vs.toArray++ws.toArray=(vs++ws).toArray:=by simp
 by_cases hw:ws=[]
 . exact concat_meets ⟨_,ho,rfl⟩ ⟨_,ho2,rfl⟩ noFill_tuple_add seq_tuple_add F.slot_tuple_add F.entry_tuple_add (F.args_tuple_add_2 _ _)
    (tuple_addW1 t b vs.toArray ws.toArray n n2 dd dd2 sl sl2 (by simpa using hv) (by simp[hw])) ⟨ho,ho2,h1 hw⟩
 . refine concat_meets ⟨_,ho,rfl⟩ ⟨_,ho2,rfl⟩ noFill_tuple_add seq_tuple_add F.slot_tuple_add F.entry_tuple_add (F.args_tuple_add_2 _ _)
    (tuple_addW2 t b vs.toArray ws.toArray n n2 dd dd2 sl sl2 (by simpa using hv) (by simpa using hw) (by rw[aaF,aaF]; exact hsz)) ⟨ho,ho2,?_⟩
   rw[e];exact h2 hw
def sIx (n d:Nat):Option Int->Nat
 | none=>d
 | some v=>if v<0 then (v+(n:Int)).toNat else min v.toNat n
theorem sIx_le (n d:Nat) (hd:d<=n) (o:Option Int):sIx n d o<=n:=by
 cases o with
 | none=>exact hd
 | some v=>
  show (if v<0 then (v+(n:Int)).toNat else min v.toNat n)<=n;by_cases hv:v<0
  . rw[acq hv]; omega
  . rw[acr hv]; exact Nat.min_le_right _ _
end
end HT
namespace L2
open PySem PySem.Spec PyProof.Rows
variable {aeQ:List (Addr×Obj)} {E:Value->Shared->Prop} {s:Shared} {A:Around} {w:World} {P:Program}
abbrev TO:=St->Hp->(Option Int->Hp->Prop)->Prop
def PO (X:Cx) (e:Option Expr) (t:TO):Prop:=
 ∀(aeQ:List (Addr×Obj)) (s:Shared) (U:St) (H:Hp) (Q:Option Int->Hp->Prop),Inv X aeQ U H s->t U H Q->
  wpAny (model X.prog X.w) X.A (evalPart e X.env) (λu s'=>∃o H',Inv X aeQ U H' s'/\IsPart u o/\Q o H') X.xe s
def U0:TO:=λ_ H Q=>Q none H
def Y0 (t:TE):TO:=λU H Q=>t U H λx H1=>∃i,x=.int i/\Q (some i) H1
section
variable {X:Cx} {e:Expr} {te:TE} {lo hi:Option Expr} {tl th:TO} {pos p2:Pos}
theorem U3_:PO X none U0:=by intro aeQ s U H Q I h;exact acs ⟨none,H,I,.none,h⟩
theorem U4 (h:PE X e te):PO X (some e) (Y0 te):=by intro aeQ s U H Q I hw;refine cL (h aeQ s U H _ I hw) λu s1 ⟨x,H1,I1,r1,q1⟩=>?_;obtain⟨i,rfl,q⟩:=q1;obtain⟨t,rfl⟩:=r1;exact⟨some i,H1,I1,.int i t,q⟩
def HN (X:Cx) (r:V->Option Int->Option Int->Hp->VK->Prop):Prop:=
 ∀(aeQ:List (Addr×Obj)) (s:Shared) (U:St) (H:Hp) (x:V) (v vl vu:Value) (lo hi:Option Int) (sl:Addr) (Q:VK),Inv X aeQ U H s->RelV x v->s.heap.IsSliceOf sl vl vu .none->IsPart vl lo->IsPart vu hi->r x lo hi H Q->
  ∃T id,typeLookup (.type T) "__getitem__" = pure (some (.builtin id))/\s.TypeIs v T/\wpAny (model X.prog X.w) X.A (getItem v (.ref sl)) (EP X aeQ U Q) X.xe s
theorem HN.or (h:HN X r) (h':HN X r'):HN X (λx lo hi H Q=>r x lo hi H Q\/r' x lo hi H Q):=by
 intro aeQ s U H x v vl vu lo hi sl Q I rx hs pl pu q;rcases q with q | q
 . exact h aeQ s U H x v vl vu lo hi sl Q I rx hs pl pu q
 . exact h' aeQ s U H x v vl vu lo hi sl Q I rx hs pl pu q
def tSl (r:V->Option Int->Option Int->Hp->VK->Prop) (te:TE) (tl th:TO):TE:=λU H Q=>te U H λx H1=>tl U H1 λl H2=>th U H2 λu H3=>r x l u H3 Q
theorem Rn (hr:HN X r) (he:PE X e te) (hl:PO X lo tl) (hu:PO X hi th):PE X (.Subscript e (.Slice lo hi none p2) pos) (tSl r te tl th):=by intro aeQ s U H Q I h;refine Subscript_ (cL (he aeQ s U H _ I h) λv s1 ⟨x,H1,I1,r1,q1⟩=>?_);refine wpAny_Slice (cL (hl aeQ s1 U H1 _ I1 q1) λvl s2 ⟨l,H2,I2,pl,q2⟩=>cL (hu aeQ s2 U H2 _ I2 q2) λvu s3 ⟨u,H3,I3,pu,q3⟩=>?_);refine acs ?_;have I4:Inv X aeQ U H3 { s3 with heap:=s3.heap.push { cls:=.type "slice",data:=.fields #[vl,vu,.none] } }:=I3.kept λb ob q=>aaB _ q;obtain⟨T,id,hT,ht,hg⟩:=hr aeQ { s3 with heap:=s3.heap.push { cls:=.type "slice",data:=.fields #[vl,vu,.none] } } U H3 x v vl vu l u s3.heap.objs.size Q I4 r1 (Heap.IsSliceOf.new ..) pl pu q3;exact tail_any (ops:=[.ref s3.heap.objs.size,v]) ht hT hg (by with_unfolding_all rfl)
def Az (xs:List V) (lo hi:Option Int):List V:=(xs.drop (HT.sIx xs.length 0 lo)).take (HT.sIx xs.length xs.length hi-HT.sIx xs.length 0 lo)
theorem KZ (xs:List V) (lo hi:Option Int):(Az xs lo hi).length<=xs.length:=by unfold Az;rw[abW,List.length_drop];omega
def Tt (K:FG):R2:=λx y H Q=>∃a b xs ys,x=.ref a/\y=.ref b/\eU K H a xs/\eU K H b ys/\xs≠[]/\xs.length+ys.length<=sizeLine/\
 (ys=[]->Q (.ref a) H)/\(ys≠[]->∀p,H p=none->Q (.ref p) (upd H p (.tup (xs++ys))))
theorem Vals.nil_iff (r:Vals xs us):us=[] ↔ xs=[]:=by
 cases r with
 | nil=>simp
 | cons _ _=>simp
theorem U5:gh X (binaryOp .Add) (Tt X.K):=by intro aeQ s U H x y v u Q I rx ry h;obtain⟨a,b,xs,ys,rfl,rfl,ha,hb,hx,hz,q1,q2⟩:=h;cases rx;cases ry;obtain⟨its,r1,p1,_⟩:=I.tuple ha;obtain⟨its2,r2,p2,_⟩:=I.tuple hb;refine HT.cat_tup p1 p2 (λz=>hx (r1.nil_iff.mp z)) (λz=>⟨.ref a,H,I,rfl,q1 (r2.nil_iff.mp z)⟩) (λz=>?_) (by rw[<-r1.length,<-r2.length]; exact hz);refine⟨.ref s.heap.objs.size,_,I.laid (λb ob q=>aaB _ q) (aaE _) ?_,rfl,q2 (λw=>z (r2.nil_iff.mpr w)) _ (I.hok.fresh (aaE _))⟩;exact⟨by rw[aaH]; exact hz,_,r1.append r2,IsTup.new _ _⟩
end
def xR (n:Nat) (i:Int):Option Nat:=if 0<=i then (if i<n then some i.toNat else none) else if -(n:Int)<=i then some (i+n).toNat else none
def eQ {α:Type} (xs:List α) (i:Int):Option α:=(xR xs.length i).bind λj=>xs[j]?
theorem Lf (h:xR n i=some j):seqIndex? i n=some j/\j<n/\-(n:Int)<=i/\i<n:=by
 unfold xR at h;by_cases h0:0<=i
 . rw[acq h0]at h;by_cases h1:i<n
   . rw[acq h1]at h;have e:=aaM h;exact⟨by rw[seqIndex_of h0 h1,e],by omega,by omega,h1⟩
   . rw[acr h1]at h; cases h
 . rw[acr h0]at h;by_cases h1:-(n:Int)<=i
   . rw[acq h1]at h;have e:=aaM h;exact⟨by rw[seqIndex_neg (by omega) h1,e],by omega,h1,by omega⟩
   . rw[acr h1]at h; cases h
theorem Du (h:eQ xs i=some v):∃j,seqIndex? i xs.length=some j/\xs[j]?=some v/\j<xs.length/\-(xs.length:Int)<=i/\i<xs.length:=by
 unfold eQ at h;cases e:xR xs.length i with
 | none=>rw[e]at h; cases h
 | some j=>
  rw[e]at h;obtain⟨h1,h2,h3,h4⟩:=Lf e;exact⟨j,h1,h,h2,h3,h4⟩
def zR (b:Expr):Prop:=∀o i,subscripted b false o i=operate [o,i] (getItem o i)
def yz (X:Cx) (r:R2):Prop:=
 ∀(value slice:Expr) (aeQ:List (Addr×Obj)) (s:Shared) (U:St) (H:Hp) (x y:V) (v u:Value) (Q:VK),Inv X aeQ U H s->RelV x v->RelV y u->r x y H Q->
  subscripted slice false v u=operate [v,u] (getItem v u)->wpAny (model X.prog X.w) X.A (subscriptTail value slice v u) (EP X aeQ U Q) X.xe s
def WY (X:Cx) (id:String) (r:V->List V->Hp->VK->Prop):Prop:=
 ∀(aeQ:List (Addr×Obj)) (s:Shared) (U:St) (H:Hp) (x:V) (xs:List V) (v:Value) (us:List Value) (Q:VK),Inv X aeQ U H s->RelV x v->Vals xs us->r x xs H Q->
  wpAny (model X.prog X.w) X.A (call (.builtin id) (v::us)) (EP X aeQ U Q) X.xe s
section
variable {X:Cx} {a b:Expr} {ta tb:TE} {pos:Pos}
theorem yz.or (h:yz X r) (h':yz X r'):yz X (λx y H Q=>r x y H Q\/r' x y H Q):=by
 intro value slice aeQ s U H x y v u Q I rx ry q hs;rcases q with q | q
 . exact h value slice aeQ s U H x y v u Q I rx ry q hs
 . exact h' value slice aeQ s U H x y v u Q I rx ry q hs
theorem Tu (hr:yz X r) (ha:PE X a ta) (hb:PE X b tb) (hs:zR b):PE X (.Subscript a b pos) (O6 r ta tb):=by intro aeQ s U H Q I h;exact Subscript_ (Q7 ha hb I h λv u s2 x y H2 I2 rx ry q=>hr a b aeQ s2 U H2 x y v u Q I2 rx ry q (hs _ _))
def W0 (K:FG):R2:=λx y H Q=>∃p xs i v,x=.ref p/\y=.int i/\cM K H p xs/\eQ xs i=some v/\Q v H
def W2 (K:FG):R2:=λx y H Q=>∃p xs i v,x=.ref p/\y=.int i/\eU K H p xs/\eQ xs i=some v/\Q v H
def W3:R2:=λx y H Q=>∃z i c,x=.str z/\y=.int i/\z.length<=sizeLine/\eQ z.cps.toList i=some c/\Q (.str ⟨#[c]⟩) H
theorem U6_:yz X (W0 X.K):=by
 intro value slice aeQ s U H x y v u Q I rx ry h hs;obtain⟨p,xs,i,z,rfl,rfl,hq,he,q⟩:=h;cases rx;obtain⟨t,rfl⟩:=ry;obtain⟨its,r,pl,hz⟩:=I.list hq;obtain⟨j,h1,h2,h3,h4,h5⟩:=Du he;obtain⟨w,ew,rw'⟩:=r.get h2;have hl:=r.length;have hn:=vI;have fin:EP X aeQ U Q w s:=⟨z,H,I,rw',q⟩;by_cases h0:0<=i
 . have hj:i.toNat=j:=by rw[seqIndex_of h0 h5]at h1;exact aaM h1
   exact item_listR pl.isList h0 (by omega) (by rw[hj]; simpa using ew) fin hs
 . have hj:(i+(its.toArray.size:Int)).toNat=j:=by rw[seqIndex_neg (by omega) h4]at h1;rw[aaF,<-hl];exact aaM h1
   exact subscriptTail_builtinR pl.isList.typeIs slot_list_getitem.lookup
    (wpAny_getItem_list_neg pl.isList (by omega) (by rw[aaF]<;>omega) (by omega) (by rw[hj]; simpa using ew) ⟨rfl,fin⟩) hs
theorem W5:yz X (W2 X.K):=by
 intro value slice aeQ s U H x y v u Q I rx ry h hs;obtain⟨p,xs,i,z,rfl,rfl,hq,he,q⟩:=h;cases rx;obtain⟨t,rfl⟩:=ry;obtain⟨its,r,pl,hz⟩:=I.tuple hq;obtain⟨j,h1,h2,h3,h4,h5⟩:=Du he;obtain⟨w,ew,rw'⟩:=r.get h2;have hl:=r.length;have hn:=vI;have fin:EP X aeQ U Q w s:=⟨z,H,I,rw',q⟩;exact subscriptTail_builtinR pl.typeIs slot_tuple_getitem.lookup
  (getItem_tuple pl (by omega) (by omega) (by rw[aaF,<-hl]; exact h1) (by simpa using ew) ⟨rfl,fin⟩) hs
theorem W7:yz X W3:=by
 intro value slice aeQ s U H x y v u Q I rx ry h hs;obtain⟨z,i,c,rfl,rfl,hz,he,q⟩:=h;obtain⟨t,rfl⟩:=rx;obtain⟨t',rfl⟩:=ry;obtain⟨j,h1,h2,h3,h4,h5⟩:=Du he;have hl:z.cps.toList.length=z.length:=by simp[Str.length]
 rw[hl]at h1 h4 h5;have hn:=vI;exact tail_any (typeIs_str s z t) slot_str_getitem.lookup (getItem_str (by have e1:decide (i < -(2 ^ 63:Int))=false:=acu (by omega);have e2:decide (i ≥ 2 ^ 63)=false:=acu (by omega);rw[e1,e2,Bool.or_false]) (by rw[h1]; simpa using h2) ⟨.str ⟨#[c]⟩,H,I.tok _,⟨_,rfl⟩,q⟩) hs
def Zn (K:FG):R2:=λx y H Q=>W0 K x y H Q\/W2 K x y H Q\/W3 x y H Q
theorem W8:yz X (Zn X.K):=U6_.or (W5.or W7)
theorem Ny (its:List Value) (n j:Nat) (u:Value):Obj.mapSeq (·.setIfInBounds j u) { cls:=.type "list",data:=.seq its.toArray n }={ cls:=.type "list",data:=.seq (its.set j u).toArray n }:=by simp[Obj.mapSeq]
theorem Inv.lst {U:St} {H:Hp} {p:Addr} {xs:List V} (I:Inv X aeQ U H s) (h:H p=some (.lst xs)):
 ∃(its:List Value) (n:Nat),Vals xs its/\s.heap.get? p=some { cls:=.type "list",data:=.seq its.toArray n }/\xs.length<=sizeLine:=by
 obtain⟨z,its,n,r,e⟩:=I.hok p _ h;exact⟨its,n,r,e,z⟩
theorem Inv.lstUpd {its its':List Value} (I:Inv X aeQ U H s) (h:H p=some (.lst xs))
 (ho:s.heap.get? p=some { cls:=.type "list",data:=.seq its.toArray n }) (hf:f { cls:=.type "list",data:=.seq its.toArray n }={ cls:=.type "list",data:=.seq its'.toArray n' }) (r:Vals ys its') (hz:ys.length<=sizeLine) (t:Nat):
 Inv X aeQ U (upd H p (.lst ys)) { s with heap:=s.heap.update p f,toks:=t }:=by
 have e:(s.heap.update p f).get? p=some { cls:=.type "list",data:=.seq its'.toArray n' }:=by rw[ab5 f ho (by rw[hf]<;>rfl),hf]
 refine I.write (by rw[h]; trivial) (.inl rfl) (λb u hb q=>(ab1 _ _ (Ne.symm hb)).trans q) ⟨_,e⟩ ?_;exact⟨hz,its',n',r,e⟩
def Tv:V->V->V->Hp->(Hp->Prop)->Prop:=λo i v H Q=>∃p xs k j,o=.ref p/\i=.int k/\H p=some (.lst xs)/\xR xs.length k=some j/\Q (upd H p (.lst (xs.set j v)))
theorem set_list:Wv X Tv:=by
 intro aeQ s U H o i v ov iv u Q I ro ri rv h;obtain⟨p,xs,k,j,rfl,rfl,hp,hj,q⟩:=h;cases ro;obtain⟨t,rfl⟩:=ri;obtain⟨its,n,r,ho,hz⟩:=I.lst hp;obtain⟨h1,h2,h3,h4⟩:=Lf hj;have hl:=r.length;have hn:=vI;have I':=
  I.lstUpd hp ho (Ny its n j u) (r.set rv j) (by rw[abQ]; exact hz) s.toks
 by_cases h0:0<=k
 . have hk:k.toNat=j:=by rw[seqIndex_of h0 h4]at h1;exact aaM h1
   exact W.ki_setAt ho h0 (by omega) (by rw[aaF,<-hl]; exact h4) (by rw[hk]; exact⟨_,I',q⟩)
 . have hk:(k+(its.toArray.size:Int)).toNat=j:=by rw[seqIndex_neg (by omega) h3]at h1;rw[aaF,<-hl];exact aaM h1
   exact W.ki_setBack ho (by omega) (by rw[aaF,<-hl]; exact h3) (by omega) (by rw[hk]; exact⟨_,I',q⟩)
theorem HQ (lo hi:Option Int) (n:Nat):(sliceBounds lo hi none n).1=((HT.sIx n 0 lo:Nat):Int)/\(sliceBounds lo hi none n).2.1=((HT.sIx n n hi:Nat):Int)/\(sliceBounds lo hi none n).2.2=1:=by
 refine⟨?_,?_,rfl⟩
 . cases lo with
   | none=>simp[sliceBounds,HT.sIx]
   | some i=>
    simp only[sliceBounds,HT.sIx,Option.getD_none];by_cases h:i<0
    . simp only[h,if_true]<;>omega
    . simp only[h,if_false]<;>omega
 . cases hi with
   | none=>simp[sliceBounds,HT.sIx]
   | some i=>
    simp only[sliceBounds,HT.sIx,Option.getD_none];by_cases h:i<0
    . simp only[h,if_true]<;>omega
    . simp only[h,if_false]<;>omega
theorem Gy (its:List Value) (lo hi:Option Int):slicePick its.toArray lo hi none=((its.drop (HT.sIx its.length 0 lo)).take (HT.sIx its.length its.length hi-HT.sIx its.length 0 lo)).toArray:=by obtain⟨h1,h2,h3⟩:=HQ lo hi its.toArray.size;unfold slicePick;rw[h1,h2,h3];simp only[sliceRange_one,pick_run]<;>rfl
def aae (K:FG):V->Option Int->Option Int->Hp->VK->Prop:=λx lo hi H Q=>∃a xs,x=.ref a/\cM K H a xs/\∀p,H p=none->Q (.ref p) (upd H p (.lst (Az xs lo hi)))
theorem U7_:HN X (aae X.K):=by intro aeQ s U H x v vl vu lo hi sl Q I rx hs pl pu h;obtain⟨a,xs,rfl,hx,q⟩:=h;cases rx;obtain⟨its,r,ht,hz⟩:=I.list hx;have hlen:=r.length;refine⟨"list",_,slot_list_getitem.lookup,ht.isList.typeIs,?_⟩;refine wpAny_getItem_list_slice ht.isList hs pl pu .none (by simp) ?_ (by rw[aaF]<;>omega);rw[Gy,<-hlen];refine⟨.ref s.heap.objs.size,_,I.laid (λb ob q=>aaB _ q) (aaE _) ?_,rfl,q _ (I.hok.fresh (aaE _))⟩;exact⟨aaX (KZ xs lo hi) hz,_,0,(r.drop (HT.sIx xs.length 0 lo)).take (HT.sIx xs.length xs.length hi-HT.sIx xs.length 0 lo),aaL _ rfl⟩
def Tz:V->Bool
 | .non=>true
 | .bl _=>true
 | .int _=>true
 | .str _=>true
 | _=>false
theorem yC:nF X (.type "list") (λxs H Q=>∃p ys,xs=[.ref p]/\(cM X.K H p ys\/eU X.K H p ys)/\∀l,H l=none->Q (.ref l) (upd H l (.lst ys))):=by
 intro aeQ s U H xs us Q I r h;obtain⟨p,ys,rfl,hq,q⟩:=h;obtain⟨u,rfl,rx⟩:=vals1 r;cases rx;have fin:∀(its:List Value),Vals ys its->ys.length<=sizeLine->∀(h':Heap) (c':Nat),(∀b o',s.heap.get? b=some o'->h'.get? b=some o')->
  h'.get? s.heap.objs.size=some { cls:=.type "list",dict:=none,data:=.seq its.toArray c',slots:=#[] }->EP X aeQ U Q (.ref s.heap.objs.size) { s with heap:=h' }:=λits r' hz h' c' kp e=>
  ⟨.ref s.heap.objs.size,_,I.laid kp (aaE _) (show kE X.prog X.w _ h' _ (.lst ys) from ⟨hz,its,c',r',e⟩),rfl,q _ (I.hok.fresh (aaE _))⟩
 rcases hq with hq | hq
 . obtain⟨its,r',pl,hz⟩:=I.list hq;have hlen:=r'.length;obtain⟨o,ho,hc,n,hd⟩:=pl.isList;exact call_list_seq p (.inl rfl) ho hc hd (λh' c' kp e=>fin its r' hz h' c' kp e) (by simp only[aaF]<;>omega)
 . obtain⟨its,r',pl,hz⟩:=I.tuple hq;have hlen:=r'.length;obtain⟨o,ho,hc,n,hd⟩:=pl;exact call_list_seq p (.inr rfl) ho hc hd (λh' c' kp e=>fin its r' hz h' c' kp e) (by simp only[aaF]<;>omega)
theorem Gz:nF X (.type "tuple") (λxs H Q=>∃p ys,xs=[.ref p]/\((cM X.K H p ys/\∀l,H l=none->Q (.ref l) (upd H l (.tup ys)))\/(eU X.K H p ys/\Q (.ref p) H))):=by
 intro aeQ s U H xs us Q I r h;obtain⟨p,ys,rfl,h⟩:=h;obtain⟨u,rfl,rx⟩:=vals1 r;cases rx;rcases h with ⟨hq,q⟩ | ⟨hq,q⟩
 . obtain⟨its,r',pl,hz⟩:=I.list hq;have hlen:=r'.length;refine call_tuple_list pl.isList (λh' kp=>?_) (by simp only[aaF]<;>omega);have I1:=I.kept (t':=s.toks) kp;have I2:=
    I1.laid (t':=s.toks) (λb o e=>aaB _ e) (aaE _) (show kE X.prog X.w _ _ _ (.tup ys) from ⟨hz,its,r',IsTup.new _ _⟩)
   exact⟨.ref h'.objs.size,_,I2,rfl,q _ (I1.hok.fresh (aaE _))⟩
 . obtain⟨its,r',pl,hz⟩:=I.tuple hq;exact call_tuple_same pl ⟨.ref p,H,I,rfl,q⟩
def W9 (K:FG) (T:String) (x:V) (H:Hp):Prop:=match x with
 | .str _=>T = "str"
 | .int _=>T = "int"
 | .ref p=>(T = "list" /\ ∃xs,cM K H p xs)\/(T = "tuple" /\ ∃o,K.lookup p=some o/\o.cls=.type "tuple" /\ o.dict=none)\/
  (T = "dict" /\ ((∃kvs,H p=some (.dK kvs))\/∃kvs,H p=some (.dT kvs)))\/(T = "set" /\ ∃S n,H p=some (.set S n))
 | _=>False
theorem Pb (I:Inv X aeQ U H s) (r:RelV x v) (ty:W9 X.K T x H):
 s.TypeIs v T/\∀a,v=.ref a->∃ob,s.heap.get? a=some ob/\ob.dict=none:=by
 cases x with
 | str z=>
  obtain⟨t,rfl⟩:=r;cases (ty);exact⟨typeIs_str s z t,λ_ e=>nomatch e⟩
 | int i=>
  obtain⟨t,rfl⟩:=r;cases (ty);exact⟨typeIs_int s i t,λ_ e=>nomatch e⟩
 | ref p=>
  cases r;rcases ty with ⟨rfl,xs,hq⟩ | ⟨rfl,o,hk,hc,hd⟩ | ⟨rfl,hk⟩ | ⟨rfl,S,n,hk⟩
  . obtain⟨its,_,pl,_⟩:=I.list hq;refine⟨pl.isList.typeIs,λa e=>?_⟩;cases e;obtain⟨o,n,e,c,hd,_⟩:=pl;exact⟨o,e,hd⟩
  . refine⟨⟨o,I.kIn p o hk,hc⟩,λa e=>?_⟩;cases e;exact⟨o,I.kIn _ o hk,hd⟩
  . have z:∃o,s.heap.get? p=some o/\o.ExactDict:=by
     rcases hk with ⟨kvs,hk⟩ | ⟨kvs,hk⟩
     . obtain⟨_,_,_,_,o,_,_,e,ex,_⟩:=I.hok p _ hk;exact⟨o,e,ex⟩
     . obtain⟨_,_,_,_,o,_,_,e,ex,_⟩:=I.hok p _ hk;exact⟨o,e,ex⟩
    obtain⟨o,e,ex⟩:=z;refine⟨⟨o,e,ex.1⟩,λa e2=>?_⟩;cases e2;exact⟨o,e,ex.2.1⟩
  . obtain⟨o,_,_,_,e,ex,_⟩:=I.hok p _ hk;refine⟨⟨o,e,ex.1⟩,λa e2=>?_⟩;cases e2;exact⟨o,e,ex.2.1⟩
 | _=>exact False.elim ty
def Xa (K:FG) (T:String) (r:V->List V->Hp->VK->Prop) (to:TE):TE:=λU H Q=>to U H λx H1=>W9 K T x H1/\r x [] H1 Q
def Lg (K:FG) (T:String) (r:V->List V->Hp->VK->Prop) (to:TE) (t:TA):TE:=λU H Q=>to U H λx H1=>W9 K T x H1/\t U H1 λxs H2=>r x xs H2 Q
variable {o e:Expr} {es:List Expr} {to:TE} {t:TA} {name:Str} {apos cpos:Pos} {T id:String} {r:V->List V->Hp->VK->Prop}
theorem Xb (pa:PlainAttrs T) (slot:Slot T name id) (hty:typeOf (.builtin id)=pure (.type "method_descriptor")) (hm:WY X id r) (ho:PE X o to)
 (hbase:attributeBase o name X.env (eval o X.env)=eval o X.env:=by rfl) (hline:(apos.endLine==cpos.line)=true:=by rfl):PE X (.Call (.Attribute o name apos) [] [] cpos) (Xa X.K T r to):=by
 intro aeQ s U H Q I h;refine wpAny_Call_method0_late hbase hline (cL (ho aeQ s U H _ I h) λv s1 ⟨x,H1,I1,r1,ty,q1⟩=>?_);obtain⟨h1,h2⟩:=Pb I1 r1 ty;exact⟨T,id,pa,slot,hty,h1,h2,Calls.callWith_builtin rfl (PySem.evalArgs_none (hm aeQ s1 U H1 x [] v [] Q I1 r1 .nil q1))⟩
theorem jF (pa:PlainAttrs T) (slot:Slot T name id) (hty:typeOf (.builtin id)=pure (.type "method_descriptor")) (hm:WY X id r) (ho:PE X o to) (ha:PA X (e::es) t)
 (hbase:attributeBase o name X.env (eval o X.env)=eval o X.env:=by rfl)
 (hfew:((backTo cpos (starEach (e::es) X.env)).all (λx=>!x.1)&&(backToKw cpos (keywordEach [] X.env)).all (λx=>x.1.isSome)
   && decide ((e::es).length+([]:List Keyword).length+(if ([]:List Keyword).isEmpty then 0 else 1)<30))=true:=by rfl)
 (hline:(apos.endLine==cpos.line)=true:=by rfl) (hs:starEach (e::es) X.env=(false,eval e X.env)::starEach es X.env:=by rfl) (hplain:(backTo cpos (starEach es X.env)).any (·.1)=false:=by rfl):
 PE X (.Call (.Attribute o name apos) (e::es) [] cpos) (Lg X.K T r to t):=by
 intro aeQ s U H Q I h;refine wpAny_Call_method_late hbase hfew hline rfl (cL (ho aeQ s U H _ I h) λv s1 ⟨x,H1,I1,r1,ty,q1⟩=>?_);obtain⟨h1,h2⟩:=Pb I1 r1 ty;refine⟨T,id,pa,slot,hty,h1,h2,?_⟩;have hA:=ha cpos aeQ s1 U H1 _ I1 q1;rw[hs]at hA ⊢;refine Calls.callWith_builtin (by show (false||(backTo cpos (starEach es X.env)).any (·.1))=false; rw[hplain]<;>rfl) (Calls.evalArgs_plain ?_);exact cL hA λus s2 ⟨vs,H2,I2,r2,q2⟩=>hm aeQ s2 U H2 x vs v us Q I2 r1 r2 q2
end
def TQ (X:Cx) (id:String) (r:V->List V->Hp->VK->Prop):Prop:=
 ∀(aeQ:List (Addr×Obj)) (s:Shared) (U:St) (H:Hp) (x:V) (xs:List V) (v:Value) (us:List Value) (Q:VK),Inv X aeQ U H s->RelV x v->Vals xs us->r x xs H Q->
  wpAny (model X.prog X.w) X.A (call (.builtin id) (v::us)) (EP X aeQ U Q) X.xe s
theorem Vals.one:∀{x:V} {us:List Value},Vals [x] us->∃u,us=[u]/\RelV x u
 | _,_,.cons r .nil=>⟨_,rfl,r⟩
theorem Vals.zero:∀{us:List Value},Vals [] us->us=[]
 | _,.nil=>rfl
theorem Vals.dropLast (h:Vals xs us):Vals xs.dropLast us.dropLast:=by
 induction h with
 | nil=>exact .nil
 | cons r t ih=>
  cases t with
  | nil=>exact .nil
  | cons q t'=>exact .cons r ih
theorem Nz {α:Type} (l:List α):l.eraseIdx (l.length-1)=l.dropLast:=by
 induction l with
 | nil=>rfl
 | cons a r ih=>
  cases r with
  | nil=>rfl
  | cons b r=>
   have e:(a::b::r).length-1=((b::r).length-1)+1:=by have h1:(a::b::r).length=r.length+2:=rfl;have h2:(b::r).length=r.length+1:=rfl;omega
   rw[e,List.eraseIdx_cons_succ,ih]
   all_goals rfl
section
variable {X:Cx} {aeQ:List (Addr×Obj)} {U:St} {H:Hp} {s:Shared} {l b:Addr} {xs ys zs:List V}
theorem Inv.lset {its its':List Value} (I:Inv X aeQ U H s) (hH:H l=some (.lst xs))
 (e:s.heap.get? l=some { cls:=.type "list",data:=.seq its.toArray n }) (hf:f its.toArray=its'.toArray) (hv:Vals ys its') (hz:ys.length<=sizeLine):
 Inv X aeQ U (upd H l (.lst ys)) { s with heap:=s.heap.update l (Obj.mapSeq f),toks:=t' }:=by
 have q:=PySem.IsL.update e f;rw[hf]at q;refine I.write (by rw[hH]; exact trivial) (.inl rfl) (λb' u hb hu=>(ab1 s.heap (Obj.mapSeq f) (Ne.symm hb)).trans hu) ⟨_,q⟩ ?_;exact⟨hz,its',_,hv,q⟩
theorem Inv.lnew (I:Inv X aeQ U H s) (hv:Vals ys its) (hz:ys.length<=sizeLine):
 Inv X aeQ U (upd H s.heap.objs.size (.lst ys)) { s with heap:=s.heap.push { cls:=.type "list",data:=.seq its.toArray },toks:=t' }:=
 I.laid (λ_ _ q=>aaB _ q) (aaE _) ⟨hz,its,0,hv,aaL _ rfl⟩
theorem Inv.fresh (I:Inv X aeQ U H s):H s.heap.objs.size=none:=I.hok.fresh (aaE _)
theorem Inv.lstM (I:Inv X aeQ U H s) (hH:H l=some (.lst xs)):xs.length<=sizeLine/\∃(its:List Value) (n:Nat),Vals xs its/\xs.length=its.length/\s.heap.get? l=some { cls:=.type "list",data:=.seq its.toArray n }:=by obtain⟨z,its,n,r,e⟩:=I.hok l _ hH;exact⟨z,its,n,r,r.length,e⟩
theorem Ro (h:n<=sizeLine):Builtin.List.listTooLong n=false:=by exact acu (by omega)
end
section
variable {X:Cx}
def Dv:V->List V->Hp->VK->Prop:=λx vs H Q=>∃l xs y,x=.ref l/\vs=[y]/\H l=some (.lst xs)/\xs.length<sizeLine/\Q .non (upd H l (.lst (xs++[y])))
theorem iI:TQ X "list.append" Dv:=by intro aeQ s U H x vs v us Q I rx rv h;obtain⟨l,xs,y,rfl,rfl,hH,hz,q⟩:=h;cases rx;obtain⟨u,rfl,ru⟩:=rv.one;obtain⟨z,its,n,r,hl,e⟩:=I.lstM hH;refine call_meets F.slot_list_append ⟨_,e,rfl⟩ F.entry_list_append (F.args_list_append_2 _ _) (PySem.list_append l its.toArray n u (by rw[aaF]; omega)) ⟨e,?_⟩;refine⟨.non,_,I.lset hH e (by simp) (r.append (.cons ru .nil)) ?_,rfl,q⟩;rw[aaH,List.length_singleton];omega
def Xc:V->List V->Hp->VK->Prop:=λx vs H Q=>∃l xs y,x=.ref l/\vs=[]/\H l=some (.lst xs)/\xs[xs.length-1]?=some y/\Q y (upd H l (.lst xs.dropLast))
theorem Xd:TQ X "list.pop" Xc:=by
 intro aeQ s U H x vs v us Q I rx rv h;obtain⟨l,xs,y,rfl,rfl,hH,hy,q⟩:=h;cases rx;have hus:=rv.zero;subst hus;obtain⟨z,its,n,r,hl,e⟩:=I.lstM hH;obtain⟨u,hu,ru⟩:=r.get hy;have hy':its.toArray[its.toArray.size-1]?=some u:=by show its.toArray[its.length-1]?=some u;rw[<-Array.getElem?_toList,<-hl];exact hu
 refine call_meets F.slot_list_pop ⟨_,e,rfl⟩ F.entry_list_pop (F.args_list_pop_1 _) (MeetsSeq.list_pop_last l its.toArray n u hy' (by rw[aaF]; omega)) ⟨e,?_⟩;refine⟨y,_,I.lset hH e ?_ r.dropLast ?_,ru,q⟩
 . rw[aaF,List.eraseIdxIfInBounds_toArray,Nz]
 . rw[List.length_dropLast];omega
end
section
variable {prog:Program}
end
section
variable {X:Cx}
end
end L2
namespace Att
open PySem PySem.W PySem.Calls PyProof.Rows
theorem BK:∀(ns:List Int) (vs:List Value),WellAll P h vs (ns.map WData.int)->IntsAre vs ns:=by
 intro ns;induction ns with
 | nil=>
  intro vs w;cases w;exact .nil
 | cons n ns ih=>
  intro vs w;cases w with
  | cons a b=>
   cases a;exact .cons _ _ (ih _ b)
theorem Pg {l:OpenLaw} (hn:l.most=some n)
 (hpre:l.row.toRowW.claim.pre args=true) (hwl:WellAll P h vals args):
 ∃a vs ns,vals=[Value.ref a]/\args=[WData.list (ns.map WData.int)]/\h.get? a=some { cls:=.type "list",data:=.seq vs.toArray }/\IntsAre vs ns/\ns.length<=n:=by
 have hsh:=(pre_splitW hpre).1;have hc:l.pre.holds [] { args:=args }=true:=(pre_splitW hpre).2;obtain⟨d,r,rfl,h1,h2⟩:=hasAllW_cons hsh;obtain rfl:=hasAllW_nil h2;obtain⟨xs,rfl,h3⟩:=hasW_list h1;obtain⟨ns,rfl⟩:=items_int h3;have hlen:ns.length<=n:=by
  have h4:(WTm.not (.lt (.lit (.int (n:Int))) (.len (.arg 0)))).holds [] { args:=[.list (ns.map .int)] }=true:=by have h4:=(holds_andW hc).1;rw[hn]at h4;exact h4
  have h5:=condW_of h4 (w_not (w_lt w_lit (w_len_list (w_arg rfl))));refine ab3 λq=>?_
  first
   | (rw[acv q']at h5; exact absurd h5 (by decide))
   | (simp at h5; omega)
 cases hwl with
 | cons w1 w2=>
  cases w2;cases w1 with
  | list ho hall=>exact⟨_,_,ns,rfl,rfl,ho,BK ns _ hall,hlen⟩
theorem Ph (l:OpenLaw) (args:List WData):l.row.toRowW.claim.post args (.bool true) args=true:=
 postW_of
  (show WShape.has [] (.bool true) .bool=true by first | rfl | decide | simp[WShape.arms])
  (w_eq_bool (w_res rfl) w_lit) rfl
theorem attach_call {l:OpenLaw}
 (hn:l.most=some n) (hdf:d.params.defaults=[])
 (call:∀(w:World) (s₀ s₁:Shared) (mg mb:Str->Option Value) (fa:Addr) (o:Obj) (pm cd doc:Value) (a:Addr) (vs:List Value) (ns:List Int),
   Ground q loose [] XP w s₀ mg mb s₁.heap->YP w s₁.heap->
   s₁.heap.get? fa=some o->o.data=.func (docDef d.name d.params d.body d.scope pm cd doc)->s₁.heap.CodeRec cd d.name->mg d.name=some (.ref fa)->
   s₁.heap.get? a=some { cls:=.type "list",data:=.seq vs.toArray }->IntsAre vs ns->ns.length<=n->s₁.gens=#[]->
   codeAny (model l.prog w) callerA (.call (.ref fa) ⟨[.ref a],[]⟩) (λr s'=>r=.ok (.ret (.bool true))/\OldK s₁.heap s'.heap/\s'.os=s₁.os/\AllBare s'.gens) s₁):
 WalkO q loose XP YP l.row.toRowW d [] (λf vs=>PySem.call f vs):=by
 intro w s₀ s₁ mg mb G Y fa o pm cd doc dV kV ho hd hcd hD hmg hg args vals as hpre hlay hrd hwl hlo;obtain rfl:dV=.none:=Dflts.none hD hdf;obtain rfl:kV=.none:=Dflts.noKw hD;obtain⟨a,vs,ns,rfl,rfl,hobj,hints,hlen⟩:=Pg hn hpre hwl;refine enter_call (codeAny_mono (call w s₀ s₁ mg mb fa o pm cd doc a vs ns G Y ho (fd_plain hd) hcd hmg hobj hints hlen hg) λr s' hq=>?_);obtain⟨rfl,h2,h3,h4⟩:=hq;exact⟨.inl ⟨.bool true,.bool true,[],rfl,λ_=>rfl,.bool true,Ph l _,λ_=>⟨List.Pairwise.nil,λ_ hm=>(nomatch hm)⟩⟩,h2,h3,h4⟩
section
variable {prog:Program} {w:World} {A:Around} {E:Value->Shared->Prop} {s:Shared} {K:Frag}
end
end Att
namespace L2
open PySem PySem.Spec PyProof.Rows
variable {aeQ:List (Addr×Obj)} {E:Value->Shared->Prop} {s:Shared} {A:Around} {w:World} {P:Program}
theorem Fy:∀{vs:List Value} {ns:List Int},IntsAre vs ns->Vals (ns.map V.int) vs
 | _,_,.nil=>.nil
 | _,_,.cons n t h=>.cons ⟨t,rfl⟩ (Fy h)
def Only (H:Hp):Prop:=∀b,H b=none\/∃o xs,H b=some (.frz o (.lst xs))
theorem Rp {K:FG}
 (KX:K.In s₁.heap) (hns:s₁.heap.Ns mainGlobals mg) (hb:s₁.heap.Ns builtinsNs mb) (hbb:∀x:Str,x ≠ "__name__" -> mb x=bootBuiltins x) (hlim:s₁.heap.NoLimit) (hg:s₁.gens=#[])
 (ha:s₁.heap.get? a=some { cls:=.type "list",data:=.seq vs.toArray }) (hi:IntsAre vs ns) (hl:ns.length<=sizeLine) (hr:lL k callerA)
 (F:∀base:Heap,K.In base->base.Ns mainGlobals mg->oH P w K mg base CX k fa fd [x] sp) (hbind:∀(s:Shared) (u:Value),BindsTo s fd ⟨[u],[]⟩ [(x,u)])
 (hsp:∀H:Hp,Only H->cM K H a (ns.map V.int)->sp [.ref a] H (λv _=>v=.bl true) λ_ _ _=>False)
 (hCX:∀H e s',CX [] H s₁ (λ_ _ _=>False) e s'->False):
 codeAny (model P w) callerA (.call (.ref fa) ⟨[.ref a],[]⟩) (λr s'=>r=.ok (.ret (.bool true))/\OldK s₁.heap s'.heap/\s'.os=s₁.os/\AllBare s'.gens) s₁:=by
 have rv:=Fy hi;have lenV:=hi.length;have core:∀H:Hp,Only H->cM K H a (ns.map V.int)->lQ P w H s₁.heap->(∀b,H b≠none->b=a)->(H a≠none->K.lookup a=none)->
  codeAny (model P w) callerA (.call (.ref fa) ⟨[.ref a],[]⟩) (λr s'=>r=.ok (.ret (.bool true))/\OldK s₁.heap s'.heap/\s'.os=s₁.os/\AllBare s'.gens) s₁:=by
  intro H hO_ hS hok hA hK;have base_of:∀{b:Addr} {o:Obj},s₁.heap.get? b=some o->H b=none->(ww s₁.heap H).get? b=some o:=λe n=>QX e n;have noA:∀{b:Addr} {o:Obj} {es:Array DictEntry} {ep:Nat},s₁.heap.get? b=some o->o.data=.dict es ep->H b=none:=λ{b o es ep} e d=>by
   cases q:H b with
   | none=>rfl
   | some u=>
    have e':=hA b (by rw[q]; simp);subst e';rw[ha]at e; cases e;have d':=d;cases d'
  have nsK:∀{b:Addr} {m:Str->Option Value},s₁.heap.Ns b m->(ww s₁.heap H).Ns b m:=λ{b m} ⟨o,es,ep,e,d,r⟩=>⟨o,es,ep,base_of e (noA e d),d,r⟩;have hKb:=λb o e=>base_of (KX b o e) (by
   cases q:H b with
   | none=>rfl
   | some u=>
    have e':=hA b (by rw[q]; simp);subst e';rw[hK (by rw[q]; simp)]at e; cases e)
  have hM:Mod K mg (ww s₁.heap H):=⟨hKb,nsK hns,⟨mb,nsK hb,hbb⟩,let ⟨mc,h1,h2⟩:=hlim; ⟨mc,nsK h1,h2⟩⟩;have e0:Ay P w K mg (ww s₁.heap H) callerA [] s₁ H:=⟨rfl,hM,λb o e=>Us e,Nat.le_of_eq (Oz _ _),trivial,λb hb=>absurd (show b∈([]:List Addr) from hb) (by simp),hok,.of_eq hg⟩;refine codeAny_mono ((F _ hKb (nsK hns)).run callerA [] s₁ H ⟨[.ref a],[]⟩ [.ref a] [.ref a] _ _ hr e0 (hbind s₁ (.ref a)) (.cons rfl .nil) (hsp H hO_ hS)) λr s' h=>?_;cases r with
  | error e=>exact(hCX H e s' h).elim
  | ok fl=>
   cases fl with
   | next=>exact False.elim h
   | brk=>exact False.elim h
   | cont=>exact False.elim h
   | ret u=>
    obtain⟨v,H',os,bare,un,hok',r',q⟩:=h;have q':=q;subst q';obtain rfl:u=Value.bool true:=r';refine⟨rfl,OldK.of_keep λb o e=>?_,os,bare⟩;cases q:H b with
    | none=>exact un.keep b o e q (by intro z; exact absurd (show b∈([]:List Addr) from z) (by simp)) (by simp)
    | some u=>
     rcases hO_ b with z | ⟨ob,xs,z⟩
     . rw[q]at z; cases z
     . have z2:=un.frzs b ob _ z;obtain⟨e1,_⟩:=hok b _ z;obtain⟨e2,_⟩:=hok' b _ z2;rw[e]at e1; cases e1;exact e2
 cases hk:K.lookup a with
 | some o=>
  have e:=KX a o hk;rw[ha]at e;cases e;refine core (λ_=>none) (λ_=>.inl rfl) (.inr ⟨_,vs.toArray,_,hk,rfl,rfl,rfl,by rw[aaF,lenV]; exact hl,by simpa using rv⟩) (λb u z=>by have z':=z; cases z') (λb z=>absurd rfl z) λz=>absurd rfl z
 | none=>
  refine core (λb=>if b=a then some (.frz { cls:=.type "list",data:=.seq vs.toArray } (.lst (ns.map V.int))) else none) (λb=>?_) (.inl (.inr ⟨{ cls:=.type "list",data:=.seq vs.toArray },acq rfl⟩)) (λb u z=>?_) (λb z=>?_) λ_=>hk
  . by_cases hb:b=a
    . exact .inr ⟨_,_,acq hb⟩
    . exact .inl (acr hb)
  . by_cases hb:b=a
    . have z':=(acq hb).symm.trans z;cases z';subst hb;exact⟨ha,by rw[aaT]; exact hl,vs,_,rv,ha⟩
    . have z':=(acr hb).symm.trans z;cases z'
  . by_cases hb:b=a
    . exact hb
    . exact absurd (acr hb) z
theorem walk_of {l:W.OpenLaw} {K:Params->FG} {CX:World->xQ} {sp:World->Sp}
 (hn:l.most=some n) (hn2:n<=sizeLine) (hdf:d.params.defaults=[]) (hr:lL k callerA)
 (hY:∀(w:World) (h:Heap),YP w h->(K w.params).In h)
 (F:∀(w:World) (mg:Str->Option Value) (fa:Addr) (h:Heap),(K w.params).In h->h.Ns mainGlobals mg->mg d.name=some (.ref fa)->
   ∃fd:FuncData,(∀(s:Shared) (u:Value),BindsTo s fd ⟨[u],[]⟩ [(x,u)])/\
    ∀base:Heap,(K w.params).In base->base.Ns mainGlobals mg->oH l.prog w (K w.params) mg base (CX w) k fa fd [x] (sp w))
 (hsp:∀(w:World) (H:Hp) (a:Addr) (ns:List Int),ns.length<=n->Only H->cM (K w.params) H a (ns.map V.int)->sp w [.ref a] H (λv _=>v=.bl true) λ_ _ _=>False)
 (hCX:∀(w:World) (H:Hp) (s:Shared) (e:Value) (s':Shared),CX w [] H s (λ_ _ _=>False) e s'->False):
 W.WalkO q loose XP YP l.row.toRowW d [] (λf vs=>PySem.call f vs):=by
 refine Att.attach_call hn hdf λw s₀ s₁ mg mb fa o pm cd doc a vs ns G Y ho hd hcd hmg hobj hints hlen hg=>?_;have KX:=hY w _ Y;obtain⟨fd,hb,hF⟩:=F w mg fa _ KX G.T.g hmg;exact Rp KX G.T.g G.T.b G.T.builtins G.T.nolimit hg hobj hints (aaX hlen hn2) hr hF hb (λH hO_ hS=>hsp w H a ns hlen hO_ hS) λH e s'=>hCX w H s₁ e s'
def inClass (s:Stmt) (j:Nat):Stmt:=match s with
 | .ClassDef _ _ _ body _ _ _ _ _ _ _=>body.getD j (.Pass ⟨0,0,0,0⟩)
 | _=>.Pass ⟨0,0,0,0⟩
def qt (s:Stmt):Arguments:=match s with
 | .FunctionDef _ a _ _ _ _ _ _ _ _=>a
 | _=>{ posonlyargs:=[],args:=[],vararg:=none,kwonlyargs:=[],kw_defaults:=[],kwarg:=none,defaults:=[] }
def jN (s:Stmt):List Stmt:=match s with
 | .FunctionDef _ _ b _ _ _ _ _ _ _=>b
 | _=>[]
def aN (s:Stmt):Scope:=match s with
 | .FunctionDef _ _ _ _ _ _ sc _ _ _=>sc
 | _=>{ kind:=.function,names:=[],isGenerator:=false,isCoroutine:=false }
abbrev qe:xQ:=λ_ _ _ _ _ _=>False
abbrev E0:XK:=λ_ _ _=>False
theorem zU:yx qe X E0:=λ_ _ _ _ _ _ _ h=>h.elim
structure uF (K:FG) (x qual:Str) (st:Stmt) (f:Addr) (fd:FuncData):Prop where
 ex:∃(oc:Value) (od:Option Addr) (kV doc pm:Value) (an:Option Addr) (cdv ct:Value) (osl:Array (Option Value)),
  fd=W.fnOf x qual (qt st) (jN st) (aN st) .none kV doc pm an cdv ct/\K.lookup f=some ⟨oc,od,.func fd,osl⟩/\W.codeIn K cdv qual=true
 kp:W.keepIn K (.ref f)=true
section
variable {P:Program} {w:World} {K:FG} {mg:Str->Option Value} {base:Heap}
theorem uF.ok {st:Stmt} (F:uF K x qual st f fd) (S:bF N ps (aN st)) (len:∀vs H Q E,sp vs H Q E->vs.length=ps.length)
 (hbody:∀(cdv:Value) (A:Around) (outer:List Env) (s:Shared) (H:Hp) (vs:List V) (Q:VK) (E:XK),gW b k (A.deeper (envOfC qual (aN st) s.heap.objs.size f cdv))->sp vs H Q E->
   ∃t,ju (uE b qe P w K mg base N qual (aN st) f cdv A outer s H E).nox (jN st) t/\t { nx:=λ_ H'=>Q .non H',rt:=Q } (start N vs) H):sG b P w K mg base qe (k+1) f fd ps sp:=by
 obtain⟨oc,od,kV,doc,pm,an,cdv,ct,osl,rfl,lk,hcd⟩:=F.ex;refine YZ lk hcd S len λA outer s H vs Q E hr hsp=>?_;obtain⟨t,h,q⟩:=hbody cdv A outer s H vs Q E hr hsp;exact⟨t,h.nox,q⟩
theorem uF.binds {st:Stmt} (F:uF K x qual st f fd)
 (h:∀(kV doc pm:Value) (an:Option Addr) (cdv ct:Value) (us:List Value),us.length=ps.length->bindArgs (W.fnOf x qual (qt st) (jN st) (aN st) .none kV doc pm an cdv ct) ⟨us,[]⟩=pure (ps.zip us)):Binds K fd ps []:=by
 obtain⟨oc,od,kV,doc,pm,an,cdv,ct,osl,rfl,lk,hcd⟩:=F.ex;exact .all (h kV doc pm an cdv ct)
theorem yD {st:Stmt} {kV doc pm cdv ct:Value} (l:K.lookup f=some ⟨oc,od,.func (W.fnOf x qual (qt st) (jN st) (aN st) .none kV doc pm an cdv ct),osl⟩)
 (c:W.codeIn K cdv qual=true) (k:W.keepIn K (.ref f)=true):uF K x qual st f (W.fnOf x qual (qt st) (jN st) (aN st) .none kV doc pm an cdv ct):=⟨⟨oc,od,kV,doc,pm,an,cdv,ct,osl,rfl,l,c⟩,k⟩
end
section
variable {X:Cx}
theorem pv (i:Nat) (hN:X.N[i]?=some x:=by rfl) (hv:OD X.env.scope x:=by first | exact Or.inl rfl | exact Or.inr (Or.inl rfl) | exact Or.inr (Or.inr rfl)) (hd:(x==("__debug__" : Str))=false:=by decide)
 (hcd:(x==("__classdict__" : Str))=false:=by decide):PE X (.Name x pos) (wy i):=Wj hN hv hd hcd
end
def eO (H H':Hp):Prop:=∀b o,H b=some o->H' b=some o
theorem eO.refl (H:Hp):eO H H:=λ_ _ h=>h
theorem eO.trans (a:eO H H1) (b:eO H1 H2):eO H H2:=λc o h=>b c o (a c o h)
theorem eO.free (e:eO H H') (h:H' l=Option.none):H l=Option.none:=by
 cases q:H l with
 | none=>rfl
 | some o=>
  rw[e l o q]at h;cases h
theorem eO.seq {K:FG} (e:eO H H') (h:cM K H a xs):cM K H' a xs:=by
 rcases h with (h | ⟨o,h⟩) | h
 . exact .inl (.inl (e _ _ h))
 . exact .inl (.inr ⟨o,e _ _ h⟩)
 . exact .inr h
section
variable {κ:Type} [DecidableEq κ]
end
section
variable {P:Program} {w:World} {H:Hp} {h:Heap} {a:Addr}
end
section
variable {X:Cx} {aeQ:List (Addr×Obj)} {U:St} {H:Hp} {s:Shared} {a:Addr} {y v:V} {u r:Value} {o:Option V} {A:Around} {E:Value->Shared->Prop}
end
section
variable {X:Cx} {aeQ:List (Addr×Obj)} {U:St} {H:Hp} {s:Shared} {a:Addr} {kvs:List (Key×V)} {k:Key} {u:Value} {A:Around} {E:Value->Shared->Prop}
end
section
variable {X:Cx} {o i e value:Expr} {pos pos' tpos:Pos} {td ty tv:TE}
end
section
variable {X:Cx} {pos:Pos}
end
section
variable {X:Cx} {aeQ:List (Addr×Obj)} {U:St} {H:Hp} {s:Shared} {a:Addr} {y d:V} {u r:Value} {o:Option V} {A:Around} {E:Value->Shared->Prop}
end
section
variable {X:Cx} {o e f:Expr} {apos cpos:Pos} {td ty tx:TE}
end
section
variable {X:Cx} {aeQ:List (Addr×Obj)} {U:St} {H:Hp} {s:Shared} {a:Addr} {kvs:List (Key×V)} {A:Around} {E:Value->Shared->Prop}
end
section
variable {X:Cx} {aeQ:List (Addr×Obj)} {U:St} {H:Hp} {s:Shared} {a:Addr} {y:V} {u:Value} {A:Around} {E:Value->Shared->Prop}
end
section
variable {X:Cx}
end
section
variable {κ:Type} [DecidableEq κ]
end
def uG (names:List (Str×NameKind)) (env:Env):List (Str×Addr):=names.foldl (λcs p=>if (p.2==NameKind.free)=true then (p.1,(env.cells.lookup p.1).getD 0)::cs else cs) []
theorem yE {env:Env}:∀(names:List (Str×NameKind)) (cs:List (Str×Addr)) (x:Str) (c:Addr),
 (∀y d,cs.lookup y=some d->d=(env.cells.lookup y).getD 0)->
 (names.foldl (λcs p=>if (p.2==NameKind.free)=true then (p.1,(env.cells.lookup p.1).getD 0)::cs else cs) cs).lookup x=some c->c=(env.cells.lookup x).getD 0
 | [],cs,x,c,h,e=>h x c e
 | (n,k)::r,cs,x,c,h,e=>by
  simp only[abG]at e;refine yE r _ x c ?_ e;intro y d q;split at q
  . simp only[aa6]at q;split at q
    . rename_i z;have z':y=n:=by simpa using z
      rw[z']; exact(aaM q).symm
    . exact h y d q
  . exact h y d q
theorem BP {env:Env}:∀(names:List (Str×NameKind)) (cs:List (Str×Addr)) (x:Str) (c:Addr),
 (names.foldl (λcs p=>if (p.2==NameKind.free)=true then (p.1,(env.cells.lookup p.1).getD 0)::cs else cs) cs).lookup x=some c->(∃d,cs.lookup x=some d)\/(x,NameKind.free)∈names
 | [],cs,x,c,e=>.inl ⟨c,e⟩
 | (n,k)::r,cs,x,c,e=>by
  simp only[abG]at e;rcases BP r _ x c e with ⟨d,q⟩ | q
  . split at q
    . rename_i hk;simp only[aa6]at q;split at q
      . rename_i z;have z':x=n:=by simpa using z
        have k':k=NameKind.free:=by simpa using hk
        right; rw[z',k']; exact aaz
      . exact .inl ⟨d,q⟩
    . exact .inl ⟨d,q⟩
  . exact .inr (aaA _ q)
theorem yF {env:Env}:∀(names:List (Str×NameKind)) (cs:List (Str×Addr)) (x:Str),
 ((∃d,cs.lookup x=some d)\/(x,NameKind.free)∈names)->∃c,(names.foldl (λcs p=>if (p.2==NameKind.free)=true then (p.1,(env.cells.lookup p.1).getD 0)::cs else cs) cs).lookup x=some c
 | [],cs,x,h=>by
  rcases h with h | h
  . exact h
  . cases h
 | (n,k)::r,cs,x,h=>by
  simp only[abG];refine yF r _ x ?_;rcases h with ⟨d,h⟩ | h
  . left;split
    . simp only[aa6];split
      . exact⟨_,rfl⟩
      . exact⟨d,h⟩
    . exact⟨d,h⟩
  . rcases aaI.mp h with e | h
    . left;cases e;simp
    . exact .inr h
theorem rO:∀(names:List (Str×NameKind)) (cs:List (Str×Addr)),(∀p∈names,p.2=NameKind.free->∃c,env.cells.lookup p.1=some c)->
 (forIn names cs λp r=>if (p.2==NameKind.free)=true then do let a <-cellOf env p.1; pure (ForInStep.yield ((p.1,a)::r)) else pure (ForInStep.yield r):Sem (List (Str×Addr)))=
  pure (names.foldl (λcs p=>if (p.2==NameKind.free)=true then (p.1,(env.cells.lookup p.1).getD 0)::cs else cs) cs)
 | [],cs,_=>by simp
 | (n,k)::r,cs,h=>by
  rw[acn,abG];by_cases hk:(k==NameKind.free)=true
  . obtain⟨c,hc⟩:=h (n,k) aaz (by simpa using hk);have hc':=hc;simp only[hk,cellOf,hc'];exact rO r _ λp hp=>h p (aaA _ hp)
  . simp only[hk];exact rO r _ λp hp=>h p (aaA _ hp)
theorem xT (h:∀p∈sc.names,p.2=NameKind.free->∃c,env.cells.lookup p.1=some c):closureFor sc env=pure (uG sc.names env):=by have:=rO sc.names [] h;unfold closureFor uG;rw[<-this];simp only[bind_pure]
theorem qu {env:Env}:∀(names:List (Str×NameKind)) (x:Str),
 (names.map λ(n,k)=>if (k==NameKind.free&&env.scope.kind==.function&&env.kindOf n==some .cell) then (n,NameKind.cell) else (n,k)).lookup x=
  (names.lookup x).map λk=>if (k==NameKind.free&&env.scope.kind==.function&&env.kindOf x==some .cell) then NameKind.cell else k
 | [],x=>rfl
 | (n,k)::r,x=>by
  have ih:=qu (env:=env) r x;simp only[aaV];by_cases hx:x=n
  . split<;>simp_all
  . have hb:=acw.mpr hx;split<;>simp only[aa6,hb,ih]
theorem j5:∀(names:List (Str×NameKind)) (n:Nat) (acc:List (Str×Addr)),(cellsFrom n names acc).lookup x=some a->n<=a\/acc.lookup x=some a
 | [],_,_,h=>.inr h
 | (y,k)::r,n,acc,h=>by
  unfold cellsFrom at h;split at h
  . rcases j5 r _ _ h with q | q
    . exact .inl (abK q)
    . rw[aa6]at q;split at q
      . cases q; exact .inl (aaE _)
      . exact .inr q
  . exact j5 r _ _ h
theorem yG:∀(names:List (Str×NameKind)) (n:Nat) (acc:List (Str×Addr)),(∀z b,acc.lookup z=some b->b<n)->(cellsFrom n names acc).lookup x=some a->(cellsFrom n names acc).lookup y=some a->n<=a->x=y
 | [],_,_,h,h1,h2,h3=>absurd (h _ _ h1) (Nat.not_lt.mpr h3)
 | (z,k)::r,n,acc,h,h1,h2,h3=>by
  unfold cellsFrom at h1 h2;split at h1
  . rename_i hk;rw[acq hk]at h2;have one:∀{w:Str},(cellsFrom (n+1) r ((z,n)::acc)).lookup w=some a->a=n->w=z:=λ{w} e e'=>by
     rcases j5 r _ _ e with q | q
     . exact absurd q (by rw[e']; exact Nat.not_succ_le_self n)
     . rw[aa6]at q;split at q
       . rename_i hw; exact beq_iff_eq.mp hw
       . exact absurd (h _ _ q) (by rw[e']; exact abA _)
    by_cases e:a=n
    . exact(one h1 e).trans (one h2 e).symm
    . refine yG r (n+1) _ (λw b q=>?_) h1 h2 (Nat.lt_of_le_of_ne h3 (Ne.symm e));rw[aa6]at q;split at q
      . cases q; exact abl _
      . exact abL (h _ _ q)
  . rename_i hk;rw[acr hk]at h2;exact yG r n acc h h1 h2 h3
theorem yH:∀(names:List (Str×NameKind)) (n:Nat) (acc:List (Str×Addr)),names.lookup x=some .cell->(cellsFrom n names acc).lookup x=some a->n<=a
 | [],_,_,h,_=>by cases h
 | (y,k)::r,n,acc,h,h1=>by
  rw[aa6]at h;unfold cellsFrom at h1;split at h
  . rename_i hy;cases h;rcases j5 r _ _ h1 with q | q
    . exact abK q
    . rw[aa6,hy]at q; cases q; exact aaE _
  . split at h1
    . exact abK (yH r _ _ h h1)
    . exact yH r _ _ h h1
theorem yI:∀(names:List (Str×NameKind)) (n:Nat) (acc:List (Str×Addr)),(∀p∈names,p.2=.cell->p.1≠x)->(cellsFrom n names acc).lookup x=acc.lookup x
 | [],_,_,_=>rfl
 | (y,k)::r,n,acc,h=>by
  unfold cellsFrom;split
  . rename_i hk;rw[yI r _ _ λp hp=>h p (aaA _ hp),aa6,show (x==y)=false from acw.mpr λe=>h _ aaz (by simpa using hk) e.symm]
  . exact yI r _ _ λp hp=>h p (aaA _ hp)
theorem wC:∀(names:List (Str×NameKind)) (h:Heap) (acc:List (Str×Addr)) (x:Str) (a:Addr),(cellsFrom h.objs.size names acc).lookup x=some a->h.objs.size<=a->(∀z b,acc.lookup z=some b->b<h.objs.size)->(pushCells h names).IsCell a none
 | [],h,acc,x,a,e,hl,hb=>absurd (hb _ _ e) (Nat.not_lt.mpr hl)
 | (y,k)::r,h,acc,x,a,e,hl,hb=>by
  unfold cellsFrom at e;unfold pushCells;split at e
  . rename_i hk;rw[acq hk];have hz:=abC h ({ cls:=.type "cell",data:=.cell none }:Obj);by_cases q:a=h.objs.size
    . subst q;exact⟨_,pushCells_keeps r _ _ _ (aaL _ rfl),rfl⟩
    . refine wC r _ ((y,h.objs.size)::acc) x a (by rw[hz]; exact e) (by rw[hz]; exact Nat.lt_of_le_of_ne hl (Ne.symm q)) λz b q'=>?_;rw[hz];rw[aa6]at q';split at q'
      . cases q'; exact abl _
      . exact abL (hb _ _ q')
  . rename_i hk;rw[acr hk];exact wC r h acc x a e hl hb
abbrev oJ (sc:Scope) (C:Addr) (env:Env):List (Str×Addr):=cellsFrom (C+1) sc.names (uG sc.names env)
structure jU (X:Cx) (M F:List Str) (ixs:List Nat) (sc:Scope):Prop where
 kind:sc.kind=.function
 locs:∀y∈sc.names,y.2=.local->sc.names.lookup y.1=some .local
 cel:∀y∈sc.names,y.2=.cell->sc.names.lookup y.1=some .cell
 own:∀p∈sc.names,p.2=.free->X.env.scope.names.lookup p.1=some .cell\/X.env.scope.names.lookup p.1=some .free
 frs:∀x∈F,sc.names.lookup x=some .free
 ixl:ixs.length=F.length
 ixn:∀(j i:Nat),ixs[j]?=some i->X.N[i]?=F[j]?
abbrev yJ (m:Nat) (ixs:List Nat) (U:St):St:=List.replicate m none++ixs.map λi=>(U[i]?).join
def gq (X:Cx) (M F:List Str) (sc:Scope) (C:Addr) (fp:List Addr) (s:Shared) (H:Hp):Cx where
 prog:=X.prog
 w:=X.w
 K:=X.K
 mg:=X.mg
 base:=X.base
 A:=X.A
 N:=M++F
 s₀:=s
 H0:=H
 env:=compEnvC sc (oJ sc C X.env) C X.env
 outer:=X.stack
 stack:=X.stack
 ex:=fp
 fn:=λx=>sc.names.lookup x==some .cell
 calm:=X.calm
 pn:=[]
 xe:=λ_ _=>False
section
variable {X:Cx} {aeQ:List (Addr×Obj)} {U:St} {H:Hp} {s:Shared}
theorem jU.free_of (c:jU X M F ixs sc) (h:sc.names.lookup x=some k):(x,k)∈sc.names:=by
 generalize sc.names=l at h;induction l with
 | nil=>cases h
 | cons p r ih=>
  rw[aa6]at h;split at h
  . rename_i z;have z':x=p.1:=by simpa using z
    have e:=aaM h;subst e;rw[z'];exact aaz
  . exact aaA _ (ih h)
theorem Ba (I:Inv X aeQ U H s) (c:jU X M F ixs sc):∀p∈sc.names,p.2=NameKind.free->∃a,X.env.cells.lookup p.1=some a:=λp hp e=>
 I.ok.has p.1 (by rcases c.own p hp e with h | h; exact .inl h; exact .inr h)
theorem ji (I:Inv X aeQ U H s) (c:jU X M F ixs sc) (h:(uG sc.names X.env).lookup x=some a):X.env.cells.lookup x=some a:=by
 have e:=yE sc.names [] x a (λy d q=>by cases q) h;rcases BP sc.names [] x a h with ⟨d,q⟩ | q
 . cases q
 . obtain⟨b,hb⟩:=Ba I c _ q rfl;have hb':=hb;rw[hb',acj]at e;rw[hb',e]
theorem Pj (I:Inv X aeQ U H s) (c:jU X M F ixs sc) (h:(uG sc.names X.env).lookup x=some a):a<s.heap.objs.size:=by obtain⟨v,o,ho,_⟩:=I.cell x a (ji I c h);exact aaJ ho
theorem U8 (I:Inv X aeQ U H s) (c:jU X M F ixs sc) (hC:s.heap.objs.size<=C) (hf:∀b∈fp,qp X aeQ H b) (ho:∀b∈fp,∃o,s.heap.get? b=some o):(gq X M F sc C fp s H).Ok where
 mod:=I.ok.mod
 kind:=c.kind
 glob:=I.ok.glob
 blt:=I.ok.blt
 above:=hC
 inj:=λx y a e1 e2=>by
  have e1':=e1;have e2':=e2;have lt:∀z b,(uG sc.names X.env).lookup z=some b->b<C+1:=λz b q=>abL (aaG (Pj I c q) hC);rcases j5 _ _ _ e1' with q | q
  . exact yG _ _ _ lt e1' e2' q
  . rcases j5 _ _ _ e2' with q' | q'
    . exact absurd (lt _ _ q) (Nat.not_lt.mpr q')
    . exact I.ok.inj x y a (ji I c q) (ji I c q')
 has:=λx h=>by
  have h':((sc.names.lookup x).map λk=>if (k==NameKind.free&&X.env.scope.kind==.function&&X.env.kindOf x==some .cell) then NameKind.cell else k)=some .cell\/((sc.names.lookup x).map λk=>if (k==NameKind.free&&X.env.scope.kind==.function&&X.env.kindOf x==some .cell) then NameKind.cell else k)=some .free:=by rw[<-qu]; exact h
  refine ab0.mp (aci _ _ _ ?_);cases e:sc.names.lookup x with
  | none=>rw[e]at h'; rcases h' with h' | h'<;>cases h'
  | some k=>
   rw[e]at h';have m:=c.free_of e;cases k with
   | free=>exact .inr (ab0.mpr (yF sc.names [] x (.inr m)))
   | cell=>exact .inl rfl
   | _=>rcases h' with h' | h'<;>simp at h'
 cab:=λx a h e=>aaX hC (abK (yH _ _ _ (beq_iff_eq.mp h) e))
 hd:=I.ok.hd
 frames:=I.ok.frames
 stk:=.inl rfl
 exf:=λb hb=>⟨by
  obtain⟨o,e⟩:=ho b hb;exact aa3 (aaG (aaJ e) hC),λx a e=>by
  obtain⟨o,eo⟩:=ho b hb;rcases j5 _ _ _ (e) with q | q
  . exact abp (aaG (aaJ eo) (aaX hC (abK q)))
  . exact(hf b hb).2.2.2.2.1 x a (ji I c q)⟩
 bs:=I.bs
 bsz:=aaX I.ok.bsz I.sz
 noex:=λb o e hb=>by
  obtain⟨_,_,_,h,_⟩:=hf b hb;rcases h with h | h
  . exact I.ok.noex b o e h
  . exact absurd (aaG (aaJ (I.ok.bs b o e).1) h) (abA _)
 exfs:=λb hb z=>by
  obtain⟨_,h1,h2,_⟩:=hf b hb;rcases aaI.mp (I.stkSub b z) with z | z
  . exact h1 z
  . exact h2 z
 funs:=I.stack
 frf:=I.stkFree
theorem Rq (I:Inv X aeQ U H s) (c:jU X M F ixs sc) (hf:∀b∈fp,qp X aeQ H b) (ho:∀b∈fp,∃o,s.heap.get? b=some o)
 (hC:C=s.heap.objs.size+1) (hns:h₁.Ns C m1) (old:∀b o,s.heap.get? b=some o->h₁.get? b=some o)
 (hD:h₁.get? s.heap.objs.size=some { cls:=.type "list",data:=.seq #[] 0 }) (hce:∀x a,(oJ sc C X.env).lookup x=some a->C+1<=a->h₁.IsCell a none):
 Inv (gq X M F sc C fp s H) [] (yJ M.length ixs U) (upd H s.heap.objs.size (.lst [])) { s with heap:=h₁,toks:=tk }:=by
 have hDn:=I.hok.fresh (aaE _);have hCle:s.heap.objs.size<=C:=by rw[hC]; exact abY _
 have hCn:=I.hok.fresh hCle;have hok:=U8 I c hCle hf ho;refine⟨hok,rfl,I.bare,Un.laid old (aaE _) hDn,⟨m1,hns,?_⟩,?_,?_,?_,?_,?_,?_⟩
 . intro i x v e1 e2 hv;have e1':(M++F)[i]?=some x:=e1;by_cases hi:i<M.length
   . rw[abr (by simpa using hi)]at e2;simp[hi]at e2
   . rw[aaW (by omega)]at e1';rw[aaW (by simpa using ab3 hi)]at e2;simp only[List.length_replicate,aa2]at e2;cases q:ixs[i-M.length]? with
     | none=>rw[q]at e2; cases e2
     | some i'=>
      rw[q]at e2;have e2':(U[i']?).join=some v:=by simpa using e2
      have e3:U[i']?=some (some v):=by
       cases z:U[i']? with
       | none=>rw[z]at e2'; cases e2'
       | some y=>rw[z]at e2'; simp at e2'; rw[e2']
      have xF:=abf e1';have hlk:=c.frs x xF;have hm:=c.free_of hlk;have hX:=c.own _ hm rfl;have hN:X.N[i']?=some x:=by rw[c.ixn _ _ q]; exact e1'
      obtain⟨m,hn,hl⟩:=I.loc;have vis:OD X.env.scope x:=by
       rcases hX with h | h
       . exact .inr (.inl h)
       . exact .inr (.inr h)
      obtain⟨u,r,l⟩:=hl i' x v hN e3 vis;refine⟨u,r,.inr ⟨?_,?_⟩⟩
      . show (Env.kindOf (compEnvC sc (oJ sc C X.env) C X.env) x=_)\/(Env.kindOf (compEnvC sc (oJ sc C X.env) C X.env) x=_);have:Env.kindOf (compEnvC sc (oJ sc C X.env) C X.env) x=(sc.names.lookup x).map λk=>if (k==NameKind.free&&X.env.scope.kind==.function&&X.env.kindOf x==some .cell) then NameKind.cell else k:=qu sc.names x
        rw[this,hlk];simp only[abR];split
        . exact .inl rfl
        . exact .inr rfl
      . rcases l with ⟨hk,_⟩ | ⟨_,cc,hcc,hcell⟩
        . rcases hX with h | h
          . have hk':X.env.scope.names.lookup x=some .local:=hk;have h':=h;rw[h']at hk'; cases hk'
          . have hk':X.env.scope.names.lookup x=some .local:=hk;have h':=h;rw[h']at hk'; cases hk'
        . obtain⟨a,ha⟩:=yF sc.names [] x (.inr hm);have ha':=ji I c ha;rw[hcc]at ha'; cases ha';obtain⟨oc,hoc,hd⟩:=hcell;exact⟨cc,(yI _ _ _ λp hp e z=>by have:=c.cel p hp e; rw[z,hlk]at this; cases this).trans ha,oc,old _ _ hoc,hd⟩
 . intro x a e;have e':=e;rcases j5 _ _ _ e' with q | q
   . exact⟨none,hce x a e' q⟩
   . obtain⟨v,oc,hoc,hd⟩:=I.cell x a (ji I c q);exact⟨v,oc,old _ _ hoc,hd⟩
 . rw[dh (by rw[hC]; exact Nat.succ_ne_self _)]; exact hCn
 . intro x a e;rcases j5 _ _ _ (e) with q | q
   . have q':=Nat.lt_of_le_of_lt hCle q;rw[dh (abp q')];exact I.hok.fresh (abZ q')
   . obtain⟨v,oc,hoc,hd⟩:=I.cell x a (ji I c q);rw[dh (aa3 (aaJ hoc))];exact I.freeC x a (ji I c q)
 . intro p hp; cases hp
 . exact I.hok.laid old (aaE _) ⟨abO _,[],0,.nil,hD⟩
 . show (List.replicate M.length none++_).length=(M++F).length;simp[c.ixl]
def yK (X:Cx) (ifs:List Expr) (t:TT):Prop:=
 ∀(aeQ:List (Addr×Obj)) (s:Shared) (U:St) (H:Hp) (Q:Bool->Hp->Prop),Inv X aeQ U H s->t U H Q->
  wpAny (model X.prog X.w) X.A (forIn ifs true λc r=>if r=true then do let ok <-isTrue c X.env (eval c X.env); pure (ForInStep.yield ok) else pure (ForInStep.yield r)) (TP X aeQ U Q) X.xe s
theorem Rr:yK X [] (λ_ H Q=>Q true H):=λ_ s U H Q I h=>wpAny_tests_nil ⟨H,I,h⟩
def NB (wi:TI) (m:Nat) (ixs:List Nat) (g:TG) (tc:TT) (te:TE):TE:=λU H Q=>wi U H λJ H1=>∀p,H1 p=none->
 ∃W:Nat->Nat->St->Hp->Prop,(∃n,W 0 n (yJ m ixs U) (upd H1 p (.lst [])))/\∀i n U' H',W i n U' H'->
  ((J.stop i H'/\Q (.ref p) H')\/(J.go i H'/\∀x H2,J.yld i H' x H2->g x U' H2 λU3 H3=>tc U3 H3 λb H4=>
    if b=true then te U3 H4 λv H5=>∃ys,H5 p=some (.lst ys)/\ys.length<sizeLine/\∃n',n'<n/\W (i+1) n' U3 (upd H5 p (.lst (ys++[v])))
    else ∃n',n'<n/\W (i+1) n' U3 H4))
def CI (X:Cx) (fp:List Addr) (tn:Nat->Heap->Prop) (W:Nat->Nat->St->Hp->Prop) (n:Nat) (s:Shared):Prop:=∃i U H,Inv X [] U H s/\tn i s.heap/\(∀b∈fp,H b=none)/\W i n U H
theorem HR {P:Prop} (h:∀G:Prop,(P->G)->G):P:=h P id
theorem Pk {F:Hp->Prop} (hcalm:X.calm=true) (T:Turn X.prog X.w X.K tg J fp it tn) (hg:PG X tg g) (hc:yK X ifs tc) (he:PE X elt te) (hx:∀u s,X.xe u s->False)
 (stat:∀{H':Hp},(∀b∈fp,H' b=none)->∀b∈fp,qp X [] H' b)
 (turn:∀i n U' H',W i n U' H'->((J.stop i H'/\F H')\/(J.go i H'/\∀x H2,J.yld i H' x H2->g x U' H2 λU3 H3=>tc U3 H3 λb H4=>
   if b=true then te U3 H4 λv H5=>∃ys,H5 D=some (.lst ys)/\ys.length<sizeLine/\∃n',n'<n/\W (i+1) n' U3 (upd H5 D (.lst (ys++[v])))
   else ∃n',n'<n/\W (i+1) n' U3 H4)))
 {R:Result->Shared->Prop} (hR:∀U' H' s',Inv X [] U' H' s'->F H'->R (.ok .next) s') (n:Nat) (s':Shared) (hI:CI X fp tn W n s'):
 wpAny (model X.prog X.w) X.A (compTurn (.ListComp elt [⟨tg,iter,ifs,0⟩] sc pos) 0 (.ref it) (.ref D) X.env)
  (λfin s'=>match fin with | .done f=>R (.ok f) s' | .again c'=>c'=.compLoop (.ListComp elt [⟨tg,iter,ifs,0⟩] sc pos) 0 (.ref it) (.ref D) X.env/\∃m,m<n/\CI X fp tn W m s') (λ_ _=>False) s':=by
 refine HR λG kG=>?_;obtain⟨i,U',H',I',st',fr',w'⟩:=hI;rcases turn i n U' H' w' with ⟨stop,qn⟩ | ⟨go,step⟩
 . refine kG (acp (wpAny_standAt (acp (wpAny_mono (T.done X rfl rfl rfl hcalm i [] s' U' H' (λ_ _=>False) I' (stat fr') st' stop) (λr s4 h4=>?_) λ_ _ f=>f))));obtain⟨hr,I4⟩:=h4;subst hr;exact acs (hR U' H' _ I4 qn)
 . refine kG (acp (wpAny_standAt (acp (wpAny_mono (T.item X rfl rfl rfl hcalm i [] s' U' H' (λ_ _=>False) I' (stat fr') st' go) (λr s4 h4=>?_) λ_ _ f=>f))));obtain⟨u,hr,h4⟩:=h4;subst hr;refine acp (wpAny_mono h4 (λ_ s5 h5=>?_) λ_ _ f=>f);refine HR λG kG=>?_;obtain⟨x,H5,I5,r5,y5,st5,fr5⟩:=h5;have again:∀{s7:Shared} {U7:St} {H7:Hp} {n':Nat},Inv X ([]++yu fp s5.heap) U7 H7 s7->W (i+1) n' U7 H7->CI X fp tn W n' s7:=λ{s7 U7 H7 n'} I7 w7=>by
    have pn:∀b∈fp,∀o,s5.heap.get? b=some o->s7.heap.get? b=some o/\H7 b=none:=λb hb o e=>by have:=I7.pin (b,o) (aa8 _ (aa8 _ (wA hb e)));exact⟨this.1,this.2.1⟩
    refine⟨i+1,U7,H7,I7.unpinned,T.keep _ _ _ st5 λb hb o e=>(pn b hb o e).1,λb hb=>?_,w7⟩;obtain⟨o,e,d⟩:=T.obj _ _ st5 b hb;exact(pn b hb o e).2
   refine kG (acp (wpAny_mono (hg _ s5 U' H5 x u _ (I5.pinned (stat fr5) (T.obj _ _ st5)) r5 (step x H5 y5)) (λ_ s6 h6=>?_) hx));refine HR λG kG=>?_;obtain⟨U6,H6,I6,q6⟩:=h6;refine kG (acp (wpAny_mono (hc _ s6 U6 H6 _ I6 q6) (λok s7 h7=>?_) hx));refine HR λG kG=>?_;obtain⟨H7,I7,q7⟩:=h7;cases ok with
   | false=>
    obtain⟨n',hn',w7⟩:=q7;exact kG (acs ⟨rfl,n',hn',again I7 w7⟩)
   | true=>
    refine kG (acp (acp (wpAny_mono (he _ s7 U6 H7 _ I7 q7) (λv s8 h8=>?_) hx)));refine HR λG kG=>?_;obtain⟨y,H8,I8,r8,ys,hp8,hz,n',hn',w8⟩:=h8;refine kG (acp (wpAny_mono (iI _ s8 U6 H8 (.ref D) [y] (.ref D) [v] (λ_ H9=>W (i+1) n' U6 H9) I8 rfl (.cons r8 .nil) ⟨_,ys,y,rfl,rfl,hp8,hz,w8⟩) (λ_ s9 h9=>?_) hx));obtain⟨_,H9,I9,_,w9⟩:=h9;exact acs (acs ⟨rfl,n',hn',again I9 w9⟩)
theorem U9
 (h:Q (newEnv sc s.heap.objs.size gl (cellsFrom (s.heap.objs.size+1) sc.names clo) qual none .none (some env) builtinsNs) { s with heap:=pushCells (s.heap.push { cls:=.type "dict",data:=.dict #[] }) sc.names }):
 wpAny Md A (newFunctionEnv sc gl clo [] qual none .none (some env)) Q E s:=by
 simp only[newFunctionEnv,Option.isSome_some,if_true];refine acp (wpAny_alloc ?_);refine acp (wpAny_layCells _ (λname kind cells=>by cases hkc:kind==NameKind.cell<;>simp[hkc]) _ _ _ _ ?_);rw[show ({ s with heap:=s.heap.push { cls:=.type "dict",data:=.dict #[] } }:Shared).heap.objs.size=s.heap.objs.size+1 from abC ..];exact acp (acs (acs h))
theorem BR (hcalm:X.calm=true) (c:jU X M F ixs sc)
 (hg:∀C fp s H,PG (gq X M F sc C fp s H) tg g) (hc:∀C fp s H,yK (gq X M F sc C fp s H) ifs tc) (he:∀C fp s H,PE (gq X M F sc C fp s H) elt te)
 {Q:VK} (I:Inv X aeQ U H s) (T:Turn X.prog X.w X.K tg J fp it tn) (st:tn 0 s.heap) (hf:∀b∈fp,qp X aeQ H b)
 (h:∀p,H p=none->∃W:Nat->Nat->St->Hp->Prop,(∃n,W 0 n (yJ M.length ixs U) (upd H p (.lst [])))/\∀i n U' H',W i n U' H'->
   ((J.stop i H'/\Q (.ref p) H')\/(J.go i H'/\∀x H2,J.yld i H' x H2->g x U' H2 λU3 H3=>tc U3 H3 λb H4=>
     if b=true then te U3 H4 λv H5=>∃ys,H5 p=some (.lst ys)/\ys.length<sizeLine/\∃n',n'<n/\W (i+1) n' U3 (upd H5 p (.lst (ys++[v])))
     else ∃n',n'<n/\W (i+1) n' U3 H4)))
 {RR:Value->Addr->Result->Shared->Prop}
 (hR:∀D C s' H' m,s.heap.get? D=none->s.heap.get? C=none->s.heap.objs.size<=C->H D=none->D≠C->H' C=none->s'.heap.Ns C m->s'.os=s.os->AllBare s'.gens->Un (frs X.stack) fp H H' s.heap s'.heap->lQ X.prog X.w H' s'.heap->Q (.ref D) H'->RR (.ref D) C (.ok .next) s'):
 wpAny (model X.prog X.w) X.A (newList []) (λacc s₃=>wpAny (model X.prog X.w) X.A (newFunctionEnv sc X.env.globals (uG sc.names X.env) [] X.env.qual none .none (some X.env)) (λcenv s₄=>
  codeAny (model X.prog X.w) X.A (.compStart (.ListComp elt [⟨tg,iter,ifs,0⟩] sc pos) 0 (.ref it) acc { cenv with scope:=relabel sc X.env }) (RR acc cenv.locals) s₄) E s₃) E s:=by
 refine wpAny_newObj_type (U9 ?_);generalize hH2:s.heap.push { cls:=.type "list",dict:=none,data:=.seq ([]:List Value).toArray }=H2;generalize hh1:pushCells (H2.push { cls:=.type "dict",data:=.dict #[] }) sc.names=h₁;have kp:∀b o,H2.get? b=some o->h₁.get? b=some o:=λb o e=>by rw[<-hh1]; exact pushCells_keeps _ _ _ _ (aaB _ e)
 have hns₁:h₁.Ns H2.objs.size (λ_=>none):=by rw[<-hh1]; exact(Heap.Ns.new H2 (.type "dict")).keeps (pushCells_keeps _ _)
 have hC:H2.objs.size=s.heap.objs.size+1:=by rw[<-hH2,abC]
 have hDC:s.heap.objs.size≠H2.objs.size:=by rw[hC]; exact aa3 (abl _)
 have below:∀b,b<s.heap.objs.size->b≠H2.objs.size:=λb hb=>by rw[hC]; exact aa3 (abL hb)
 have old:=λb o e=>kp b o (hH2▸aaB _ e);have hD:=kp _ _ (hH2▸aaL _ rfl);have fresh:∀a,s.heap.objs.size<=a->s.heap.get? a=none:=λa ha=>by
  cases e:s.heap.get? a with
  | none=>rfl
  | some o'=>exact absurd (aaJ e) (Nat.not_lt.mpr ha)
 have hDn:=I.hok.fresh (aaE _);have hfo:∀b∈fp,∃o,s.heap.get? b=some o:=λb hb=>let ⟨o,e,_⟩:=T.obj 0 _ st b hb; ⟨o,e⟩;have hz2:(H2.push { cls:=.type "dict",data:=.dict #[] }).objs.size=H2.objs.size+1:=abC ..;have hce:∀x a,(oJ sc H2.objs.size X.env).lookup x=some a->H2.objs.size+1<=a->h₁.IsCell a none:=λx a e q=>by rw[<-hh1];exact wC _ _ (uG sc.names X.env) x a (by rw[hz2]; exact e) (by rw[hz2]; exact q) λz b q'=>by rw[hz2,hC]; exact abL (abL (Pj I c q'))
 have I0:=Rq I c hf hfo (tk:=s.toks) hC hns₁ old hD hce;obtain⟨W,⟨n0,w0⟩,turn⟩:=h _ hDn;have nf:∀b∈fp,b≠s.heap.objs.size:=λb hb=>by obtain⟨o,e⟩:=hfo b hb; exact aa3 (aaJ e)
 have stat:∀{H':Hp},(∀b∈fp,H' b=none)->∀b∈fp,qp (gq X M F sc H2.objs.size fp s H) [] H' b:=λ{H'} hn b hb=>by
  obtain⟨f0,f1,f2,f3,f4,f5⟩:=hf b hb;obtain⟨o,e⟩:=hfo b hb;refine⟨hn b hb,below b (aaJ e),λz=>?_,.inl hb,λx a e'=>by
   rcases j5 _ _ _ (e') with q | q
   . exact abp (aaG (aaJ e) (aaX (by rw[hC]; exact abY _) (abK q)))
   . exact f4 x a (ji I c q),λp hp=>by cases hp⟩
  rcases aaI.mp (I.stkSub b z) with z | z
  . exact f1 z
  . exact f2 z
 have st1:=T.keep 0 _ _ st λb hb o e=>old b o e;have loop:codeAny (model X.prog X.w) X.A (.compLoop (.ListComp elt [⟨tg,iter,ifs,0⟩] sc pos) 0 (.ref it) (.ref s.heap.objs.size) (compEnvC sc (oJ sc H2.objs.size X.env) H2.objs.size X.env))
  (RR (.ref s.heap.objs.size) H2.objs.size) { s with heap:=h₁ }:=by
  refine codeAny_loop rfl (CI (gq X M F sc H2.objs.size fp s H) fp tn W) (λn s' hI=>?_) n0 ⟨0,_,_,I0,st1,λb hb=>by rw[dh (nf b hb)]; exact(hf b hb).1,w0⟩;refine wpAny_noted (wpAny_mono (Pk (X:=gq X M F sc H2.objs.size fp s H) hcalm T (hg _ fp s H) (hc _ fp s H) (he _ fp s H) (λ_ _ f=>f) stat turn (λU' H' s4 I4 qn=>?_) n s' hI) (λ_ _ h=>h) λ_ _ f=>f.elim);obtain⟨m4,hn4,_⟩:=I4.loc;exact hR _ _ _ H' m4 (fresh _ (aaE _)) (fresh _ (by rw[hC]; exact abY _)) (by rw[hC]; exact abY _) hDn hDC I4.free hn4 I4.os I4.bare I4.base I4.hok qn
 exact codeAny_compStart_list loop (T.self _ 0 _ _ _ st1 loop)
end
section
variable {X:Cx}
theorem Lh (I:Inv X aeQ U H s) (hC:s.heap.get? C=none) (I':Inv X aeQ U' H' s') (hn:H' C=none) {m:Str->Option Value} (hs:Heap.SameBut C s'.heap h')
 (hsz:s.heap.objs.size<=C):Inv X aeQ U' H' { s' with heap:=h' }:=by
 have ne:∀a o,s.heap.get? a=some o->C≠a:=λa o e z=>by rw[z,e]at hC; cases hC
 refine I'.turned (λb o hb e=>(hs.2 b hb).trans e) hn ?_ (.inr (aaX I.sz hsz)) (λx c e=>?_) (λp hp=>?_)
 . exact abp (aaG I.lt hsz)
 . obtain⟨v,o,ho,_⟩:=I.cell x c e;exact Ne.symm (ne _ _ ho)
 . exact Ne.symm (ne _ _ (I.pin p hp).1)
theorem Va (M F:List Str) (ixs:List Nat) (hcalm:X.calm=true) (c:jU X M F ixs sc) (hi:PI X tg iter wi)
 (hg:∀C fp s H,PG (gq X M F sc C fp s H) tg g) (hc:∀C fp s H,yK (gq X M F sc C fp s H) ifs tc) (he:∀C fp s H,PE (gq X M F sc C fp s H) elt te)
 (hs:∀x,foldedSetIterable iter X.env x=pure x:=by intro _; rfl):PE X (.ListComp elt [⟨tg,iter,ifs,0⟩] sc pos) (NB wi M.length ixs g tc te):=by
 intro aeQ s U H Q I h;refine wpAny_comprehension_free rfl hs (xT (Ba I c)) c.kind c.locs (cL (hi aeQ s U H _ I h) λv s1 h1=>cL h1 λitv s2 h2=>?_);obtain⟨it,fp,tn,J,H2,e,I2,T,st2,f2,q⟩:=h2;subst e;refine BR hcalm c hg hc he I2 T st2 f2 q ?_;intro D C s' H' m hD hC hsz hDn hDC hCn hns hos hbare hun hok q';have I3:=I2.call' hos hun hok hbare λb hb=>by obtain⟨_,g1,g2,g3,g4,g5⟩:=f2 b hb;exact⟨g3,g1,g4,g5⟩
 exact⟨m,hns,λh' hs'=>⟨.ref D,H',Lh (m:=m) I2 hC I3 hCn hs' hsz,rfl,q'⟩⟩
theorem Vb (M F:List Str) (ixs:List Nat) (hN:X.N.Nodup) (hix:X.N[i]?=some x) (hx:X.env.scope.names.lookup x=some .local)
 (hcalm:X.calm=true) (c:jU X M F ixs sc) (hi:PI X tg iter wi)
 (hg:∀C fp s H,PG (gq X M F sc C fp s H) tg g) (hc:∀C fp s H,yK (gq X M F sc C fp s H) ifs tc) (he:∀C fp s H,PE (gq X M F sc C fp s H) elt te)
 (hsw:swapsWith (.ListComp elt [⟨tg,iter,ifs,0⟩] sc pos) (some (.Name x pos')) pos2.line X.env=pure true:=by rfl)
 (hs:∀x,foldedSetIterable iter X.env x=pure x:=by intro _; rfl):PS X (.Assign [.Name x pos'] (.ListComp elt [⟨tg,iter,ifs,0⟩] sc pos) pos2) (λD U H=>NB wi M.length ixs g tc te U H λv H1=>D.nx (U.set i (some v)) H1):=by
 intro aeQ s U H D I h;rw[exec_Assign_Name_used _ _ _ _ hsw];refine acp (wpAny_standAt (acp ?_));refine acp (wpAny_mono (wpAny_comprehension_free (use:=some (assign (.Name x pos') X.env)) (Q:=λ_ s'=>SP X aeQ D .next s') rfl hs (xT (Ba I c)) c.kind c.locs
  (cL (hi aeQ s U H _ I h) λv s1 h1=>cL h1 λitv s2 h2=>?_)) (λ_ s' hq=>acs (acs hq)) λ_ _ e=>e)
 obtain⟨it,fp,tn,J,H2,e,I2,T,st2,f2,q⟩:=h2;subst e;refine BR (Q:=λv H1=>D.nx (U.set i (some v)) H1) hcalm c hg hc he I2 T st2 f2 q ?_;intro D' C s' H' m hD hC hsz hDn hDC hCn hns hos hbare hun hok q';have I3:=I2.call' hos hun hok hbare λb hb=>by obtain⟨_,g1,g2,g3,g4,g5⟩:=f2 b hb;exact⟨g3,g1,g4,g5⟩
 have hLC:=abp (aaG I2.lt hsz);refine wpAny_assign_Name (Ff (v:=.ref D') I3 hN hix (.inl hx) rfl (λs'' I4 ⟨a,hsb,ha⟩=>?_) (.inr hx));have hCa:C≠a:=by
  rcases ha with ha | ha
  . rw[ha]; exact hLC
  . obtain⟨v,o,ho,_⟩:=I2.cell x a ha;intro z; rw[z,ho]at hC; cases hC
 exact⟨m,hns.sameBut hsb hCa,λh' hs'=>⟨_,H',Lh (m:=m) I2 hC I4 hCn hs' hsz,q'⟩⟩
end
theorem HS (l:Addr) (items:Array Value) (n:Nat) (b:Addr) (items2:Array Value) (n2:Nat) (dd2:Option Addr) (sl2:Array (Option Value)) (hc0:¬(!items.isEmpty&&Builtin.List.listTooLong (items.size+items2.size))=true) (hc1:items.size<=sizeLine) (hs2:items.size+items2.size<=sizeLine+1):
 Meets (Builtin.«list.extend» ⟨[.ref l,.ref b],[]⟩) (λ_ R s=>s.heap.get? l=some { cls:=.type "list",dict:=none,data:=.seq items n,slots:=#[] }/\s.heap.get? b=some { cls:=.type "list",dict:=dd2,data:=.seq items2 n2,slots:=sl2 }/\R (.ok (.ret Value.none)) { s with heap:=s.heap.update l (Obj.mapSeq λx=>x++items2),toks:=s.toks }):=
 .of_wp λprog w A R s h=>by
  obtain⟨hp,g,d,tk,os⟩:=s; obtain⟨hl,hb,h⟩:=h; have f1:=AutoSeq1.idx_int; have f2:=AutoSeq1.sub_tuple_tuple; have f3:=AutoSeq1.sub_list_list; have f4:=AutoSeq1.sub_tuple_list; have f5:=AutoSeq1.sub_list_tuple;have hz':(items++items2).size<=sizeLine+1:=by rw[Array.size_append]; exact hs2
  wp_walk using (wpAny_updateSeq hl rfl),AutoSeq1.wpAny_loadPart' hl,AutoSeq1.wpAny_loadPart' hb; exact⟨_,rfl,h⟩
section
variable {X:Cx}
theorem Vc:gh X (binaryOp .Add) (λx y H Q=>∃a b xs ys,x=.ref a/\y=.ref b/\cM X.K H a xs/\cM X.K H b ys/\xs.length+ys.length<=sizeLine/\∀p,H p=none->Q (.ref p) (upd H p (.lst (xs++ys)))):=by
 intro aeQ s U H x y v u Q I rx ry h;obtain⟨a,b,xs,ys,rfl,rfl,ha,hb,hz,q⟩:=h;cases rx;cases ry;obtain⟨its,r1,⟨⟨c1,d1,dt1,s1⟩,n1,g1,e1,e2,e3⟩,_⟩:=I.list ha;obtain⟨its2,r2,⟨⟨c2,d2,dt2,s2⟩,n2,g2,f1,f2,f3⟩,_⟩:=I.list hb;subst e1 e2 e3 f1 f2 f3;have hl1:=r1.length;have hl2:=r2.length;refine concat_meets ⟨_,g1,rfl⟩ ⟨_,g2,rfl⟩ noFill_list_add seq_list_add F.slot_list_add F.entry_list_add (F.args_list_add_2 _ _) (list_addW a b its.toArray its2.toArray n1 n2 none none s1 s2 (by rw[aaF,aaF]; omega)) ⟨g1,g2,?_⟩;have ea:its.toArray++its2.toArray=(its++its2).toArray:=by simp
 rw[ea];exact⟨.ref _,_,I.lnew (r1.append r2) (by rw[aaH]; omega),rfl,q _ I.fresh⟩
def HW (K:FG):V->List V->Hp->VK->Prop:=λx vs H Q=>∃l b xs zs,x=.ref l/\vs=[.ref b]/\H l=some (.lst xs)/\cM K H b zs/\xs.length+zs.length<=sizeLine/\Q .non (upd H l (.lst (xs++zs)))
theorem NK:TQ X "list.extend" (HW X.K):=by
 intro aeQ s U H x vs v us Q I rx rv h;obtain⟨l,b,xs,zs,rfl,rfl,hH,hB,hz,q⟩:=h;cases rx;obtain⟨u,rfl,ru⟩:=rv.one;cases ru;obtain⟨z,its,n,r,hl,e⟩:=I.lstM hH;obtain⟨its2,r2,⟨⟨c2,d2,dt2,s2⟩,n2,g2,f1,f2,f3⟩,_⟩:=I.list hB;subst f1 f2 f3;have hl2:=r2.length;have hsz:its.toArray.size+its2.toArray.size<=sizeLine:=by rw[aaF,aaF]; omega
 have hlong:¬ (!its.toArray.isEmpty&&Builtin.List.listTooLong (its.toArray.size+its2.toArray.size))=true:=by rw[Ro hsz,Bool.and_false];exact aba
 refine call_meets F.slot_list_extend ⟨_,e,rfl⟩ F.entry_list_extend (F.args_list_extend_2 _ _)
  (HS l its.toArray n b its2.toArray n2 none s2 hlong (by rw[aaF]; omega) (by omega)) ⟨e,g2,?_⟩
 refine⟨.non,_,I.lset hH e (by simp) (r.append r2) ?_,rfl,q⟩;rw[aaH];omega
end
def dM (z:Str) (lo hi:Option Int):Str:=⟨((z.cps.toList.drop (HT.sIx z.length 0 lo)).take (HT.sIx z.length z.length hi-HT.sIx z.length 0 lo)).toArray⟩
theorem Y4 (lo hi:Option Int) (n:Nat):Builtin.Str.strSliceIndices lo hi 1 n=(List.range (HT.sIx n n hi-HT.sIx n 0 lo)).map (HT.sIx n 0 lo+·):=by
 have e1:∀(o:Option Int) (d:Nat),d<=n->(match o with | none=>(d:Int) | some i=>max 0 (min (if i<0 then i+(n:Int) else i) (n:Int)))=((HT.sIx n d o:Nat):Int):=λo d hd=>by
  cases o with
  | none=>rfl
  | some i=>
   simp only[HT.sIx];by_cases h:i<0
   . simp only[h,if_true]<;>omega
   . simp only[h,if_false]<;>omega
 rw[<-sliceRange_one];have a1:=e1 lo 0 (abO _);have a2:=e1 hi n (aaE _);unfold Builtin.Str.strSliceIndices;rw[<-a1,<-a2];cases lo<;>cases hi<;>simp
theorem Pn (z:Str) (lo hi:Option Int):Txt.slice z lo hi=dM z lo hi:=by
 unfold Txt.slice dM;rw[Y4];have hp:=pick_run z.cps (HT.sIx z.length 0 lo) (HT.sIx z.length z.length hi-HT.sIx z.length 0 lo);split
 . rename_i h;have h2:(List.map (HT.sIx z.length 0 lo+·) (List.range (HT.sIx z.length z.length hi-HT.sIx z.length 0 lo))).length=z.length:=by simpa using h
   rw[aaT,List.length_range]at h2;have hh:HT.sIx z.length z.length hi<=z.length:=HT.sIx_le _ _ (aaE _) hi;have hl0:HT.sIx z.length 0 lo<=z.length:=HT.sIx_le _ _ (abO _) lo;have hl:HT.sIx z.length 0 lo=0:=by omega
   rw[h2,hl,List.drop_zero,ab2 (by rw[abm]; exact aaE _)]
 . rw[hp]
def aaf:V->Option Int->Option Int->Hp->VK->Prop:=λx lo hi H Q=>∃z,x=.str z/\z.length<=sizeLine/\Q (.str (dM z lo hi)) H
section
variable {X:Cx}
theorem Xe:HN X aaf:=by
 intro aeQ s U H x v vl vu lo hi sl Q I rx hs pl pu h;obtain⟨z,rfl,hz,q⟩:=h;obtain⟨t,rfl⟩:=rx;refine⟨"str",_,F.slot_str_getitem.lookup,typeIs_str _ _ _,?_⟩;have go:∀(l u:Option (Int×Tok)),vl=partValue l->vu=partValue u->l.map (·.1)=lo->u.map (·.1)=hi->wpAny (model X.prog X.w) X.A (getItem (.str z t) (.ref sl)) (EP X aeQ U Q) X.xe s:=λl u e1 e2 e3 e4=>by subst e1 e2 e3 e4;refine wpAny_getItem_str_slice (st:=none) hs rfl (post_val_or_str ⟨aaX (Txt.slice_le z _ _) hz,λt' k=>?_⟩);refine⟨.str (dM z (l.map (·.1)) (u.map (·.1))),H,I.tok _,⟨t',?_⟩,q⟩;rw[<-Pn];rfl
 cases pl with
 | none=>cases pu with
  | none=>exact go none none rfl rfl rfl rfl
  | int j tj=>exact go none (some (j,tj)) rfl rfl rfl rfl
 | int i ti=>cases pu with
  | none=>exact go (some (i,ti)) none rfl rfl rfl rfl
  | int j tj=>exact go (some (i,ti)) (some (j,tj)) rfl rfl rfl rfl
end
section
variable {X:Cx} {aeQ:List (Addr×Obj)} {U:St} {H:Hp} {s:Shared} {h':Heap}
end
section
variable {X:Cx}
end
section
variable {X:Cx} {aeQ:List (Addr×Obj)} {U:St} {H:Hp} {s:Shared} {h':Heap}
theorem Inv.turnedL {fp:List Addr} (I:Inv X aeQ U H s) (k:∀b o,b∉fp->s.heap.get? b=some o->h'.get? b=some o) (f:∀b∈fp,qp X aeQ H b):Inv X aeQ U H { s with heap:=h',toks:=t' }:=by
 have nit:∀b u,H b=some u->b∉fp:=λb u e z=>by rw[(f b z).1]at e; cases e
 refine I.step (λb hb=>⟨(f b hb).2.2.2.1,(f b hb).2.1,(f b hb).2.2.2.2.1,(f b hb).2.2.2.2.2⟩) (λb o _ _ hc e _=>k b o hc e) (λb o _ _ hc e _=>⟨o.slots,k b o hc e⟩) (λ_ _ _ _ n=>n)
  (λb o hc e=>⟨o,k b o hc e⟩) (λ_ _ e=>e) (λ_ _ _ e=>e) (λb ps e=>⟨#[],by rw[e]; simp⟩) (λm hm=>?_) (λb u e=>?_) I.bare
 . obtain⟨o,es,ep,ho,r⟩:=hm;exact⟨o,es,ep,k _ o (λz=>(f _ z).2.1 rfl) ho,r⟩
 . refine(I.hok b u e).stay (λc v hc q=>k c v ?_ q) (λ_ q=>q) λ_ _ q=>q;rcases hc with z | z
   . rw[z]; exact nit b u e
   . exact nit c _ z
end
structure Xf (z TI TO i1 i2:Addr):Prop where
 TIz:TI≠z
 TOz:TO≠z
 i1z:i1≠z
 i2z:i2≠z
 TITO:TI≠TO
 TIi1:TI≠i1
 TIi2:TI≠i2
 TOi1:TO≠i1
 TOi2:TO≠i2
 i12:i1≠i2
section
variable {X:Cx}
end
section
variable {prog:Program}
end
section
variable {prog:Program} {w:World} {A:Around} {R:Result->Shared->Prop} {I:Addr} {fp wr:List Addr} {G:Array GenState->Array GenState->Prop} {n:Nat} {P:Nat->Value->Prop} {St:Nat->Shared->Prop}
end
section
variable {prog:Program}
theorem NP (h:ItemsOf (λi v=>vs[i]?=some v) acc vs.length):acc.toList=vs:=by
 refine List.ext_getElem? λi=>?_;rw[Array.getElem?_toList];cases hi:acc[i]? with
 | some v=>exact(h.2 i v hi).symm
 | none=>
  have:vs.length<=i:=by rw[<-h.1]; exact Array.getElem?_eq_none_iff.mp hi
  exact(abw this).symm
end
section
variable {X:Cx} {aeQ:List (Addr×Obj)} {U:St} {H:Hp} {s:Shared}
theorem Fz:∀{its:List Value} {ss:List Str},StrsAre its ss->Vals (ss.map V.str) its
 | _,_,.nil=>.nil
 | _,_,.cons y t r=>.cons ⟨t,rfl⟩ (Fz r)
end
section
variable {X:Cx}
end
section
variable {prog:Program}
end
section
variable {X:Cx}
end
def Xg (K:FG) (a:Addr) (n:Nat):It:=
 ⟨λi H=>i<n/\∃xs,cM K H a xs/\xs.length=n,λi H x H'=>H'=H/\∀xs,cM K H a xs->xs[n-1-i]?=some x,λi H=>i=n/\∃xs,cM K H a xs/\xs.length=n⟩
theorem Rt {K:FG} (a it:Addr) (n:Nat):Turn P w K tg (Xg K a n) [it] it (λi h=>h.IsRevIter it a ((n:Int)-1-i)) where
 mem:=by simp
 obj:=λi h st b hb=>by
  have e:b=it:=by simpa using hb
  subst e;obtain⟨o,e,c,d⟩:=st;exact⟨o,e,λv z=>by rw[d]at z; cases z⟩
 keep:=λi h h' st k=>st.at λo e=>k it (by simp) o e
 item:=by
  intro X hP hw hK hc i aeQ s U H E I hf st hg;subst hP hw hK;obtain⟨hi,xs,hq,hn⟩:=hg;obtain⟨its,rv,p,hz⟩:=I.list hq;obtain⟨f0,f1,f2,f3,f4,f5⟩:=hf it (by simp);have hx:xs[n-1-i]?=some (xs[n-1-i]'(by omega)):=aaK _;obtain⟨u,hu,ru⟩:=rv.get hx;have e1:(n:Int)-1-i=((n-1-i:Nat):Int):=by omega
  rw[e1]at st;refine wpAny_pyNext_rev_item st p.isList (by simpa using hu) λh' st' sb=>?_;have I1:=I.turned (t':=s.toks) (λb o hb e=>(sb.2 b hb).trans e) f0 f1 f3 f4 f5;obtain⟨o,e,c,d⟩:=id st';have e2:((n-1-i:Nat):Int)-1=(n:Int)-1-((i+1:Nat):Int):=by omega
  rw[e2]at st';exact⟨u,rfl,Hb e c d (by decide) ⟨_,H,I1,ru,⟨rfl,λys hy=>by rw[I.list_inj hy hq]; exact hx⟩,st',λb hb=>(hf b hb).1⟩⟩
 done:=by
  intro X hP hw hK hc i aeQ s U H E I hf st hg;obtain⟨rfl,xs,hq,hn⟩:=hg;obtain⟨f0,f1,f2,f3,f4,f5⟩:=hf it (by simp);have e1:(i:Int)-1-i=-1:=by omega
  rw[e1]at st;exact wpAny_pyNext_rev_end (I.ok.hd hc) st λh' eb=>⟨rfl,I.turned (λb o hb e=>eb b o hb e) f0 f1 f3 f4 f5⟩
 self:=λ_ _ _ _ _ st h=>wpAny_pyIter_revIter st h
section
variable {X:Cx}
def aag (K:FG) (ta:TA):TI:=λU H R=>ta U H λvs H1=>∃a xs,vs=[.ref a]/\cM K H1 a xs/\R (Xg K a xs.length) H1
theorem Xh (hg:Gl X "reversed") (hm:X.mg "reversed" = none) (ha:PA X [a] ta) (hs:starEach [a] X.env=[(false,eval a X.env)]:=by rfl):PI X tg (.Call (.Name "reversed" p) [a] [] pos) (aag X.K ta):=by
 intro aeQ s U H R I h;refine Call_ (rJ (u:=.type "reversed") I hg hm (by kernel_rfl) (PyProof.Rows.callWith_type1 (cL (ha pos aeQ s U H _ I h) λus s1 ⟨vs,H1,I1,r1,q1⟩=>?_) hs rfl));obtain⟨b,xs,e,hq,q⟩:=q1;subst e;cases r1 with
 | cons r rr=>
  cases rr;cases r;obtain⟨its,rv,pl,hz⟩:=I1.list hq;have hl:=rv.length;refine call_reversed_list pl.isList ?_;have hit:(s1.heap.push (revObj b ((its.toArray.size:Int)-1))).IsRevIter s1.heap.objs.size b ((xs.length:Int)-1-((0:Nat):Int)):=by
   have e0:(xs.length:Int)-1-((0:Nat):Int)=(its.toArray.size:Int)-1:=by rw[hl]; simp
   rw[e0];exact⟨_,aaL _ rfl,rfl,rfl⟩
  refine wpAny_pyIter_revIter hit ?_;refine⟨s1.heap.objs.size,[s1.heap.objs.size],_,_,H1,rfl,I1.kept λb o e=>aaB _ e,Rt b _ _,hit,λc hc=>?_,q⟩;have e:c=s1.heap.objs.size:=by simpa using hc
  subst e;exact I1.fpOk (aaE _) (I1.hok.fresh (aaE _))
end
def lq:Bool->Heap->Addr->Addr->Nat->Prop
 | true,h,it,a,i=>h.IsListIter it a i
 | false,h,it,a,i=>h.IsTupleIter it a i
def mL:Bool->Heap->Addr->Array Value->Prop
 | true,h,a,its=>h.IsList a its
 | false,h,a,its=>h.IsTuple a its
def pC:Bool->FG->Hp->Addr->List V->Prop
 | true,K,H,a,xs=>cM K H a xs
 | false,K,H,a,xs=>eU K H a xs
theorem lq.at (x:lq k h it a i) (e:∀o,h.get? it=some o->h'.get? it=some o):lq k h' it a i:=by
 cases k
 . exact Heap.IsTupleIter.at x e
 . exact Heap.IsListIter.at x e
theorem lq.obj (x:lq k h it a i):∃o,h.get? it=some o/\o.cls≠.type "zip" /\ o.cls≠.type "tuple" /\ o.cls≠.type "list" /\ ∀v,o.data≠.cell v:=by
 cases k
 . obtain⟨o,ho,hc,hd⟩:=x;exact⟨o,ho,by rw[hc]; simp,by rw[hc]; simp,by rw[hc]; simp,λv z=>by rw[hd]at z; cases z⟩
 . obtain⟨o,ho,hc,hd⟩:=x;exact⟨o,ho,by rw[hc]; simp,by rw[hc]; simp,by rw[hc]; simp,λv z=>by rw[hd]at z; cases z⟩
theorem mL.at (x:mL k h a its) (e:∀o,h.get? a=some o->h'.get? a=some o):mL k h' a its:=by
 cases k
 . obtain⟨o,ho,r⟩:=x; exact⟨o,e _ ho,r⟩
 . obtain⟨o,ho,r⟩:=x; exact⟨o,e _ ho,r⟩
theorem mL.obj (x:mL k h a its):∃o,h.get? a=some o/\(o.cls=.type "list" \/ o.cls=.type "tuple"):=by
 cases k
 . obtain⟨o,ho,hc,_⟩:=x; exact⟨o,ho,.inr hc⟩
 . obtain⟨o,ho,hc,_⟩:=x; exact⟨o,ho,.inl hc⟩
section
variable {prog:Program}
theorem Dw (hit:lq k s.heap it l i) (hl:mL k s.heap l items) (hx:items[i]?=some x)
 (hQ:∀h',lq k h' it l (i+1)->Heap.SameBut it s.heap h'->Q x { s with heap:=h' }):wpAny (model prog w) A (Builtin.SmallTypes.nextOf (.ref it)) Q E s:=by
 cases k
 . obtain⟨o,ho,hc,hd⟩:=id hit;obtain⟨ol,hol,_,nl,hdl⟩:=hl;refine acp (wpAny_callSpecial?_slot hit.typeIs abI (wpAny_call_entry abI hit.typeIs acd ?_ (acb _)));show wpAny _ _ (field (.ref it) 0 >>= _) _ _ s;refine acp (wpAny_field ho hd rfl ?_);show wpAny _ _ (if (Value.ref l==Value.none)=true then _ else _) _ _ s;refine acp (wpAny_field ho hd rfl ?_);refine acp (wpAny_seqItems hol hdl ?_);simp only[Int.toNat_natCast,hx];refine acp (wpAny_setField ho hd (by simp) (acs ⟨x,rfl,acs (hQ _ ?_ (Heap.SameBut.update ..))⟩));exact⟨_,ab5 _ ho (Obj.isFreed_of_fields (Obj.data_mapFields hd _)),(Obj.cls_mapFields ..).trans hc,by rw[Obj.data_mapFields hd]; simp[rawInt]⟩
 . exact wpAny_nextOf_list_item hit hl hx hQ
theorem Pq (hh:A.handled=none) (hit:lq k s.heap it l i) (hl:mL k s.heap l items) (hx:items[i]?=none)
 (hE:∀h' e,Heap.ExtBut it s.heap h'->(∃o,h'.get? e=some o/\o.cls=.type "StopIteration")->E (.ref e) { s with heap:=h' }):wpAny (model prog w) A (Builtin.SmallTypes.nextOf (.ref it)) Q E s:=by
 cases k
 . obtain⟨o,ho,hc,hd⟩:=id hit;obtain⟨ol,hol,_,nl,hdl⟩:=hl;refine acp (wpAny_callSpecial?_slot hit.typeIs abI (wpAny_call_entry abI hit.typeIs acd ?_ (acb _)));show wpAny _ _ (field (.ref it) 0 >>= _) _ _ s;refine acp (wpAny_field ho hd rfl ?_);show wpAny _ _ (if (Value.ref l==Value.none)=true then _ else _) _ _ s;refine acp (wpAny_field ho hd rfl ?_);refine acp (wpAny_seqItems hol hdl ?_);simp only[Int.toNat_natCast,hx];refine acp (wpAny_rule (acp (wpAny_setField ho hd (by simp) ?_)));refine acp ?_;refine acp (wpAny_newObj_type ?_ (by size_fits));refine acp (wpAny_of_eq (by first | rfl | (simp only[firstArgMember]; rfl)) ?_);refine wpAny_newObj_type ?_ (by size_fits);refine acp (wpAny_handled ?_)
   first | rw[show A.in1.handled=none from hh] | rw[hh]
   refine acp (acs (wpAny_throw ?_));exact hE _ _ (((Heap.SameBut.update ..).extBut.push _).push _) ⟨_,aaL _ rfl,rfl⟩
 . exact wpAny_nextOf_list_end hh hit hl hx hE
theorem Pr {z TI TO i1 i2 l1 l2:Addr} {Q:Value->Shared->Prop} (D:ZipApart z TI TO i1 i2 l1 l2)
 (hz:IsZip s.heap z TI TO .none) (hTI:IsPair s.heap TI (.ref i1) (.ref i2)) (hTO:IsPair s.heap TO a b) (h1:lq k s.heap i1 l1 k1) (h2:lq k s.heap i2 l2 k2) (hl1:mL k s.heap l1 xs) (hl2:mL k s.heap l2 ys) (hx:xs[k1]?=some x) (hy:ys[k2]?=some y)
 (hQ:∀h',IsZip h' z TI TO (rawInt s.heap.objs.size)->IsPair h' TO x y->lq k h' i1 l1 (k1+1)->lq k h' i2 l2 (k2+1)->IsPair h' s.heap.objs.size x y->
   (∀c o,c≠z->c≠TO->c≠i1->c≠i2->s.heap.get? c=some o->h'.get? c=some o)->Q (.ref s.heap.objs.size) { s with heap:=h' }):
 wpAny (model prog w) A (Builtin.«zip.__next__» ⟨[.ref z],[]⟩) (λfin s'=>∃v,fin=.done (.ret v)/\Q v s') E s:=by
 show wpAny _ _ (field (.ref z) 2 >>= _) _ _ _;refine acp (wpAny_field hz rfl rfl ?_);refine acp (wpAny_field hz rfl rfl (acp (wpAny_seqItems hTI rfl ?_)));refine acp (acp (wpAny_field hz rfl rfl (acs ?_)));refine acp (wpAny_rule (acp (wpAny_field hz rfl rfl (acp (wpAny_setField_rec hz (by simp) λg1 z1 s1=>?_)))));have e1:∀c o,c≠z->s.heap.get? c=some o->g1.get? c=some o:=λc o hc e=>s1.extBut _ _ hc e;refine acp ?_;refine acp (acp (wpAny_onRaise ?_));refine acp (Dw (h1.at λo e=>e1 _ o D.i1z e) (hl1.at λo e=>e1 _ o D.l1z e) hx λg2 n1 s2=>acs ?_);have e2:∀c o,c≠i1->g1.get? c=some o->g2.get? c=some o:=λc o hc e=>s2.extBut _ _ hc e;have t2:=e2 _ _ D.TOi1 (e1 _ _ D.TOz hTO);refine acp (wpAny_seqItems t2 rfl (acp (wpAny_updateSeq_pair t2 λg3 t3 s3=>?_)));have e3:∀c o,c≠TO->g2.get? c=some o->g3.get? c=some o:=λc o hc e=>s3.extBut _ _ hc e;refine acp (wpAny_letGo (acs ?_));refine acp (acp (wpAny_onRaise ?_));refine acp (Dw (h2.at λo e=>e3 _ o D.TOi2.symm (e2 _ o D.i12.symm (e1 _ o D.i2z e))) (hl2.at λo e=>e3 _ o D.l2TO (e2 _ o D.l2i1 (e1 _ o D.l2z e))) hy λg4 n2 s4=>acs ?_);have e4:∀c o,c≠i2->g3.get? c=some o->g4.get? c=some o:=λc o hc e=>s4.extBut _ _ hc e;have t4:=e4 _ _ D.TOi2 t3;refine acp (wpAny_seqItems t4 rfl (acp (wpAny_updateSeq_pair t4 λg5 t5 s5=>?_)));have t5:IsPair g5 TO x y:=t5;have e5:∀c o,c≠TO->g4.get? c=some o->g5.get? c=some o:=λc o hc e=>s5.extBut _ _ hc e;refine acp (wpAny_letGo (acs (acs ?_)));refine acp (wpAny_seqItems t5 rfl (acp (wpAny_newTuple ?_)));have hsz:g5.objs.size=s.heap.objs.size:=by rw[s5.1,s4.1,s3.1,s2.1,s1.1]
 have z5:=e5 _ _ D.TOz.symm (e4 _ _ D.i2z.symm (e3 _ _ D.TOz.symm (e2 _ _ D.i1z.symm z1)));have zlt:=aaJ z5;have z6:IsZip (g5.push { cls:=.type "tuple",data:=.seq #[x,y] }) z TI TO .ellipsis:=aaB _ z5;refine acp (acp (wpAny_setField_rec z6 (by simp) λg7 z7 s7=>?_));refine wpAny_setField_rec z7 (by simp) λg8 z8 s8=>?_;have up:∀c o,c≠z->g5.get? c=some o->g8.get? c=some o:=λc o c1 e=>s8.extBut _ _ c1 (s7.extBut _ _ c1 (aaB _ e));have t8:=s8.extBut _ _ (abp zlt) (s7.extBut _ _ (abp zlt) (aaL _ rfl));rw[hsz]at z8 t8;refine acs ⟨_,rfl,?_⟩;rw[hsz];exact hQ g8 z8 (up _ _ D.TOz t5) (n1.at λo e=>up _ o D.i1z (e5 _ o D.TOi1.symm (e4 _ o D.i12 (e3 _ o D.TOi1.symm e)))) (n2.at λo e=>up _ o D.i2z (e5 _ o D.TOi2.symm e)) t8 λc o c1 c2 c3 c4 e=>up c o c1 (e5 _ _ c2 (e4 _ _ c4 (e3 _ _ c2 (e2 _ _ c3 (e1 _ _ c1 e)))))
theorem Ru {z TI TO i1 i2 l1 l2:Addr} (hh:A.handled=none) (D:ZipApart z TI TO i1 i2 l1 l2)
 (hz:IsZip s.heap z TI TO .none) (hTI:IsPair s.heap TI (.ref i1) (.ref i2)) (hTO:IsPair s.heap TO a b) (h1:lq k s.heap i1 l1 k1) (h2:lq k s.heap i2 l2 k2) (hl1:mL k s.heap l1 xs) (hl2:mL k s.heap l2 ys) (hend:xs[k1]?=none\/ys[k2]?=none)
 (hE:∀h' e,(∀c o,c≠z->c≠TO->c≠i1->c≠i2->s.heap.get? c=some o->h'.get? c=some o)->(∃o,h'.get? e=some o/\o.cls=.type "StopIteration")->E (.ref e) { s with heap:=h' }):
 wpAny (model prog w) A (Builtin.«zip.__next__» ⟨[.ref z],[]⟩) Q E s:=by
 show wpAny _ _ (field (.ref z) 2 >>= _) _ _ _;refine acp (wpAny_field hz rfl rfl ?_);refine acp (wpAny_field hz rfl rfl (acp (wpAny_seqItems hTI rfl ?_)));refine acp (acp (wpAny_field hz rfl rfl (acs ?_)));refine acp (wpAny_rule (acp (wpAny_field hz rfl rfl (acp (wpAny_setField_rec hz (by simp) λg1 z1 s1=>?_)))));have e1:∀c o,c≠z->s.heap.get? c=some o->g1.get? c=some o:=λc o hc e=>s1.extBut _ _ hc e;refine acp ?_;refine acp (acp (wpAny_onRaise ?_));have nz:∀{g:Heap} {f0:Value} {e:Addr},IsZip g z TI TO f0->(∃o,g.get? e=some o/\o.cls=.type "StopIteration")->e≠z:=λ{g f0 e} q ⟨o,h,c⟩ x=>by subst x;rw[q]at h;cases h;simp at c
 cases hx:xs[k1]? with
 | none=>
  refine acp (Pq hh (h1.at λo e=>e1 _ o D.i1z e) (hl1.at λo e=>e1 _ o D.l1z e) hx λg2 e s2 he=>?_);have z2:=s2 _ _ D.i1z.symm z1;have ez:=nz z2 he;obtain⟨oe,hoe,hce⟩:=he;exact wpAny_setField_rec z2 (by simp) λg3 _ s3=>hE g3 e (λc o c1 _ c3 _ x=>s3.extBut _ _ c1 (s2 _ _ c3 (e1 _ _ c1 x))) ⟨oe,s3.extBut _ _ ez hoe,hce⟩
 | some x=>
  have hy:=hend.resolve_left λq=>by rw[hx]at q; cases q
  refine acp (Dw (h1.at λo e=>e1 _ o D.i1z e) (hl1.at λo e=>e1 _ o D.l1z e) hx λg2 n1 s2=>acs ?_);have e2:∀c o,c≠i1->g1.get? c=some o->g2.get? c=some o:=λc o hc e=>s2.extBut _ _ hc e;have t2:=e2 _ _ D.TOi1 (e1 _ _ D.TOz hTO);refine acp (wpAny_seqItems t2 rfl (acp (wpAny_updateSeq_pair t2 λg3 t3 s3=>?_)));have e3:∀c o,c≠TO->g2.get? c=some o->g3.get? c=some o:=λc o hc e=>s3.extBut _ _ hc e;refine acp (wpAny_letGo (acs ?_));refine acp (acp (wpAny_onRaise ?_));refine acp (Pq hh (h2.at λo e=>e3 _ o D.TOi2.symm (e2 _ o D.i12.symm (e1 _ o D.i2z e))) (hl2.at λo e=>e3 _ o D.l2TO (e2 _ o D.l2i1 (e1 _ o D.l2z e))) hy λg4 e s4 he=>?_);have z4:=s4 _ _ D.i2z.symm (e3 _ _ D.TOz.symm (e2 _ _ D.i1z.symm z1));have ez:=nz z4 he;obtain⟨oe,hoe,hce⟩:=he;exact wpAny_setField_rec z4 (by simp) λg5 _ s5=>hE g5 e (λc o c1 c2 c3 c4 x=>s5.extBut _ _ c1 (s4 _ _ c4 (e3 _ _ c2 (e2 _ _ c3 (e1 _ _ c1 x))))) ⟨oe,s5.extBut _ _ ez hoe,hce⟩
end
theorem NQ (l1 l2:Addr) (xs ys:Array Value):
 Meets (Builtin.«zip.__new__» ⟨[.type "zip",.ref l1,.ref l2],[]⟩) (λ_ R s=>s.heap.IsTuple l1 xs/\s.heap.IsTuple l2 ys/\∀h',IsZip h' (s.heap.objs.size+4) (s.heap.objs.size+2) (s.heap.objs.size+3) .none->IsPair h' (s.heap.objs.size+2) (.ref s.heap.objs.size) (.ref (s.heap.objs.size+1))->
  IsPair h' (s.heap.objs.size+3) .none .none->h'.IsTupleIter s.heap.objs.size l1 0->h'.IsTupleIter (s.heap.objs.size+1) l2 0->(∀c o,s.heap.get? c=some o->h'.get? c=some o)->R (.ok (.ret (.ref (s.heap.objs.size+4)))) { s with heap:=h' }):=
 .of_wp λprog w A R s h=>by
  obtain⟨hp,g,d,tk,os⟩:=s;obtain⟨hl1,hl2,h⟩:=h;have hsub:=sub_zip;have hL1:Heap.IsTuple (Shared.heap ⟨hp,g,d,tk,os⟩) l1 xs:=hl1;have hL2:Heap.IsTuple (Shared.heap ⟨hp.push { cls:=.type "tuple_iterator",data:=.fields #[.ref l1,.int 0 0] },g,d,tk,os⟩) l2 ys:=by obtain⟨o,ho,r⟩:=hl2;exact⟨o,aaB _ ho,r⟩
  wp_walk using wpAny_pyIter_tuple hL1,wpAny_pyIter_tuple hL2
  refine⟨_,rfl,?_⟩;have z1:∀(q:Heap) (o:Obj),(q.push o).objs.size=q.objs.size+1:=λq o=>abC ..;simp only[z1];have key:∀(q:Heap) (o:Obj) (n:Nat),q.objs.size=n->o.isFreed=false->(q.push o).get? n=some o:=λq o n e f=>e▸aaL q f;refine h _ (key _ _ _ (by simp only[z1]) rfl) (aaB _ (aaB _ (key _ _ _ (by simp only[z1]) rfl))) (aaB _ (key _ _ _ (by simp only[z1]) rfl)) ⟨_,aaB _ (aaB _ (aaB _ (aaB _ (key _ _ _ rfl rfl)))),rfl,rfl⟩
   ⟨_,aaB _ (aaB _ (aaB _ (key _ _ _ (by simp only[z1]) rfl))),rfl,rfl⟩ λc o e=>aaB _ (aaB _ (aaB _ (aaB _ (aaB _ e))))
section
variable {prog:Program}
theorem Pu {k:Bool} {l1 l2:Addr} {xs ys:Array Value} {Q:Value->Shared->Prop} (hl1:mL k s.heap l1 xs) (hl2:mL k s.heap l2 ys)
 (h:∀h',IsZip h' (s.heap.objs.size+4) (s.heap.objs.size+2) (s.heap.objs.size+3) .none->IsPair h' (s.heap.objs.size+2) (.ref s.heap.objs.size) (.ref (s.heap.objs.size+1))->
   IsPair h' (s.heap.objs.size+3) .none .none->lq k h' s.heap.objs.size l1 0->lq k h' (s.heap.objs.size+1) l2 0->
   (∀c o,s.heap.get? c=some o->h'.get? c=some o)->Q (.ref (s.heap.objs.size+4)) { s with heap:=h' }):
 wpAny (model prog w) A (call (.type "zip") [.ref l1,.ref l2]) Q E s:=by
 cases k
 . exact callType_new F.called_zip (by decide) (F.typeCall_zip_2 _ _) (F.newCall_zip_2 _ _) (λobj=>F.args_object_init_3 obj _ _) F.entry_zip_new (NQ l1 l2 xs ys) ⟨hl1,hl2,λh' a1 a2 a3 a4 a5 a6=>⟨⟨_,a1,rfl⟩,h h' a1 a2 a3 a4 a5 a6⟩⟩
 . exact call_zip_2 hl1 hl2 λh' a1 a2 a3 a4 a5 _ a6=>h h' a1 a2 a3 a4 a5 a6
end
section
variable {X:Cx} {aeQ:List (Addr×Obj)} {U:St} {H:Hp} {s:Shared}
theorem Inv.sqK {k:Bool} {a:Addr} {xs:List V} (I:Inv X aeQ U H s) (h:pC k X.K H a xs):∃its:List Value,Vals xs its/\mL k s.heap a its.toArray:=by
 cases k
 . obtain⟨its,r,p,_⟩:=I.tuple h;exact⟨its,r,p⟩
 . obtain⟨its,r,p,_⟩:=I.list h;exact⟨its,r,p.isList⟩
theorem Inv.sqK_inj {k:Bool} {a:Addr} {xs ys:List V} (I:Inv X aeQ U H s) (h:pC k X.K H a xs) (h':pC k X.K H a ys):xs=ys:=by
 cases k
 . exact I.tuple_inj h h'
 . exact I.list_inj h h'
end
def Rv (k:Bool) (K:FG) (a b:Addr):It:=
 ⟨λi H=>∃xs ys x y,pC k K H a xs/\pC k K H b ys/\xs[i]?=some x/\ys[i]?=some y,
  λi H x H'=>∃T y z,H T=none/\x=.ref T/\H'=upd H T (.tup [y,z])/\(∀xs,pC k K H a xs->xs[i]?=some y)/\∀ys,pC k K H b ys->ys[i]?=some z,
  λi H=>∃xs ys,pC k K H a xs/\pC k K H b ys/\(xs.length<=i\/ys.length<=i)⟩
theorem FJ {k:Bool} {h:Heap} {z TI TO i1 i2 a b:Addr} {u v:Value} {n m:Nat} {xs ys:Array Value} (D:Xf z TI TO i1 i2) (hz:IsZip h z TI TO .none) (aTO:a≠TO) (bTO:b≠TO) (h1:lq k h i1 a n) (h2:lq k h i2 b m) (ha:mL k h a xs) (hb:mL k h b ys):ZipApart z TI TO i1 i2 a b:=by
 obtain⟨o1,q1,_,c1,c1',_⟩:=h1.obj;obtain⟨o2,q2,_,c2,c2',_⟩:=h2.obj;have ne:∀{l c:Addr} {its:Array Value} {o:Obj},mL k h l its->h.get? c=some o->o.cls≠.type "tuple" -> o.cls≠.type "list" -> l≠c:=λ{l c its o} q e n1 n2 z=>by
  subst z;obtain⟨o',e',hc⟩:=q.obj;rw[e]at e';cases e';rcases hc with hc | hc
  . exact n2 hc
  . exact n1 hc
 exact⟨D.TIz,D.TOz,D.i1z,D.i2z,D.TITO,D.TIi1,D.TIi2,D.TOi1,D.TOi2,D.i12,ne ha hz (by simp) (by simp),aTO,ne ha q1 c1 c1',ne ha q2 c2 c2',ne hb hz (by simp) (by simp),bTO,ne hb q1 c1 c1',ne hb q2 c2 c2'⟩
theorem Px {K:FG} {elts:List Expr} {x1} {pos:Pos} (k:Bool) (a b z TI TO i1 i2:Addr) (D:Xf z TI TO i1 i2) (aTO:a≠TO) (bTO:b≠TO):Turn P w K (.Tuple elts x1 pos) (Rv k K a b) [z,TI,TO,i1,i2] z
 (λi h=>IsZip h z TI TO .none/\IsPair h TI (.ref i1) (.ref i2)/\(∃u v,IsPair h TO u v)/\lq k h i1 a i/\lq k h i2 b i) where
 mem:=by simp
 obj:=λi h st c hc=>by
  obtain⟨hz,hTI,⟨u,v,hTO⟩,h1,h2⟩:=st;simp only[aaI,abo,or_false]at hc;rcases hc with rfl | rfl | rfl | rfl | rfl
  . exact⟨_,hz,λv z=>by have z':Data.fields _=Data.cell v:=z;cases z'⟩
  . exact⟨_,hTI,λv z=>by have z':Data.seq _ _=Data.cell v:=z;cases z'⟩
  . exact⟨_,hTO,λv z=>by have z':Data.seq _ _=Data.cell v:=z;cases z'⟩
  . obtain⟨o,ho,_,_,_,d⟩:=h1.obj;exact⟨o,ho,d⟩
  . obtain⟨o,ho,_,_,_,d⟩:=h2.obj;exact⟨o,ho,d⟩
 keep:=λi h h' st k=>by obtain⟨hz,hTI,⟨u,v,hTO⟩,h1,h2⟩:=st;exact⟨k z (by simp) _ hz,k TI (by simp) _ hTI,⟨u,v,k TO (by simp) _ hTO⟩,h1.at λo q=>k i1 (by simp) o q,h2.at λo q=>k i2 (by simp) o q⟩
 item:=by
  intro X hP hw hK hc i aeQ s U H E I hf st hg;subst hP hw hK;obtain⟨hz,hTI,⟨u0,v0,hTO⟩,h1,h2⟩:=st;obtain⟨xs,ys,x,y,hq,hr,hx,hy⟩:=hg;obtain⟨its,rv,p⟩:=I.sqK hq;obtain⟨jts,rw',p'⟩:=I.sqK hr;obtain⟨u,hu,ru⟩:=rv.get hx;obtain⟨u',hu',ru'⟩:=rw'.get hy;have DD:=FJ (u:=u0) (v:=v0) D hz aTO bTO h1 h2 p p';have zlt:∀c∈[z,TI,TO,i1,i2],s.heap.objs.size≠c:=λc hc=>by
   simp only[aaI,abo,or_false]at hc;rcases hc with rfl | rfl | rfl | rfl | rfl
   . exact abp (aaJ hz)
   . exact abp (aaJ hTI)
   . exact abp (aaJ hTO)
   . obtain⟨_,q,_⟩:=h1.obj; exact abp (aaJ q)
   . obtain⟨_,q,_⟩:=h2.obj; exact abp (aaJ q)
  have hTn:H s.heap.objs.size=none:=I.hok.fresh (aaE _);have hT:s.TypeIs (.ref z) "zip" := ⟨_,hz,rfl⟩;unfold pyNext;refine acp (wpAny_attempt (wpAny_callSpecial?_slot (name:=Str.ofString "__next__") hT ab7 (wpAny_call_entry ab7 hT F.entry_zip_next (Pr DD hz hTI hTO h1 h2 p p' (x:=u) (y:=u') (by simpa using hu) (by simpa using hu') λg1 a1 a2 a3 a4 a5 a7=>acs ?_) (F.args_zip_next_1 _))));refine⟨_,rfl,wpAny_letOwnedTupleGo_zip a1 λg2 b1 b2=>?_⟩;have I1:Inv X aeQ U (upd H s.heap.objs.size (.tup [x,y])) { s with heap:=s.heap.push { cls:=.type "tuple",data:=.seq #[u,u'] },toks:=s.toks }:=by refine I.laid (λb o q=>aaB _ q) (aaE _) ⟨by simp only[aaC,abS]; rw[sizeLine_eq]; decide,[u,u'],.cons ru (.cons ru' .nil),?_⟩;exact⟨_,aaL s.heap rfl,rfl,0,rfl⟩
  have up:∀b,b≠s.heap.objs.size->H b=none->upd H s.heap.objs.size (.tup [x,y]) b=none:=λb hb q=>by rw[dh hb]; exact q
  have hb2:∀c o,c≠z->g1.get? c=some o->g2.get? c=some o:=λc o hc q=>(b2.2 c hc).trans q;have I2:Inv X aeQ U (upd H s.heap.objs.size (.tup [x,y])) { s with heap:=g2,toks:=s.toks }:=by
   refine Inv.turnedL (s:={ s with heap:=s.heap.push { cls:=.type "tuple",data:=.seq #[u,u'] },toks:=s.toks }) (h':=g2) (t':=s.toks) I1 (fp:=[z,TI,TO,i1,i2]) (λc o hc q=>?_) (λc hc=>⟨up c (zlt c hc).symm (hf c hc).1,(hf c hc).2⟩);simp only[aaI,abo,or_false,not_or]at hc;refine hb2 c o hc.1 ?_;by_cases hbT:c=s.heap.objs.size
   . subst hbT;have q':(s.heap.push { cls:=.type "tuple",data:=.seq #[u,u'] }).get? s.heap.objs.size=some o:=q;rw[aaL s.heap rfl]at q';cases q';exact a5
   . refine a7 c o hc.1 hc.2.2.1 hc.2.2.2.1 hc.2.2.2.2 ?_;have q':(s.heap.push { cls:=.type "tuple",data:=.seq #[u,u'] }).get? c=some o:=q;rw[Heap.get?_push_ne s.heap c _ hbT]at q';exact q'
  refine⟨.ref s.heap.objs.size,_,I2,rfl,⟨s.heap.objs.size,x,y,hTn,rfl,rfl,λys hy=>by rw[I.sqK_inj hy hq]; exact hx,λys hy'=>by rw[I.sqK_inj hy' hr]; exact hy⟩,⟨b1,hb2 _ _ D.TIz (a7 _ _ D.TIz D.TITO D.TIi1 D.TIi2 hTI),⟨_,_,hb2 _ _ D.TOz a2⟩,a3.at λo q=>hb2 _ o D.i1z q,a4.at λo q=>hb2 _ o D.i2z q⟩,λc hc=>up _ (zlt c hc).symm (hf c hc).1⟩
 done:=by
  intro X hP hw hK hc i aeQ s U H E I hf st hg;subst hP hw hK;obtain⟨hz,hTI,⟨u0,v0,hTO⟩,h1,h2⟩:=st;obtain⟨xs,ys,hq,hr,hx⟩:=hg;obtain⟨its,rv,p⟩:=I.sqK hq;obtain⟨jts,rw',p'⟩:=I.sqK hr;have DD:=FJ (u:=u0) (v:=v0) D hz aTO bTO h1 h2 p p';have e1:=rv.length;have e2:=rw'.length;have hT:s.TypeIs (.ref z) "zip" := ⟨_,hz,rfl⟩;have hend:its.toArray[i]?=none\/jts.toArray[i]?=none:=by
   rcases hx with hx | hx
   . exact .inl (Array.getElem?_eq_none (by simp; omega))
   . exact .inr (Array.getElem?_eq_none (by simp; omega))
  unfold pyNext;refine acp (wpAny_attempt (wpAny_callSpecial?_slot (name:=Str.ofString "__next__") hT ab7 (wpAny_call_entry ab7 hT F.entry_zip_next (Ru (I.ok.hd hc) DD hz hTI hTO h1 h2 p p' hend λg e k he=>?_) (F.args_zip_next_1 _))));obtain⟨o,ho,hce⟩:=he;refine acp (wpAny_isInstance (T := "StopIteration") (b:=true) ⟨o,ho,hce⟩ isSubtype_stop (acs ⟨rfl,?_⟩));refine I.turnedL (h':=g) (t':=s.toks) (fp:=[z,TI,TO,i1,i2]) (λc o hc q=>?_) hf;simp only[aaI,abo,or_false,not_or]at hc;exact k c o hc.1 hc.2.2.1 hc.2.2.2.1 hc.2.2.2.2 q
 self:=λ_ _ _ _ _ st h=>wpAny_pyIter_zip st.1 h
section
variable {X:Cx}
def Y5 (K:FG) (ta:TA):TI:=λU H R=>ta U H λvs H1=>∃k a b,vs=[.ref a,.ref b]/\(∃xs,pC k K H1 a xs)/\(∃ys,pC k K H1 b ys)/\R (Rv k K a b) H1
theorem Vd {a b:Expr} {ta:TA} {p pos:Pos} {elts:List Expr} {x1} {tpos:Pos} (hg:Gl X "zip") (hm:X.mg "zip" = none) (ha:PA X [a,b] ta) (hs:starEach [a,b] X.env=(false,eval a X.env)::starEach [b] X.env:=by rfl) (hs2:(backTo pos (starEach [b] X.env)).any (·.1)=false:=by rfl):PI X (.Tuple elts x1 tpos) (.Call (.Name "zip" p) [a,b] [] pos) (Y5 X.K ta):=by
 intro aeQ s U H R I h;refine Call_ (rJ (u:=.type "zip") I hg hm (by kernel_rfl) (PyProof.Rows.callWith_type1 (cL (ha pos aeQ s U H _ I h) λus s1 ⟨vs,H1,I1,r1,q1⟩=>?_) hs hs2));obtain⟨kk,l1,l2,e,⟨xs,hq⟩,⟨ys,hr⟩,q⟩:=q1;subst e;cases r1 with
 | cons r rr=>
  cases rr with
  | cons r' rr=>
   cases rr;cases r;cases r';obtain⟨its,rv,pl⟩:=I1.sqK hq;obtain⟨jts,rv',pl'⟩:=I1.sqK hr;have lt:∀{l:Addr} {its:Array Value},mL kk s1.heap l its->l<s1.heap.objs.size:=λq=>let ⟨_,e,_⟩:=q.obj; aaJ e;have lt1:=lt pl;have lt2:=lt pl';refine Pu pl pl' λh' b1 b2 b3 b4 b5 b7=>?_;have I2:Inv X aeQ U H1 { s1 with heap:=h' }:=I1.kept (t':=s1.toks) b7;refine wpAny_pyIter_zip b1 ?_;have this:∀n:Nat,n+2≠n+4/\n+3≠n+4/\n≠n+4/\n+1≠n+4/\n+2≠n+3/\n+2≠n/\n+2≠n+1/\n+3≠n/\n+3≠n+1/\n≠n+1:=λn=>by omega
   obtain⟨t1,t2,t3,t4,t5,t6,t7,t8,t9,t10⟩:=this s1.heap.objs.size;refine⟨s1.heap.objs.size+4,[s1.heap.objs.size+4,s1.heap.objs.size+2,s1.heap.objs.size+3,s1.heap.objs.size,s1.heap.objs.size+1],_,_,H1,rfl,I2,Px kk l1 l2 (s1.heap.objs.size+4) (s1.heap.objs.size+2) (s1.heap.objs.size+3) s1.heap.objs.size (s1.heap.objs.size+1) ⟨t1,t2,t3,t4,t5,t6,t7,t8,t9,t10⟩ (aa3 (aaG lt1 (ab4 _ _))) (aa3 (aaG lt2 (ab4 _ _))),⟨b1,b2,⟨_,_,b3⟩,b4,b5⟩,λc hc=>?_,q⟩;have hc':s1.heap.objs.size<=c:=by
    simp only[aaI,abo,or_false]at hc;rcases hc with rfl | rfl | rfl | rfl | rfl
    all_goals (first | exact aaE _ | exact ab4 _ _)
   exact I1.fpOk hc' (I1.hok.fresh hc')
end
abbrev yL:=Option Key
def Zo:yL->V
 | none=>.non
 | some k=>kV k
section
variable {prog:Program}
end
abbrev XD:=List (List yL×Addr×V)
abbrev XV:=List (List yL×Addr×Value)
def XR:XD->XV->Prop:=Paired λx y=>x.1=y.1/\x.2.1=y.2.1/\RelV x.2.2 y.2.2
def Zq (hk:List yL->Int) (a:Addr) (xs:XD):Heap->Prop:=λh=>xs.length<=sizeLine/\(a==sysModules)=false/\∃ys:XV,XR xs ys/\(ys.map (·.1)).Nodup/\
 ∃o es ep,h.get? a=some o/\o.ExactDict/\o.data=.dict es ep/\es.toList=ys.map λy=>⟨hk y.1,.ref y.2.1,y.2.2⟩
section
variable {prog:Program} {w:World} {A:Around} {E:Value->Shared->Prop} {s:Shared} {K:Type} [DecidableEq K] {knd:HeapKind prog w K}
end
section
variable {X:Cx}
end
def Xi (a c:Addr):Heap->Prop:=λh=>∃o,W.InstAt h a o c none
section
variable {M:Model} {A:Around} {E:Value->Shared->Prop} {s:Shared} {base:Heap} {env:Env} {outer:List Env} {L e:Addr} {G:Addr->Prop} {Q:Unit->Shared->Prop}
end
section
variable {X:Cx} {aeQ:List (Addr×Obj)} {U:St} {H:Hp} {s:Shared}
end
abbrev TJ:=St->Hp->(Hp->Prop)->Prop
section
variable {X:Cx} {es:List Expr} {n:Nat} {t:TJ}
end
section
variable {X:Cx}
end
section
variable {X:Cx} {aeQ:List (Addr×Obj)} {U:St} {H H':Hp} {s s':Shared} {e C:Addr}
end
section
variable {X:Cx} {aeQ:List (Addr×Obj)} {U:St} {H:Hp} {s:Shared} {e:Addr}
end
section
variable {X:Cx}
section
variable {aeQ:List (Addr×Obj)} {U:St} {E:XK} {k:Nat} {f C:Addr} {fd:FuncData} {ps:List Str} {sp:Sp} {x:Str} {p pos:Pos} {e:Expr} {es:List Expr} {t:TA} {te:TE}
end
end
end L2
namespace L2
open PySem PySem.Spec PyProof.Rows PySem.W
section
variable {prog:Program} {w:World} {A:Around} {E:Value->Shared->Prop} {s:Shared} {K:FG} {e C:Addr} {oe:Obj}
end
section
variable {X:Cx} {aeQ:List (Addr×Obj)} {U:St} {H H':Hp} {s s':Shared} {e C:Addr}
end
def Ends.un (i:Nat) (D:Ends):Ends:={ nx:=λU H=>D.nx (U.set i none) H,rt:=D.rt,bk:=λU H=>D.bk (U.set i none) H,ct:=λU H=>D.ct (U.set i none) H }
section
variable {X:Cx}
end
section
variable {X:Cx} {aeQ:List (Addr×Obj)} {U:St} {H:Hp} {s:Shared} {a b:Addr} {kvs more:List (Key×V)} {A:Around} {E:Value->Shared->Prop}
end
section
variable {X:Cx} {o e:Expr} {apos cpos:Pos} {td ty:TE}
end
section
variable {X:Cx}
def Py:V->List V->Hp->VK->Prop:=λx xs H Q=>∃z y,x=.str z/\xs=[.str y]/\(y.length==0)=false/\z.length<=100000/\∀l,H l=none->Q (.ref l) (upd H l (.lst ((Txt.split z y).map V.str)))
open PySem.Builtin PySem.Builtin.Str in
theorem NT {prog:Program} {x y:Str} {t u:Tok} {Q:Value->Shared->Prop} (hy:(y.length==0)=false) (hsz:x.length+2<=sizeLine)
 (h:∀(l:List (Str×Tok)) (k:Nat),l.map (·.1)=Txt.split x y->l.length<=sizeLine->Q (.ref s.heap.objs.size) { s with heap:=s.heap.push { cls:=.type "list",data:=.seq (strValues l).toArray },toks:=k }):
 wpAny (model prog w) A (call (.builtin "str.split") [.str x t,.str y u]) Q E s:=by
 have hn:(partsBetween x (occurrences x y 0 x.length (x.length+1)) y.length).length<=sizeLine:=by have e1:=StrLaws.occ_length_le x y 0 x.length (x.length+1);rw[length_partsBetween]; omega
 have h1':∀p:Str×Tok,[p].length<=sizeLine:=λp=>by rw[sizeLine_eq]; show 1<=_; decide
 cases h1:(decide (x.length<y.length)||decide (PySem.Builtin.Str.strKind x<PySem.Builtin.Str.strKind y))
 . cases hf:(occurrences x y 0 x.length (x.length+1)).isEmpty
   . refine call_meets F.slot_str_split (typeIs_str _ _ _) F.entry_str_split (F.args_str_split_2 _ _) (meets_str_split_sep x y t u h1 hy hf (by omega) hn) ?_;show wants Q E _ { s with toks:=_,heap:=s.heap.push { cls:=.type "list",data:=.seq (strsFrom s.toks (partsBetween x (occurrences x y 0 x.length (x.length+1)) y.length)).toArray } };rw[strsFrom_eq];refine h (numbered s.toks _) _ ((numbered_texts _ _).trans ((acr (ne_true_of_eq_false h1)).trans (acr (ne_true_of_eq_false hf))).symm) ?_;have:=congrArg List.length (numbered_texts s.toks (partsBetween x (occurrences x y 0 x.length (x.length+1)) y.length));rw[aaT]at this;rw[this];exact hn
   . exact call_meets F.slot_str_split (typeIs_str _ _ _) F.entry_str_split (F.args_str_split_2 _ _) (meets_str_split_not_found x y t u h1 hy hf)
      (h [(x,t)] s.toks ((acr (ne_true_of_eq_false h1)).trans (acq hf)).symm (h1' _))
 . exact call_meets F.slot_str_split (typeIs_str _ _ _) F.entry_str_split (F.args_str_split_2 _ _) (meets_str_split_cannot_occur x y t u h1)
    (h [(x,t)] s.toks (acq h1).symm (h1' _))
theorem HX:WY X "str.split" Py:=by
 intro aeQ s U H x xs v us Q I rx rs q;obtain⟨z,y,rfl,rfl,hy,hz,k⟩:=q;obtain⟨u,rfl,ru⟩:=vals1 rs;obtain⟨t1,rfl⟩:=rx;obtain⟨t2,rfl⟩:=ru;refine NT hy (by rw[sizeLine_eq]; omega) λl n e hl=>?_;refine⟨.ref _,_,I.lnew (t':=n) (ys:=(Txt.split z y).map V.str) (Fz ?_) ?_,rfl,k _ I.fresh⟩
 . rw[<-e]; exact strsAre_of_values l
 . rw[<-e,aaT,aaT]; exact hl
theorem xU:nF X (.type "int") (λxs H Q=>∃z n,xs=[.str z]/\z.length<=640/\PySem.intText? z=some n/\Q (.int n) H):=by intro aeQ s U H xs us Q I r h;obtain⟨z,n,rfl,hz,hn,q⟩:=h;obtain⟨u,rfl,ru⟩:=vals1 r;obtain⟨t,rfl⟩:=ru;exact W.KIN.call_text hn hz ⟨.int _,H,I.tok _,⟨_,rfl⟩,q⟩
structure TV (K:FG) (w:World) (a:Addr) (kvs:List (Str×Int)):Prop where
 ex:∃es n,K.lookup a=some ⟨.type "dict",none,.dict es n,#[]⟩/\W.KeysLit w.params es.toList
 ns:(a==sysModules)=false
 at_:∀x,match kvs.lookup x with
  | some v=>∃t,W.nsIn K a x=some (some (.int v t))
  | none=>W.nsIn K a x=some none
theorem Ve {a:Addr} {kvs:List (Str×Int)} (G:TV X.K X.w a kvs):gh X (compareOp .NotIn) (λx y H Q=>∃z,x=.str z/\y=.ref a/\Q (.bl (!(kvs.lookup z).isSome)) H):=by
 intro aeQ s U H x y v u Q I rx ry q;obtain⟨z,rfl,rfl,q⟩:=q;obtain⟨t,rfl⟩:=rx;cases ry;obtain⟨es,n,hl,hk⟩:=G.ex;have g:=G.at_ z;have fin:∀r:Option Value,W.nsIn X.K a z=some r->r.isSome=(kvs.lookup z).isSome->wpAny (model X.prog X.w) X.A (compareOp .NotIn (.str z t) (.ref a)) (EP X aeQ U Q) X.xe s:=λr e hr=>
  wpAny_notIn_of (strKind_is X.prog X.w z t) G.ns (W.mapOf_K (prog:=X.prog) I.kIn hl hk) (by rw[W.find_K hl e,hr]; exact⟨.bl _,H,I.tok _,rfl,q⟩)
 cases e:kvs.lookup z with
 | none=>rw[e]at g; exact fin none g (by rw[e]; rfl)
 | some v=>rw[e]at g; obtain⟨t',g⟩:=g; exact fin _ g (by rw[e]; rfl)
theorem aah {a:Addr} {kvs:List (Str×Int)} (G:TV X.K X.w a kvs):yz X (λx y H Q=>∃z n,x=.ref a/\y=.str z/\kvs.lookup z=some n/\Q (.int n) H):=by intro value slice aeQ s U H x y v u Q I rx ry q hs;obtain⟨z,n,rfl,rfl,hz,q⟩:=q;obtain⟨t,rfl⟩:=ry;cases rx;obtain⟨es,m,hl,hk⟩:=G.ex;have g:=G.at_ z;rw[hz]at g;obtain⟨t',g⟩:=g;have hm:=W.mapOf_K (prog:=X.prog) I.kIn hl hk;exact tail_any hm.typeIs F.slot_dict_getitem.lookup (wpAny_getItem_of (strKind_is X.prog X.w z t) hm (W.find_K hl g) ⟨.int n,H,I.tok _,⟨_,rfl⟩,q⟩) hs
end
section
variable {prog:Program}
theorem Pz (hh:A.handled=none) (I ax:Addr) (hne:ax≠I) (items:Array Value):Walks prog w A I [I,ax] [I] items.size (λi v=>items[items.size-1-i]?=some v) (λi h=>h.IsRevIter I ax ((items.size:Int)-1-i)/\h.IsList ax items) where
 sub:=λb hb=>by simp at hb; simp[hb]
 frame:=λ_ _ _ st hk=>⟨st.1.at λo e=>hk I (by simp) o e,st.2.at λo e=>hk ax (by simp) o e⟩
 item:=λi s Q E hi st hQ=>by
  have e1:(items.size:Int)-1-i=((items.size-1-i:Nat):Int):=by omega
  have st1:=st.1;rw[e1]at st1;have hx:items[items.size-1-i]?=some (items[items.size-1-i]'(by omega)):=getElem?_pos ..;refine wpAny_pyNext_rev_item st1 st.2 hx λh' st' sb=>?_;have e2:((items.size-1-i:Nat):Int)-1=(items.size:Int)-1-((i+1:Nat):Int):=by omega
  rw[e2]at st';exact hQ _ h' s.toks hx ⟨st',st.2.at λo e=>(sb.2 ax hne).trans e⟩ λb o hb e=>(sb.2 b (λz=>hb (by simp[z]))).trans e
 done:=λs Q E st hQ=>by have st1:=st.1;rw[show (items.size:Int)-1-(items.size:Nat)=-1 by omega]at st1;exact wpAny_pyNext_rev_end hh st1 λh' eb=>hQ h' s.toks λb o hb e=>eb b o (λz=>hb (by simp[z])) e
 self:=λi s Q E st hQ=>wpAny_pyIter_revIter st.1 hQ
theorem Vf {R:Result->Shared->Prop} {it ax S:Addr} {items:Array Value} (hh:A.handled=none) (hne:ax≠it) (hi:s.heap.IsRevIter it ax ((items.size:Int)-1)) (ha:s.heap.IsList ax items) (hz:items.size<=sizeLine) (res:Value) {c₀:Nat} (hS:s.heap.get? S=some { cls:=.type "list",data:=.seq #[] c₀ }) (hSx:S≠ax)
 (hR:∀h' tk acc c,(∀b o,b≠S->b≠it->s.heap.get? b=some o->h'.get? b=some o)->h'.get? S=some { cls:=.type "list",dict:=none,data:=.seq acc c,slots:=#[] }->acc.toList=items.toList.reverse->R (.ok (.ret res)) { s with heap:=h',toks:=tk }):
 wpAny (model prog w) A.in1 (Builtin.List.listExtendWith (.ref S) (.ref it) res) (λfin s'=>match fin with | .done f=>R (.ok f) s' | .again c'=>c'.quiet=true/\codeAny (model prog w) A c' R s') (λe s'=>R (.error e) s') s:=by
 have hT1:=hi.typeIs;have hSi:S≠it:=λe=>by obtain⟨o,ho,hc⟩:=hT1;rw[<-e,hS]at ho;cases ho;have hc:Value.type "list" = Value.type "list_reverseiterator" := hc;exact absurd hc (by decide)
 unfold Builtin.List.listExtendWith;refine acp (wpAny_typeOf hT1 ?_);have h1:Builtin.List.listSameRef (.ref S) (.ref it)=false:=by simp[Builtin.List.listSameRef,hSi]
 rw[acr (by rw[h1]; decide)];refine acp (wpAny_pyIter_revIter hi ?_);have l1:typeLookup (.type "list_reverseiterator") "__len__" = pure none:=by rw[typeLookup_type,builtinLookup_eq_fast]; kernel_rfl
 have l2:typeLookup (.type "list_reverseiterator") "__length_hint__" = pure (some (.builtin "list_reverseiterator.__length_hint__")):=by rw[typeLookup_type,builtinLookup_eq_fast]; kernel_rfl
 have hint:∀{Q':Bool->Shared->Prop} {E':Value->Shared->Prop},Q' false s->wpAny (model prog w) A.in1 (Builtin.List.listLengthHint (.ref it)) Q' E' s:=by
  intro Q' E' q;unfold Builtin.List.listLengthHint;refine acp (wpAny_specialOf hT1 l1 ?_);dsimp only;rw[acr (by decide),acr (by decide)];refine acp (wpAny_specialOf hT1 l2 ?_);generalize hid:("list_reverseiterator.__length_hint__" : String)=id0
  wp_delta
  rw[show splitId id0=some ("list_reverseiterator", "__length_hint__") from by subst hid; decide +kernel];subst hid;refine acp (wpAny_isInstance (b:=true) hT1 (by rw[isSubtype_type]; kernel_rfl) ?_);rw[acr (by simp)];rw[acq (by decide +kernel)]
  first | exact acs q | (rw[acr (by decide +kernel)]; exact acs q)
 refine acp (wpAny_holding (hint ?_));rw[acr (by decide +kernel)];have nf:S∉[it,ax]:=by simp[hSi,hSx]
 refine acs ⟨plainId_quiet F.plain_extend_loop _,codeAny_extend_loopS (Pz (prog:=prog) (w:=w) (A:=A.in1) (by simpa using hh) it ax hne items).toS hz S nf res items.size 0 _ _ _ rfl (abO _) ⟨by rw[show (items.size:Int)-1-((0:Nat):Int)=(items.size:Int)-1 by omega]; exact hi,ha⟩ hS (ItemsOf.nil _) λs' acc c m g4 itm=>?_⟩;obtain⟨x1,x2,x3,x4,x5⟩:=s';obtain rfl:x2=s.gens:=m.gens;obtain rfl:x3=s.drawn:=m.drawn;obtain rfl:x5=s.os:=m.os;refine hR x1 x4 acc c (λb o hb hb2 q=>m.heap b o (by simp[hb,hb2]) q) g4 ?_;refine NP ⟨by rw[itm.1]; simp,λj v hj=>?_⟩;have e:=itm.2 j v hj;have hj':j<items.size:=by rw[<-itm.1]; exact(Array.getElem?_eq_some_iff.mp hj).1
 show items.toList.reverse[j]?=some v;rw[List.getElem?_reverse (by simpa using hj'),abm,Array.getElem?_toList];exact e
theorem Dy {Q:Value->Shared->Prop} {it ax:Addr} {items:Array Value} (hh:A.handled=none) (hne:ax≠it) (hi:s.heap.IsRevIter it ax ((items.size:Int)-1)) (ha:s.heap.IsList ax items) (hz:items.size<=sizeLine)
 (hQ:∀h' tk acc c,(∀b o,b≠it->s.heap.get? b=some o->h'.get? b=some o)->h'.get? s.heap.objs.size=some { cls:=.type "list",dict:=none,data:=.seq acc c,slots:=#[] }->acc.toList=items.toList.reverse->Q (.ref s.heap.objs.size) { s with heap:=h',toks:=tk }):
 wpAny (model prog w) A (call (.type "list") [.ref it]) Q E s:=by
 refine callType_codes (Q₁:=λobj s₁=>obj=.ref s.heap.objs.size/\s₁={ s with heap:=s.heap.push { cls:=.type "list",data:=.seq #[] } }) F.called_list (F.typeCall_list_1 _) F.entry_list_init
  (code_list_new _ ⟨rfl,rfl⟩) λobj s₁ h₁=>?_
 obtain⟨rfl,rfl⟩:=h₁;have hS:(s.heap.push { cls:=.type "list",data:=.seq #[] }).get? s.heap.objs.size=some { cls:=.type "list",data:=.seq #[] }:=aaL _ rfl;refine⟨⟨_,hS,rfl⟩,F.args_list_init_2 _ _,?_⟩;generalize hSe:s.heap.objs.size=S at *;show wpAny _ _ (do let old <-Builtin.List.listItems (.ref S); Builtin.List.listUpdate (.ref S) (λ_=>#[]); letGo old.toList.reverse; Builtin.List.listExtendWith (.ref S) (.ref it) .none) _ _ _;refine acp ?_;unfold Builtin.List.listItems;refine acp (wpAny_seqItems hS rfl (acs ?_));show wpAny _ _ (updateSeq S (λ_=>#[]) >>= λ_=>letGo (#[]:Array Value).toList.reverse >>= λ_=>Builtin.List.listExtendWith (.ref S) (.ref it) .none) _ _ _;refine acp (wpAny_updateSeq hS rfl ?_);have hS₂:=ab5 (Obj.mapSeq (λ_=>(#[]:Array Value))) hS rfl;have nS:∀b o,s.heap.get? b=some o->b≠S:=λb o e=>by rw[<-hSe]; exact aa3 (aaJ e)
 have oth:∀b o,s.heap.get? b=some o->((s.heap.push { cls:=.type "list",data:=.seq #[] }).update S (Obj.mapSeq (λ_=>(#[]:Array Value)))).get? b=some o:=
  λb o e=>(ab1 _ _ (Ne.symm (nS b o e))).trans (aaB _ e)
 refine acp (wpAny_letGo ?_);obtain⟨oa,hoa,_⟩:=id ha;refine Vf (A:=A.in1) (by simpa using hh) hne (hi.at λo e=>oth _ _ e) (ha.at λo e=>oth _ _ e) hz .none hS₂ (Ne.symm (nS _ _ hoa)) λh' tk acc c hk hS' hacc=>?_;exact⟨rfl,hQ h' tk acc c (λb o hb e=>hk b o (nS b o e) hb (oth b o e)) hS' hacc⟩
end
section
variable {X:Cx}
theorem PB {xs:List V} {us:List Value} {x:V} {u:Value} (h:Vals xs us) (r:RelV x u):Vals (xs++[x]) (us++[u]):=by
 induction h with
 | nil=>exact .cons r .nil
 | cons a b ih=>exact .cons a ih
theorem Rw {xs:List V} {us:List Value} (h:Vals xs us):Vals xs.reverse us.reverse:=by
 induction h with
 | nil=>exact .nil
 | cons a b ih=>rw[List.reverse_cons,List.reverse_cons]; exact PB ih a
def TY (K:FG) (ta:TA):TE:=λU H Q=>ta U H λvs H1=>∃a xs,vs=[.ref a]/\cM K H1 a xs/\∀l,H1 l=none->Q (.ref l) (upd H1 l (.lst xs.reverse))
theorem K1 {a:Expr} {ta:TA} {p p2 pos pos2:Pos} (hc:X.calm=true) (hg:Gl X "list") (hm:X.mg "list" = none) (hg2:Gl X "reversed") (hm2:X.mg "reversed" = none) (ha:PA X [a] ta) (hs:starEach [a] X.env=[(false,eval a X.env)]:=by rfl)
 (hs2:starEach [.Call (.Name "reversed" p2) [a] [] pos2] X.env=[(false,eval (.Call (.Name "reversed" p2) [a] [] pos2) X.env)]:=by rfl):PE X (.Call (.Name "list" p) [.Call (.Name "reversed" p2) [a] [] pos2] [] pos) (TY X.K ta):=by
 intro aeQ s U H Q I h;refine Call_ (rJ (u:=.type "list") I hg hm (by kernel_rfl) (PyProof.Rows.callWith_type1 ?_ hs2 rfl));rw[hs2];show wpAny _ _ (spliced ((false,eval (.Call (.Name "reversed" p2) [a] [] pos2) X.env)::backTo pos (starEach [] X.env))) _ _ s;refine Calls.spliced_cons ?_;refine Call_ (rJ (u:=.type "reversed") I hg2 hm2 (by kernel_rfl) (PyProof.Rows.callWith_type1 (cL (ha pos2 aeQ s U H _ I h) λus s1 ⟨vs,H1,I1,r1,q1⟩=>?_) hs rfl));obtain⟨b,xs,e,hq,q⟩:=q1;subst e;cases r1 with
 | cons r rr=>
  cases rr;cases r;obtain⟨its,rv,pl,hz⟩:=I1.list hq;have hl:=rv.length;refine call_reversed_list pl.isList (Calls.spliced_nil ?_);have hit:(s1.heap.push (revObj b ((its.toArray.size:Int)-1))).IsRevIter s1.heap.objs.size b ((its.toArray.size:Int)-1):=⟨_,aaL _ rfl,rfl,rfl⟩;obtain⟨oa,hoa,_⟩:=id pl.isList;have hne:b≠s1.heap.objs.size:=aa3 (aaJ hoa);refine Dy (by simpa using I1.ok.hd hc) hne hit (pl.isList.push _) (by simpa [<-hl] using hz) λh' tk acc c kp g e=>?_;have hs3:(s1.heap.push (revObj b ((its.toArray.size:Int)-1))).objs.size=s1.heap.objs.size+1:=abC _ _;rw[hs3]at g ⊢;have kp':∀b' o,s1.heap.get? b'=some o->h'.get? b'=some o:=λb' o e=>kp b' o (aa3 (aaJ e)) (aaB _ e);refine⟨.ref _,_,I1.laid (t':=tk) kp' (abY _) (show kE X.prog X.w _ h' _ (.lst xs.reverse) from ⟨by rw[aca]; exact hz,acc.toList,c,?_,g⟩),rfl,q _ (I1.hok.fresh (abY _))⟩;rw[e];exact Rw rv
end
end L2
namespace PL
open PySem PySem.Spec PyProof.Rows L2
inductive PV where
 | non
 | bl (b:Bool)
 | int (i:Int)
 | str (x:Str)
 | tup (ps:List PV)
 | lst (ps:List PV)
 | dk (ks:List Key) (ps:List PV)
 | dt (ks:List (List Key)) (ps:List PV)
 | obj (C:Str) (ks:List Str) (ps:List PV)
 | df (ks:List Key) (ps:List PV)
 | dtf (ks:List (List Key)) (ps:List PV)
 | dx (hk:List yL->Int) (ks:List (List yL)) (ps:List PV)
 | exc (C:Str)
 | fn (x:Str)
 | ptr (n:Nat)
structure ZG where
 z:Hp
 g:List Addr
def kj (Z Z':ZG):Prop:=eO Z.z Z'.z/\Z.g <+: Z'.g
theorem kj.refl (Z:ZG):kj Z Z:=⟨eO.refl _,abv _⟩
theorem kj.trans {Z Z1 Z2:ZG} (a:kj Z Z1) (b:kj Z1 Z2):kj Z Z2:=⟨a.1.trans b.1,a.2.trans b.2⟩
theorem Vg {α:Type} {l r:List α} {n:Nat} {a:α} (h:l <+: r) (e:l[n]?=some a):r[n]?=some a:=by obtain⟨t,rfl⟩:=h;rw[abr (aaD.mp e).1]; exact e
def CN (K:FG) (C:Str) (c:Addr):Prop:=W.nsIn K mainGlobals C=some (some (.ref c))
mutual
def Rep (K:FG) (Z:ZG):PV->V->Prop
 | .non,v=>v=.non
 | .bl b,v=>v=.bl b
 | .int i,v=>v=.int i
 | .str x,v=>v=.str x
 | .tup ps,v=>∃a vs,v=.ref a/\eU K Z.z a vs/\aZ K Z ps vs
 | .lst ps,v=>∃a vs,v=.ref a/\cM K Z.z a vs/\aZ K Z ps vs
 | .dk ks ps,v=>∃a kvs,v=.ref a/\Z.z a=some (.dK kvs)/\kvs.map (·.1)=ks/\aZ K Z ps (kvs.map (·.2))
 | .dt ks ps,v=>∃a kvs,v=.ref a/\Z.z a=some (.dT kvs)/\kvs.map (·.1)=ks/\aZ K Z ps (kvs.map (·.2))
 | .obj C ks ps,v=>∃a c dx fs,v=.ref a/\CN K C c/\Z.z a=some (.ins c dx fs)/\fs.map (·.1)=ks/\aZ K Z ps (fs.map (·.2))
 | .df ks ps,v=>∃a o kvs,v=.ref a/\Z.z a=some (.frz o (.dK kvs))/\kvs.map (·.1)=ks/\aZ K Z ps (kvs.map (·.2))
 | .dtf ks ps,v=>∃a o kvs,v=.ref a/\Z.z a=some (.frz o (.dT kvs))/\kvs.map (·.1)=ks/\aZ K Z ps (kvs.map (·.2))
 | .dx hk ks ps,v=>∃a xs,v=.ref a/\Z.z a=some (.ext (Zq hk a xs))/\xs.map (·.1)=ks/\(∀x∈xs,eU K Z.z x.2.1 (x.1.map Zo))/\aZ K Z ps (xs.map (·.2.2))
 | .exc C,v=>∃a c,v=.ref a/\CN K C c/\Z.z a=some (.ext (Xi a c))
 | .fn x,v=>∃a,v=.ref a/\CN K x a
 | .ptr n,v=>∃a,v=.ref a/\Z.g[n]?=some a
def aZ (K:FG) (Z:ZG):List PV->List V->Prop
 | [],vs=>vs=[]
 | p::ps,vs=>∃v r,vs=v::r/\Rep K Z p v/\aZ K Z ps r
end
theorem cM.same {K:FG} {Z Z':Hp} {a:Addr} {vs:List V} (s:eO Z Z') (h:cM K Z a vs):cM K Z' a vs:=s.seq h
theorem eU.same {K:FG} {Z Z':Hp} {a:Addr} {vs:List V} (s:eO Z Z') (h:eU K Z a vs):eU K Z' a vs:=by
 rcases h with (h | ⟨o,h⟩) | h
 . exact .inl (.inl (s _ _ h))
 . exact .inl (.inr ⟨o,s _ _ h⟩)
 . exact .inr h
mutual
theorem Rep.mono {K:FG} {Z Z':ZG} (s:kj Z Z'):∀{p:PV} {v:V},Rep K Z p v->Rep K Z' p v
 | .non,v,h=>h
 | .bl _,v,h=>h
 | .int _,v,h=>h
 | .str _,v,h=>h
 | .tup ps,v,h=>by unfold Rep at h ⊢;obtain⟨a,vs,e,h1,h2⟩:=h;exact⟨a,vs,e,eU.same s.1 h1,aZ.mono s h2⟩
 | .lst ps,v,h=>by unfold Rep at h ⊢;obtain⟨a,vs,e,h1,h2⟩:=h;exact⟨a,vs,e,cM.same s.1 h1,aZ.mono s h2⟩
 | .dk ks ps,v,h=>by unfold Rep at h ⊢;obtain⟨a,kvs,e,h1,h2,h3⟩:=h;exact⟨a,kvs,e,s.1 _ _ h1,h2,aZ.mono s h3⟩
 | .dt ks ps,v,h=>by unfold Rep at h ⊢;obtain⟨a,kvs,e,h1,h2,h3⟩:=h;exact⟨a,kvs,e,s.1 _ _ h1,h2,aZ.mono s h3⟩
 | .obj C ks ps,v,h=>by unfold Rep at h ⊢;obtain⟨a,c,dx,fs,e,cn,h1,h2,h3⟩:=h;exact⟨a,c,dx,fs,e,cn,s.1 _ _ h1,h2,aZ.mono s h3⟩
 | .df ks ps,v,h=>by unfold Rep at h ⊢;obtain⟨a,o,kvs,e,h1,h2,h3⟩:=h;exact⟨a,o,kvs,e,s.1 _ _ h1,h2,aZ.mono s h3⟩
 | .dtf ks ps,v,h=>by unfold Rep at h ⊢;obtain⟨a,o,kvs,e,h1,h2,h3⟩:=h;exact⟨a,o,kvs,e,s.1 _ _ h1,h2,aZ.mono s h3⟩
 | .dx hk ks ps,v,h=>by unfold Rep at h ⊢;obtain⟨a,xs,e,h1,h2,h4,h3⟩:=h;exact⟨a,xs,e,s.1 _ _ h1,h2,λx hx=>eU.same s.1 (h4 x hx),aZ.mono s h3⟩
 | .exc C,v,h=>by unfold Rep at h ⊢;obtain⟨a,c,e,cn,h1⟩:=h;exact⟨a,c,e,cn,s.1 _ _ h1⟩
 | .fn x,v,h=>by unfold Rep at h ⊢; exact h
 | .ptr n,v,h=>by unfold Rep at h ⊢;obtain⟨a,e,h1⟩:=h;exact⟨a,e,Vg s.2 h1⟩
theorem aZ.mono {K:FG} {Z Z':ZG} (s:kj Z Z'):∀{ps:List PV} {vs:List V},aZ K Z ps vs->aZ K Z' ps vs
 | [],vs,h=>by unfold aZ at h ⊢; exact h
 | p::ps,vs,h=>by unfold aZ at h ⊢;obtain⟨v,r,e,h1,h2⟩:=h;exact⟨v,r,e,Rep.mono s h1,aZ.mono s h2⟩
end
section
variable {K:FG} {Z:ZG}
theorem aZ.length:∀{ps:List PV} {vs:List V},aZ K Z ps vs->vs.length=ps.length
 | [],vs,h=>by unfold aZ at h; subst h; rfl
 | p::ps,vs,h=>by unfold aZ at h;obtain⟨v,r,rfl,_,h2⟩:=h;simp[aZ.length h2]
theorem aZ.nil:aZ K Z [] []:=by unfold aZ; rfl
theorem aZ.cons {p:PV} {ps:List PV} {v:V} {vs:List V} (h:Rep K Z p v) (t:aZ K Z ps vs):aZ K Z (p::ps) (v::vs):=by unfold aZ; exact⟨v,vs,rfl,h,t⟩
theorem aZ.inv {p:PV} {ps:List PV} {vs:List V} (h:aZ K Z (p::ps) vs):∃v r,vs=v::r/\Rep K Z p v/\aZ K Z ps r:=by unfold aZ at h; exact h
theorem aZ.inv0 {vs:List V} (h:aZ K Z [] vs):vs=[]:=by unfold aZ at h; exact h
theorem aZ.append:∀{ps qs:List PV} {vs ws:List V},aZ K Z ps vs->aZ K Z qs ws->aZ K Z (ps++qs) (vs++ws)
 | [],qs,vs,ws,h,g=>by have:=h.inv0; subst this; exact g
 | p::ps,qs,vs,ws,h,g=>by obtain⟨v,r,rfl,h1,h2⟩:=h.inv;exact aZ.cons h1 (aZ.append h2 g)
theorem aZ.get:∀{ps:List PV} {vs:List V} {i:Nat} {p:PV},aZ K Z ps vs->ps[i]?=some p->∃v,vs[i]?=some v/\Rep K Z p v
 | [],vs,i,p,h,e=>by simp at e
 | q::ps,vs,0,p,h,e=>by obtain⟨v,r,rfl,h1,h2⟩:=h.inv;simp at e; subst e;exact⟨v,rfl,h1⟩
 | q::ps,vs,i+1,p,h,e=>by obtain⟨v,r,rfl,h1,h2⟩:=h.inv;obtain⟨u,h3,h4⟩:=aZ.get (i:=i) (p:=p) h2 (by simpa using e);exact⟨u,by simpa using h3,h4⟩
theorem aZ.getV {ps:List PV} {vs:List V} {i:Nat} {v:V} (h:aZ K Z ps vs) (e:vs[i]?=some v):∃p,ps[i]?=some p/\Rep K Z p v:=by
 have hi:i<ps.length:=by rw[<-h.length]; exact(aaD.mp e).1
 obtain⟨u,h1,h2⟩:=h.get (i:=i) (p:=ps[i]) (aaK hi);rw[e]at h1; cases h1;exact⟨_,aaK hi,h2⟩
theorem aZ.set {q:PV} {u:V} (hq:Rep K Z q u):∀{ps:List PV} {vs:List V} (i:Nat),aZ K Z ps vs->aZ K Z (ps.set i q) (vs.set i u)
 | [],vs,i,h=>by have:=h.inv0; subst this; exact h
 | p::ps,vs,0,h=>by obtain⟨v,r,rfl,h1,h2⟩:=h.inv;exact aZ.cons hq h2
 | p::ps,vs,i+1,h=>by obtain⟨v,r,rfl,h1,h2⟩:=h.inv;exact aZ.cons h1 (aZ.set hq i h2)
theorem aZ.take:∀{ps:List PV} {vs:List V} (n:Nat),aZ K Z ps vs->aZ K Z (ps.take n) (vs.take n)
 | [],vs,n,h=>by have:=h.inv0; subst this; simp; exact .nil
 | p::ps,vs,0,h=>by simp; exact .nil
 | p::ps,vs,n+1,h=>by obtain⟨v,r,rfl,h1,h2⟩:=h.inv;exact aZ.cons h1 (aZ.take n h2)
theorem aZ.drop:∀{ps:List PV} {vs:List V} (n:Nat),aZ K Z ps vs->aZ K Z (ps.drop n) (vs.drop n)
 | [],vs,n,h=>by have:=h.inv0; subst this; simp; exact .nil
 | p::ps,vs,0,h=>h
 | p::ps,vs,n+1,h=>by obtain⟨v,r,rfl,h1,h2⟩:=h.inv;exact aZ.drop n h2
end
inductive Lc where
 | sh (p:PV)
 | own (p:PV)
def Lc.pv:Lc->PV
 | .sh p=>p
 | .own p=>p
abbrev Mu:=List (Option PV)
structure Ev where
 vs:List (Option Lc)
 mu:Mu
abbrev Pd:=List (V×Lc)
def tH (K:FG) (Z:ZG) (H:Hp) (a:Addr):PV->Prop
 | .lst ps=>∃vs,H a=some (.lst vs)/\aZ K Z ps vs
 | .dk ks ps=>∃kvs,H a=some (.dK kvs)/\kvs.map (·.1)=ks/\aZ K Z ps (kvs.map (·.2))
 | .dt ks ps=>∃kvs,H a=some (.dT kvs)/\kvs.map (·.1)=ks/\aZ K Z ps (kvs.map (·.2))
 | .dx hk ks ps=>∃xs,H a=some (.ext (Zq hk a xs))/\xs.map (·.1)=ks/\(∀x∈xs,eU K Z.z x.2.1 (x.1.map Zo))/\aZ K Z ps (xs.map (·.2.2))
 | .exc C=>∃c,CN K C c/\H a=some (.ext (Xi a c))
 | .obj C ks ps=>∃c dx fs,CN K C c/\H a=some (.ins c dx fs)/\fs.map (·.1)=ks/\aZ K Z ps (fs.map (·.2))
 | _=>False
def VR (K:FG) (H0:Hp) (Z:ZG) (H:Hp) (v:Option V):Option Lc->Prop
 | none=>True
 | some (.sh p)=>∃x,v=some x/\Rep K Z p x
 | some (.own p)=>∃a,v=some (.ref a)/\tH K Z H a p/\Z.z a=none/\H0 a=none
def mU:Option V×Option Lc->Option Addr
 | (some (.ref a),some (.own _))=>some a
 | _=>none
abbrev Sl:=List (Option V×Option Lc)
def Slots (K:FG) (H0:Hp) (Z:ZG) (H:Hp) (L:Sl):Prop:=(∀e∈L,VR K H0 Z H e.1 e.2)/\(L.filterMap mU).Nodup
def cel (g:List Addr) (mu:Mu):Sl:=(g.map λa=>some (V.ref a)).zip (mu.map λo=>o.map Lc.own)
def tK (g:List Addr) (mu:Mu):List Addr:=(cel g mu).filterMap mU
def sl (g:List Addr) (U:L2.St) (O:Ev) (pd:Pd):Sl:=cel g O.mu++(U.zip O.vs++pd.map λe=>(some e.1,some e.2))
def Hd:HO->Prop
 | .tup _=>True
 | .frz _ _=>True
 | _=>False
structure nP (H0:Hp) (Z0 Z:ZG) (H:Hp):Prop where
 zh:eO Z.z H
 h0:eO H0 H
 z0:kj Z0 Z
 new:∀b o,Z.z b=some o->Z0.z b=some o\/H0 b=none\/Hd o
def SR (K:FG) (H0:Hp) (Z0:ZG) (U:L2.St) (H:Hp) (O:Ev) (pd:Pd):Prop:=U.length=O.vs.length/\∃Z,O.mu.length=Z.g.length/\nP H0 Z0 Z H/\Slots K H0 Z H (sl Z.g U O pd)
section
variable {K:FG} {H0 H H':Hp} {Z0 Z Z':ZG} {L L':Sl} {U:L2.St} {O:Ev} {pd:Pd}
theorem Slots.sub (h:Slots K H0 Z H L) (s:List.Sublist L' L):Slots K H0 Z H L':=⟨λe he=>h.1 e (s.subset he),h.2.sublist (s.filterMap mU)⟩
theorem Slots.perm (h:Slots K H0 Z H L) (s:List.Perm L' L):Slots K H0 Z H L':=⟨λe he=>h.1 e (s.subset he),(s.filterMap mU).nodup_iff.mpr h.2⟩
theorem tH.keep (h:tH K Z H a p) (z:kj Z Z') (e:H' a=H a):tH K Z' H' a p:=by
 cases p with
 | lst ps=>obtain⟨vs,h1,h2⟩:=h; exact⟨vs,by rw[e]; exact h1,h2.mono z⟩
 | dk ks ps=>obtain⟨vs,h1,h2,h3⟩:=h; exact⟨vs,by rw[e]; exact h1,h2,h3.mono z⟩
 | dt ks ps=>obtain⟨vs,h1,h2,h3⟩:=h; exact⟨vs,by rw[e]; exact h1,h2,h3.mono z⟩
 | dx hk ks ps=>obtain⟨vs,h1,h2,h4,h3⟩:=h; exact⟨vs,by rw[e]; exact h1,h2,λx hx=>eU.same z.1 (h4 x hx),h3.mono z⟩
 | exc C=>obtain⟨c,cn,h1⟩:=h; exact⟨c,cn,by rw[e]; exact h1⟩
 | obj C ks ps=>obtain⟨c,dx,fs,cn,h1,h2,h3⟩:=h; exact⟨c,dx,fs,cn,by rw[e]; exact h1,h2,h3.mono z⟩
 | _=>exact h
theorem tH.some (h:tH K Z H a p):∃o,H a=some o/\¬ Hd o:=by
 cases p with
 | lst ps=>obtain⟨vs,h1,h2⟩:=h; exact⟨_,h1,λz=>z⟩
 | dk ks ps=>obtain⟨vs,h1,h2,h3⟩:=h; exact⟨_,h1,λz=>z⟩
 | dt ks ps=>obtain⟨vs,h1,h2,h3⟩:=h; exact⟨_,h1,λz=>z⟩
 | dx hk ks ps=>obtain⟨vs,h1,h2,h3⟩:=h; exact⟨_,h1,λz=>z⟩
 | exc C=>obtain⟨c,cn,h1⟩:=h; exact⟨_,h1,λz=>z⟩
 | obj C ks ps=>obtain⟨c,dx,fs,cn,h1,h2,h3⟩:=h; exact⟨_,h1,λz=>z⟩
 | _=>exact h.elim
theorem tH.rep (h:tH K Z H a p) (z:kj Z Z') (e:Z'.z a=H a):Rep K Z' p (.ref a):=by
 cases p with
 | lst ps=>obtain⟨vs,h1,h2⟩:=h; unfold Rep; exact⟨a,vs,rfl,cM.of (by rw[e]; exact h1),h2.mono z⟩
 | dk ks ps=>obtain⟨vs,h1,h2,h3⟩:=h; unfold Rep; exact⟨a,vs,rfl,by rw[e]; exact h1,h2,h3.mono z⟩
 | dt ks ps=>obtain⟨vs,h1,h2,h3⟩:=h; unfold Rep; exact⟨a,vs,rfl,by rw[e]; exact h1,h2,h3.mono z⟩
 | dx hk ks ps=>obtain⟨vs,h1,h2,h4,h3⟩:=h; unfold Rep; exact⟨a,vs,rfl,by rw[e]; exact h1,h2,λx hx=>eU.same z.1 (h4 x hx),h3.mono z⟩
 | exc C=>obtain⟨c,cn,h1⟩:=h; unfold Rep; exact⟨a,c,rfl,cn,by rw[e]; exact h1⟩
 | obj C ks ps=>obtain⟨c,dx,fs,cn,h1,h2,h3⟩:=h; unfold Rep; exact⟨a,c,dx,fs,rfl,cn,by rw[e]; exact h1,h2,h3.mono z⟩
 | _=>exact h.elim
theorem Slots.step (h:Slots K H0 Z H L) (z:kj Z Z') (hk:∀e∈L,∀a,mU e=some a->H' a=H a/\Z'.z a=none):Slots K H0 Z' H' L:=by
 refine⟨λe he=>?_,h.2⟩;have q:=h.1 e he;obtain⟨v,l⟩:=e;cases l with
 | none=>trivial
 | some l=>
  cases l with
  | sh p=>obtain⟨x,e1,e2⟩:=q; exact⟨x,e1,e2.mono z⟩
  | own p=>
   obtain⟨a,e1,e2,e3,e4⟩:=q;have e1':=e1;subst e1';obtain⟨k1,k2⟩:=hk _ he a rfl;exact⟨a,rfl,e2.keep z k1,k2,e4⟩
theorem jV (h:Slots K H0 Z H L) (he:e∈L) (ha:mU e=some a):Z.z a=none/\H0 a=none/\∃o,H a=some o/\¬ Hd o:=by
 obtain⟨v,l⟩:=e;have q:=h.1 _ he;cases l with
 | none=>cases v with
  | none=>cases ha
  | some x=>cases x<;>cases ha
 | some l=>
  cases l with
  | sh p=>cases v with
   | none=>cases ha
   | some x=>cases x<;>cases ha
  | own p=>
   obtain⟨b,e1,e2,e3,e4⟩:=q;have e1':=e1;subst e1';cases ha;exact⟨e3,e4,e2.some⟩
theorem Slots.new (h:Slots K H0 Z H L) (zo:nP H0 Z0 Z H) (ha:H a=none) (hp:tH K Z (upd H a o) a p):nP H0 Z0 Z (upd H a o)/\Slots K H0 Z (upd H a o) ((some (.ref a),some (.own p))::L):=by
 have hz:=zo.zh.free ha;have h0:=zo.h0.free ha;refine⟨⟨λb u e=>by rw[dh (fJ e hz)]; exact zo.zh b u e,λb u e=>by rw[dh (fJ e h0)]; exact zo.h0 b u e,zo.z0,zo.new⟩,?_⟩;have hne:∀e∈L,∀b,mU e=some b->b≠a:=λe he b hb=>by obtain⟨_,_,o',h3,_⟩:=jV h he hb;exact fJ h3 ha
 have st:=h.step (H':=upd H a o) (kj.refl Z) λe he b hb=>⟨dh (hne e he b hb),(jV h he hb).1⟩;refine⟨λe he=>?_,?_⟩
 . rcases aaI.mp he with rfl | he
   . exact⟨a,rfl,hp,hz,h0⟩
   . exact st.1 e he
 . refine abu.mpr ⟨λhm=>?_,st.2⟩;obtain⟨e,he,hb⟩:=abg.mp hm;exact hne e he a hb rfl
abbrev ZG.put (Z:ZG) (a:Addr) (o:HO):ZG:=⟨upd Z.z a o,Z.g⟩
theorem Slots.newF (h:Slots K H0 Z H L) (zo:nP H0 Z0 Z H) (ha:H a=none):nP H0 Z0 (Z.put a o) (upd H a o)/\kj Z (Z.put a o)/\Slots K H0 (Z.put a o) (upd H a o) L:=by
 have hz:=zo.zh.free ha;have h0:=zo.h0.free ha;have sz:eO Z.z (upd Z.z a o):=λb u e=>by rw[dh (fJ e hz)]; exact e
 have lz:kj Z (Z.put a o):=⟨sz,abv _⟩;refine⟨⟨λb u e=>?_,λb u e=>by rw[dh (fJ e h0)]; exact zo.h0 b u e,zo.z0.trans lz,λb u e=>?_⟩,lz,?_⟩
 . have e:upd Z.z a o b=some u:=e;unfold upd at e ⊢;split
   . rename_i q; rw[acq q]at e; exact e
   . rename_i q; rw[acr q]at e; exact zo.zh b u e
 . have e:upd Z.z a o b=some u:=e;unfold upd at e;split at e
   . rename_i q; rw[q]; exact .inr (.inl h0)
   . exact zo.new b u e
 . refine h.step lz λe he b hb=>?_;obtain⟨h1,h2,o',h3,_⟩:=jV h he hb;have hba:=fJ h3 ha;exact⟨dh hba,by show upd Z.z a o b=none; rw[dh hba]; exact h1⟩
theorem Slots.freeze (h:Slots K H0 Z H ((v,some (.own p))::L)) (zo:nP H0 Z0 Z H):∃Z',kj Z Z'/\Z'.g=Z.g/\nP H0 Z0 Z' H/\Slots K H0 Z' H ((v,some (.sh p))::L):=by
 obtain⟨a,e1,e2,e3,e4⟩:=h.1 _ aaz;have e1':=e1;subst e1';obtain⟨o,ho,_⟩:=e2.some;have sz:eO Z.z (upd Z.z a o):=λb u e=>by rw[dh (fJ e e3)]; exact e
 have lz:kj Z (Z.put a o):=⟨sz,abv _⟩;have nd:=h.2;have hL:=h.sub (aaU _ _);refine⟨Z.put a o,lz,rfl,⟨λb u e=>?_,zo.h0,zo.z0.trans lz,λb u e=>?_⟩,λe he=>?_,(abu.mp nd).2⟩
 . have e:upd Z.z a o b=some u:=e;unfold upd at e;split at e
   . rename_i q; cases e; rw[q]; exact ho
   . exact zo.zh b u e
 . have e:upd Z.z a o b=some u:=e;unfold upd at e;split at e
   . rename_i q; rw[q]; exact .inr (.inl e4)
   . exact zo.new b u e
 . rcases aaI.mp he with rfl | he
   . exact⟨.ref a,rfl,e2.rep lz (by show upd Z.z a o a=_; rw[dm,ho])⟩
   . refine(hL.step lz λe' he' b hb=>⟨rfl,?_⟩).1 e he;have:b≠a:=λq=>by rw[q]at hb;exact(abu.mp nd).1 (abg.mpr ⟨e',he',hb⟩)
     show upd Z.z a o b=none;rw[dh this];exact(jV hL he' hb).1
theorem Slots.write (h:Slots K H0 Z H ((some (.ref a),some (.own p))::L)) (zo:nP H0 Z0 Z H) (hq:tH K Z (upd H a o) a q):nP H0 Z0 Z (upd H a o)/\Slots K H0 Z (upd H a o) ((some (.ref a),some (.own q))::L):=by
 obtain⟨b,e1,e2,e3,e4⟩:=h.1 _ aaz;cases e1;have nd:=h.2;have hL:=h.sub (aaU _ _);refine⟨⟨λb u e=>by rw[dh (fJ e e3)]; exact zo.zh b u e,λb u e=>by rw[dh (fJ e e4)]; exact zo.h0 b u e,zo.z0,zo.new⟩,λe he=>?_,nd⟩;rcases aaI.mp he with rfl | he
 . exact⟨a,rfl,hq,e3,e4⟩
 . refine(hL.step (kj.refl Z) λe' he' b hb=>⟨dh λq=>?_,(jV hL he' hb).1⟩).1 e he;rw[q]at hb;exact(abu.mp nd).1 (abg.mpr ⟨e',he',hb⟩)
end
variable {K:FG} {H0 H:Hp} {Z0:ZG} {U:L2.St} {O:Ev} {pd:Pd}
theorem yM {α:Type}:∀{l:List α} {i:Nat} {a:α},l[i]?=some a->∃R,List.Perm l (a::R)/\∀b,List.Perm (l.set i b) (b::R)
 | [],i,a,h=>by simp at h
 | x::r,0,a,h=>by simp at h; subst h;exact⟨r,List.Perm.refl _,λb=>List.Perm.refl _⟩
 | x::r,i+1,a,h=>by obtain⟨R,h1,h2⟩:=yM (by simpa using h);refine⟨x::R,(h1.cons x).trans (List.Perm.swap _ _ _),λb=>?_⟩;exact((h2 b).cons x).trans (List.Perm.swap _ _ _)
theorem Dz {α β:Type}:∀(l:List α) (r:List β) (i:Nat) (a:α) (b:β),(l.set i a).zip (r.set i b)=(l.zip r).set i (a,b)
 | [],r,i,a,b=>by simp
 | x::l,[],i,a,b=>by simp
 | x::l,y::r,0,a,b=>by simp
 | x::l,y::r,i+1,a,b=>by simp[Dz l r i a b]
theorem zip_get {α β:Type}:∀{l:List α} {r:List β} {i:Nat} {a:α} {b:β},l[i]?=some a->r[i]?=some b->(l.zip r)[i]?=some (a,b)
 | [],r,i,a,b,h,g=>by simp at h
 | x::l,[],i,a,b,h,g=>by simp at g
 | x::l,y::r,0,a,b,h,g=>by simp at h g; simp[h,g]
 | x::l,y::r,i+1,a,b,h,g=>by have:=zip_get (by simpa using h) (by simpa using g);simpa using this
theorem acA {α:Type}:∀{l:List α} {i:Nat} {a:α},l[i]?=some a->l.set i a=l
 | [],i,a,h=>by simp at h
 | x::r,0,a,h=>by simp at h; subst h; simp
 | x::r,i+1,a,h=>by simp[acA (by simpa using h)]
def Ev.set (O:Ev) (i:Nat) (x:Option Lc):Ev:=⟨O.vs.set i x,O.mu⟩
section
variable {K:FG} {H0 H H':Hp} {Z0 Z:ZG} {U:L2.St} {O:Ev} {pd pd':Pd} {v w:V} {l:Lc} {p:PV} {L:Sl} {g:List Addr}
theorem fM:List.Perm (sl g U O ((v,l)::pd)) ((some v,some l)::sl g U O pd):=by exact(List.perm_middle.append_left _).trans abi
theorem SR.top (h:SR K H0 Z0 U H O ((v,l)::pd)):U.length=O.vs.length/\∃Z,O.mu.length=Z.g.length/\nP H0 Z0 Z H/\Slots K H0 Z H ((some v,some l)::sl Z.g U O pd):=
 let ⟨e,Z,hg,z,s⟩:=h
 ⟨e,Z,hg,z,s.perm fM.symm⟩
theorem SR.mk (e:U.length=O.vs.length) (hg:O.mu.length=Z.g.length) (z:nP H0 Z0 Z H) (s:Slots K H0 Z H ((some v,some l)::sl Z.g U O pd)):SR K H0 Z0 U H O ((v,l)::pd):=⟨e,Z,hg,z,s.perm fM⟩
theorem SR.pop (h:SR K H0 Z0 U H O ((v,l)::pd)):SR K H0 Z0 U H O pd:=
 let ⟨e,Z,hg,z,s⟩:=h.top
 ⟨e,Z,hg,z,s.sub (aaU _ _)⟩
theorem SR.perm (h:SR K H0 Z0 U H O pd) (q:List.Perm pd' pd):SR K H0 Z0 U H O pd':=
 let ⟨e,Z,hg,z,s⟩:=h
 ⟨e,Z,hg,z,s.perm (((q.map _).append_left _).append_left _)⟩
theorem SR.swap (h:SR K H0 Z0 U H O ((v,l)::(w,l2)::pd)):SR K H0 Z0 U H O ((w,l2)::(v,l)::pd):=h.perm (List.Perm.swap _ _ _)
theorem SR.freeze (h:SR K H0 Z0 U H O ((v,l)::pd)):SR K H0 Z0 U H O ((v,.sh l.pv)::pd):=by
 cases l with
 | sh p=>exact h
 | own p=>
  obtain⟨e,Z,hg,z,s⟩:=h.top;obtain⟨Z',_,eg,z',s'⟩:=s.freeze z;refine .mk e (by rw[eg]; exact hg) z' ?_;rw[eg]; exact s'
theorem SR.sh (h:SR K H0 Z0 U H O ((v,.sh p)::pd)):U.length=O.vs.length/\∃Z,O.mu.length=Z.g.length/\nP H0 Z0 Z H/\Rep K Z p v/\Slots K H0 Z H (sl Z.g U O pd):=by obtain⟨e,Z,hg,z,s⟩:=h.top;obtain⟨x,e1,e2⟩:=s.1 _ aaz;cases e1;exact⟨e,Z,hg,z,e2,s.sub (aaU _ _)⟩
theorem SR.rep (h:SR K H0 Z0 U H O ((v,.sh p)::pd)):∃Z:ZG,eO Z.z H/\Rep K Z p v:=let ⟨_,Z,_,z,r,_⟩:=h.sh; ⟨Z,z.zh,r⟩
theorem SR.repH (h:SR K H0 Z0 U H O ((v,.sh p)::pd)):∃g,Rep K ⟨H,g⟩ p v:=let ⟨_,Z,_,z,r,_⟩:=h.sh; ⟨Z.g,r.mono (Z':=⟨H,Z.g⟩) ⟨z.zh,abv _⟩⟩
theorem Slots.consS (s:Slots K H0 Z H L) (r:Rep K Z p v):Slots K H0 Z H ((some v,some (.sh p))::L):=by
 refine⟨λe he=>?_,?_⟩
 . rcases aaI.mp he with rfl | he
   . exact⟨v,rfl,r⟩
   . exact s.1 e he
 . have:mU (some v,some (Lc.sh p))=none:=by cases v<;>rfl
   rw[aa4 this];exact s.2
theorem SR.scal (h:SR K H0 Z0 U H O pd) (r:∀Z,Rep K Z p v):SR K H0 Z0 U H O ((v,.sh p)::pd):=
 let ⟨e,Z,hg,z,s⟩:=h
 .mk e hg z (s.consS (r Z))
theorem HY (el:U.length=O.vs.length) (e:O.vs[i]?=some o):∃R:Sl,∃x,U[i]?=some x/\(∀g pd,List.Perm (sl g U O pd) ((x,o)::(cel g O.mu++(R++pd.map λe=>(some e.1,some e.2)))))/\
 ∀g pd y o',List.Perm (sl g (U.set i y) (O.set i o') pd) ((y,o')::(cel g O.mu++(R++pd.map λe=>(some e.1,some e.2)))):=by
 have hi:i<U.length:=by rw[el]; exact(aaD.mp e).1
 have hU:=aaK hi;obtain⟨R,h1,h2⟩:=yM (zip_get hU e);refine⟨R,U[i],hU,λg pd=>?_,λg pd y o'=>?_⟩
 . exact((h1.append_right _).append_left _).trans abi
 . show List.Perm (cel g O.mu++((U.set i y).zip (O.vs.set i o')++_)) _;rw[Dz];exact(((h2 _).append_right _).append_left _).trans abi
theorem Ev.set_mu:(O.set i x).mu=O.mu:=rfl
theorem Ev.set_len:(O.set i x).vs.length=O.vs.length:=by show (O.vs.set i x).length=_; rw[abQ]
theorem SR.var (h:SR K H0 Z0 U H O pd) (e:O.vs[i]?=some (some l)):∃v,U[i]?=some (some v)/\SR K H0 Z0 U H (O.set i (some (.sh l.pv))) ((v,.sh l.pv)::pd):=by
 obtain⟨el,Z,hg,z,s⟩:=h;obtain⟨R,x,hU,h1,h2⟩:=HY el e;have s1:=s.perm (h1 Z.g pd).symm;have el':U.length=(O.set i (some (.sh l.pv))).vs.length:=by rw[Ev.set_len]; exact el
 have fin:∀{Z':ZG} {v:V},Z'.g=Z.g->nP H0 Z0 Z' H->x=some v->Slots K H0 Z' H ((x,some (.sh l.pv))::(cel Z.g O.mu++(R++pd.map λe=>(some e.1,some e.2))))->Rep K Z' l.pv v->SR K H0 Z0 U H (O.set i (some (.sh l.pv))) ((v,.sh l.pv)::pd):=
  λ{Z' v} eg z ev s2 r=>by have p2:=h2 Z.g pd x (some (.sh l.pv));rw[acA hU]at p2;refine .mk el' (by rw[eg,Ev.set_mu]; exact hg) z ?_;rw[eg];exact(s2.perm p2).consS r
 cases l with
 | sh p=>
  obtain⟨v,e1,e2⟩:=s1.1 _ aaz;exact⟨v,hU.trans (congrArg some e1),fin rfl z e1 s1 e2⟩
 | own p=>
  obtain⟨Z',sz,eg,z',s'⟩:=s1.freeze z;obtain⟨v,e1,e2⟩:=s'.1 _ aaz;exact⟨v,hU.trans (congrArg some e1),fin eg z' e1 s' e2⟩
theorem SR.store (h:SR K H0 Z0 U H O ((v,l)::pd)) (hi:i<O.vs.length):SR K H0 Z0 (U.set i (some v)) H (O.set i (some l)) pd:=by obtain⟨el,Z,hg,z,s⟩:=h.top;have hO:=aaK hi;obtain⟨R,x,hU,h1,h2⟩:=HY el hO;refine⟨by rw[abQ,Ev.set_len]; exact el,Z,hg,z,?_⟩;refine(Slots.sub (s.perm ((h1 Z.g pd).symm.cons _)) ?_).perm (h2 Z.g pd (some v) (some l));exact(aaU _ _).cons_cons _
theorem SR.take (h:SR K H0 Z0 U H O pd) (e:O.vs[i]?=some (some l)):∃v,U[i]?=some (some v)/\SR K H0 Z0 U H (O.set i none) ((v,l)::pd):=by
 obtain⟨el,Z,hg,z,s⟩:=h;obtain⟨R,x,hU,h1,h2⟩:=HY el e;have s1:=s.perm (h1 Z.g pd).symm;obtain⟨v,hv⟩:∃v,x=some v:=by
  have q:=s1.1 _ aaz;cases l with
  | sh p=>obtain⟨x,e1,_⟩:=q; exact⟨x,e1⟩
  | own p=>obtain⟨a,e1,_⟩:=q; exact⟨_,e1⟩
 subst hv;refine⟨v,hU,.mk (by rw[Ev.set_len]; exact el) hg z ?_⟩;have p2:=h2 Z.g pd (some v) none;rw[acA hU]at p2;refine Slots.perm ?_ (p2.cons _);have ht:Slots K H0 Z H ((some v,none)::(some v,some l)::(cel Z.g O.mu++(R++pd.map λe=>(some e.1,some e.2)))):=by
  refine⟨λe he=>?_,?_⟩
  . rcases aaI.mp he with rfl | he
    . trivial
    . exact s1.1 e he
  . have:mU (some v,none)=none:=by cases v<;>rfl
    rw[aa4 this];exact s1.2
 exact ht.perm (List.Perm.swap _ _ _)
theorem SR.put (h:SR K H0 Z0 U H O ((v,l)::pd)) (e:U[i]?=some (some v)):SR K H0 Z0 U H (O.set i (some l)) pd:=by
 have hi:i<O.vs.length:=by rw[<-h.1]; exact(aaD.mp e).1
 have:=h.store hi;rw[acA e]at this;exact this
end
abbrev EF:=Ev->Option (Lc×Ev)
abbrev TF:=Ev->Option (Bool×Ev)
abbrev AF:=Ev->Option (List Lc×Ev)
inductive Fl where
 | nx (O:Ev)
 | rt (r:Lc) (O:Ev)
 | bk (O:Ev)
 | ct (O:Ev)
abbrev SF:=Ev->Option Fl
def tP (K:FG) (f:EF):TE:=λU H Q=>∃H0 Z0 O pd r O',SR K H0 Z0 U H O pd/\f O=some (r,O')/\∀v H',SR K H0 Z0 U H' O' ((v,r)::pd)->Q v H'
def jg (K:FG) (f:TF):TT:=λU H Q=>∃H0 Z0 O pd b O',SR K H0 Z0 U H O pd/\f O=some (b,O')/\∀H',SR K H0 Z0 U H' O' pd->Q b H'
def lr (K:FG) (f:AF):TA:=λU H Q=>∃H0 Z0 O pd ls O',SR K H0 Z0 U H O pd/\f O=some (ls,O')/\∀vs H',vs.length=ls.length->SR K H0 Z0 U H' O' (vs.zip ls++pd)->Q vs H'
def Ia (K:FG) (H0:Hp) (Z0:ZG) (pd:Pd) (D:Ends):Fl->Prop
 | .nx O'=>∀U' H',SR K H0 Z0 U' H' O' pd->D.nx U' H'
 | .rt r O'=>∀v U' H',SR K H0 Z0 U' H' O' ((v,r)::pd)->D.rt v H'
 | .bk O'=>∀U' H',SR K H0 Z0 U' H' O' pd->D.bk U' H'
 | .ct O'=>∀U' H',SR K H0 Z0 U' H' O' pd->D.ct U' H'
def gw (K:FG) (g:SF):TS:=λD U H=>∃H0 Z0 O pd fl,SR K H0 Z0 U H O pd/\g O=some fl/\Ia K H0 Z0 pd D fl
section
variable {X:Cx} {e:Expr} {es:List Expr} {st:Stmt} {sts:List Stmt}
theorem PE.imp (h:PE X e t) (i:∀U H Q,t' U H Q->t U H Q):PE X e t':=λaeQ s U H Q I q=>h aeQ s U H Q I (i U H Q q)
theorem PT.imp (h:PT X e t) (i:∀U H Q,t' U H Q->t U H Q):PT X e t':=λaeQ s U H Q I q=>h aeQ s U H Q I (i U H Q q)
theorem PW.imp (h:PW X e t) (i:∀U H Q,t' U H Q->t U H Q):PW X e t':=λwh aeQ s U H Q I q=>h wh aeQ s U H Q I (i U H Q q)
theorem PA.imp (h:PA X es t) (i:∀U H Q,t' U H Q->t U H Q):PA X es t':=λpos aeQ s U H Q I q=>h pos aeQ s U H Q I (i U H Q q)
theorem PS.imp (h:PS X st t) (i:∀D U H,t' D U H->t D U H):PS X st t':=λaeQ s U H D I q=>h aeQ s U H D I (i D U H q)
theorem ju.imp (h:ju X sts t) (i:∀D U H,t' D U H->t D U H):ju X sts t':=λaeQ s U H D I q=>h aeQ s U H D I (i D U H q)
def aj (i:Nat):EF:=λO=>match O.vs[i]? with
 | some (some l)=>some (.sh l.pv,O.set i (some (.sh l.pv)))
 | _=>none
def eC (p:PV):EF:=λO=>some (.sh p,O)
abbrev aeO (i:Int):=eC (.int i)
abbrev aeP (s:Str):=eC (.str s)
theorem qv (h:PE X e (wy i)):PE X e (tP X.K (aj i)):=PE.imp h λU H Q q=>by
 obtain⟨H0,Z0,O,pd,r,O',s,f,k⟩:=q;unfold aj at f;split at f
 . rename_i l e1;cases f;obtain⟨v,h1,h2⟩:=s.var e1;exact⟨v,h1,k v H h2⟩
 . cases f
theorem qc (h:PE X e (tC v)) (r:∀Z,Rep X.K Z p v):PE X e (tP X.K (eC p)):=PE.imp h λU H Q q=>by obtain⟨H0,Z0,O,pd,l,O',s,f,k⟩:=q;cases f;exact k v H (s.scal r)
theorem f9:∀Z,Rep K Z (.int i) (.int i):=λZ=>by unfold Rep; rfl
theorem mz:∀Z,Rep K Z (.str i) (.str i):=λZ=>by unfold Rep; rfl
theorem fK:∀Z,Rep K Z (.bl i) (.bl i):=λZ=>by unfold Rep; rfl
theorem zV:∀Z,Rep K Z .non .non:=λZ=>by unfold Rep; rfl
def jt (K:FG) (r:R2) (g:PV->PV->Option Lc):Prop:=∀H0 Z0 U O pd H v w x y l Q,SR K H0 Z0 U H O ((w,.sh y)::(v,.sh x)::pd)->g x y=some l->(∀u H',SR K H0 Z0 U H' O ((u,l)::pd)->Q u H')->r v w H Q
def aC (g:PV->PV->Option Lc) (fa fb:EF):EF:=λO=>(fa O).bind λx=>(fb x.2).bind λy=>(g x.1.pv y.1.pv).map λl=>(l,y.2)
theorem Rx (h:aC g fa fb O=some (l,O')):∃x O1 y,fa O=some (x,O1)/\fb O1=some (y,O')/\g x.pv y.pv=some l:=by
 unfold aC at h;cases h1:fa O with
 | none=>rw[h1]at h; cases h
 | some x=>
  rw[h1,aay]at h;cases h2:fb x.2 with
  | none=>rw[h2]at h; cases h
  | some y=>
   rw[h2,aay]at h;cases h3:g x.1.pv y.1.pv with
   | none=>rw[h3]at h; cases h
   | some z=>
    rw[h3]at h;cases h;exact⟨x.1,x.2,y.1,rfl,h2,h3⟩
theorem BV (hs:jt X.K r g):∀U H Q,tP X.K (aC g fa fb) U H Q->O6 r (tP X.K fa) (tP X.K fb) U H Q:=λU H Q q=>by obtain⟨H0,Z0,O,pd,l,O',s,f,k⟩:=q;obtain⟨x,O1,y,h1,h2,h3⟩:=Rx f;refine⟨H0,Z0,O,pd,x,O1,s,h1,λv H1 s1=>⟨H0,Z0,O1,_,y,O',s1,h2,λw H2 s2=>?_⟩⟩;exact hs H0 Z0 U O' pd H2 v w x.pv y.pv l Q (s2.freeze.swap.freeze.swap) h3 λu H' s3=>k u H' s3
theorem bW (ho:gh X (binaryOp op) r) (hs:jt X.K r g) (ha:PE X a (tP X.K fa)) (hb:PE X b (tP X.K fb)):PE X (.BinOp a op b pos) (tP X.K (aC g fa fb)):=
 PE.imp (YW ho ha hb) (BV hs)
theorem yN (ho:gh X (compareOp op) r) (hs:jt X.K r g) (ha:PE X a (tP X.K fa)) (hb:PE X b (tP X.K fb)) (hm:behindInMarks op b=false):PE X (.Compare a [op] [b] pos) (tP X.K (aC g fa fb)):=
 PE.imp (Uz ho ha hb hm) (BV hs)
theorem qix (ho:yz X r) (hs:jt X.K r g) (ha:PE X a (tP X.K fa)) (hb:PE X b (tP X.K fb)) (hm:zR b):PE X (.Subscript a b pos) (tP X.K (aC g fa fb)):=
 PE.imp (Tu ho ha hb hm) (BV hs)
def xV (C:Int->Int->Bool) (g:Int->Int->PV):PV->PV->Option Lc
 | .int i,.int j=>if C i j=true then some (.sh (g i j)) else none
 | _,_=>none
theorem Ib (h:xV C g x y=some l):∃i j,x=.int i/\y=.int j/\C i j=true/\l=.sh (g i j):=by
 cases x with
 | int i=>
  cases y with
  | int j=>
   have h':(if C i j=true then some (Lc.sh (g i j)) else none)=some l:=h;split at h'
   . rename_i c; cases h'; exact⟨i,j,rfl,rfl,c,rfl⟩
   . cases h'
  | _=>cases h
 | _=>cases h
theorem cG (h:Rep K Z (.int i) v):v=.int i:=by  exact h
theorem cU (h:Rep K Z (.str i) v):v=.str i:=by  exact h
theorem d8 (h:Rep K Z (.bl i) v):v=.bl i:=by  exact h
theorem iw (h:Rep K Z .non v):v=.non:=by  exact h
theorem Hf (hc:∀i j,C i j=true->C' i j) (hg:∀i j Z,Rep K Z (g i j) (gV i j)):jt K (rI C' gV) (xV C g):=by intro H0 Z0 U O pd H v w x y l Q s e k;obtain⟨i,j,rfl,rfl,c,rfl⟩:=Ib e;obtain⟨_,rw'⟩:=s.repH;obtain⟨_,rv'⟩:=s.pop.repH;have hw:=cG rw';have hv:=cG rv';exact⟨i,j,hv,hw,hc i j c,k _ H (s.pop.pop.scal (hg i j))⟩
theorem BW (hg:∀i j Z,Rep K Z (g i j) (gV i j)):jt K (vH gV) (xV (λ_ _=>true) g):=by intro H0 Z0 U O pd H v w x y l Q s e k;obtain⟨i,j,rfl,rfl,c,rfl⟩:=Ib e;obtain⟨_,rw'⟩:=s.repH;obtain⟨_,rv'⟩:=s.pop.repH;exact⟨i,j,cG rv',cG rw',k _ H (s.pop.pop.scal (hg i j))⟩
end
section
variable {X:Cx}
section
variable {K:FG} {H0 H H':Hp} {Z0 Z:ZG} {U:L2.St} {O:Ev} {pd pd':Pd} {v w:V} {l:Lc} {p:PV} {g:List Addr}
theorem SR.newO (h:SR K H0 Z0 U H O pd) (ha:H a=none) (hp:∀Z,nP H0 Z0 Z H->Slots K H0 Z H (sl Z.g U O pd)->tH K Z (upd H a o) a p):SR K H0 Z0 U (upd H a o) O ((.ref a,.own p)::pd):=by obtain⟨e,Z,hg,z,s⟩:=h;obtain⟨z',s'⟩:=s.new z ha (hp Z z s);exact .mk e hg z' s'
theorem Hg {α:Type} (A B C:List α):List.Perm (A++(B++C)) (B++(A++C)):=by rw[<-aaZ A B C,<-aaZ B A C];exact List.perm_append_comm.append_right _
theorem Ie:List.Perm (sl g U O (pe++pd)) (pe.map (λe=>((some e.1:Option V),(some e.2:Option Lc)))++sl g U O pd):=by unfold sl;rw[abt];exact((Hg _ _ _).append_left _).trans (Hg _ _ _)
theorem SR.freezeAll:∀{vs:List V} {ls:List Lc} {pd:Pd},SR K H0 Z0 U H O (vs.zip ls++pd)->SR K H0 Z0 U H O (vs.zip (ls.map λl=>.sh l.pv)++pd)
 | [],ls,pd,h=>by simpa using h
 | v::vs,[],pd,h=>by simpa using h
 | v::vs,l::ls,pd,h=>by have h1:=h;have h2:=h1.freeze.perm abi;have h3:=SR.freezeAll h2;exact h3.perm abi.symm
theorem Slots.repl:∀{vs:List V} {ps:List PV},vs.length=ps.length->Slots K H0 Z H ((vs.zip (ps.map λp=>Lc.sh p)).map (λe=>(some e.1,some e.2))++L)->aZ K Z ps vs
 | [],[],_,_=>.nil
 | v::vs,p::ps,e,h=>by have h1:=h;obtain⟨x,e1,e2⟩:=h1.1 _ aaz;cases e1;exact aZ.cons e2 (Slots.repl (by simpa using e) (h1.sub (aaU _ _)))
 | [],p::ps,e,_=>by simp at e
 | v::vs,[],e,_=>by simp at e
theorem SR.repl (h:SR K H0 Z0 U H O (vs.zip ls++pd)) (e:vs.length=ls.length):U.length=O.vs.length/\∃Z,O.mu.length=Z.g.length/\nP H0 Z0 Z H/\aZ K Z (ls.map Lc.pv) vs/\Slots K H0 Z H (sl Z.g U O pd):=by
 obtain⟨el,Z,hg,z,s⟩:=h.freezeAll;have hm:(ls.map λl=>Lc.sh l.pv)=(ls.map Lc.pv).map λp=>Lc.sh p:=by rw[abn]; rfl
 rw[hm]at s;have pm:List.Perm (sl Z.g U O (vs.zip ((ls.map Lc.pv).map λp=>Lc.sh p)++pd)) ((vs.zip ((ls.map Lc.pv).map λp=>Lc.sh p)).map (λe=>(some e.1,some e.2))++sl Z.g U O pd):=Ie;have s':=s.perm pm.symm;exact⟨el,Z,hg,z,Slots.repl (by simpa using e) s',s'.sub (abM _ _)⟩
end
theorem FP {α:Type} {l:List α} (h:l.length=1):∃a,l=[a]:=List.length_eq_one_iff.mp h
theorem ln2 {α:Type} {l:List α} (h:l.length=2):∃a b,l=[a,b]:=by
 cases l with
 | nil=>cases h
 | cons a l=>obtain⟨b,rfl⟩:=FP (Nat.succ.inj h); exact⟨a,b,rfl⟩
theorem Zr {α:Type} {l:List α} (h:l.length=3):∃a b c,l=[a,b,c]:=by
 cases l with
 | nil=>cases h
 | cons a l=>obtain⟨b,c,rfl⟩:=ln2 (Nat.succ.inj h); exact⟨a,b,c,rfl⟩
theorem ln4 {α:Type} {l:List α} (h:l.length=4):∃a b c d,l=[a,b,c,d]:=by
 cases l with
 | nil=>cases h
 | cons a l=>obtain⟨b,c,d,rfl⟩:=Zr (Nat.succ.inj h); exact⟨a,b,c,d,rfl⟩
def ao:AF:=λO=>some ([],O)
def aa (f:EF) (g:AF):AF:=λO=>(f O).bind λx=>(g x.2).map λy=>(x.1::y.1,y.2)
theorem aq:PA X [] (lr X.K ao):=PA.imp mR λU H Q q=>by obtain⟨H0,Z0,O,pd,l,O',s,f,k⟩:=q;cases f;exact k [] H rfl s
theorem ak (ha:PE X e (tP X.K f)) (hr:PA X es (lr X.K g)) (hs:starEach (e::es) X.env=(false,eval e X.env)::starEach es X.env:=by rfl):PA X (e::es) (lr X.K (aa f g)):=PA.imp (fj ha hr hs) λU H Q q=>by
 obtain⟨H0,Z0,O,pd,l,O',s,h,k⟩:=q;unfold aa at h;cases h1:f O with
 | none=>rw[h1]at h; cases h
 | some x=>
  rw[h1,aay]at h;cases h2:g x.2 with
  | none=>rw[h2]at h; cases h
  | some y=>
   rw[h2]at h;cases h;refine⟨H0,Z0,O,pd,x.1,x.2,s,h1,λv H1 s1=>⟨H0,Z0,x.2,_,y.1,y.2,s1,h2,λvs H2 e2 s2=>?_⟩⟩;refine k (v::vs) H2 (by simp[e2]) (s2.perm abi.symm)
def aP (g:AF):EF:=λO=>(g O).bind λy=>if y.1.length<=1000 then some (.own (.lst (y.1.map Lc.pv)),y.2) else none
def bQ (g:AF):EF:=λO=>(g O).bind λy=>if y.1.length<=1000 then some (.sh (.tup (y.1.map Lc.pv)),y.2) else none
theorem small (h:n<=100000):n<=sizeLine:=by rw[sizeLine_eq]; omega
theorem bR (h:PA X es (lr X.K g)):PE X (.List es pos) (tP X.K (aP g)):=PE.imp (WX h) λU H Q q=>by
 obtain⟨H0,Z0,O,pd,l,O',s,f,k⟩:=q;unfold aP at f;cases h2:g O with
 | none=>rw[h2]at f; cases f
 | some y=>
  rw[h2,aay]at f;split at f
  . cases f;refine⟨H0,Z0,O,pd,y.1,y.2,s,h2,λvs H2 e2 s2=>⟨small (by omega),λp hp=>k _ _ ?_⟩⟩;obtain⟨el,Z,hg,z,r,sl'⟩:=s2.repl e2;obtain⟨z',s'⟩:=sl'.new (p:=.lst (y.1.map Lc.pv)) z hp ⟨vs,dm,r⟩;exact .mk el hg z' s'
  . cases f
theorem dw {x1} (h:PA X es (lr X.K g)):PE X (.Tuple es x1 pos) (tP X.K (bQ g)):=PE.imp (HH h) λU H Q q=>by
 obtain⟨H0,Z0,O,pd,l,O',s,f,k⟩:=q;unfold bQ at f;cases h2:g O with
 | none=>rw[h2]at f; cases f
 | some y=>
  rw[h2,aay]at f;split at f
  . cases f;refine⟨H0,Z0,O,pd,y.1,y.2,s,h2,λvs H2 e2 s2=>⟨small (by omega),λp hp=>k _ _ ?_⟩⟩;obtain⟨el,Z,hg,z,r,sl'⟩:=s2.repl e2;obtain⟨z',sz,s'⟩:=sl'.newF z hp;refine .mk (Z:=Z.put p (.tup vs)) el hg z' (s'.consS ?_);exact⟨p,vs,rfl,eU.of dm,r.mono sz⟩
  . cases f
def tT (f:EF) (tr:PV->Option Bool):TF:=λO=>(f O).bind λx=>(tr x.1.pv).map λb=>(b,x.2)
def dq:PV->Option Bool
 | .non=>some false
 | .bl b=>some b
 | .int i=>some (i != 0)
 | .str x=>if x.length<=100000 then some ((x.length:Int) != 0) else none
 | .tup ps=>some (!ps.isEmpty)
 | .lst ps=>some (!ps.isEmpty)
 | .dk ks ps=>some (!ps.isEmpty)
 | _=>none
theorem aai (r:Rep K ⟨H,g⟩ p v) (h:dq p=some b):Rb K v H b:=by
 cases p with
 | non=>have:=iw r; subst this; cases h; exact rfl
 | bl c=>have:=d8 r; subst this; cases h; exact rfl
 | int i=>have:=cG r; subst this; cases h; exact rfl
 | str x=>
  have:=cU r; subst this;have h:(if x.length<=100000 then some ((x.length:Int) != 0) else none)=some b:=h;split at h
  . rename_i hl; cases h; exact⟨small hl,rfl⟩
  . cases h
 | tup ps=>
  obtain⟨a,vs,rfl,h1,h2⟩:=r;cases h;refine .inr (.inl ⟨vs,h1,?_⟩);have:=h2.length;cases ps<;>cases vs<;>simp at this<;>rfl
 | lst ps=>
  obtain⟨a,vs,rfl,h1,h2⟩:=r;cases h;refine .inl ⟨vs,h1,?_⟩;have:=h2.length;cases ps<;>cases vs<;>simp at this<;>rfl
 | dk ks ps=>
  obtain⟨a,kvs,rfl,h1,h3,h2⟩:=r;cases h;refine .inr (.inr ⟨kvs,h1,?_⟩);have:=h2.length;cases ps<;>cases kvs<;>simp at this<;>rfl
 | _=>cases h
theorem Li (h:tT f tr O=some (b,O')):∃x,f O=some (x,O')/\tr x.pv=some b:=by
 unfold tT at h;cases h1:f O with
 | none=>rw[h1]at h; cases h
 | some x=>
  rw[h1,aay]at h;cases h2:tr x.1.pv with
  | none=>rw[h2]at h; cases h
  | some y=>rw[h2]at h; cases h; exact⟨x.1,rfl,h2⟩
theorem gF (ha:PE X a (tP X.K f)) (he:∀whole,isTrue a X.env whole=(do let v <-whole; standAt a.pos; holding [v] (truthy v))):PT X a (jg X.K (tT f dq)):=PT.imp (Rc ha he) λU H Q q=>by obtain⟨H0,Z0,O,pd,b,O',s,f',k⟩:=q;obtain⟨x,h1,h2⟩:=Li f';refine⟨H0,Z0,O,pd,x,O',s,h1,λv H1 s1=>⟨b,aai s1.freeze.repH.choose_spec h2,k H1 s1.pop⟩⟩
def aW:PV->Option Bool
 | .bl b=>some b
 | _=>none
theorem T3 (ha:PT X a (Nk (tP X.K f))):PT X a (jg X.K (tT f aW)):=PT.imp ha λU H Q q=>by
 obtain⟨H0,Z0,O,pd,b,O',s,f',k⟩:=q;obtain⟨x,h1,h2⟩:=Li f';refine⟨H0,Z0,O,pd,x,O',s,h1,λv H1 s1=>⟨b,?_,k H1 s1.pop⟩⟩;obtain⟨_,r⟩:=s1.freeze.repH;cases e:x.pv with
 | bl c=>rw[e]at h2 r; cases h2; exact d8 r
 | _=>rw[e]at h2; cases h2
theorem bD (ho:gh X (compareOp op) r) (hs:jt X.K r g) (ha:PE X a (tP X.K fa)) (hb:PE X b (tP X.K fb)) (hm:behindInMarks op b=false):PT X (.Compare a [op] [b] pos) (jg X.K (tT (aC g fa fb) aW)):=
 T3 (PT.imp (UG ho ha hb hm) λU H Q q=>BV hs U H _ q)
def iy (f g:TF):TF:=λO=>(f O).bind λx=>if x.1=true then g x.2 else some (false,x.2)
def dR (f g:TF):TF:=λO=>(f O).bind λx=>if x.1=true then some (true,x.2) else g x.2
def dH (f:TF):TF:=λO=>(f O).map λx=>(!x.1,x.2)
theorem Vh:∀U H Q,jg X.K (iy f g) U H Q->Wn (jg X.K f) (jg X.K g) U H Q:=λU H Q q=>by
 obtain⟨H0,Z0,O,pd,b,O',s,h,k⟩:=q;unfold iy at h;cases h1:f O with
 | none=>rw[h1]at h; cases h
 | some x=>
  rw[h1,aay]at h;refine⟨H0,Z0,O,pd,x.1,x.2,s,h1,λH1 s1=>?_⟩;dsimp only;split
  . rename_i c; rw[acq c]at h; exact⟨H0,Z0,x.2,pd,b,O',s1,h,k⟩
  . rename_i c; rw[acr c]at h; cases h; exact k H1 s1
theorem Xj:∀U H Q,jg X.K (dR f g) U H Q->Zm (jg X.K f) (jg X.K g) U H Q:=λU H Q q=>by
 obtain⟨H0,Z0,O,pd,b,O',s,h,k⟩:=q;unfold dR at h;cases h1:f O with
 | none=>rw[h1]at h; cases h
 | some x=>
  rw[h1,aay]at h;refine⟨H0,Z0,O,pd,x.1,x.2,s,h1,λH1 s1=>?_⟩;dsimp only;split
  . rename_i c; rw[acq c]at h; cases h; exact k H1 s1
  . rename_i c; rw[acr c]at h; exact⟨H0,Z0,x.2,pd,b,O',s1,h,k⟩
theorem vJ (ha:PT X a (jg X.K f)):PW X (.BoolOp .And [a] pos) (jg X.K f):=Uu ha
theorem lu (ha:PT X a (jg X.K f)):PW X (.BoolOp .Or [a] pos) (jg X.K f):=Wo ha
theorem tL {rest:List Expr} (ha:PT X a (jg X.K f)) (hb:PW X (.BoolOp .And (b::rest) pos) (jg X.K g)):PW X (.BoolOp .And (a::b::rest) pos) (jg X.K (iy f g)):=PW.imp (Wq ha hb) Vh
theorem jj {rest:List Expr} (ha:PT X a (jg X.K f)) (hb:PW X (.BoolOp .Or (b::rest) pos) (jg X.K g)):PW X (.BoolOp .Or (a::b::rest) pos) (jg X.K (dR f g)):=PW.imp (YH ha hb) Xj
theorem jW (ha:PT X a (jg X.K f)):PT X (.UnaryOp .Not a pos) (jg X.K (dH f)):=PT.imp (Wr ha) λU H Q q=>by
 obtain⟨H0,Z0,O,pd,b,O',s,h,k⟩:=q;unfold dH at h;cases h1:f O with
 | none=>rw[h1]at h; cases h
 | some x=>
  rw[h1]at h;cases h;exact⟨H0,Z0,O,pd,x.1,x.2,s,h1,λH1 s1=>k H1 s1⟩
def rP (f g:EF):EF:=λO=>(f O).bind λx=>match x.1.pv with
 | .bl true=>g x.2
 | .bl false=>some (.sh (.bl false),x.2)
 | _=>none
def Ig (f g:EF):EF:=λO=>(f O).bind λx=>match x.1.pv with
 | .bl true=>some (.sh (.bl true),x.2)
 | .bl false=>g x.2
 | _=>none
def Ih (f:EF):EF:=λO=>(f O).bind λx=>match x.1.pv with
 | .bl b=>some (.sh (.bl (!b)),x.2)
 | _=>none
theorem DG {op} (h:PE X a (tP X.K f)):PE X (.BoolOp op [a] pos) (tP X.K f):=Ws h
theorem Ii {rest:List Expr} (ha:PE X a (tP X.K f)) (hb:PE X (.BoolOp .And (b::rest) pos) (tP X.K g)):PE X (.BoolOp .And (a::b::rest) pos) (tP X.K (rP f g)):=PE.imp (Wt ha hb) λU H Q q=>by
 obtain⟨H0,Z0,O,pd,b,O',s,h,k⟩:=q;unfold rP at h;cases h1:f O with
 | none=>rw[h1]at h; cases h
 | some x=>
  rw[h1,aay]at h;refine⟨H0,Z0,O,pd,x.1,x.2,s,h1,λv H1 s1=>?_⟩;obtain⟨_,r⟩:=s1.freeze.repH;split at h
  . rename_i e;rw[e]at r;refine⟨true,d8 r,?_⟩;exact⟨H0,Z0,x.2,pd,b,O',s1.pop,h,k⟩
  . rename_i e;rw[e]at r;refine⟨false,d8 r,?_⟩;cases h;exact k _ H1 (s1.pop.scal fK)
  . cases h
theorem Zu {rest:List Expr} (ha:PE X a (tP X.K f)) (hb:PE X (.BoolOp .Or (b::rest) pos) (tP X.K g)):PE X (.BoolOp .Or (a::b::rest) pos) (tP X.K (Ig f g)):=PE.imp (YL ha hb) λU H Q q=>by
 obtain⟨H0,Z0,O,pd,b,O',s,h,k⟩:=q;unfold Ig at h;cases h1:f O with
 | none=>rw[h1]at h; cases h
 | some x=>
  rw[h1,aay]at h;refine⟨H0,Z0,O,pd,x.1,x.2,s,h1,λv H1 s1=>?_⟩;obtain⟨_,r⟩:=s1.freeze.repH;split at h
  . rename_i e;rw[e]at r;refine⟨true,d8 r,?_⟩;cases h;exact k _ H1 (s1.pop.scal fK)
  . rename_i e;rw[e]at r;refine⟨false,d8 r,?_⟩;exact⟨H0,Z0,x.2,pd,b,O',s1.pop,h,k⟩
  . cases h
theorem aaj (ha:PE X a (tP X.K f)):PE X (.UnaryOp .Not a pos) (tP X.K (Ih f)):=PE.imp (Wu ha) λU H Q q=>by
 obtain⟨H0,Z0,O,pd,b,O',s,h,k⟩:=q;unfold Ih at h;cases h1:f O with
 | none=>rw[h1]at h; cases h
 | some x=>
  rw[h1,aay]at h;refine⟨H0,Z0,O,pd,x.1,x.2,s,h1,λv H1 s1=>?_⟩;obtain⟨_,r⟩:=s1.freeze.repH;split at h
  . rename_i c e;rw[e]at r;cases h;exact⟨c,d8 r,k _ H1 (s1.pop.scal fK)⟩
  . cases h
def Lj (c:TF) (f g:EF):EF:=λO=>(c O).bind λx=>if x.1=true then f x.2 else g x.2
theorem Zv (hc:PT X c (jg X.K fc)) (ha:PE X a (tP X.K f)) (hb:PE X b (tP X.K g)):PE X (.IfExp c a b pos) (tP X.K (Lj fc f g)):=PE.imp (QZ hc ha hb) λU H Q q=>by
 obtain⟨H0,Z0,O,pd,b,O',s,h,k⟩:=q;unfold Lj at h;cases h1:fc O with
 | none=>rw[h1]at h; cases h
 | some x=>
  rw[h1,aay]at h;refine⟨H0,Z0,O,pd,x.1,x.2,s,h1,λH1 s1=>?_⟩;dsimp only;split
  . rename_i c; rw[acq c]at h; exact⟨H0,Z0,x.2,pd,b,O',s1,h,k⟩
  . rename_i c; rw[acr c]at h; exact⟨H0,Z0,x.2,pd,b,O',s1,h,k⟩
def bM:SF:=λO=>some (.nx O)
def aF (f g:SF):SF:=λO=>(f O).bind λx=>match x with
 | .nx O'=>g O'
 | y=>some y
theorem bj:ju X [] (gw X.K bM):=ju.imp Uv λD U H q=>by obtain⟨H0,Z0,O,pd,fl,s,h,k⟩:=q;cases h;exact k U H s
theorem aA {st:Stmt} {rest:List Stmt} (h1:PS X st (gw X.K f)) (h2:ju X rest (gw X.K g)):ju X (st::rest) (gw X.K (aF f g)):=ju.imp (Q0 h1 h2) λD U H q=>by
 obtain⟨H0,Z0,O,pd,fl,s,h,k⟩:=q;unfold aF at h;cases e:f O with
 | none=>rw[e]at h; cases h
 | some x=>
  rw[e,aay]at h;refine⟨H0,Z0,O,pd,x,s,e,?_⟩;cases x with
  | nx O'=>exact λU' H' s'=>⟨H0,Z0,O',pd,fl,s',h,k⟩
  | rt r O'=>cases h; exact k
  | bk O'=>cases h; exact k
  | ct O'=>cases h; exact k
theorem aD {st:Stmt} (h1:PS X st (gw X.K f)):ju X [st] (gw X.K f):=Uw h1
def jG (f:EF):SF:=λO=>(f O).map λx=>.nx x.2
theorem acz {α β:Type} {o:Option α} {f:α->β} {b:β} (h:o.map f=some b):∃a,o=some a/\f a=b:=by
 cases o with
 | none=>cases h
 | some a=>exact⟨a,rfl,aaM h⟩
theorem acy {α β:Type} {o:Option α} {f:α->Option β} {b:β} (h:o.bind f=some b):∃a,o=some a/\f a=some b:=by
 cases o with
 | none=>cases h
 | some a=>exact⟨a,rfl,h⟩
theorem oX (he:PE X e (tP X.K f)) (hs:swapsWith e none pos.line X.env=pure false:=by rfl):PS X (.Expr e pos) (gw X.K (jG f)):=PS.imp (jL he hs) λD U H q=>by obtain⟨H0,Z0,O,pd,fl,s,h,k⟩:=q;obtain⟨x,h1,rfl⟩:=acz h;exact⟨H0,Z0,O,pd,x.1,x.2,s,h1,λv H' s'=>k U H' s'.pop⟩
def bB (f:EF):SF:=λO=>(f O).map λx=>.rt x.1 x.2
theorem aX (he:PE X e (tP X.K f)):PS X (.Return (some e) pos) (gw X.K (bB f)):=PS.imp (OJ he) λD U H q=>by obtain⟨H0,Z0,O,pd,fl,s,h,k⟩:=q;obtain⟨x,h1,rfl⟩:=acz h;exact⟨H0,Z0,O,pd,x.1,x.2,s,h1,λv H' s'=>k v U H' s'⟩
def jk (i:Nat):SF:=λO=>match O.vs[i]? with
 | some (some l)=>some (.rt l (O.set i none))
 | _=>none
theorem iV (he:PE X e (wy i)):PS X (.Return (some e) pos) (gw X.K (jk i)):=PS.imp (OJ he) λD U H q=>by
 obtain⟨H0,Z0,O,pd,fl,s,h,k⟩:=q;unfold jk at h;split at h
 . rename_i l e1;cases h;obtain⟨v,h1,h2⟩:=s.take e1;exact⟨v,h1,k v U H h2⟩
 . cases h
def bT (c:TF) (f g:SF):SF:=λO=>(c O).bind λx=>if x.1=true then f x.2 else g x.2
theorem bL (hc:PT X c (jg X.K fc)) (ha:ju X a (gw X.K f)) (hb:ju X b (gw X.K g)):PS X (.If c a b pos) (gw X.K (bT fc f g)):=PS.imp (YQ hc ha hb) λD U H q=>by
 obtain⟨H0,Z0,O,pd,fl,s,h,k⟩:=q;obtain⟨x,h1,h2⟩:=acy h;refine⟨H0,Z0,O,pd,x.1,x.2,s,h1,λH1 s1=>?_⟩;dsimp only;split
 . rename_i c; rw[acq c]at h2; exact⟨H0,Z0,x.2,pd,fl,s1,h2,k⟩
 . rename_i c; rw[acr c]at h2; exact⟨H0,Z0,x.2,pd,fl,s1,h2,k⟩
def aM (i:Nat) (f:EF):SF:=λO=>(f O).bind λx=>if i<x.2.vs.length then some (.nx (x.2.set i (some x.1))) else none
theorem Lk {t:TS} (h:∀D U H,(tP X.K f U H λv H1=>D.nx (U.set i (some v)) H1)->t D U H):∀D U H,gw X.K (aM i f) D U H->t D U H:=λD U H q=>by
 obtain⟨H0,Z0,O,pd,fl,s,h',k⟩:=q;obtain⟨x,h1,h2⟩:=acy h';split at h2
 . rename_i hl;cases h2;exact h D U H ⟨H0,Z0,O,pd,x.1,x.2,s,h1,λv H1 s1=>k _ _ (s1.store hl)⟩
 . cases h2
theorem PJ (hN:X.N.Nodup) (hi:X.N[i]?=some x) (hx:L2.Loc X.env.scope x) (he:PE X e (tP X.K f)) (hs:swapsWith e (some (.Name x pos')) pos.line X.env=pure false:=by rfl) (hf:X.fn x=true\/X.env.scope.names.lookup x=some .local:=by first | exact .inl rfl | exact .inr rfl | assumption):
 PS X (.Assign [.Name x pos'] e pos) (gw X.K (aM i f)):=PS.imp (Wz hN hi hx he hs hf) (Lk λD U H q=>q)
abbrev GF:=List PV->Mu->Option (Lc×Mu)
def mV (H:Hp) (g:List Addr):Hp:=λb=>if b∈g then none else H b
theorem Vi (h:mV H g b=some o):H b=some o/\b∉g:=by
 unfold mV at h;split at h
 . cases h
 . rename_i q; exact⟨h,q⟩
theorem Ry (h:b∈g):mV H g b=none:=by unfold mV; rw[acq h]
theorem Ij (h:b∉g):mV H g b=H b:=by unfold mV; rw[acr h]
def Xk (K:FG) (H:Hp) (Z:ZG) (g:List Addr) (H':Hp) (mu':Mu) (v:V) (r:Lc):Prop:=∃Z',mu'.length=Z'.g.length/\nP (mV H g) Z Z' H'/\Slots K (mV H g) Z' H' ((some v,some r)::cel Z'.g mu')
def bU (K:FG) (n:Nat) (g:GF):Sp:=λvs H Q _=>∃(Z:ZG) (ps:List PV) (mu:Mu) (r:Lc) (mu':Mu),vs.length=n/\mu.length=Z.g.length/\eO Z.z H/\aZ K Z ps vs/\Slots K (mV H (tK Z.g mu)) Z H (cel Z.g mu)/\g ps mu=some (r,mu')/\∀v H',Xk K H Z (tK Z.g mu) H' mu' v r->Q v H'
def az (g:GF) (a:AF):EF:=λO=>(a O).bind λy=>(g (y.1.map Lc.pv) y.2.mu).map λr=>(r.1,⟨y.2.vs,r.2⟩)
theorem Vj (he:e∈cel g mu):∃a,e.1=some (.ref a)/\(e.2=none\/∃p,e.2=some (.own p)):=by
 obtain⟨h1,h2⟩:=abF he;obtain⟨a,_,e1⟩:=aa0.mp h1;obtain⟨o,_,e2⟩:=aa0.mp h2;refine⟨a,e1.symm,?_⟩;cases o with
 | none=>exact .inl e2.symm
 | some p=>exact .inr ⟨p,e2.symm⟩
theorem Slots.cells (hg:O.mu.length=Z.g.length) (s:Slots K H0 Z H (sl Z.g U O pd)):Slots K (mV H (tK Z.g O.mu)) Z H (cel Z.g O.mu):=by
 have s1:=s.sub (abj _ _);refine⟨λe he=>?_,s1.2⟩;obtain⟨a,h1,h2⟩:=Vj he;obtain⟨v,l⟩:=e;have h1':=h1;subst h1';rcases h2 with h2 | ⟨p,h2⟩
 . have h2':=h2;subst h2'; trivial
 . have h2':=h2;subst h2';obtain⟨b,e1,e2,e3,e4⟩:=s1.1 _ he;cases e1;exact⟨a,rfl,e2,e3,Ry (abg.mpr ⟨_,he,rfl⟩)⟩
theorem SR.called (el:U.length=O.vs.length) (hg:O.mu.length=Z.g.length) (z:nP H0 Z0 Z H) (s:Slots K H0 Z H (sl Z.g U O pd)) (h:Xk K H Z (tK Z.g O.mu) H' mu' v r):SR K H0 Z0 U H' ⟨O.vs,mu'⟩ ((v,r)::pd):=by
 obtain⟨Z',hg',z',q⟩:=h;have s1:=s.sub (abj _ _);have s0:=s.sub (abM _ _);have nd:(tK Z.g O.mu++(U.zip O.vs++pd.map λe=>(some e.1,some e.2)).filterMap mU).Nodup:=by have:=s.2;unfold sl at this;rw[List.filterMap_append]at this;exact this
 have hc0:∀a∈tK Z.g O.mu,H0 a=none:=λa ha=>by obtain⟨e,he,hb⟩:=abg.mp ha;exact(jV s1 he hb).2.1
 have h0:eO H0 (mV H (tK Z.g O.mu)):=λb o e=>by rw[Ij λhm=>by rw[hc0 b hm]at e; cases e];exact z.h0 b o e
 have z2:nP H0 Z0 Z' H':=⟨z'.zh,h0.trans z'.h0,z.z0.trans z'.z0,λb o e=>by
  rcases z'.new b o e with e | e | e
  . exact z.new b o e
  . exact .inr (.inl (h0.free e))
  . exact .inr (.inr e)⟩
 have nog:∀e∈(U.zip O.vs++pd.map λe=>((some e.1:Option V),(some e.2:Option Lc))),∀a,mU e=some a->a∉tK Z.g O.mu/\mV H (tK Z.g O.mu) a=H a:=λe he a ha=>by have hn:=λhm=>(List.nodup_append.mp nd).2.2 a hm a (abg.mpr ⟨e,he,ha⟩) rfl;exact⟨hn,Ij hn⟩
 have hk:∀e∈(U.zip O.vs++pd.map λe=>((some e.1:Option V),(some e.2:Option Lc))),∀a,mU e=some a->H' a=H a/\Z'.z a=none:=λe he a ha=>by
  obtain⟨h1,h2,o,h3,h4⟩:=jV s0 he ha;obtain⟨hn,ho⟩:=nog e he a ha;have h5:=z'.h0 a o (by rw[ho]; exact h3);refine⟨by rw[h3]; exact h5,?_⟩;cases q:Z'.z a with
  | none=>rfl
  | some u=>
   rcases z'.new a u q with e | e | e
   . rw[h1]at e; cases e
   . rw[ho,h3]at e; cases e
   . have:=z'.zh a u q;rw[h5]at this; cases this;exact(h4 e).elim
 have s2:=s0.step z'.z0 hk;have q':Slots K H0 Z' H' ((some v,some r)::cel Z'.g mu'):=by
  refine⟨λe he=>?_,q.2⟩;have:=q.1 e he;obtain⟨w,l⟩:=e;cases l with
  | none=>trivial
  | some l=>
   cases l with
   | sh p=>exact this
   | own p=>obtain⟨a,e1,e2,e3,e4⟩:=this; exact⟨a,e1,e2,e3,h0.free e4⟩
 have dis:∀e∈((some v,some r)::cel Z'.g mu'),∀a,mU e=some a->∀e'∈(U.zip O.vs++pd.map λe=>((some e.1:Option V),(some e.2:Option Lc))),mU e'≠some a:=λe he a ha e' he' ha'=>by obtain⟨_,h2,_⟩:=jV q he ha;obtain⟨_,_,o,h3,_⟩:=jV s0 he' ha';rw[(nog e' he' a ha').2,h3]at h2; cases h2
 refine .mk el hg' z2 ?_;refine⟨λe he=>?_,?_⟩
 . rcases aaI.mp he with rfl | he
   . exact q'.1 _ aaz
   . rcases abq.mp he with he | he
     . exact q'.1 _ (aaA _ he)
     . exact s2.1 e he
 . show (((some v,some r)::(cel Z'.g mu'++(U.zip O.vs++pd.map λe=>(some e.1,some e.2)))).filterMap mU).Nodup;rw[<-abk,List.filterMap_append];refine List.nodup_append.mpr ⟨q'.2,s2.2,λa ha b hb e=>?_⟩;subst e;obtain⟨e1,he1,h1⟩:=abg.mp ha;obtain⟨e2,he2,h2⟩:=abg.mp hb;exact dis e1 he1 a h1 e2 he2 h2
theorem Ik:∀U H Q,(∃H0 Z0 O pd r O',SR X.K H0 Z0 U H O pd/\az g a O=some (r,O')/\(∀ls O1,a O=some (ls,O1)->ls.length=n)/\∀v H',SR X.K H0 Z0 U H' O' ((v,r)::pd)->Q v H')->Nv (bU X.K n g) [] E (lr X.K a) U H Q:=λU H Q q=>by
 obtain⟨H0,Z0,O,pd,r,O',s,h,hn,k⟩:=q;obtain⟨y,h1,h2⟩:=acy h;obtain⟨r',h3,h4⟩:=acz h2;cases h4;refine⟨H0,Z0,O,pd,y.1,y.2,s,h1,λvs H2 e2 s2=>?_⟩;obtain⟨el,Z,hg,z,rl,sl'⟩:=s2.repl e2;refine⟨Z,y.1.map Lc.pv,y.2.mu,_,_,?_,hg,z.zh,?_,sl'.cells hg,h3,λv H' rr=>k v H' (SR.called el hg z sl' rr)⟩
 . rw[aa1,e2]; exact hn _ _ h1
 . rw[aa1]; exact rl
end
section
variable {P:Program} {w:World} {K:FG} {mg:Str->Option Value} {base:Heap}
def bV (K:FG) (mg:Str->Option Value) (x:Str) (st:Stmt) (ps:List Str):Prop:=∃f fd,uF K x x st f fd/\mg x=some (.ref f)/\Binds K fd ps []
def Il (b:Bool) (P:Program) (w:World) (K:FG) (mg:Str->Option Value) (base:Heap) (x:Str) (k:Nat) (ps:List Str) (sp:Sp):Prop:=∃f fd,sG b P w K mg base qe k f fd ps sp/\mg x=some (.ref f)/\W.keepIn K (.ref f)=true/\Binds K fd ps []
abbrev bG:=Il true
def env0 (n:Nat) (ps:List PV) (mu:Mu):Ev:=⟨ps.map (λp=>some (Lc.sh p))++List.replicate (n-ps.length) none,mu⟩
def cN (n:Nat) (g:SF):GF:=λps mu=>(g (env0 n ps mu)).bind λx=>match x with
 | .rt r O=>some (r,O.mu)
 | .nx O=>some (.sh .non,O.mu)
 | _=>none
theorem Ln (s:Slots K H0 Z H L):∀{ps:List PV} {vs:List V},aZ K Z ps vs->Slots K H0 Z H ((vs.map some).zip (ps.map λp=>some (Lc.sh p))++L)
 | [],vs,h=>by have:=h.inv0; subst this; simpa using s
 | p::ps,vs,h=>by obtain⟨v,r,rfl,h1,h2⟩:=h.inv;exact(Ln s h2).consS h1
theorem nones (s:Slots K H0 Z H L):∀n:Nat,Slots K H0 Z H ((List.replicate n (none:Option V)).zip (List.replicate n (none:Option Lc))++L)
 | 0=>s
 | n+1=>by
  rw[List.replicate_succ,List.replicate_succ,abD,abk];have ih:=nones s n;refine⟨λe he=>?_,?_⟩
  . rcases aaI.mp he with rfl | he
    . trivial
    . exact ih.1 e he
  .  exact ih.2
theorem Bb (hg:mu.length=Z.g.length) (z:eO Z.z H) (r:aZ K Z ps vs) (c:Slots K (mV H (tK Z.g mu)) Z H (cel Z.g mu)):SR K (mV H (tK Z.g mu)) Z (L2.start N vs) H (env0 N.length ps mu) []:=by have hl:=r.length;refine⟨by simp[L2.start,env0,hl],Z,hg,⟨z,λb o e=>(Vi e).1,kj.refl _,λb o e=>.inl e⟩,?_⟩;unfold sl L2.start env0;rw[abT (by simp[hl]),abz,aa1,hl];exact(Ln (nones c _) r).perm ((ab6).trans (by rw[aaZ]))
theorem bV.ok {st:Stmt} (F:bV K mg x st ps) (S:bF N ps (aN st))
 (h:∀(f:Addr) (cdv:Value) (A:Around) (outer:List PySem.Env) (s:Shared) (H:Hp) (E:XK),gW b k (A.deeper (envOfC x (aN st) s.heap.objs.size f cdv))->
   ∃g':SF,(∀a mu,g a mu=cN N.length g' a mu)/\ju (uE b qe P w K mg base N x (aN st) f cdv A outer s H E).nox (jN st) (gw K g')):Il b P w K mg base x (k+1) ps (bU K ps.length g):=by
 obtain⟨f,fd,F,hm,hb⟩:=F;refine⟨f,fd,F.ok S (λvs H Q E q=>?_) (λcdv A outer s H vs Q E hr q=>?_),hm,F.kp,hb⟩
 . obtain⟨Z,qs,mu,r,mu',e,_⟩:=q; exact e
 . obtain⟨g',eg,b⟩:=h f cdv A outer s H E hr;obtain⟨Z,qs,mu,r,mu',e,hg,z,rl,c,hr',kk⟩:=q;rw[eg]at hr';obtain⟨fl,h1,h2⟩:=acy hr';refine⟨_,b,mV H (tK Z.g mu),Z,_,[],fl,Bb hg z rl c,h1,?_⟩;cases fl with
   | rt r' O'=>
    cases h2;intro v U' H' s';obtain⟨el,Z',hg',z',s''⟩:=s'.top;refine kk v H' ⟨Z',hg',z',s''.sub ?_⟩;exact(abj _ _).cons_cons _
   | nx O'=>
    cases h2;intro U' H' s';obtain⟨el,Z',hg',z',s''⟩:=s';exact kk .non H' ⟨Z',hg',z',(s''.sub (abj _ _)).consS (zV _)⟩
   | bk O'=>cases h2
   | ct O'=>cases h2
end
section
variable {X:Cx}
theorem aO (D:Il b X.prog X.w X.K X.mg X.base x k ps (bU X.K ps.length g)) (hr:gW b k X.A) (hg:Gl X x)
 (ha:PA X (e::es) (lr X.K a)) (hn:∀O ls O1,a O=some (ls,O1)->ls.length=ps.length) (hdb:(x==("__debug__" : Str))=false:=by decide) (he:starEach (e::es) X.env=(false,eval e X.env)::starEach es X.env:=by rfl) (hpl:(backTo pos (starEach es X.env)).any (·.1)=false:=by rfl):PE X (.Call (.Name x p) (e::es) [] pos) (tP X.K (az g a)):=by
 obtain⟨f,fd,F,hm,hk,hb⟩:=D;refine PE.imp (Le F hr hg hm hk hb .nil zU ha hdb he hpl) λU H Q q=>?_;obtain⟨H0,Z0,O,pd,r,O',s,h,kk⟩:=q;exact Ik U H Q ⟨H0,Z0,O,pd,r,O',s,h,λls O1 e=>hn O ls O1 e,kk⟩
section
variable {K:FG} {H0 H H':Hp} {Z0 Z:ZG} {U:L2.St} {O:Ev} {pd pd':Pd} {v w:V} {l:Lc} {p:PV}
theorem SR.sub (h:SR K H0 Z0 U H O pd') (q:List.Sublist pd pd'):SR K H0 Z0 U H O pd:=
 let ⟨e,Z,hg,z,s⟩:=h
 ⟨e,Z,hg,z,s.sub ((abU _).append ((abU _).append (q.map _)))⟩
theorem SR.dup (h:SR K H0 Z0 U H O ((v,.sh p)::pd)):SR K H0 Z0 U H O ((v,.sh p)::(v,.sh p)::pd):=by obtain⟨e,Z,hg,z,s⟩:=h.top;obtain⟨x,e1,e2⟩:=s.1 _ aaz;cases e1;exact .mk e hg z ((s.perm fM).consS e2)
theorem SR.part (h:SR K H0 Z0 U H O ((v,.sh p)::pd)) (k:∀Z:ZG,eO Z.z H->Rep K Z p v->Rep K Z q u):SR K H0 Z0 U H O ((u,.sh q)::(v,.sh p)::pd):=by obtain⟨e,Z,hg,z,s⟩:=h.top;obtain⟨x,e1,e2⟩:=s.1 _ aaz;cases e1;exact .mk e hg z ((s.perm fM).consS (k Z z.zh e2))
end
abbrev BF:=PV->Ev->Option Ev
def GS (K:FG) (g:TG) (b:BF):Prop:=∀H0 Z0 U H O pd v p O' Q,SR K H0 Z0 U H O ((v,.sh p)::pd)->b p O=some O'->(∀U',SR K H0 Z0 U' H O' pd->Q U' H)->g v U H Q
abbrev Im:=List PV->Ev->Option Ev
def T4 (K:FG) (g:xP) (b:Im):Prop:=∀H0 Z0 U H O pd vs ps O' Q,vs.length=ps.length->SR K H0 Z0 U H O (vs.zip (ps.map Lc.sh)++pd)->b ps O=some O'->(∀U',SR K H0 Z0 U' H O' pd->Q U' H)->g vs U H Q
def aJ (i:Nat):BF:=λp O=>if i<O.vs.length then some (O.set i (some (.sh p))) else none
theorem bH:GS K (Ha i) (aJ i):=by
 intro H0 Z0 U H O pd v p O' Q s h k;unfold aJ at h;split at h
 . rename_i hl; cases h; exact k _ (s.store hl)
 . cases h
def eV:Im:=λps O=>match ps with
 | []=>some O
 | _=>none
def bh (b:BF) (bs:Im):Im:=λps O=>match ps with
 | p::r=>(b p O).bind λO1=>bs r O1
 | []=>none
theorem lU:T4 K Ww eV:=by
 intro H0 Z0 U H O pd vs ps O' Q e s h k;cases ps with
 | nil=>
  cases h;have:vs=[]:=ab8 (by simpa using e);subst this;exact⟨rfl,k U s⟩
 | cons p r=>cases h
theorem cV (h1:GS K t b) (h2:T4 K u bs):T4 K (Ti t u) (bh b bs):=by
 intro H0 Z0 U H O pd vs ps O' Q e s h k;cases ps with
 | nil=>cases h
 | cons p r=>
  cases vs with
  | nil=>simp at e
  | cons v ws=>
   obtain⟨O1,e1,e2⟩:=acy h;refine⟨v,ws,rfl,h1 H0 Z0 U H O _ v p O1 _ s e1 λU' s'=>?_⟩;exact h2 H0 Z0 U' H O1 pd ws r O' Q (by simpa using e) s' e2 k
theorem PK (s:Slots K H0 Z H L):∀{ps:List PV} {vs:List V},aZ K Z ps vs->Slots K H0 Z H ((vs.zip (ps.map Lc.sh)).map (λe=>(some e.1,some e.2))++L)
 | [],vs,h=>by have:=h.inv0; subst this; simpa using s
 | p::ps,vs,h=>by obtain⟨v,r,rfl,h1,h2⟩:=h.inv;exact(PK s h2).consS h1
theorem SR.items (e:U.length=O.vs.length) (hg:O.mu.length=Z.g.length) (z:nP H0 Z0 Z H) (r:aZ K Z ps vs) (s:Slots K H0 Z H (sl Z.g U O pd)):SR K H0 Z0 U H O (vs.zip (ps.map Lc.sh)++pd):=
 ⟨e,Z,hg,z,(PK s r).perm Ie⟩
def Rz (f:EF) (b:BF):SF:=λO=>(f O).bind λx=>(b x.1.pv x.2).map Fl.nx
theorem Xl (he:PE X e (tP X.K f)) (hg:PG X tg g) (hb:GS X.K g b) (hs:swapsWithSole [tg] e pos.line X.env=pure false:=by rfl) (hw:swappedStores [tg] e X.env=pure none:=by rfl)
 (h1:(assignEach [tg] X.env).map (·.2)=[assign tg X.env]:=by rfl):PS X (.Assign [tg] e pos) (gw X.K (Rz f b)):=PS.imp (Hx he hg hs hw h1) λD U H q=>by
 obtain⟨H0,Z0,O,pd,fl,s,h,k⟩:=q;obtain⟨x,h1,h2⟩:=acy h;obtain⟨O',h3,rfl⟩:=acz h2;exact⟨H0,Z0,O,pd,x.1,x.2,s,h1,λv H1 s1=>hb H0 Z0 U H1 x.2 pd v _ O' D.nx s1.freeze h3 λU' s'=>k U' H1 s'⟩
def aaQ (i j:Nat) (a:AF):SF:=λO=>(a O).bind λy=>match y.1 with
 | [l,m]=>if i<y.2.vs.length/\j<y.2.vs.length then some (.nx ((y.2.set i (some l)).set j (some m))) else none
 | _=>none
def qx (K:FG) (H0:Hp) (Z0:ZG) (pd:Pd) (J:It) (xs:List PV):Prop:=∀U H O (i:Nat),SR K H0 Z0 U H O pd->
 (∀x,xs[i]?=some x->J.go i H/\∀v H',J.yld i H v H'->SR K H0 Z0 U H' O ((v,.sh x)::pd))/\(i=xs.length->J.stop i H)
abbrev IF:=Ev->Option (List PV×Ev)
def FQ (K:FG) (f:IF):TI:=λU H R=>∃H0 Z0 O pd xs O',SR K H0 Z0 U H O pd/\f O=some (xs,O')/\∀J H' pd',SR K H0 Z0 U H' O' pd'->qx K H0 Z0 pd' J xs->List.Sublist pd pd'->R J H'
theorem PI.imp (h:PI X tg iter t) (i:∀U H R,t' U H R->t U H R):PI X tg iter t':=λaeQ s U H R I q=>h aeQ s U H R I (i U H R q)
def gj (f:EF) (g:PV->Option (List PV)):IF:=λO=>(f O).bind λx=>(g x.1.pv).map λxs=>(xs,x.2)
theorem FT:qx K H0 Z0 ((.ref a,.sh (.lst ps))::pd) (Lb K a) ps:=by intro U H O i s;obtain⟨Z,z,r⟩:=s.rep;obtain⟨b,vs,e,h1,h2⟩:=r;cases e;have hq:=cM.same z h1;refine⟨λx hx=>?_,λhl=>⟨vs,hq,by rw[h2.length]; omega⟩⟩;obtain⟨v,hv,rv⟩:=h2.get hx;refine⟨⟨vs,v,hq,hv⟩,λv' H' y=>?_⟩;obtain⟨e',y⟩:=y;subst e';have:=y vs hq;rw[hv]at this; cases this;refine s.part λZ' z' r'=>?_;obtain⟨b',vs',e',h1',h2'⟩:=r';cases e';have:vs'[i]?=some v:=y vs' (cM.same z' h1');obtain⟨p',hp',rp'⟩:=h2'.getV this;rw[hx]at hp'; cases hp';exact rp'
theorem RC:qx K H0 Z0 ((.ref a,.sh (.tup ps))::pd) (Tj K a) ps:=by intro U H O i s;obtain⟨Z,z,r⟩:=s.rep;obtain⟨b,vs,e,h1,h2⟩:=r;cases e;have hq:=eU.same z h1;refine⟨λx hx=>?_,λhl=>⟨vs,hq,by rw[h2.length]; omega⟩⟩;obtain⟨v,hv,rv⟩:=h2.get hx;refine⟨⟨vs,v,hq,hv⟩,λv' H' y=>?_⟩;obtain⟨e',y⟩:=y;subst e';have:=y vs hq;rw[hv]at this; cases this;refine s.part λZ' z' r'=>?_;obtain⟨b',vs',e',h1',h2'⟩:=r';cases e';have:vs'[i]?=some v:=y vs' (eU.same z' h1');obtain⟨p',hp',rp'⟩:=h2'.getV this;rw[hx]at hp'; cases hp';exact rp'
def iJ (lo:Int) (n:Nat):List PV:=(List.range n).map λi=>.int (lo+(i:Nat))
def fu (a:AF):IF:=λO=>(a O).bind λy=>match y.1.map Lc.pv with
 | [.int j]=>if -(2 ^ 62)<=j/\j<2 ^ 62 then some (iJ 0 j.toNat,y.2) else none
 | _=>none
theorem RD {lo:Int}:qx K H0 Z0 pd (Tn lo n) (iJ lo n):=by
 intro U H O i s;refine⟨λx hx=>?_,λhl=>?_⟩
 . have hi:i<n:=by have:=(aaD.mp hx).1;simpa [iJ] using this
   refine⟨hi,λv H' y=>?_⟩;obtain⟨rfl,rfl⟩:=y;unfold iJ at hx;rw[aa2,List.getElem?_range hi]at hx;cases hx;exact s.scal f9
 . show n<=i;simp[iJ]at hl;omega
theorem SR.ints {ns:List Int} (s:SR K H0 Z0 U H O (vs.zip ls++pd)) (e:vs.length=ls.length) (h:ls.map Lc.pv=ns.map PV.int):vs=ns.map V.int/\SR K H0 Z0 U H O pd:=by
 obtain⟨el,Z,hg,z,r,sl'⟩:=s.repl e;refine⟨?_,el,Z,hg,z,sl'⟩;rw[h]at r;clear h e s sl';induction ns generalizing vs with
 | nil=>exact r.inv0
 | cons n ns ih=>
  obtain⟨v,w,rfl,h1,h2⟩:=r.inv;rw[cG h1,ih h2];rfl
theorem gQ (hg:Gl X "range") (hm:X.mg "range" = none) (ha:PA X [a] (lr X.K f)) (hs:starEach [a] X.env=[(false,eval a X.env)]:=by rfl):PI X tg (.Call (.Name "range" p) [a] [] pos) (FQ X.K (fu f)):=PI.imp (O3_ hg hm ha hs) λU H R q=>by
 obtain⟨H0,Z0,O,pd,xs,O',s,h,k⟩:=q;obtain⟨y,h1,h2⟩:=acy h;refine⟨H0,Z0,O,pd,y.1,y.2,s,h1,λvs H1 e1 s1=>?_⟩;split at h2
 . rename_i j e;split at h2
   . rename_i hj;cases h2;obtain⟨rfl,s2⟩:=s1.ints (ns:=[j]) e1 e;exact⟨j,rfl,hj.1,hj.2,k _ _ _ s2 RD (abU _)⟩
   . cases h2
 . cases h2
def dz (b:BF) (body:SF):List PV->SF
 | [],O=>some (.nx O)
 | x::xs,O=>(b x O).bind λO1=>(body O1).bind λfl=>match fl with
  | .nx O'=>dz b body xs O'
  | .ct O'=>dz b body xs O'
  | .bk O'=>some (.nx O')
  | .rt r O'=>some (.rt r O')
def jw (f:IF) (b:BF) (body:SF):SF:=λO=>(f O).bind λy=>dz b body y.1 y.2
theorem DK {P:Prop} (h:∀G:Prop,(P->G)->G):P:=h P id
def FW (K:FG) (H0:Hp) (Z0:ZG) (pd:Pd) (b:BF) (fb:SF) (xs:List PV) (fl:Fl) (i m:Nat) (U:L2.St) (H:Hp):Prop:=m=xs.length-i/\i<=xs.length/\∃O,SR K H0 Z0 U H O pd/\dz b fb (xs.drop i) O=some fl
theorem RG (hb:GS K g b) (it:qx K H0 Z0 pd J xs) (k:Ia K H0 Z0 pd D fl) (s:SR K H0 Z0 U H O pd) (h:dz b fb xs O=some fl):
 ∃W:Nat->Nat->L2.St->Hp->Prop,(∃m,W 0 m U H)/\∀i m U H,W i m U H->
  (J.stop i H/\D.nx U H)\/(J.go i H/\∃N:L2.St->Hp->Prop,(∀U' H',N U' H'->∃m',m'<m/\W (i+1) m' U' H')/\∀x H',J.yld i H x H'->g x U H' λU2 H2=>gw K fb { D with nx:=N,ct:=N,bk:=D.nx } U2 H2):=by
 refine⟨FW K H0 Z0 pd b fb xs fl,⟨_,rfl,abO _,O,s,h⟩,λi m U' H' w=>?_⟩;refine DK λG kG=>?_;obtain⟨rfl,hi,O',s',h'⟩:=w;obtain⟨i1,i2⟩:=it U' H' O' i s';by_cases hlt:i<xs.length
 . obtain⟨go,yl⟩:=i1 _ (aaK hlt);rw[abN hlt]at h';obtain⟨O1,e1,e2⟩:=acy h';obtain⟨fl1,e3,e4⟩:=acy e2;refine kG (.inr ⟨go,λU'' H''=>FW K H0 Z0 pd b fb xs fl (i+1) (xs.length-(i+1)) U'' H'',λU'' H'' w=>⟨_,by omega,w⟩,λx H2 hy=>hb H0 Z0 U' H2 O' pd x _ O1 _ (yl x H2 hy) e1 λU2 s2=>⟨H0,Z0,O1,pd,fl1,s2,e3,?_⟩⟩);cases fl1 with
   | nx O2=>exact λU3 H3 s3=>⟨rfl,hlt,O2,s3,e4⟩
   | ct O2=>exact λU3 H3 s3=>⟨rfl,hlt,O2,s3,e4⟩
   | bk O2=>cases e4; exact k
   | rt r O2=>cases e4; exact k
 . have e:=Nat.le_antisymm hi (ab3 hlt);subst e;rw[ack]at h';cases h';exact kG (.inl ⟨i2 rfl,k U' H' s'⟩)
theorem Ia.imp (k:Ia K H0 Z0 pd D fl) (w:∀{τ:L2.St} {J:Hp} {q:Ev},SR K H0 Z₁ τ J q pd'->SR K H0 Z0 τ J q pd) (w':∀{τ:L2.St} {J:Hp} {q:Ev} {e:V×Lc},SR K H0 Z₁ τ J q (e::pd')->SR K H0 Z0 τ J q (e::pd)):Ia K H0 Z₁ pd' D fl:=by
 cases fl with
 | rt r O=>exact λv U H s=>k v U H (w' s)
 | _=>exact λU H s=>k U H (w s)
theorem gY (hp:PassesOwn (model X.prog X.w) X.A X.env X.xe) (hc:X.calm=true) (hi:PI X tg iter (FQ X.K f)) (hg:PG X tg g) (hb':GS X.K g b) (hb:ju X body (gw X.K fb))
 (hs:∀x,foldedSetIterable iter X.env x=pure x:=by intro _; rfl):PS X (.For tg iter body [] pos) (gw X.K (jw f b fb)):=PS.imp (O5 hp hc hi hg hb hs) λD U H q=>by
 refine DK λG kG=>?_;obtain⟨H0,Z0,O,pd,fl,s,h,k⟩:=q;obtain⟨y,h1,h2⟩:=acy h;exact kG ⟨H0,Z0,O,pd,y.1,y.2,s,h1,λJ H1 pd' s1 it sub=>RG hb' it (k.imp (λs=>s.sub sub) λs=>s.sub (sub.cons_cons _)) s1 h2⟩
def jx (c:TF) (body:SF):Nat->SF
 | 0,_=>none
 | n+1,O=>(c O).bind λx=>if x.1=true then (body x.2).bind λfl=>match fl with
  | .nx O'=>jx c body n O'
  | .ct O'=>jx c body n O'
  | .bk O'=>some (.nx O')
  | .rt r O'=>some (.rt r O') else some (.nx x.2)
def mW (n:Nat) (c:TF) (body:SF):SF:=jx c body n
theorem wD (n:Nat) (hp:PassesOwn (model X.prog X.w) X.A X.env X.xe) (hc:PT X c (jg X.K fc)) (hb:ju X body (gw X.K fb)):PS X (.While c body [] pos) (gw X.K (mW n fc fb)):=PS.imp (Q5 hp hc hb) λD U H q=>by
 obtain⟨H0,Z0,O,pd,fl,s,h,k⟩:=q;refine⟨λm U' H'=>∃O',SR X.K H0 Z0 U' H' O' pd/\jx fc fb m O'=some fl,⟨n,O,s,h⟩,?_⟩;rintro m U' H' ⟨O',s',h'⟩;cases m with
 | zero=>cases h'
 | succ m=>
  obtain⟨x,e1,e2⟩:=acy h';refine⟨H0,Z0,O',pd,x.1,x.2,s',e1,λH1 s1=>?_⟩;dsimp only;split
  . rename_i hx;rw[acq hx]at e2;obtain⟨fl1,e3,e4⟩:=acy e2;refine⟨λU'' H''=>∃O'',SR X.K H0 Z0 U'' H'' O'' pd/\jx fc fb m O''=some fl,λU'' H'' q=>⟨m,abl _,q⟩,H0,Z0,x.2,pd,fl1,s1,e3,?_⟩;cases fl1 with
    | nx O2=>exact λU3 H3 s3=>⟨O2,s3,e4⟩
    | ct O2=>exact λU3 H3 s3=>⟨O2,s3,e4⟩
    | bk O2=>cases e4; exact λU3 H3 s3=>k U3 H3 s3
    | rt r O2=>cases e4; exact λv U3 H3 s3=>k v U3 H3 s3
  . rename_i hx;rw[acr hx]at e2;cases e2;exact k U' H1 s1
end
section
variable {K:FG} {H0 H H':Hp} {Z0 Z:ZG} {U:L2.St} {O:Ev} {pd pe:Pd} {v w:V} {l:Lc} {p:PV} {g:List Addr}
def Ev.app (O:Ev) (pe:Pd):Ev:=⟨O.vs++pe.map (λx=>some x.2),O.mu⟩
theorem Io (e:U.length=O.vs.length):sl g (U++pe.map λx=>some x.1) (O.app pe) pd=sl g U O (pe++pd):=by
 unfold sl Ev.app;rw[abT e,abt,aaZ];congr 3;induction pe with
 | nil=>rfl
 | cons a r ih=>simp[ih]
theorem SR.shift (h:SR K H0 Z0 U H O (pe++pd)):SR K H0 Z0 (U++pe.map λx=>some x.1) H (O.app pe) pd:=by obtain⟨e,Z,hg,z,s⟩:=h;refine⟨by simp[Ev.app,e],Z,hg,z,?_⟩;rw[Io e];exact s
theorem SR.unshift (e:U.length=O.vs.length) (h:SR K H0 Z0 (U++pe.map λx=>some x.1) H (O.app pe) pd):SR K H0 Z0 U H O (pe++pd):=by obtain⟨_,Z,hg,z,s⟩:=h;refine⟨e,Z,hg,z,?_⟩;rw[Io e]at s;exact s
theorem qx.more (h:qx K H0 Z0 pd J xs):qx K H0 Z0 (pe++pd) J xs:=by intro U H O i s;obtain⟨h1,h2⟩:=h _ H _ i s.shift;refine⟨λx hx=>?_,h2⟩;obtain⟨g,y⟩:=h1 x hx;refine⟨g,λv H' q=>?_⟩;have s':=y v H' q;have e:=s.1;have s2:=s';exact(SR.unshift e s2).perm abi.symm
def rQ (U:L2.St) (O:Ev):Pd:=(U.zip O.vs).filterMap λe=>match e with
 | (some v,some l)=>some (v,l)
 | _=>none
theorem wF:∀{L:Sl},(∀e∈L,e.2=none\/∃v l,e=(some v,some l))->∀{T:Sl},
 (Slots K H0 Z H (L++T) ↔ Slots K H0 Z H ((L.filterMap λe=>match e with | (some v,some l)=>some (v,l) | _=>none).map (λe=>((some e.1:Option V),(some e.2:Option Lc)))++T))
 | [],_,T=>by simp
 | (v,l)::L,h,T=>by
  have h':=λe he=>h e (aaA _ he);rcases h (v,l) aaz with e | ⟨v',l',e⟩
  . have e':=e;subst e';have e1:((v,(none:Option Lc))::L).filterMap (λe=>match e with | (some v,some l)=>some (v,l) | _=>none)=L.filterMap (λe=>match e with | (some v,some l)=>some (v,l) | _=>none):=by rw[aa4];cases v<;>rfl
    rw[e1,<-wF h'];have o1:mU (v,none)=none:=by
     cases v with
     | none=>rfl
     | some x=>cases x<;>rfl
    constructor
    . exact λs=>s.sub (aaU _ _)
    . intro s;refine⟨λe he=>?_,?_⟩
      . rcases aaI.mp he with rfl | he
        . trivial
        . exact s.1 e he
      . rw[abk,aa4 o1];exact s.2
  . cases e;have e1:((some v',some l')::L).filterMap (λe=>match e with | (some v,some l)=>some (v,l) | _=>none)=(v',l')::L.filterMap (λe=>match e with | (some v,some l)=>some (v,l) | _=>none):=by rfl
    have ih1:=wF h' (T:=T++[(some v',some l')]);have perm1:∀A:Sl,List.Perm ((some v',some l')::(A++T)) (A++(T++[(some v',some l')])):=λA=>by rw[<-aaZ];exact(List.perm_append_singleton _ _).symm
    constructor
    . intro s;exact(ih1.mp (s.perm (perm1 L).symm)).perm (perm1 _)
    . intro s;exact(ih1.mpr (s.perm (perm1 _).symm)).perm (perm1 L)
theorem SR.both (s:SR K H0 Z0 U H O pd):∀e∈U.zip O.vs,e.2=none\/∃v l,e=(some v,some l):=by
 obtain⟨_,Z,_,z,s⟩:=s;intro e he;have q:=s.1 e (aa8 _ (aby _ he));obtain⟨v,l⟩:=e;cases l with
 | none=>exact .inl rfl
 | some l=>
  cases l with
  | sh p=>obtain⟨x,e1,_⟩:=q; have e1':=e1; subst e1'; exact .inr ⟨_,_,rfl⟩
  | own p=>obtain⟨x,e1,_⟩:=q; have e1':=e1; subst e1'; exact .inr ⟨_,_,rfl⟩
theorem FZ (hb:∀e∈U.zip O.vs,e.2=none\/∃v l,e=(some v,some l)):Slots K H0 Z H (sl g U O pd) ↔ Slots K H0 Z H (cel g O.mu++(rQ U O++pd).map λe=>(some e.1,some e.2)):=by
 have h1:=wF (K:=K) (H0:=H0) (Z:=Z) (H:=H) hb (T:=(pd.map λe=>(some e.1,some e.2))++cel g O.mu);have c1:List.Perm (sl g U O pd) (U.zip O.vs++((pd.map λe=>(some e.1,some e.2))++cel g O.mu)):=by unfold sl;rw[<-aaZ (U.zip O.vs)];exact ab6
 have c2:List.Perm (cel g O.mu++(rQ U O++pd).map λe=>((some e.1:Option V),(some e.2:Option Lc))) ((rQ U O).map (λe=>(some e.1,some e.2))++((pd.map λe=>(some e.1,some e.2))++cel g O.mu)):=by rw[abt,<-aaZ ((rQ U O).map _)];exact ab6
 exact⟨λs=>(h1.mp (s.perm c1.symm)).perm c2,λs=>(h1.mpr (s.perm c2.symm)).perm c1⟩
theorem SR.back (el:U.length=O.vs.length) (hb:∀e∈U.zip O.vs,e.2=none\/∃v l,e=(some v,some l)) (s:SR K H0 Z0 U' H O' (rQ U O++pd)):SR K H0 Z0 U H ⟨O.vs,O'.mu⟩ pd:=by obtain⟨_,Z,hg,z,s⟩:=s;refine⟨el,Z,hg,z,(FZ (O:=⟨O.vs,O'.mu⟩) hb).mpr ?_⟩;exact s.sub ((abU _).append (abM _ _))
def kI (ixs:List Nat) (O:Ev):Ev:=ixs.foldl (λO i=>match O.vs[i]? with
 | some (some l)=>O.set i (some (.sh l.pv))
 | _=>O) O
theorem SR.frz:∀{ixs:List Nat} {O:Ev},SR K H0 Z0 U H O pd->SR K H0 Z0 U H (kI ixs O) pd
 | [],O,s=>s
 | i::r,O,s=>by
  unfold kI;rw[abG];refine SR.frz ?_;split
  . rename_i l e;obtain⟨v,_,h2⟩:=s.var e;exact h2.pop
  . exact s
def Bc:Option Lc->Bool
 | some (.own _)=>false
 | _=>true
theorem Ip {j:Nat}:∀{ixs:List Nat} {O:Ev},Bc (O.vs[j]?).join=true->Bc ((kI ixs O).vs[j]?).join=true
 | [],O,h=>h
 | i::r,O,h=>by
  unfold kI;rw[abG];refine Ip ?_;split
  . rename_i l e;by_cases hij:i=j
    . subst hij;have hi:=(aaD.mp e).1;show Bc ((O.vs.set i _)[i]?).join=true;rw[aa5 hi];rfl
    . show Bc ((O.vs.set i _)[j]?).join=true;rw[abe hij]; exact h
  . exact h
theorem PN:∀{ixs:List Nat} {O:Ev},j∈ixs->Bc ((kI ixs O).vs[j]?).join=true
 | [],O,h=>by cases h
 | i::r,O,h=>by
  unfold kI;rw[abG];rcases aaI.mp h with e | h
  . subst e;refine Ip ?_;split
    . rename_i l e;have hi:=(aaD.mp e).1;show Bc ((O.vs.set j _)[j]?).join=true;rw[aa5 hi];rfl
    . rename_i hn;cases q:O.vs[j]? with
      | none=>rfl
      | some o=>
       cases o with
       | none=>rfl
       | some l=>exact(hn l q).elim
  . exact PN h
def tM (m:Nat) (ixs:List Nat) (O:Ev):Ev:=⟨List.replicate m none++ixs.map λi=>(O.vs[i]?).join,O.mu⟩
theorem SR.block (s:SR K H0 Z0 U H O pd) (hs:∀j∈ixs,Bc (O.vs[j]?).join=true):SR K H0 Z0 (yJ m ixs U) H (tM m ixs O) (rQ U O++pd):=by
 have hb:=s.both;obtain⟨el,Z,hg,z,so⟩:=s;refine⟨by simp[tM],Z,hg,z,?_⟩;have s3:=(FZ hb).mp so;have fin:Slots K H0 Z H ((ixs.map λi=>(U[i]?).join).zip (ixs.map λi=>(O.vs[i]?).join)++(cel Z.g O.mu++(rQ U O++pd).map λe=>(some e.1,some e.2)))->Slots K H0 Z H (sl Z.g (yJ m ixs U) (tM m ixs O) (rQ U O++pd)):=λh=>by unfold sl yJ tM;rw[abT (by simp),aaZ];refine(nones h m).perm ?_;exact(Hg _ _ _).trans ((Hg _ _ _).append_left _)
 refine fin ?_;clear fin;induction ixs with
 | nil=>simpa using s3
 | cons i r ih=>
  have ih':=ih λj hj=>hs j (aaA _ hj);rw[aaV,aaV,abD,abk];have h1:=hs i aaz;cases q:O.vs[i]? with
  | none=>
   refine⟨λe he=>?_,?_⟩
   . rcases aaI.mp he with rfl | he
     . trivial
     . exact ih'.1 e he
   . rw[aa4]
     . exact ih'.2
     . cases (U[i]?).join with
       | none=>rfl
       | some x=>cases x<;>rfl
  | some o=>
   cases o with
   | none=>
    refine⟨λe he=>?_,?_⟩
    . rcases aaI.mp he with rfl | he
      . trivial
      . exact ih'.1 e he
    . rw[aa4]
      . exact ih'.2
      . cases (U[i]?).join with
        | none=>rfl
        | some x=>cases x<;>rfl
   | some l=>
    rw[q]at h1;cases l with
    | own p=>cases h1
    | sh p=>
     have hi:i<U.length:=by rw[el]; exact(aaD.mp q).1
     have hU:=aaK hi;have hm:=abf (zip_get hU q);obtain⟨x,e1,e2⟩:=so.1 _ (aa8 _ (aby _ hm));have e1':U[i]=some x:=e1;have ej:(U[i]?).join=some x:=by rw[hU,e1']; rfl
     rw[ej];exact ih'.consS e2
end
theorem SR.pushO (s:SR K H0 Z0 U H O ((v,l)::(.ref a,.own (.lst ws))::pd)):
 ∃us,H a=some (.lst us)/\us.length=ws.length/\SR K H0 Z0 U (upd H a (.lst (us++[v]))) O ((.ref a,.own (.lst (ws++[l.pv])))::pd):=by
 obtain⟨el,Z,hg,z,r,so⟩:=s.freeze.sh;have so2:=so.perm fM.symm;obtain⟨b,eb,⟨us,hu,hr⟩,_⟩:=so2.1 _ aaz;cases eb;refine⟨us,hu,hr.length,?_⟩;obtain⟨z',s'⟩:=so2.write (q:=.lst (ws++[l.pv])) z ⟨us++[v],dm,hr.append (aZ.cons r .nil)⟩;exact .mk el hg z' s'
def fY (b:BF) (tc:TF) (te:EF):List PV->Ev->List PV->Option (List PV×Mu)
 | [],O,acc=>some (acc,O.mu)
 | x::xs,O,acc=>(b x O).bind λO1=>(tc O1).bind λc=>if c.1=true then (te c.2).bind λv=>if acc.length<100000 then fY b tc te xs v.2 (acc++[v.1.pv]) else none else fY b tc te xs c.2 acc
def cT (f:IF) (m:Nat) (ixs:List Nat) (b:BF) (tc:TF) (te:EF):EF:=λO=>(f O).bind λy=>(fY b tc te y.1 (tM m ixs (kI ixs y.2)) []).map λys=>(.own (.lst ys.1),⟨(kI ixs y.2).vs,ys.2⟩)
def CW (K:FG) (H0:Hp) (Z0:ZG) (b:BF) (tc:TF) (te:EF) (p:Addr) (PD:Pd) (xs:List PV) (zs:List PV×Mu) (i n:Nat) (U':L2.St) (H':Hp):Prop:=
 n=xs.length-i/\i<=xs.length/\∃Oi ws,SR K H0 Z0 U' H' Oi ((.ref p,.own (.lst ws))::PD)/\fY b tc te (xs.drop i) Oi ws=some zs
theorem PQ (hb:GS K g b) {Q:VK}
 (it:∀ws,qx K H0 Z0 ((.ref p,.own (.lst ws))::PD) J xs) (fin:∀U' H' Oi ws,SR K H0 Z0 U' H' Oi ((.ref p,.own (.lst ws))::PD)->fY b tc te [] Oi ws=some zs->Q (.ref p) H') (i n:Nat) (U':L2.St) (H':Hp) (w:CW K H0 Z0 b tc te p PD xs zs i n U' H'):
 (J.stop i H'/\Q (.ref p) H')\/(J.go i H'/\∀x H2,J.yld i H' x H2->g x U' H2 λU3 H3=>jg K tc U3 H3 λb' H4=>
   if b'=true then tP K te U3 H4 λv H5=>∃ys,H5 p=some (.lst ys)/\ys.length<sizeLine/\∃n',n'<n/\CW K H0 Z0 b tc te p PD xs zs (i+1) n' U3 (upd H5 p (.lst (ys++[v])))
   else ∃n',n'<n/\CW K H0 Z0 b tc te p PD xs zs (i+1) n' U3 H4):=by
 refine DK λG kG=>?_;obtain⟨rfl,hi,Oi,ws,s',h'⟩:=w;obtain⟨i1,i2⟩:=it ws U' H' Oi i s';by_cases hlt:i<xs.length
 . obtain⟨go,yl⟩:=i1 _ (aaK hlt);rw[abN hlt]at h';obtain⟨O1,e1,e2⟩:=acy h';obtain⟨c,e3,e4⟩:=acy e2;have hn:xs.length-(i+1)<xs.length-i:=by omega
   refine kG (.inr ⟨go,λx H2 hy=>hb H0 Z0 U' H2 Oi _ x _ O1 _ (yl x H2 hy) e1 λU2 s5=>⟨H0,Z0,O1,_,c.1,c.2,s5,e3,λH4 s6=>?_⟩⟩);dsimp only;split
   . rename_i hc;refine DK λG kG=>?_;rw[acq hc]at e4;obtain⟨v,e5,e6⟩:=acy e4;split at e6
     . refine kG ⟨H0,Z0,c.2,_,v.1,v.2,s6,e5,λvv H5 s7=>?_⟩;refine DK λG kG=>?_;obtain⟨us,hu,hl,s8⟩:=s7.pushO;exact kG ⟨us,hu,by rw[hl,sizeLine_eq]; omega,_,hn,rfl,hlt,v.2,_,s8,e6⟩
     . cases e6
   . rename_i hc;rw[acr hc]at e4;exact⟨_,hn,rfl,hlt,c.2,ws,s6,e4⟩
 . have e:=Nat.le_antisymm hi (ab3 hlt);subst e;rw[ack]at h';exact kG (.inl ⟨i2 rfl,fin _ _ _ _ s' h'⟩)
theorem Ir (hb:GS K g b):∀U H Q,tP K (cT f m ixs b tc te) U H Q->NB (FQ K f) m ixs g (jg K tc) (tP K te) U H Q:=λU H Q q=>by refine DK λG kG=>?_;obtain⟨H0,Z0,O,pd,r,O',s,h,k⟩:=q;obtain⟨y,h1,h2⟩:=acy h;obtain⟨zs,h3,h4⟩:=acz h2;cases h4;refine kG ⟨H0,Z0,O,pd,y.1,y.2,s,h1,λJ H1 pd' s1 it sub p hp=>?_⟩;have s2:SR K H0 Z0 U H1 (kI ixs y.2) pd':=s1.frz;have s3:=s2.block (m:=m) λj hj=>PN hj;have s4:SR K H0 Z0 (yJ m ixs U) (upd H1 p (.lst [])) (tM m ixs (kI ixs y.2)) ((.ref p,.own (.lst []))::(rQ U (kI ixs y.2)++pd')):=s3.newO hp λZ _ _=>⟨[],dm,.nil⟩;refine⟨CW K H0 Z0 b tc te p (rQ U (kI ixs y.2)++pd') y.1 zs,⟨_,rfl,abO _,_,[],s4,h3⟩,PQ hb (λws=>qx.more (pe:=(.ref p,.own (.lst ws))::rQ U (kI ixs y.2)) it) λU' H' Oi ws s' h'=>?_⟩;cases h';have s5:=s'.perm abi;exact k _ _ ((SR.back s2.1 s2.both s5).sub (sub.cons_cons _))
section
variable {X:Cx}
theorem mO (M F:List Str) (ixs:List Nat) (hcalm:X.calm=true) (c:jU X M F ixs sc) (hi:PI X tg iter (FQ X.K f))
 (hg:∀C fp s H,PG (gq X M F sc C fp s H) tg g) (hb:GS X.K g b) (hc:∀C fp s H,yK (gq X M F sc C fp s H) ifs (jg X.K tc)) (he:∀C fp s H,PE (gq X M F sc C fp s H) elt (tP X.K te))
 (hs:∀x,foldedSetIterable iter X.env x=pure x:=by intro _; rfl):PE X (.ListComp elt [⟨tg,iter,ifs,0⟩] sc pos) (tP X.K (cT f M.length ixs b tc te)):=PE.imp (Va M F ixs hcalm c hi hg hc he hs) (Ir hb)
theorem zW (M F:List Str) (ixs:List Nat) (hN:X.N.Nodup) (hix:X.N[i]?=some x) (hx:X.env.scope.names.lookup x=some .local)
 (hcalm:X.calm=true) (c:jU X M F ixs sc) (hi:PI X tg iter (FQ X.K f))
 (hg:∀C fp s H,PG (gq X M F sc C fp s H) tg g) (hb:GS X.K g b) (hc:∀C fp s H,yK (gq X M F sc C fp s H) ifs (jg X.K tc)) (he:∀C fp s H,PE (gq X M F sc C fp s H) elt (tP X.K te))
 (hsw:swapsWith (.ListComp elt [⟨tg,iter,ifs,0⟩] sc pos) (some (.Name x pos')) pos2.line X.env=pure true:=by rfl)
 (hs:∀x,foldedSetIterable iter X.env x=pure x:=by intro _; rfl):PS X (.Assign [.Name x pos'] (.ListComp elt [⟨tg,iter,ifs,0⟩] sc pos) pos2) (gw X.K (aM i (cT f M.length ixs b tc te))):=
 PS.imp (Vb M F ixs hN hix hx hcalm c hi hg hc he hsw hs) (Lk λD U H q=>Ir hb U H _ q)
def bY:TF:=λO=>some (true,O)
theorem fG:yK X [] (jg X.K bY):=λaeQ s U H Q I q=>Rr aeQ s U H Q I (by obtain⟨H0,Z0,O,pd,b,O',s,h,k⟩:=q;cases h;exact k H s)
end
def wG (f:PV->PV->Option Bool):List PV->List PV->Option Bool
 | p::ps,q::qs=>(f p q).bind λb=>(wG f ps qs).map λc=>b&&c
 | _,_=>some true
def gB:Nat->PV->PV->Option Bool
 | 0,_,_=>none
 | n+1,p,q=>match p,q with
  | .tup ps,.tup qs=>(wG (gB n) ps qs).map λb=>b&&(ps.length==qs.length)
  | .lst ps,.lst qs=>if ps.length=qs.length then wG (gB n) ps qs else some false
  | .non,.non=>some true
  | .bl a,.bl b=>some (a==b)
  | .int a,.int b=>some (a==b)
  | .str a,.str b=>some (a==b)
  | .bl a,.int b=>some ((if a then 1 else 0)==b)
  | .int a,.bl b=>some (a==(if b then 1 else 0))
  | .non,.bl _=>some false
  | .non,.int _=>some false
  | .non,.str _=>some false
  | .non,.tup _=>some false
  | .non,.lst _=>some false
  | .bl _,.non=>some false
  | .bl _,.str _=>some false
  | .bl _,.tup _=>some false
  | .bl _,.lst _=>some false
  | .int _,.non=>some false
  | .int _,.str _=>some false
  | .int _,.tup _=>some false
  | .int _,.lst _=>some false
  | .str _,.non=>some false
  | .str _,.bl _=>some false
  | .str _,.int _=>some false
  | .str _,.tup _=>some false
  | .str _,.lst _=>some false
  | .tup _,.non=>some false
  | .tup _,.bl _=>some false
  | .tup _,.int _=>some false
  | .tup _,.str _=>some false
  | .tup _,.lst _=>some false
  | .lst _,.non=>some false
  | .lst _,.bl _=>some false
  | .lst _,.int _=>some false
  | .lst _,.str _=>some false
  | .lst _,.tup _=>some false
  | _,_=>none
theorem zX:∀{ps qs:List PV} {b:Bool},wG f ps qs=some b->(∀(j:Nat) p q,ps[j]?=some p->qs[j]?=some q->f p q=some ((f (ps.getD j .non) (qs.getD j .non)).getD false))/\
 b=(List.range (min ps.length qs.length)).all λj=>(f (ps.getD j .non) (qs.getD j .non)).getD false
 | [],qs,b,h=>by cases h;exact⟨λj p q e=>by simp at e,by simp⟩
 | p::ps,[],b,h=>by cases h;exact⟨λj p q _ e=>by simp at e,by simp⟩
 | p::ps,q::qs,b,h=>by
  obtain⟨c,h1,h2⟩:=acy h;obtain⟨d,h3,rfl⟩:=acz h2;obtain⟨i1,i2⟩:=zX h3;refine⟨λj p' q' e1 e2=>?_,?_⟩
  . cases j with
    | zero=>
     simp at e1 e2;subst e1 e2;simp[h1]
    | succ j=>
     have:=i1 j p' q' (by simpa using e1) (by simpa using e2);simpa using this
  . have e:min (p::ps).length (q::qs).length=min ps.length qs.length+1:=by simp only[aaC]; omega
    rw[e,List.range_succ_eq_map,List.all_cons,List.all_map];have e0:(f ((p::ps).getD 0 .non) ((q::qs).getD 0 .non)).getD false=c:=by simp[h1]
    rw[e0,i2];rfl
theorem elts (r:aZ K Z ps vs) (rv:Vals vs its) (h:j<its.length):∃p v,ps[j]?=some p/\Rep K Z p v/\RelV v its[j]:=by have hl:=rv.length;have hv:vs[j]?=some vs[j]:=aaK (by omega);obtain⟨u,e1,e2⟩:=rv.get hv;rw[aaK h]at e1;cases e1;obtain⟨p,e3,e4⟩:=r.getV hv;exact⟨p,vs[j],e3,e4,e2⟩
section
open PySem.SeqAt
variable {X:Cx} {aeQ:List (Addr×Obj)} {U:L2.St} {H:Hp} {s:Shared} {g:List Addr}
theorem tO (I:Inv X aeQ U H s) (r:Rep X.K ⟨H,g⟩ (.tup ps) v) (ru:RelV v u):∃a vs its,u=.ref a/\eU X.K H a vs/\aZ X.K ⟨H,g⟩ ps vs/\Vals vs its/\s.heap.IsTuple a its.toArray:=by obtain⟨a,vs,rfl,h1,h2⟩:=r;obtain⟨its,r1,t1,_⟩:=I.tuple h1;exact⟨a,vs,its,ru,h1,h2,r1,t1⟩
theorem tQ (I:Inv X aeQ U H s) (r:Rep X.K ⟨H,g⟩ (.lst ps) v) (ru:RelV v u):∃a vs its,u=.ref a/\cM X.K H a vs/\aZ X.K ⟨H,g⟩ ps vs/\Vals vs its/\s.heap.IsList a its.toArray:=by obtain⟨a,vs,rfl,h1,h2⟩:=r;obtain⟨its,r1,t1,_⟩:=I.list h1;exact⟨a,vs,its,ru,h1,h2,r1,t1.isList⟩
def kn:PV->Nat
 | .non=>0 | .bl _=>1 | .int _=>2 | .str _=>3 | .tup _=>4 | .lst _=>5 | _=>6
theorem Zw (h:kn p=4):∃ps,p=.tup ps:=by cases p<;>first | exact⟨_,rfl⟩ | cases h
theorem Zx (h:kn p=5):∃ps,p=.lst ps:=by cases p<;>first | exact⟨_,rfl⟩ | cases h
theorem BZ (h:gB (n+1) p q=some b):kn p<6:=by cases p<;>first | cases h; done | exact Nat.le.step (Nat.le.step (Nat.le.step (Nat.le.step (Nat.le.step .refl)))) | exact Nat.le.step (Nat.le.step (Nat.le.step (Nat.le.step .refl))) | exact Nat.le.step (Nat.le.step (Nat.le.step .refl)) | exact Nat.le.step (Nat.le.step .refl) | exact Nat.le.step .refl | exact Nat.le.refl
theorem T5 (h:gB (n+1) p q=some b):kn q<6:=by
 have no:gB (n+1) p q=none->kn q<6:=λe=>absurd (h.symm.trans e) (Option.some_ne_none b);cases q with
 | dk _ _=>exact no (by cases p<;>rfl)
 | dt _ _=>exact no (by cases p<;>rfl)
 | obj _ _ _=>exact no (by cases p<;>rfl)
 | df _ _=>exact no (by cases p<;>rfl)
 | dtf _ _=>exact no (by cases p<;>rfl)
 | dx _ _ _=>exact no (by cases p<;>rfl)
 | exc _=>exact no (by cases p<;>rfl)
 | fn _=>exact no (by cases p<;>rfl)
 | ptr _=>exact no (by cases p<;>rfl)
 | _=>first | exact Nat.le.step (Nat.le.step (Nat.le.step (Nat.le.step (Nat.le.step .refl)))) | exact Nat.le.step (Nat.le.step (Nat.le.step (Nat.le.step .refl))) | exact Nat.le.step (Nat.le.step (Nat.le.step .refl)) | exact Nat.le.step (Nat.le.step .refl) | exact Nat.le.step .refl | exact Nat.le.refl
def back:V->Option PV
 | .non=>some .non | .bl b=>some (.bl b) | .int i=>some (.int i) | .str x=>some (.str x) | _=>none
inductive Sh (K:FG) (Z:ZG) (v:V):PV->Prop
 | at {p:PV}:back v=some p->Sh K Z v p
 | tup {a:Addr} {ps:List PV} {vs:List V}:v=.ref a->eU K Z.z a vs->aZ K Z ps vs->Sh K Z v (.tup ps)
 | lst {a:Addr} {ps:List PV} {vs:List V}:v=.ref a->cM K Z.z a vs->aZ K Z ps vs->Sh K Z v (.lst ps)
theorem Hh (r:Rep K Z p v) (h:kn p<6):Sh K Z v p:=by
 cases p with
 | non=>exact .at (congrArg back (iw r))
 | bl b=>exact .at (congrArg back (d8 r))
 | int b=>exact .at (congrArg back (cG r))
 | str b=>exact .at (congrArg back (cU r))
 | tup ps=> obtain⟨a,vs,e,h1,h2⟩:=r; exact .tup e h1 h2
 | lst ps=> obtain⟨a,vs,e,h1,h2⟩:=r; exact .lst e h1 h2
 | _=>exact absurd h (abA 6)
inductive Tw (K:FG) (Z:ZG):PV->PV->Prop
 | at {v:V} {p:PV}:back v=some p->Tw K Z p p
 | tup {ps qs:List PV} {vs:List V}:aZ K Z ps vs->aZ K Z qs vs->Tw K Z (.tup ps) (.tup qs)
 | lst {ps qs:List PV} {vs:List V}:aZ K Z ps vs->aZ K Z qs vs->Tw K Z (.lst ps) (.lst qs)
theorem T6 (I:Inv X aeQ U H s) (h1:eU X.K H a vs) (h3:cM X.K H a ws):False:=by obtain⟨its,r1,⟨o1,n1,g1,c1,_⟩,_⟩:=I.list h3;obtain⟨its2,r2,⟨o2,g2,c2,_⟩,_⟩:=I.tuple h1;rw[g1]at g2;cases g2;rw[c1]at c2;exact absurd c2 (by decide)
theorem wH (e:v=.ref a) (h:back v=some p):False:=by subst e; cases h
theorem Sh.two (I:Inv X aeQ U H s) (h1:Sh X.K ⟨H,g⟩ v p) (h2:Sh X.K ⟨H,g⟩ v q):Tw X.K ⟨H,g⟩ p q:=by
 cases h1 with
 | «at» e=>
  cases h2 with
  | «at» e'=>exact(aaM (e.symm.trans e'))▸.at e
  | tup e'=>exact(wH e' e).elim
  | lst e'=>exact(wH e' e).elim
 | tup e k1 k2=>
  cases h2 with
  | «at» e'=>exact(wH e e').elim
  | tup e' m1 m2=>exact .tup k2 (I.tuple_inj k1 (V.ref.inj (e'.symm.trans e)▸m1)▸m2)
  | lst e' m1=>exact(T6 I k1 (V.ref.inj (e'.symm.trans e)▸m1)).elim
 | lst e k1 k2=>
  cases h2 with
  | «at» e'=>exact(wH e e').elim
  | tup e' m1=>exact(T6 I m1 (V.ref.inj (e.symm.trans e')▸k1)).elim
  | lst e' m1 m2=>exact .lst k2 (I.list_inj k1 (V.ref.inj (e'.symm.trans e)▸m1)▸m2)
theorem Xm (e:back v=some p) (h:gB (n+1) p p=some b):b=true:=by
 cases v with
 | non=>cases e; cases h; rfl
 | bl z=>cases e; cases h; exact acx z
 | int z=>cases e; cases h; exact acx z
 | str z=>cases e; cases h; exact acx z
 | _=>cases e
theorem yO (ih:∀(p q:PV) (v:V) (b:Bool),Rep K Z p v->Rep K Z q v->f p q=some b->b=true):∀{ps qs:List PV} {vs:List V} {c:Bool},aZ K Z ps vs->aZ K Z qs vs->wG f ps qs=some c->c=true
 | [],qs,vs,c,a,b,h=>by cases h; rfl
 | p::ps,[],vs,c,a,b,h=>by cases h; rfl
 | p::ps,q::qs,vs,c,a,b,h=>by obtain⟨w1,r1,e1,e2,e3⟩:=a.inv;obtain⟨w2,r2,f1,f2,f3⟩:=b.inv;obtain⟨g1,g2⟩:=List.cons.inj (e1.symm.trans f1);subst g1 g2;obtain⟨c,h1,h2⟩:=acy h;obtain⟨d,h3,rfl⟩:=acz h2;rw[ih _ _ _ _ e2 f2 h1,yO ih e3 f3 h3];rfl
theorem wI (ih:∀(p q r:PV) (v:V) (b c:Bool),Rep K Z p v->Rep K Z q v->f p r=some b->f q r=some c->b=c):∀{ps qs rs:List PV} {vs:List V} {b c:Bool},aZ K Z ps vs->aZ K Z qs vs->wG f ps rs=some b->wG f qs rs=some c->b=c
 | [],[],rs,vs,b,c,_,_,h,k=>aaM (h.symm.trans k)
 | [],q::qs,rs,vs,b,c,a,b',h,k=>by obtain⟨_,_,e,_⟩:=b'.inv;exact absurd (a.inv0.symm.trans e) (by simp)
 | p::ps,[],rs,vs,b,c,a,b',h,k=>by obtain⟨_,_,e,_⟩:=a.inv;exact absurd (b'.inv0.symm.trans e) (by simp)
 | p::ps,q::qs,[],vs,b,c,a,b',h,k=>aaM (h.symm.trans k)
 | p::ps,q::qs,r::rs,vs,b,c,a,b',h,k=>by obtain⟨w1,r1,e1,e2,e3⟩:=a.inv;obtain⟨w2,r2,f1,f2,f3⟩:=b'.inv;obtain⟨g1,g2⟩:=List.cons.inj (e1.symm.trans f1);subst g1 g2;obtain⟨x1,h1,h2⟩:=acy h;obtain⟨d1,h3,rfl⟩:=acz h2;obtain⟨x2,k1,k2⟩:=acy k;obtain⟨d2,k3,rfl⟩:=acz k2;rw[ih _ _ _ _ _ _ e2 f2 h1 k1,wI ih e3 f3 h3 k3]
theorem eq_self (I:Inv X aeQ U H s):∀(n:Nat) {p q:PV} {v:V} {b:Bool},Rep X.K ⟨H,g⟩ p v->Rep X.K ⟨H,g⟩ q v->gB n p q=some b->b=true
 | 0,p,q,v,b,_,_,h=>by cases h
 | n+1,p,q,v,b,rp,rq,h=>by
  cases Sh.two I (Hh rp (BZ h)) (Hh rq (T5 h)) with
  | «at» e=>exact Xm e h
  | tup h2 h4=>
   obtain⟨c,h5,rfl⟩:=acz h;rw[yO (λ_ _ _ _=>eq_self I n) h2 h4 h5,h2.length.symm.trans h4.length,acx];rfl
  | lst h2 h4=>exact yO (λ_ _ _ _=>eq_self I n) h2 h4 ((acq (h2.length.symm.trans h4.length)).symm.trans h)
inductive U_ (s:Shared):PV->Value->Prop
 | non:U_ s .non .none
 | bl {b:Bool}:U_ s (.bl b) (.bool b)
 | int {i:Int} {t}:U_ s (.int i) (.int i t)
 | str {x:Str} {t}:U_ s (.str x) (.str x t)
 | tup {ps:List PV} {a:Addr} {its}:s.heap.IsTuple a its->U_ s (.tup ps) (.ref a)
 | lst {ps:List PV} {a:Addr} {its}:s.heap.IsList a its->U_ s (.lst ps) (.ref a)
theorem Xn (I:Inv X aeQ U H s) (r:Rep X.K ⟨H,g⟩ p v) (ru:RelV v u) (h:kn p<6):U_ s p u:=by
 cases p with
 | non=>cases iw r; cases ru; exact .non
 | bl b=>cases d8 r; cases ru; exact .bl
 | int b=>cases cG r; obtain⟨t,rfl⟩:=ru; exact .int
 | str b=>cases cU r; obtain⟨t,rfl⟩:=ru; exact .str
 | tup ps=>obtain⟨a,vs,its,rfl,_,_,_,x⟩:=tO I r ru; exact .tup x
 | lst ps=>obtain⟨a,vs,its,rfl,_,_,_,x⟩:=tQ I r ru; exact .lst x
 | _=>exact absurd h (abA 6)
def E3 (A:Around) (s:Shared) (x y:Value) (b:Bool):Prop:=EqAt A s x y b/\RcAt A s x y b/\RcNeAt A s x y (!b)
theorem E3.of (h:some c=some b) (e:EqAt A s x y c) (r:RcAt A s x y c) (q:RcNeAt A s x y (!c)):E3 A s x y b:=aaM h▸⟨e,r,q⟩
def two (p q:PV):Bool:=kn p==kn q&&Nat.ble 4 (kn p)
theorem Vk (hu:A.units<cLine) (h1:U_ s p u1) (h2:U_ s q u2) (e:two p q=false) (h:gB (n+1) p q=some b):E3 A s u1 u2 b:=by
 cases h1 with
 | non=>
  cases h2 with
  | non=>exact E3.of h (EqAt.same .none) RcAt.none_none RcNeAt.none_none
  | bl=>exact E3.of h (EqAt.none_bool _) (RcAt.none_bool _) (RcNeAt.none_bool _)
  | int=>exact E3.of h (EqAt.none_int _ _) (RcAt.none_int _ _) (RcNeAt.none_int _ _)
  | str=>exact E3.of h (EqAt.none_str _ _) (RcAt.none_str _ _) (RcNeAt.none_str _ _)
  | tup x2=>exact E3.of h (EqAt.none_tuple x2 hu) (RcAt.none_tuple x2 hu) (RcNeAt.none_tuple x2 hu)
  | lst x2=>exact E3.of h (EqAt.none_list x2 hu) (RcAt.none_list x2 hu) (RcNeAt.none_list x2 hu)
 | bl=>
  cases h2 with
  | non=>exact E3.of h (EqAt.bool_none _) (RcAt.bool_none _) (RcNeAt.bool_none _)
  | bl=>exact E3.of h (EqAt.bool_bool _ _) (RcAt.bool_bool _ _) (RcNeAt.bool_bool _ _)
  | int=>exact E3.of h (EqAt.bool_int _ _ _) (RcAt.bool_int _ _ _) (RcNeAt.bool_int _ _ _)
  | str=>exact E3.of h (EqAt.bool_str _ _ _) (RcAt.bool_str _ _ _) (RcNeAt.bool_str _ _ _)
  | tup x2=>exact E3.of h (EqAt.bool_tuple _ x2 hu) (RcAt.bool_tuple _ x2 hu) (RcNeAt.bool_tuple _ x2 hu)
  | lst x2=>exact E3.of h (EqAt.bool_list _ x2 hu) (RcAt.bool_list _ x2 hu) (RcNeAt.bool_list _ x2 hu)
 | int=>
  cases h2 with
  | non=>exact E3.of h (EqAt.int_none _ _) (RcAt.int_none _ _) (RcNeAt.int_none _ _)
  | bl=>exact E3.of h (EqAt.int_bool _ _ _) (RcAt.int_bool _ _ _) (RcNeAt.int_bool _ _ _)
  | int=>exact E3.of h (EqAt.int_int _ _ _ _) (RcAt.int_int _ _ _ _) (RcNeAt.int_int _ _ _ _)
  | str=>exact E3.of h (EqAt.int_str _ _ _ _) (RcAt.int_str _ _ _ _) (RcNeAt.int_str _ _ _ _)
  | tup x2=>exact E3.of h (EqAt.int_tuple _ _ x2 hu) (RcAt.int_tuple _ _ x2 hu) (RcNeAt.int_tuple _ _ x2 hu)
  | lst x2=>exact E3.of h (EqAt.int_list _ _ x2 hu) (RcAt.int_list _ _ x2 hu) (RcNeAt.int_list _ _ x2 hu)
 | str=>
  cases h2 with
  | non=>exact E3.of h (EqAt.str_none _ _) (RcAt.str_none _ _) (RcNeAt.str_none _ _)
  | bl=>exact E3.of h (EqAt.str_bool _ _ _) (RcAt.str_bool _ _ _) (RcNeAt.str_bool _ _ _)
  | int=>exact E3.of h (EqAt.str_int _ _ _ _) (RcAt.str_int _ _ _ _) (RcNeAt.str_int _ _ _ _)
  | str=>exact E3.of h (EqAt.str_str _ _ _ _) (RcAt.str_str _ _ _ _) (RcNeAt.str_str _ _ _ _)
  | tup x2=>exact E3.of h (EqAt.str_tuple _ _ x2 hu) (RcAt.str_tuple _ _ x2 hu) (RcNeAt.str_tuple _ _ x2 hu)
  | lst x2=>exact E3.of h (EqAt.str_list _ _ x2 hu) (RcAt.str_list _ _ x2 hu) (RcNeAt.str_list _ _ x2 hu)
 | tup x1=>
  cases h2 with
  | non=>exact E3.of h (EqAt.tuple_none x1 hu) (RcAt.tuple_none x1 hu) (RcNeAt.tuple_none x1 hu)
  | bl=>exact E3.of h (EqAt.tuple_bool _ x1 hu) (RcAt.tuple_bool _ x1 hu) (RcNeAt.tuple_bool _ x1 hu)
  | int=>exact E3.of h (EqAt.tuple_int _ _ x1 hu) (RcAt.tuple_int _ _ x1 hu) (RcNeAt.tuple_int _ _ x1 hu)
  | str=>exact E3.of h (EqAt.tuple_str _ _ x1 hu) (RcAt.tuple_str _ _ x1 hu) (RcNeAt.tuple_str _ _ x1 hu)
  | tup x2=>cases e
  | lst x2=>exact E3.of h (EqAt.tuple_list x1 x2 hu) (RcAt.tuple_list x1 x2 hu) (RcNeAt.tuple_list x1 x2 hu)
 | lst x1=>
  cases h2 with
  | non=>exact E3.of h (EqAt.list_none x1 hu) (RcAt.list_none x1 hu) (RcNeAt.list_none x1 hu)
  | bl=>exact E3.of h (EqAt.list_bool _ x1 hu) (RcAt.list_bool _ x1 hu) (RcNeAt.list_bool _ x1 hu)
  | int=>exact E3.of h (EqAt.list_int _ _ x1 hu) (RcAt.list_int _ _ x1 hu) (RcNeAt.list_int _ _ x1 hu)
  | str=>exact E3.of h (EqAt.list_str _ _ x1 hu) (RcAt.list_str _ _ x1 hu) (RcNeAt.list_str _ _ x1 hu)
  | tup x2=>exact E3.of h (EqAt.list_tuple x1 x2 hu) (RcAt.list_tuple x1 x2 hu) (RcNeAt.list_tuple x1 x2 hu)
  | lst x2=>cases e
theorem wJ (r:RelV v (.ref a)):v=.ref a:=by
 cases v with
 | ref b=>cases r; rfl
 | non=>cases r
 | bl _=>cases r
 | ty _=>cases r
 | _=>obtain⟨t,e⟩:=r; cases e
theorem Iu (I:Inv X aeQ U H s) (rp:Rep X.K ⟨H,g⟩ p (.ref a1)) (rq:Rep X.K ⟨H,g⟩ q (.ref a2)) (h:gB n p q=some b) (rc:RcAt A s (.ref a1) (.ref a2) b):EqAt A s (.ref a1) (.ref a2) b:=by
 by_cases ea:a1=a2
 . subst ea;exact eq_self I n rp rq h▸EqAt.same _
 . exact EqAt.of_refs ea rc
theorem Hi (I:Inv X aeQ U H s):∀(n:Nat) {p q:PV} {v w:V} {u1 u2:Value} {b:Bool},Rep X.K ⟨H,g⟩ p v->Rep X.K ⟨H,g⟩ q w->RelV v u1->RelV w u2->gB n p q=some b->∀A:Around,A.units+n<cLine->
 EqAt A s u1 u2 b/\RcAt A s u1 u2 b/\RcNeAt A s u1 u2 (!b)
 | 0,p,q,v,w,u1,u2,b,_,_,_,_,h,_,_=>by cases h
 | n+1,p,q,v,w,u1,u2,b,rp,rq,r1,r2,h,A,hA=>by
  have hu:=Nat.lt_of_le_of_lt (ab4 _ _) hA;have hin:A.in1.units+n<cLine:=by show A.units+1+n<cLine; omega
  have item:∀{ps qs:List PV} {vs ws:List V} {its its2:List Value} {c:Bool},aZ X.K ⟨H,g⟩ ps vs->Vals vs its->aZ X.K ⟨H,g⟩ qs ws->Vals ws its2->wG (gB n) ps qs=some c->
   ∀j (h1:j<its.toArray.size) (h2:j<its2.toArray.size),EqAt A.in1 s its.toArray[j] its2.toArray[j] ((gB n (ps.getD j .non) (qs.getD j .non)).getD false):=λ{ps qs vs ws its its2 c} a b c' d e j h1 h2=>by
   obtain⟨p,v,e1,e2,e3⟩:=elts a b (by simpa using h1);obtain⟨q,w,f1,f2,f3⟩:=elts c' d (by simpa using h2);have:=(zX e).1 j p q e1 f1;exact(Hi I n e2 f2 e3 f3 this A.in1 hin).1
  cases e:two p q with
  | false=>exact Vk hu (Xn I rp r1 (BZ h)) (Xn I rq r2 (T5 h)) e h
  | true=>
   have e':kn p=kn q/\4<=kn p:=by unfold two at e; simpa using e
   have hk:=BZ h;rcases (by omega:kn p=4\/kn p=5) with hp | hp
   . obtain⟨ps,rfl⟩:=Zw hp;obtain⟨qs,rfl⟩:=Zw (e'.1.symm.trans hp);obtain⟨a1,vs1,its1,rfl,q1,l1,rv1,x1⟩:=tO I rp r1;obtain⟨a2,vs2,its2,rfl,q2,l2,rv2,x2⟩:=tO I rq r2;have e1:=wJ r1;have e2:=wJ r2;subst e1 e2;obtain⟨c,h5,rfl⟩:=acz h;have it:=item l1 rv1 l2 rv2 h5;have z1:its1.toArray.size=ps.length:=by rw[aaF,<-rv1.length,l1.length]
     have z2:its2.toArray.size=qs.length:=by rw[aaF,<-rv2.length,l2.length]
     have rc:=RcAt.tuples x1 x2 hu it;have rn:=RcNeAt.tuples x1 x2 hu it;rw[z1,z2,<-(zX h5).2]at rc rn;exact⟨Iu I rp rq h rc,rc,rn⟩
   . obtain⟨ps,rfl⟩:=Zx hp;obtain⟨qs,rfl⟩:=Zx (e'.1.symm.trans hp);obtain⟨a1,vs1,its1,rfl,q1,l1,rv1,x1⟩:=tQ I rp r1;obtain⟨a2,vs2,its2,rfl,q2,l2,rv2,x2⟩:=tQ I rq r2;have e1:=wJ r1;have e2:=wJ r2;subst e1 e2;have z1:its1.toArray.size=ps.length:=by rw[aaF,<-rv1.length,l1.length]
     have z2:its2.toArray.size=qs.length:=by rw[aaF,<-rv2.length,l2.length]
     by_cases hl:ps.length=qs.length
     . have h':=(acq hl).symm.trans h;have it:=item l1 rv1 l2 rv2 h';have hz:=(z1.trans hl).trans z2.symm;have rc:=RcAt.lists x1 x2 hz hu it;have rn:=RcNeAt.lists x1 x2 hz hu it;rw[z1,<-(show min ps.length qs.length=ps.length by rw[<-hl,Nat.min_self]),<-(zX h').2]at rc rn;exact⟨Iu I rp rq h rc,rc,rn⟩
     . have h':=aaM ((acr hl).symm.trans h);subst h';have hz:(its1.toArray.size != its2.toArray.size)=true:=by rw[z1,z2]; exact bne_iff_ne.mpr hl
       have rc:=RcAt.lists_lengths x1 x2 hz hu;exact⟨Iu I rp rq h rc,rc,RcNeAt.lists_lengths x1 x2 hz hu⟩
end
section
open PySem.SeqAt
variable {X:Cx} {aeQ:List (Addr×Obj)} {U:L2.St} {H:Hp} {s:Shared} {g:List Addr}
theorem Lp (h:gB (n+1) (.tup ps) r=some b):b=false\/∃rs,r=.tup rs:=by
 cases r with
 | tup rs=>exact .inr ⟨rs,rfl⟩
 | _=>cases h<;>exact .inl rfl
theorem Lq (h:gB (n+1) (.lst ps) r=some b):b=false\/∃rs,r=.lst rs:=by
 cases r with
 | lst rs=>exact .inr ⟨rs,rfl⟩
 | _=>cases h<;>exact .inl rfl
theorem Ca (I:Inv X aeQ U H s):∀(n:Nat) {p q r:PV} {v:V} {b c:Bool},Rep X.K ⟨H,g⟩ p v->Rep X.K ⟨H,g⟩ q v->gB n p r=some b->gB n q r=some c->b=c
 | 0,p,q,r,v,b,c,_,_,h,_=>by cases h
 | n+1,p,q,r,v,b,c,rp,rq,h,k=>by
  cases Sh.two I (Hh rp (BZ h)) (Hh rq (BZ k)) with
  | «at» e=>exact aaM (h.symm.trans k)
  | @tup ps qs _ h2 h4=>
   have el:=h2.length.symm.trans h4.length;rcases Lp h with rfl | ⟨rs,rfl⟩
   . rcases Lp k with rfl | ⟨rs,rfl⟩
     . rfl
     . obtain⟨c1,h5,e1⟩:=acz h;obtain⟨c2,k5,rfl⟩:=acz k;rw[<-wI (f:=gB n) (λ_ _ _ _ _ _=>Ca I n) h2 h4 h5 k5,<-el,e1]
   . obtain⟨c1,h5,rfl⟩:=acz h;obtain⟨c2,k5,rfl⟩:=acz k;rw[wI (f:=gB n) (λ_ _ _ _ _ _=>Ca I n) h2 h4 h5 k5,el]
  | @lst ps qs _ h2 h4=>
   have el:=h2.length.symm.trans h4.length;have main:∀rs,r=.lst rs->b=c:=λrs e=>by
    subst e;by_cases hl:qs.length=rs.length
    . exact wI (f:=gB n) (λ_ _ _ _ _ _=>Ca I n) h2 h4 ((acq (el.trans hl)).symm.trans h) ((acq hl).symm.trans k)
    . exact aaM ((((acr λe=>hl (el.symm.trans e)).symm.trans h).symm.trans ((acr hl).symm.trans k)))
   rcases Lq h with e1 | ⟨rs,e⟩
   . rcases Lq k with e2 | ⟨rs,e⟩
     . exact e1.trans e2.symm
     . exact main rs e
   . exact main rs e
def wK (f:PV->PV->Option Bool) (x:PV):List PV->Option Bool
 | []=>some false
 | q::qs=>(f q x).bind λb=>(wK f x qs).map λc=>b||c
theorem DN:∀{qs:List PV} {b:Bool},wK f x qs=some b->(∀q∈qs,∃c,f q x=some c)/\b=qs.any λq=>(f q x).getD false
 | [],b,h=>by cases h; exact⟨λq hq=>by simp at hq,rfl⟩
 | q::qs,b,h=>by
  obtain⟨c,h1,h2⟩:=acy h;obtain⟨d,h3,rfl⟩:=acz h2;obtain⟨i1,i2⟩:=DN h3;refine⟨λq' hq=>?_,?_⟩
  . rcases aaI.mp hq with rfl | hq
    . exact⟨c,h1⟩
    . exact i1 q' hq
  . rw[List.any_cons,h1,acj,<-i2]
open Classical in
def worth (K:FG) (Z:ZG) (x:PV) (qs:List PV) (vs:List V) (its:List Value) (u:Value):Bool:=
 if h:∃(j:Nat) (q:PV),qs[j]?=some q/\its[j]?=some u then (gB 150 h.choose_spec.choose x).getD false else false
theorem Iv (I:Inv X aeQ U H s) {xv:V} {xu:Value} (r:aZ X.K ⟨H,g⟩ qs vs) (rv:Vals vs its) (hx:∀q∈qs,∃c,gB 150 q x=some c) {j:Nat} (e1:qs[j]?=some q) (e2:its[j]?=some u):
 worth X.K ⟨H,g⟩ x qs vs its u=(gB 150 q x).getD false:=by
 have h:∃(j:Nat) (q:PV),qs[j]?=some q/\its[j]?=some u:=⟨j,q,e1,e2⟩;unfold worth;rw[dif_pos h];obtain⟨f1,f2⟩:=h.choose_spec.choose_spec;generalize h.choose_spec.choose=q' at f1 f2;obtain⟨v1,g1,g2⟩:=r.get e1;obtain⟨v2,k1,k2⟩:=r.get f1;obtain⟨u1,m1,m2⟩:=rv.get g1;obtain⟨u2,n1,n2⟩:=rv.get k1;rw[e2]at m1; cases m1;rw[f2]at n1; cases n1;have ev:=RelV.inj m2 n2;subst ev;obtain⟨c1,h1⟩:=hx q (abf e1);obtain⟨c2,h2⟩:=hx q' (abf f1);rw[h1,h2,Ca I 150 k2 g2 h2 h1]
theorem wL (I:Inv X aeQ U H s) (rx:Rep X.K ⟨H,g⟩ x xv) (ru:RelV xv xu) (r:aZ X.K ⟨H,g⟩ qs vs) (rv:Vals vs its) (hx:∀q∈qs,∃c,gB 150 q x=some c) (hA:A.units+150<cLine):
 ∀u,u∈its.toArray->EqAt A s u xu (worth X.K ⟨H,g⟩ x qs vs its u):=λu hu=>by
 have hu':u∈its:=by simpa using hu
 obtain⟨j,hj,e⟩:=List.getElem_of_mem hu';have e2:its[j]?=some u:=by rw[aaK hj,e]
 have hl:=rv.length;have hlr:=r.length;have e1:qs[j]?=some (qs[j]'(by omega)):=aaK _;rw[Iv (xv:=xv) (xu:=xu) I r rv hx e1 e2];obtain⟨v1,g1,g2⟩:=r.get e1;obtain⟨u1,m1,m2⟩:=rv.get g1;rw[e2]at m1; cases m1;obtain⟨c1,h1⟩:=hx _ (abf e1);rw[h1];exact(Hi I 150 g2 rx m2 ru h1 A hA).1
theorem uH (I:Inv X aeQ U H s) {xv:V} {xu:Value} (r:aZ X.K ⟨H,g⟩ qs vs) (rv:Vals vs its) (hx:∀q∈qs,∃c,gB 150 q x=some c):
 its.toArray.any (worth X.K ⟨H,g⟩ x qs vs its)=qs.any λq=>(gB 150 q x).getD false:=by
 have hl:its.length=qs.length:=by rw[<-rv.length,r.length]
 have key:its.map (worth X.K ⟨H,g⟩ x qs vs its)=qs.map λq=>(gB 150 q x).getD false:=by
  apply List.ext_getElem?;intro j;rw[aa2,aa2];by_cases hj:j<its.length
  . have e2:=aaK hj;have e1:qs[j]?=some (qs[j]'(by omega)):=aaK _;rw[e2,e1,abR,abR,Iv (xv:=xv) (xu:=xu) I r rv hx e1 e2]
  . rw[abw (by omega),abw (by omega)];rfl
 rw[show its.toArray.any (worth X.K ⟨H,g⟩ x qs vs its)=its.any (worth X.K ⟨H,g⟩ x qs vs its) by simp];have a1:its.any (worth X.K ⟨H,g⟩ x qs vs its)=(its.map (worth X.K ⟨H,g⟩ x qs vs its)).any id:=by simp[List.any_map]
 have a2:(qs.any λq=>(gB 150 q x).getD false)=(qs.map λq=>(gB 150 q x).getD false).any id:=by simp[List.any_map]
 rw[a1,a2,key]
end
section
variable {X:Cx}
theorem SR.rep2 (h:SR K H0 Z0 U H O ((w,.sh q)::(v,.sh p)::pd)):∃Z:ZG,eO Z.z H/\Rep K Z p v/\Rep K Z q w:=by obtain⟨_,Z,_,z,r,s⟩:=h.sh;obtain⟨x,e1,e2⟩:=(s.perm fM.symm).1 _ aaz;cases e1;exact⟨Z,z.zh,e2,r⟩
theorem SR.rep2H (h:SR K H0 Z0 U H O ((w,.sh q)::(v,.sh p)::pd)):∃g,Rep K ⟨H,g⟩ p v/\Rep K ⟨H,g⟩ q w:=by obtain⟨Z,z,a,b⟩:=h.rep2;exact⟨Z.g,a.mono (Z':=⟨H,Z.g⟩) ⟨z,abv _⟩,b.mono (Z':=⟨H,Z.g⟩) ⟨z,abv _⟩⟩
def NZ (K:FG) (neg:Bool):R2:=λx y H Q=>∃g p q b,Rep K ⟨H,g⟩ p x/\Rep K ⟨H,g⟩ q y/\gB 150 p q=some b/\Q (.bl (if neg then !b else b)) H
theorem cA (hr:gW b k X.A):gh X (compareOp .Eq) (NZ X.K false):=by
 intro aeQ s U H x y v u Q I rx ry h;obtain⟨g,p,q,b,rp,rq,e,k'⟩:=h;have hA:X.A.units+150<cLine:=by have:=hr.un; omega
 obtain⟨_,rc,_⟩:=Hi I 150 rp rq rx ry e X.A hA;exact rc _ _ _ _ ⟨.bl b,H,I,rfl,k'⟩
theorem iK (hr:gW b k X.A):gh X (compareOp .NotEq) (NZ X.K true):=by
 intro aeQ s U H x y v u Q I rx ry h;obtain⟨g,p,q,b,rp,rq,e,k'⟩:=h;have hA:X.A.units+150<cLine:=by have:=hr.un; omega
 obtain⟨_,_,rn⟩:=Hi I 150 rp rq rx ry e X.A hA;exact rn _ _ _ _ ⟨.bl (!b),H,I,rfl,k'⟩
def eqP (p q:PV):Option Lc:=(gB 150 p q).map λb=>.sh (.bl b)
def gC (p q:PV):Option Lc:=(gB 150 p q).map λb=>.sh (.bl (!b))
theorem cB:jt K (NZ K false) eqP:=by intro H0 Z0 U O pd H v w x y l Q s e k;obtain⟨b,e1,rfl⟩:=acz e;obtain⟨g,r1,r2⟩:=s.rep2H;exact⟨g,x,y,b,r1,r2,e1,k _ H (s.pop.pop.scal fK)⟩
theorem iM:jt K (NZ K true) gC:=by intro H0 Z0 U O pd H v w x y l Q s e k;obtain⟨b,e1,rfl⟩:=acz e;obtain⟨g,r1,r2⟩:=s.rep2H;exact⟨g,x,y,b,r1,r2,e1,k _ H (s.pop.pop.scal fK)⟩
def Iw (K:FG) (neg:Bool):R2:=λx y H Q=>(∃g p qs b,Rep K ⟨H,g⟩ p x/\(Rep K ⟨H,g⟩ (.lst qs) y\/Rep K ⟨H,g⟩ (.tup qs) y)/\wK (gB 150) p qs=some b/\Q (.bl (if neg then !b else b)) H)\/
 ∃i j,x=.str i/\y=.str j/\Q (.bl (if neg then (Builtin.Str.occurrences j i 0 j.length 1).isEmpty else !(Builtin.Str.occurrences j i 0 j.length 1).isEmpty)) H
theorem yP (hr:gW b k X.A):gh X (compareOp .In) (Iw X.K false):=by
 intro aeQ s U H x y v u Q I rx ry h;have hA:X.A.in1.units+150<cLine:=by have:=hr.un; show X.A.units+1+150<cLine; omega
 rcases h with ⟨g,p,qs,b,rp,rq,e,k'⟩ | ⟨i,j,rfl,rfl,k'⟩
 . obtain⟨i1,i2⟩:=DN e;rcases rq with rq | rq
   . obtain⟨a,vs,its,rfl,q1,l1,rv1,t1⟩:=tQ I rq ry;refine SeqAt.in_listAt (worth X.K ⟨H,g⟩ p qs vs its) t1 (wL I rp rx l1 rv1 i1 hA) ⟨.bl b,H,I,?_,k'⟩;rw[uH (xv:=x) (xu:=v) I l1 rv1 i1,<-i2];rfl
   . obtain⟨a,vs,its,rfl,q1,l1,rv1,t1⟩:=tO I rq ry;refine SeqAt.in_tupleAt (worth X.K ⟨H,g⟩ p qs vs its) t1 (wL I rp rx l1 rv1 i1 hA) ⟨.bl b,H,I,?_,k'⟩;rw[uH (xv:=x) (xu:=v) I l1 rv1 i1,<-i2];rfl
 . exact O7 aeQ s U H (.str i) (.str j) v u Q I rx ry ⟨i,j,rfl,rfl,k'⟩
theorem PX (hr:lL k X.A):gh X (compareOp .NotIn) (Iw X.K true):=by
 intro aeQ s U H x y v u Q I rx ry h;have hA:X.A.in1.units+150<cLine:=by have:=hr.un; show X.A.units+1+150<cLine; omega
 rcases h with ⟨g,p,qs,b,rp,rq,e,k'⟩ | ⟨i,j,rfl,rfl,k'⟩
 . obtain⟨i1,i2⟩:=DN e;rcases rq with rq | rq
   . obtain⟨a,vs,its,rfl,q1,l1,rv1,t1⟩:=tQ I rq ry;refine SeqAt.notIn_listAt (worth X.K ⟨H,g⟩ p qs vs its) t1 (wL I rp rx l1 rv1 i1 hA) ⟨.bl (!b),H,I,?_,k'⟩;rw[uH (xv:=x) (xu:=v) I l1 rv1 i1,<-i2];rfl
   . obtain⟨a,vs,its,rfl,q1,l1,rv1,t1⟩:=tO I rq ry;refine SeqAt.notIn_tupleAt (worth X.K ⟨H,g⟩ p qs vs its) t1 (wL I rp rx l1 rv1 i1 hA) ⟨.bl (!b),H,I,?_,k'⟩;rw[uH (xv:=x) (xu:=v) I l1 rv1 i1,<-i2];rfl
 . exact Hy aeQ s U H (.str i) (.str j) v u Q I rx ry ⟨i,j,rfl,rfl,by simpa using k'⟩
def isIn (x y:PV):Option Bool:=match y with
 | .lst qs=>wK (gB 150) x qs
 | .tup qs=>wK (gB 150) x qs
 | .str j=>match x with
  | .str i=>some (!(Builtin.Str.occurrences j i 0 j.length 1).isEmpty)
  | _=>none
 | _=>none
def oY (p q:PV):Option Lc:=(isIn p q).map λb=>.sh (.bl b)
def N5 (p q:PV):Option Lc:=(isIn p q).map λb=>.sh (.bl (!b))
theorem P0:jt K (Iw K neg) (λp q=>(isIn p q).map λb=>.sh (.bl (if neg then !b else b))):=by
 intro H0 Z0 U O pd H v w x y l Q s e k;obtain⟨b,e1,rfl⟩:=acz e;obtain⟨g,r1,r2⟩:=s.rep2H;cases y with
 | lst qs=>exact .inl ⟨g,x,qs,b,r1,.inl r2,e1,k _ H (s.pop.pop.scal fK)⟩
 | tup qs=>exact .inl ⟨g,x,qs,b,r1,.inr r2,e1,k _ H (s.pop.pop.scal fK)⟩
 | str j=>
  cases x with
  | str i=>
   have e1':=aaM e1;subst e1';refine .inr ⟨i,j,cU r1,cU r2,?_⟩;have:=k (.bl (if neg then (Builtin.Str.occurrences j i 0 j.length 1).isEmpty else !(Builtin.Str.occurrences j i 0 j.length 1).isEmpty)) H;refine this (s.pop.pop.scal λZ=>?_);cases neg<;>simp[Rep]
  | _=>cases e1
 | _=>cases e1
theorem vK:jt K (Iw K false) oY:=P0
theorem Vl:jt K (Iw K true) N5:=P0
def qW:PV->Bool
 | .non=>true
 | _=>false
def qy (p q:PV):Option Lc:=match q with
 | .non=>some (.sh (.bl (qW p)))
 | _=>none
def wM (p q:PV):Option Lc:=match q with
 | .non=>some (.sh (.bl (!qW p)))
 | _=>none
theorem Lr (r:Rep K Z p v):decide (v=.non)=qW p:=by
 cases p with
 | non=>have:=iw r; subst this; rfl
 | bl b=>have:=d8 r; subst this; rfl
 | int b=>have:=cG r; subst this; rfl
 | str b=>have:=cU r; subst this; rfl
 | tup ps=> obtain⟨a,vs,rfl,_⟩:=r; rfl
 | lst ps=> obtain⟨a,vs,rfl,_⟩:=r; rfl
 | dk ks ps=> obtain⟨a,vs,rfl,_⟩:=r; rfl
 | dt ks ps=> obtain⟨a,vs,rfl,_⟩:=r; rfl
 | obj c ks ps=> obtain⟨a,c,dx,fs,rfl,_⟩:=r; rfl
 | df ks ps=> obtain⟨a,o,kvs,rfl,_⟩:=r; rfl
 | dtf ks ps=> obtain⟨a,o,kvs,rfl,_⟩:=r; rfl
 | dx hk ks ps=> obtain⟨a,xs,rfl,_⟩:=r; rfl
 | exc n=> obtain⟨a,c,rfl,_⟩:=r; rfl
 | fn n=> obtain⟨a,rfl,_⟩:=r; rfl
 | ptr n=> obtain⟨a,rfl,_⟩:=r; rfl
theorem qz:jt K (λx y H Q=>y=.non/\Q (.bl (decide (x=.non))) H) qy:=by
 intro H0 Z0 U O pd H v w x y l Q s e k;obtain⟨g,r1,r2⟩:=s.rep2H;cases y with
 | non=>
  have e':=aaM e;subst e';refine⟨iw r2,?_⟩;rw[Lr r1];exact k _ H (s.pop.pop.scal fK)
 | _=>cases e
theorem Be:jt K (λx y H Q=>y=.non/\Q (.bl (!decide (x=.non))) H) wM:=by
 intro H0 Z0 U O pd H v w x y l Q s e k;obtain⟨g,r1,r2⟩:=s.rep2H;cases y with
 | non=>
  have e':=aaM e;subst e';refine⟨iw r2,?_⟩;rw[Lr r1];exact k _ H (s.pop.pop.scal fK)
 | _=>cases e
def jX:=xV (λ_ _=>true) λi j=>.bl (decide (i<j))
def xW:=xV (λ_ _=>true) λi j=>.bl (decide (i<=j))
def Ga:=xV (λ_ _=>true) λi j=>.bl (decide (j<i))
theorem lV:jt K (vH λi j=>.bl (decide (i<j))) jX:=BW λ_ _ _=>fK _
theorem Cd:jt K (vH λi j=>.bl (decide (i<=j))) xW:=BW λ_ _ _=>fK _
theorem Qa:jt K (vH λi j=>.bl (decide (j<i))) Ga:=BW λ_ _ _=>fK _
def oK:=xV (λ_ _=>true) λi j=>.int (i-j)
def gR:=xV (λ_ j=>decide (0<j)) λi j=>.int (i%j)
def Ce:=xV (λ_ j=>decide (0<j/\j<1073741824)) λi j=>.int (i/j)
def jJ:=xV (λi j=>decide ((-(2 ^ 64)<i/\i<2 ^ 64)\/(-(2 ^ 64)<j/\j<2 ^ 64))) λi j=>.int (i*j)
def DP:=xV (λi j=>decide (0<=j/\j<=1000000/\i.natAbs<2 ^ 64)) λi j=>.int (i ^ j.toNat)
theorem qC:jt K (vH λi j=>.int (i-j)) oK:=BW λ_ _ _=>f9 _
theorem iW:jt K (rI (λ_ j=>0<j) λi j=>.int (i%j)) gR:=Hf (λ_ _ h=>of_decide_eq_true h) λ_ _ _=>f9 _
theorem Iz:jt K (rI WL λi j=>.int (i/j)) Ce:=Hf (λi j h=>(of_decide_eq_true h:0<j/\j<1073741824)) λ_ _ _=>f9 _
theorem nG:jt K (rI Nj λi j=>.int (i*j)) jJ:=Hf (λi j h=>(of_decide_eq_true h:(-(2 ^ 64)<i/\i<2 ^ 64)\/(-(2 ^ 64)<j/\j<2 ^ 64))) λ_ _ _=>f9 _
theorem zY:jt K (rI WM λi j=>.int (i ^ j.toNat)) DP:=Hf (λi j h=>(of_decide_eq_true h:0<=j/\j<=1000000/\i.natAbs<2 ^ 64)) λ_ _ _=>f9 _
def Ri (K:FG):R2:=λx y H Q=>vH (λi j=>.int (i+j)) x y H Q\/(∃i j,x=.str i/\y=.str j/\i.length+j.length<=sizeLine/\Q (.str (i++j)) H)\/
 (∃a b xs ys,x=.ref a/\y=.ref b/\cM K H a xs/\cM K H b ys/\xs.length+ys.length<=sizeLine/\∀p,H p=none->Q (.ref p) (upd H p (.lst (xs++ys))))\/Tt K x y H Q
theorem bz:gh X (binaryOp .Add) (Ri X.K):=WN.or (Np.or (Vc.or U5))
def aY:PV->PV->Option Lc
 | .int i,.int j=>some (.sh (.int (i+j)))
 | .str i,.str j=>if i.length+j.length<=100000 then some (.sh (.str (i++j))) else none
 | .lst ps,.lst qs=>if ps.length+qs.length<=100000 then some (.own (.lst (ps++qs))) else none
 | .tup (p::ps),.tup qs=>if ps.length+qs.length<=10000 then some (.sh (.tup (p::ps++qs))) else none
 | _,_=>none
theorem Bf {α:Type} [Decidable c] {a b:α} (e:(if c then some a else none)=some b):c/\a=b:=by
 split at e
 . rename_i h;exact⟨h,aaM e⟩
 . cases e
theorem Vm (e:aY x y=some l):(∃i j,x=.int i/\y=.int j/\l=.sh (.int (i+j)))\/(∃i j,x=.str i/\y=.str j/\i.length+j.length<=100000/\l=.sh (.str (i++j)))
 \/ (∃ps qs,x=.lst ps/\y=.lst qs/\ps.length+qs.length<=100000/\l=.own (.lst (ps++qs)))\/∃p ps qs,x=.tup (p::ps)/\y=.tup qs/\ps.length+qs.length<=10000/\l=.sh (.tup (p::ps++qs)):=by
 unfold aY at e;split at e
 . cases e;exact .inl ⟨_,_,rfl,rfl,rfl⟩
 . obtain⟨h,e⟩:=Bf e;exact .inr (.inl ⟨_,_,rfl,rfl,h,e.symm⟩)
 . obtain⟨h,e⟩:=Bf e;exact .inr (.inr (.inl ⟨_,_,rfl,rfl,h,e.symm⟩))
 . obtain⟨h,e⟩:=Bf e;exact .inr (.inr (.inr ⟨_,_,_,rfl,rfl,h,e.symm⟩))
 . cases e
theorem bA:jt K (Ri K) aY:=by
 intro H0 Z0 U O pd H v w x y l Q s e k;obtain⟨g,r1,r2⟩:=s.rep2H;rcases Vm e with ⟨i,j,rfl,rfl,rfl⟩ | ⟨i,j,rfl,rfl,hl,rfl⟩ | ⟨ps,qs,rfl,rfl,hl,rfl⟩ | ⟨p,ps,qs,rfl,rfl,hl,rfl⟩
 . exact .inl ⟨i,j,cG r1,cG r2,k _ H (s.pop.pop.scal f9)⟩
 . exact .inr (.inl ⟨i,j,cU r1,cU r2,small hl,k _ H (s.pop.pop.scal mz)⟩)
 . obtain⟨el,Z,hg,z,rq,s1⟩:=s.sh;have s2:=s1.perm fM.symm;obtain⟨_,e1,rp⟩:=s2.1 _ aaz;cases e1;obtain⟨a,xs,rfl,h1,h2⟩:=rp;obtain⟨b,ys,rfl,h3,h4⟩:=rq;refine .inr (.inr (.inl ⟨a,b,xs,ys,rfl,rfl,cM.same z.zh h1,cM.same z.zh h3,by rw[h2.length,h4.length]; exact small hl,λp hp=>k _ _ ?_⟩));obtain⟨z',s'⟩:=(s2.sub (aaU _ _)).new (p:=.lst (ps++qs)) z hp ⟨xs++ys,dm,h2.append h4⟩;exact .mk el hg z' s'
 . obtain⟨el,Z,hg,z,rq,s1⟩:=s.sh;have s2:=s1.perm fM.symm;obtain⟨_,e1,rp⟩:=s2.1 _ aaz;cases e1;obtain⟨a,xs,rfl,h1,h2⟩:=rp;obtain⟨b,ys,rfl,h3,h4⟩:=rq;have hx:xs≠[]:=λh=>by have:=h2.length; rw[h]at this; simp at this
   have hz:=h2.length;have hz':=h4.length;rw[aaC]at hz;refine .inr (.inr (.inr ⟨a,b,xs,ys,rfl,rfl,eU.same z.zh h1,eU.same z.zh h3,hx,small (by omega),λh=>?_,λh q hq=>?_⟩))
   . subst h;have:qs=[]:=ab8 hz'.symm;subst this;rw[aa1]at k;exact k _ H s.pop
   . have s3:=s2.sub (aaU _ _);obtain⟨z',sz,s'⟩:=s3.newF z hq;refine k _ _ (.mk (Z:=Z.put q (.tup (xs++ys))) el hg z' (s'.consS ?_));exact⟨q,xs++ys,rfl,eU.of dm,(h2.append h4).mono sz⟩
def uI:PV->PV->Option Lc
 | .lst ps,.int i=>(eQ ps i).map .sh
 | .tup ps,.int i=>(eQ ps i).map .sh
 | .str x,.int i=>if x.length<=100000 then (eQ x.cps.toList i).map λc=>.sh (.str ⟨#[c]⟩) else none
 | _,_=>none
theorem DQ {r:List β} (h:eQ l i=some x) (e:r.length=l.length):∃(j:Nat),l[j]?=some x/\∀y,r[j]?=some y->eQ r i=some y:=by obtain⟨j,h1,h2⟩:=acy h;refine⟨j,h2,λy hy=>?_⟩;unfold eQ;rw[e,h1];exact hy
theorem Xo (e:uI x y=some l):∃i,y=.int i/\((∃ps,(x=.lst ps\/x=.tup ps)/\(eQ ps i).map Lc.sh=some l)\/∃t c,x=.str t/\t.length<=100000/\eQ t.cps.toList i=some c/\l=.sh (.str ⟨#[c]⟩)):=by
 unfold uI at e;split at e
 . exact⟨_,rfl,.inl ⟨_,.inl rfl,e⟩⟩
 . exact⟨_,rfl,.inl ⟨_,.inr rfl,e⟩⟩
 . split at e
   . rename_i h;obtain⟨c,h1,rfl⟩:=acz e;exact⟨_,rfl,.inr ⟨_,c,rfl,h,h1,rfl⟩⟩
   . cases e
 . cases e
theorem Xp:jt K (Zn K) uI:=by
 intro H0 Z0 U O pd H v w x y l Q s e k;obtain⟨i,rfl,hx⟩:=Xo e;obtain⟨el,Z,hg,z,r2,s1⟩:=s.sh;have s2:=s1.perm fM.symm;obtain⟨_,e1,r1⟩:=s2.1 _ aaz;cases e1;have s3:=s2.sub (aaU _ _);have ew:=cG r2;rcases hx with ⟨ps,hx,h0⟩ | ⟨x,c,rfl,hl,h1,rfl⟩
 . obtain⟨p,h1,rfl⟩:=acz h0;rcases hx with rfl | rfl
   . obtain⟨a,vs,rfl,h2,h3⟩:=r1;obtain⟨j,e1,e2⟩:=DQ h1 h3.length;obtain⟨u,e3,e4⟩:=h3.get e1;exact .inl ⟨a,vs,i,u,rfl,ew,cM.same z.zh h2,e2 u e3,k _ H (.mk el hg z (s3.consS e4))⟩
   . obtain⟨a,vs,rfl,h2,h3⟩:=r1;obtain⟨j,e1,e2⟩:=DQ h1 h3.length;obtain⟨u,e3,e4⟩:=h3.get e1;exact .inr (.inl ⟨a,vs,i,u,rfl,ew,eU.same z.zh h2,e2 u e3,k _ H (.mk el hg z (s3.consS e4))⟩)
 . exact .inr (.inr ⟨x,i,c,cU r1,ew,small hl,h1,k _ H (s.pop.pop.scal mz)⟩)
def pD (ps:List PV) (lo hi:Option Int):List PV:=(ps.drop (HT.sIx ps.length 0 lo)).take (HT.sIx ps.length ps.length hi-HT.sIx ps.length 0 lo)
abbrev OF:=Ev->Option (Option Int×Ev)
def IK (K:FG) (f:OF):TO:=λU H Q=>∃H0 Z0 O pd r O',SR K H0 Z0 U H O pd/\f O=some (r,O')/\∀H',SR K H0 Z0 U H' O' pd->Q r H'
theorem PO.imp (h:PO X e t) (i:∀U H Q,t' U H Q->t U H Q):PO X e t':=λaeQ s U H Q I q=>h aeQ s U H Q I (i U H Q q)
def d9:OF:=λO=>some (none,O)
def cD (f:EF):OF:=λO=>(f O).bind λx=>match x.1.pv with
 | .int i=>some (some i,x.2)
 | _=>none
theorem mC:PO X none (IK X.K d9):=PO.imp U3_ λU H Q q=>by obtain⟨H0,Z0,O,pd,r,O',s,h,k⟩:=q;cases h;exact k H s
theorem gM (h:PE X e (tP X.K f)):PO X (some e) (IK X.K (cD f)):=PO.imp (U4 h) λU H Q q=>by
 obtain⟨H0,Z0,O,pd,r,O',s,h,k⟩:=q;obtain⟨x,h1,h2⟩:=acy h;refine⟨H0,Z0,O,pd,x.1,x.2,s,h1,λv H1 s1=>?_⟩;obtain⟨_,r1⟩:=s1.freeze.repH;cases e:x.1.pv with
 | int i=>
  rw[e]at h2 r1;cases h2;exact⟨i,cG r1,k H1 s1.pop⟩
 | _=>rw[e]at h2; cases h2
theorem aZ.cut {lo hi:Option Int} (h:aZ K Z ps vs):aZ K Z (pD ps lo hi) (Az vs lo hi):=by unfold pD Az;rw[h.length];exact(h.drop _).take _
def iY (K:FG) (r:List V->Hp->VK->Prop) (g:List PV->Option Lc):Prop:=∀H0 Z0 U O pd H vs ps l Q,vs.length=ps.length->SR K H0 Z0 U H O (vs.zip (ps.map Lc.sh)++pd)->g ps=some l->(∀u H',SR K H0 Z0 U H' O ((u,l)::pd)->Q u H')->r vs H Q
def eB (g:List PV->Option Lc) (a:AF):EF:=λO=>(a O).bind λy=>(g (y.1.map Lc.pv)).map λl=>(l,y.2)
theorem rK (hs:iY X.K r g):∀U H Q,tP X.K (eB g a) U H Q->Fv r (lr X.K a) U H Q:=λU H Q q=>by
 obtain⟨H0,Z0,O,pd,l,O',s,f,k⟩:=q;obtain⟨y,h1,h2⟩:=acy f;obtain⟨l',h3,h4⟩:=acz h2;cases h4;refine⟨H0,Z0,O,pd,y.1,y.2,s,h1,λvs H2 e2 s2=>?_⟩;have s3:=s2.freezeAll;have hm:(y.1.map λl=>Lc.sh l.pv)=(y.1.map Lc.pv).map Lc.sh:=by rw[abn]; rfl
 rw[hm]at s3;exact hs H0 Z0 U y.2 pd H2 vs (y.1.map Lc.pv) _ Q (by simpa using e2) s3 h3 k
theorem tR {id:String} (hc:nF X (.builtin id) r) (hs:iY X.K r g) (h:PE X (.Call (.Name x p) (e::es) [] pos) (Fv r (lr X.K a))):PE X (.Call (.Name x p) (e::es) [] pos) (tP X.K (eB g a)):=PE.imp h (rK hs)
theorem iY.one {g:PV->Option Lc} (h:∀H0 Z0 U O pd H v p l Q,SR K H0 Z0 U H O ((v,.sh p)::pd)->g p=some l->(∀u H',SR K H0 Z0 U H' O ((u,l)::pd)->Q u H')->r [v] H Q):
 iY K r (λps=>match ps with | [p]=>g p | _=>none):=by
 intro H0 Z0 U O pd H vs ps l Q e s hg k
 match ps,vs,e,s,hg with
 | [p],[v],_,s,hg=>exact h H0 Z0 U O pd H v p l Q s hg k
 | [p],[],e,_,_=>simp at e
 | [p],_::_::_,e,_,_=>simp at e
 | [],_,_,_,hg=>cases hg
 | _::_::_,_,_,_,hg=>cases hg
def RJ:PV->Option Lc
 | .str x=>if x.length<=100000 then some (.sh (.int x.length)) else none
 | .lst ps=>some (.sh (.int ps.length))
 | .tup ps=>some (.sh (.int ps.length))
 | _=>none
abbrev du:List PV->Option Lc:=λps=>match ps with | [p]=>RJ p | _=>none
theorem Qc:iY K (λxs H Q=>∃x n,xs=[x]/\Rf K x H n/\Q (.int n) H) du:=iY.one λH0 Z0 U O pd H v p l Q s e k=>by
 obtain⟨_,r⟩:=s.repH;cases p with
 | str x=>
  have e':(if x.length<=100000 then some (Lc.sh (.int x.length)) else none)=some l:=e;split at e'
  . rename_i hl;cases e';have:=cU r;subst this;exact⟨_,x.length,rfl,⟨small hl,rfl⟩,k _ H (s.pop.scal f9)⟩
  . cases e'
 | lst ps=>
  cases e;obtain⟨a,vs,rfl,h1,h2⟩:=r;exact⟨_,ps.length,rfl,.inl ⟨vs,h1,h2.length.symm⟩,k _ H (s.pop.scal f9)⟩
 | tup ps=>
  cases e;obtain⟨a,vs,rfl,h1,h2⟩:=r;exact⟨_,ps.length,rfl,.inr ⟨vs,h1,h2.length.symm⟩,k _ H (s.pop.scal f9)⟩
 | _=>cases e
def Y6:PV->Option Lc
 | .lst ps=>some (.own (.lst ps))
 | .tup ps=>some (.own (.lst ps))
 | _=>none
abbrev list1:List PV->Option Lc:=λps=>match ps with | [p]=>Y6 p | _=>none
theorem Ls:iY K (λxs H Q=>∃p ys,xs=[.ref p]/\(cM K H p ys\/eU K H p ys)/\∀l,H l=none->Q (.ref l) (upd H l (.lst ys))) list1:=iY.one λH0 Z0 U O pd H v p l Q s e k=>by
 obtain⟨el,Z,hg,z,r,s1⟩:=s.sh;cases p with
 | lst ps=>
  cases e;obtain⟨a,vs,rfl,h1,h2⟩:=r;refine⟨a,vs,rfl,.inl (cM.same z.zh h1),λq hq=>k _ _ ?_⟩;obtain⟨z',s'⟩:=s1.new (p:=.lst ps) z hq ⟨_,dm,h2⟩;exact .mk el hg z' s'
 | tup ps=>
  cases e;obtain⟨a,vs,rfl,h1,h2⟩:=r;refine⟨a,vs,rfl,.inr (eU.same z.zh h1),λq hq=>k _ _ ?_⟩;obtain⟨z',s'⟩:=s1.new (p:=.lst ps) z hq ⟨_,dm,h2⟩;exact .mk el hg z' s'
 | _=>cases e
theorem Ev.set_set:(O.set i x).set i y=O.set i y:=by show Ev.mk ((O.vs.set i x).set i y) O.mu=_;rw[abE];rfl
theorem SR.takeO (s:SR K H0 Z0 U H O pd) (e:O.vs[i]?=some (some (.own (.lst ws)))):
 ∃a,U[i]?=some (some (.ref a))/\(∃us,H a=some (.lst us))/\SR K H0 Z0 U H (O.set i none) ((.ref a,.own (.lst ws))::pd):=by
 obtain⟨v,e1,s1⟩:=s.take e;obtain⟨_,Z,_,z,so⟩:=s1.top;obtain⟨a,ea,⟨us,hu,_⟩,_⟩:=so.1 _ aaz;have ea':=aaM ea;subst ea';exact⟨a,e1,⟨us,hu⟩,s1⟩
def cY (i:Nat) (f:EF):SF:=λO=>match O.vs[i]? with
 | some (some (.own (.lst _)))=>(f O).bind λy=>match y.2.vs[i]? with
  | some (some (.own (.lst ws)))=>if ws.length<100000 then some (.nx (y.2.set i (some (.own (.lst (ws++[y.1.pv])))))) else none
  | _=>none
 | _=>none
theorem Xq (h:PS X (.Expr (.Call (.Attribute o "append" apos) [e] [] cpos) pos) (G9 (Lg X.K "list" Dv (wy i) (lr X.K (aa f ao))))):
 PS X (.Expr (.Call (.Attribute o "append" apos) [e] [] cpos) pos) (gw X.K (cY i f)):=PS.imp h λD U H q=>by
 obtain⟨H0,Z0,O,pd,fl,s,h,k⟩:=q;unfold cY at h;split at h
 . rename_i ws0 e0;obtain⟨y,h1,h2⟩:=acy h;obtain⟨a,ea,⟨us,hu⟩,_⟩:=s.takeO e0;refine⟨.ref a,ea,.inl ⟨rfl,us,cM.of hu⟩,H0,Z0,O,pd,[y.1],y.2,s,?_,λvs H2 e2 s2=>?_⟩
   . unfold aa ao;rw[h1];rfl
   . obtain⟨v1,rfl⟩:=FP e2;split at h2
     . rename_i ws e3;split at h2
       . cases h2;obtain⟨a',ea',_,s3⟩:=SR.takeO s2 e3;rw[ea]at ea'; cases ea';have s4:=s3.swap;obtain⟨us2,hu2,hl,s5⟩:=s4.pushO;refine⟨a,us2,v1,rfl,rfl,hu2,by rw[hl,sizeLine_eq]; omega,k U _ ?_⟩;have s6:=s5.put ea;rw[Ev.set_set]at s6;exact s6
       . cases h2
     . cases h2
 . cases h
theorem SR.extO (s:SR K H0 Z0 U H O ((v,.sh (.lst ps))::(.ref a,.own (.lst ws))::pd)):
 ∃b us zs,v=.ref b/\cM K H b zs/\H a=some (.lst us)/\us.length=ws.length/\zs.length=ps.length/\SR K H0 Z0 U (upd H a (.lst (us++zs))) O ((.ref a,.own (.lst (ws++ps)))::pd):=by
 obtain⟨el,Z,hg,z,r,so⟩:=s.sh;obtain⟨b,zs,rfl,h1,h2⟩:=r;have so2:=so.perm fM.symm;obtain⟨_,eb,⟨us,hu,hr⟩,_⟩:=so2.1 _ aaz;cases eb;refine⟨b,us,zs,rfl,cM.same z.zh h1,hu,hr.length,h2.length,?_⟩;obtain⟨z',s'⟩:=so2.write (q:=.lst (ws++ps)) z ⟨us++zs,dm,hr.append h2⟩;exact .mk el hg z' s'
def jy (i:Nat) (f:EF):SF:=λO=>match O.vs[i]? with
 | some (some (.own (.lst _)))=>(f O).bind λy=>match y.1.pv,y.2.vs[i]? with
  | .lst ps,some (some (.own (.lst ws)))=>if ws.length+ps.length<=100000 then some (.nx (y.2.set i (some (.own (.lst (ws++ps)))))) else none
  | _,_=>none
 | _=>none
theorem Xr (h:PS X (.Expr (.Call (.Attribute o "extend" apos) [e] [] cpos) pos) (G9 (Lg X.K "list" (HW X.K) (wy i) (lr X.K (aa f ao))))):
 PS X (.Expr (.Call (.Attribute o "extend" apos) [e] [] cpos) pos) (gw X.K (jy i f)):=PS.imp h λD U H q=>by
 obtain⟨H0,Z0,O,pd,fl,s,h,k⟩:=q;unfold jy at h;split at h
 . rename_i ws0 e0;obtain⟨y,h1,h2⟩:=acy h;obtain⟨a,ea,⟨us,hu⟩,_⟩:=s.takeO e0;refine⟨.ref a,ea,.inl ⟨rfl,us,cM.of hu⟩,H0,Z0,O,pd,[y.1],y.2,s,?_,λvs H2 e2 s2=>?_⟩
   . unfold aa ao;rw[h1];rfl
   . obtain⟨v1,rfl⟩:=FP e2;split at h2
     . rename_i ps ws ep e3;split at h2
       . rename_i hz;cases h2;obtain⟨a',ea',_,s3⟩:=SR.takeO s2 e3;rw[ea]at ea'; cases ea';have s4:=s3.swap.freeze;rw[ep]at s4;obtain⟨b,us2,zs,rfl,hb,hu2,hl,hl2,s5⟩:=s4.extO;refine⟨a,b,us2,zs,rfl,rfl,hu2,hb,by rw[hl,hl2]; exact small hz,k U _ ?_⟩;have s6:=s5.put ea;rw[Ev.set_set]at s6;exact s6
       . cases h2
     . cases h2
 . cases h
theorem SR.setO (s:SR K H0 Z0 U H O ((v,.sh p)::(.ref a,.own (.lst ws))::pd)):
 ∃us,H a=some (.lst us)/\us.length=ws.length/\SR K H0 Z0 U (upd H a (.lst (us.set j v))) O ((.ref a,.own (.lst (ws.set j p)))::pd):=by
 obtain⟨el,Z,hg,z,r,so⟩:=s.sh;have so2:=so.perm fM.symm;obtain⟨_,eb,⟨us,hu,hr⟩,_⟩:=so2.1 _ aaz;cases eb;refine⟨us,hu,hr.length,?_⟩;obtain⟨z',s'⟩:=so2.write (q:=.lst (ws.set j p)) z ⟨us.set j v,dm,hr.set r j⟩;exact .mk el hg z' s'
def aaN (i:Nat) (fi fv:EF):SF:=λO=>(fv O).bind λx=>match x.2.vs[i]? with
 | some (some (.own (.lst _)))=>(fi x.2).bind λy=>match y.1.pv,y.2.vs[i]? with
  | .int k,some (some (.own (.lst ws)))=>(xR ws.length k).map λj=>.nx (y.2.set i (some (.own (.lst (ws.set j x.1.pv)))))
  | _,_=>none
 | _=>none
theorem Gb (hg:g[n]?=some a) (hm:mu[n]?=some o):∃R:Sl,List.Perm (cel g mu) ((some (.ref a),o.map Lc.own)::R)/\∀o',List.Perm (cel g (mu.set n o')) ((some (.ref a),o'.map Lc.own)::R):=by
 have h1:(g.map λa=>some (V.ref a))[n]?=some (some (.ref a)):=by rw[aa2,hg]; rfl
 have h2:(mu.map λo=>o.map Lc.own)[n]?=some (o.map Lc.own):=by rw[aa2,hm]; rfl
 obtain⟨R,p1,p2⟩:=yM (zip_get h1 h2);refine⟨R,p1,λo'=>?_⟩;have:=p2 (some (.ref a),o'.map Lc.own);rw[<-Dz,acA h1]at this;unfold cel;rw[List.map_set];exact this
theorem SR.cellO (s:SR K H0 Z0 U H O ((v,.sh (.ptr n))::pd)) (hm:O.mu[n]?=some (some p)):
 ∃a,v=.ref a/\SR K H0 Z0 U H ⟨O.vs,O.mu.set n none⟩ ((.ref a,.own p)::(.ref a,.sh (.ptr n))::pd):=by
 obtain⟨el,Z,hg,z,r,so⟩:=s.sh;have r0:=r;obtain⟨a,rfl,ha⟩:=r;obtain⟨R,p1,p2⟩:=Gb ha hm;refine⟨a,rfl,.mk el (by simpa using hg) z ?_⟩;have so2:=so.perm (p1.append_right _).symm;have so3:Slots K H0 Z H ((some (.ref a),none)::(some (.ref a),some (.own p))::(R++(U.zip O.vs++pd.map λe=>(some e.1,some e.2)))):=by
  refine⟨λe he=>?_,?_⟩
  . rcases aaI.mp he with rfl | he
    . trivial
    . exact so2.1 e he
  .  exact so2.2
 have so4:=(so3.perm (List.Perm.swap _ _ _)).perm (List.Perm.cons _ ((p2 none).append_right _));exact((so4.consS r0).perm (List.Perm.swap _ _ _)).perm (List.Perm.cons _ fM)
theorem SR.cellP (s:SR K H0 Z0 U H O ((.ref a,.own q)::(.ref a,.sh (.ptr n))::pd)) (hm:O.mu[n]?=some none):SR K H0 Z0 U H ⟨O.vs,O.mu.set n (some q)⟩ pd:=by obtain⟨el,Z,hg,z,r,so⟩:=s.swap.sh;obtain⟨b,eb,ha⟩:=r;cases eb;obtain⟨R,p1,p2⟩:=Gb ha hm;have so2:=so.perm fM.symm;refine⟨el,Z,by simpa using hg,z,?_⟩;have p3:List.Perm (sl Z.g U O pd) ((some (.ref a),none)::(R++(U.zip O.vs++pd.map λe=>(some e.1,some e.2)))):=p1.append_right _;have so3:=so2.perm (p3.symm.cons _);have so4:=so3.sub ((aaU _ _).cons_cons _);exact so4.perm ((p2 (some q)).append_right _)
def wN (fo fi fv:EF):SF:=λO=>(fv O).bind λx=>(fo x.2).bind λo=>(fi o.2).bind λy=>match o.1.pv,y.1.pv with
 | .ptr n,.int k=>match y.2.mu[n]? with
  | some (some (.lst ws))=>(xR ws.length k).map λj=>.nx ⟨y.2.vs,y.2.mu.set n (some (.lst (ws.set j x.1.pv)))⟩
  | _=>none
 | _,_=>none
theorem IV (h:PS X (.Assign [.Subscript o ix tpos] e pos) (Q4 (tP X.K fv) (Wy (tP X.K fo) (tP X.K fi) Tv))):PS X (.Assign [.Subscript o ix tpos] e pos) (gw X.K (wN fo fi fv)):=PS.imp h λD U H q=>by
 obtain⟨H0,Z0,O,pd,fl,s,h,k⟩:=q;obtain⟨x,h1,h2⟩:=acy h;obtain⟨o,h3,h4⟩:=acy h2;obtain⟨y,h5,h6⟩:=acy h4;refine⟨H0,Z0,O,pd,x.1,x.2,s,h1,λv H1 s1=>⟨H0,Z0,x.2,_,o.1,o.2,s1.freeze,h3,λw H2 s2=>⟨H0,Z0,o.2,_,y.1,y.2,s2.freeze,h5,λt H3 s3=>?_⟩⟩⟩;split at h6
 . rename_i n kk en ek;split at h6
   . rename_i ws em;obtain⟨j,h7,rfl⟩:=acz h6;obtain⟨_,rt'⟩:=s3.freeze.repH;rw[ek]at rt';have et:=cG rt';have s4:=s3.pop;rw[en]at s4;obtain⟨a,rfl,s5⟩:=s4.cellO em;have s6:=s5.perm ((List.Perm.swap _ _ _).trans ((List.Perm.swap _ _ _).cons _));obtain⟨us,hu,hl,s7⟩:=s6.setO;have hn:=(aaD.mp em).1;have s8:=s7.cellP (by show (y.2.mu.set n none)[n]?=_; rw[aa5 hn]);refine⟨a,us,kk,j,rfl,et,hu,by rw[hl]; exact h7,k U _ ?_⟩;have e8:(y.2.mu.set n none).set n (some (.lst (ws.set j x.1.pv)))=y.2.mu.set n (some (.lst (ws.set j x.1.pv))):=abE ..;have s9:=s8;rw[e8]at s9;exact s9
   . cases h6
 . cases h6
def aG (fa fb:EF):EF:=λO=>(fa O).bind λx=>(fb x.2).bind λy=>match x.1.pv,y.1.pv with
 | .ptr n,.int k=>match y.2.mu[n]? with
  | some (some (.lst ws))=>(eQ ws k).map λp=>(.sh p,y.2)
  | _=>none
 | p,q=>(uI p q).map λl=>(l,y.2)
theorem jK (ha:PE X a (tP X.K fa)) (hb:PE X b (tP X.K fb)) (hm:zR b):PE X (.Subscript a b pos) (tP X.K (aG fa fb)):=PE.imp (Tu W8 ha hb hm) λU H Q q=>by
 obtain⟨H0,Z0,O,pd,l,O',s,f,k⟩:=q;obtain⟨x,h1,h2⟩:=acy f;obtain⟨y,h3,h4⟩:=acy h2;refine⟨H0,Z0,O,pd,x.1,x.2,s,h1,λv H1 s1=>⟨H0,Z0,x.2,_,y.1,y.2,s1,h3,λw H2 s2=>?_⟩⟩;have s3:=s2.freeze.swap.freeze.swap;split at h4
 . rename_i n kk en ek;split at h4
   . rename_i ws em;obtain⟨p,h5,h6⟩:=acz h4;cases h6;rw[en,ek]at s3;obtain⟨_,rw'⟩:=s3.repH;have ew:=cG rw';obtain⟨a,rfl,s5⟩:=s3.pop.cellO em;obtain⟨el,Z,hg,z,so⟩:=s5.top;obtain⟨_,ea,⟨us,hu,hr⟩,_⟩:=so.1 _ aaz;cases ea;obtain⟨j,e1,e2⟩:=DQ h5 hr.length;obtain⟨u,e3,e4⟩:=hr.get e1;refine .inl ⟨a,us,kk,u,rfl,ew,cM.of hu,e2 u e3,k u H2 ?_⟩;have s6:SR X.K H0 Z0 U H2 ⟨y.2.vs,y.2.mu.set n none⟩ ((u,.sh p)::(.ref a,.own (.lst ws))::(.ref a,.sh (.ptr n))::pd):=.mk el hg z ((so.perm fM).consS e4);have hn:=(aaD.mp em).1;have s7:=s6.perm (((List.Perm.swap _ _ _).cons _).trans (List.Perm.swap _ _ _));have s8:=s7.cellP (by show (y.2.mu.set n none)[n]?=_; rw[aa5 hn]);have e8:(y.2.mu.set n none).set n (some (.lst ws))=y.2.mu:=by rw[abE]; exact acA em
     have s9:=s8;rw[e8]at s9;exact s9
   . cases h4
 . obtain⟨l',h5,h6⟩:=acz h4;cases h6;exact Xp H0 Z0 U y.2 pd H2 v w x.1.pv y.1.pv _ Q s3 h5 k
def Cg (g:AF):EF:=λO=>(aP g O).bind λx=>match x.1 with
 | .own p=>some (.sh (.ptr x.2.mu.length),⟨x.2.vs,x.2.mu++[some p]⟩)
 | _=>none
theorem Xu (h:PE X (.List es pos) (tP X.K (aP g))):PE X (.List es pos) (tP X.K (Cg g)):=PE.imp h λU H Q q=>by
 obtain⟨H0,Z0,O,pd,l,O',s,f,k⟩:=q;obtain⟨x,h1,h2⟩:=acy f;refine⟨H0,Z0,O,pd,x.1,x.2,s,h1,λv H1 s1=>?_⟩;split at h2
 . rename_i p ep;cases h2;rw[ep]at s1;obtain⟨el,Z,hg,z,so⟩:=s1.top;obtain⟨a,ea,ra,za,ha0⟩:=so.1 _ aaz;have ea':=aaM ea;subst ea';have lz:kj Z ⟨Z.z,Z.g++[a]⟩:=⟨eO.refl _,ace _ _⟩;have so2:=so.step lz λe he b hb=>⟨rfl,(jV so he hb).1⟩;refine k _ H1 (.mk (Z:=⟨Z.z,Z.g++[a]⟩) el (by simp[hg]) ⟨z.zh,z.h0,z.z0.trans lz,z.new⟩ (Slots.consS ?_ ?_))
   . refine so2.perm ?_;have ec:cel (Z.g++[a]) (x.2.mu++[some p])=cel Z.g x.2.mu++[(some (.ref a),some (.own p))]:=by unfold cel;rw[abt,abt,abT (by simp[hg])];rfl
     show List.Perm (cel (Z.g++[a]) (x.2.mu++[some p])++_) _;rw[ec,aaZ];exact abi
   . exact⟨a,rfl,by show (Z.g++[a])[x.2.mu.length]?=some a; rw[hg,aaW (aaE _)]; simp⟩
 . cases h2
mutual
def iB:PV->Bool
 | .non=>true
 | .bl _=>true
 | .int _=>true
 | .str _=>true
 | .tup ps=>jz ps
 | _=>false
def jz:List PV->Bool
 | []=>true
 | p::ps=>iB p&&jz ps
end
def wO:Lc->Bool
 | .sh p=>iB p
 | .own (.lst ps)=>jz ps
 | _=>false
def Hj:Option Lc->Option Lc
 | some l=>some (.sh l.pv)
 | none=>none
def Ev.peek (O:Ev):Ev:=⟨O.vs.map Hj,O.mu.map λ_=>none⟩
def uJ (f:EF):EF:=λO=>(f O.peek).bind λx=>if wO x.1=true then some (x.1,O) else none
def zZ (f:TF):TF:=λO=>(f O.peek).map λx=>(x.1,O)
def zb:Option HO->Option HO->Option HO->Option HO
 | some (.tup vs),_,_=>some (.tup vs)
 | some (.frz o u),_,_=>some (.frz o u)
 | some _,z,_=>z
 | none,_,z=>z
def sH (H:Hp) (Z Z':ZG):ZG:=⟨λb=>zb (H b) (Z.z b) (Z'.z b),Z.g⟩
theorem Qd (hh:eO H H') (zh:eO Z'.z H') (h:eU K Z'.z a vs):eU K (sH H Z Z').z a vs:=by
 rcases h with (h | ⟨o,h⟩) | h
 . refine .inl (.inl ?_);show zb (H a) (Z.z a) (Z'.z a)=_;cases q:H a with
   | none=>exact h
   | some o=>
    have e1:=hh a o q;rw[zh a _ h]at e1;cases e1;rfl
 . refine .inl (.inr ⟨o,?_⟩);show zb (H a) (Z.z a) (Z'.z a)=_;cases q:H a with
   | none=>exact h
   | some o'=>
    have e1:=hh a o' q;rw[zh a _ h]at e1;cases e1;rfl
 . exact .inr h
mutual
theorem IW (hh:eO H H') (zh:eO Z'.z H'):∀{p:PV} {v:V},iB p=true->Rep K Z' p v->Rep K (sH H Z Z') p v
 | .non,v,_,h=>by  exact h
 | .bl _,v,_,h=>by  exact h
 | .int _,v,_,h=>by  exact h
 | .str _,v,_,h=>by  exact h
 | .tup ps,v,f,h=>by obtain⟨a,vs,e,h1,h2⟩:=h;exact⟨a,vs,e,Qd hh zh h1,yQ hh zh f h2⟩
 | .lst _,v,f,_=>by  cases f
 | .dk _ _,v,f,_=>by  cases f
 | .dt _ _,v,f,_=>by  cases f
 | .obj _ _ _,v,f,_=>by  cases f
 | .df _ _,v,f,_=>by  cases f
 | .dtf _ _,v,f,_=>by  cases f
 | .dx _ _ _,v,f,_=>by  cases f
 | .exc _,v,f,_=>by  cases f
 | .fn _,v,f,_=>by  cases f
 | .ptr _,v,f,_=>by  cases f
theorem yQ (hh:eO H H') (zh:eO Z'.z H'):∀{ps:List PV} {vs:List V},jz ps=true->aZ K Z' ps vs->aZ K (sH H Z Z') ps vs
 | [],vs,_,h=>by  exact h
 | p::ps,vs,f,h=>by obtain⟨v,r,rfl,h1,h2⟩:=h.inv;unfold jz at f;rw[abX]at f;exact aZ.cons (IW hh zh f.1 h1) (yQ hh zh f.2 h2)
end
theorem SR.lookB (s:SR K H0 Z0 U H O pd):
 ∃Z,(U.length=O.vs.length/\O.mu.length=Z.g.length/\kj Z ⟨H,Z.g⟩/\Slots K H0 Z H (sl Z.g U O pd))/\(∀H' v r O1,SR K H ⟨H,Z.g⟩ U H' O1 [(v,r)]->wO r=true->SR K H0 Z0 U H' O ((v,r)::pd))/\∀H' O1,SR K H ⟨H,Z.g⟩ U H' O1 []->SR K H0 Z0 U H' O pd:=by
 obtain⟨el,Z,hg,z,so⟩:=s;have lz:kj Z ⟨H,Z.g⟩:=⟨z.zh,abv _⟩;have back:∀{H':Hp} {Z':ZG},nP H ⟨H,Z.g⟩ Z' H'->nP H0 Z0 (sH H Z Z') H'/\Slots K H0 (sH H Z Z') H' (sl Z.g U O pd):=λ{H' Z'} z'=>by
  have zz:kj Z (sH H Z Z'):=⟨λb o e=>by show zb (H b) (Z.z b) (Z'.z b)=_;have hb:=z.zh b o e;rw[hb];cases o<;>first | rfl | exact e,abv _⟩
  have cas:∀b o,(sH H Z Z').z b=some o->(∃u,H b=some u/\((Hd u/\o=u)\/Z.z b=some o))\/(H b=none/\Z'.z b=some o):=λb o e=>by
   have e:zb (H b) (Z.z b) (Z'.z b)=some o:=e;cases q:H b with
   | none=>rw[q]at e; exact .inr ⟨rfl,e⟩
   | some u=>
    rw[q]at e;refine .inl ⟨u,rfl,?_⟩;cases u with
    | tup vs=>cases e; exact .inl ⟨trivial,rfl⟩
    | frz o' u=>cases e; exact .inl ⟨trivial,rfl⟩
    | _=>exact .inr e
  refine⟨⟨λb o e=>?_,z.h0.trans z'.h0,z.z0.trans zz,λb o e=>?_⟩,?_⟩
  . rcases cas b o e with ⟨u,hu,⟨_,rfl⟩ | hz⟩ | ⟨_,hz⟩
    . exact z'.h0 b _ hu
    . exact z'.h0 b o (z.zh b o hz)
    . exact z'.zh b o hz
  . rcases cas b o e with ⟨u,hu,⟨hi,rfl⟩ | hz⟩ | ⟨hn,hz⟩
    . exact .inr (.inr hi)
    . exact z.new b o hz
    . exact .inr (.inl (z.h0.free hn))
  . refine so.step zz λe he a ha=>?_;obtain⟨h1,h2,o,h3,h4⟩:=jV so he ha;refine⟨by rw[h3]; exact z'.h0 a o h3,?_⟩;show zb (H a) (Z.z a) (Z'.z a)=_;rw[h3];cases o with
    | tup vs=>exact(h4 trivial).elim
    | frz o u=>exact(h4 trivial).elim
    | _=>exact h1
 refine⟨Z,⟨el,hg,lz,so⟩,λH' v r O1 s1 hf=>?_,λH' O1 s1=>?_⟩
 . obtain⟨_,Z',hg',z',s2⟩:=s1.top;obtain⟨zo,ss⟩:=back z';have q:=s2.1 _ aaz;refine .mk (Z:=sH H Z Z') el hg zo ?_;cases r with
   | sh p=>
    obtain⟨x,e1,e2⟩:=q;cases e1;exact ss.consS (IW z'.h0 z'.zh hf e2)
   | own p=>
    obtain⟨a,e1,e2,e3,e4⟩:=q;have e1':=aaM e1;subst e1';cases p with
    | lst ps=>
     obtain⟨vs,g1,g2⟩:=e2;refine⟨λe he=>?_,?_⟩
     . rcases aaI.mp he with rfl | he
       . refine⟨a,rfl,⟨vs,g1,yQ z'.h0 z'.zh hf g2⟩,?_,z.h0.free e4⟩;show zb (H a) (Z.z a) (Z'.z a)=_;rw[e4];exact e3
       . exact ss.1 e he
     . refine abu.mpr ⟨λhm=>?_,ss.2⟩;obtain⟨e,he,hb⟩:=abg.mp hm;obtain⟨_,_,o,h3,_⟩:=jV so he hb;rw[h3]at e4; cases e4
    | _=>cases hf
 . obtain⟨_,Z',hg',z',s2⟩:=s1;obtain⟨zo,ss⟩:=back z';exact⟨el,sH H Z Z',hg,zo,ss⟩
theorem SR.peeked {Z:ZG} (el:U.length=O.vs.length) (hg:O.mu.length=Z.g.length)
 (hs:∀v o,(v,o)∈U.zip O.vs->pk o=none\/∃x p,pk o=some (.sh p)/\v=some x/\Rep K ⟨H,Z.g⟩ p x):SR K H ⟨H,Z.g⟩ U H ⟨O.vs.map pk,O.mu.map λ_=>none⟩ []:=by
 have key:∀v l,(v,l)∈sl Z.g U ⟨O.vs.map pk,O.mu.map λ_=>none⟩ []->l=none\/∃x p,l=some (.sh p)/\v=some x/\Rep K ⟨H,Z.g⟩ p x:=λv l he=>by
  rcases abq.mp he with he | he
  . obtain⟨_,h2⟩:=abF he;obtain⟨o,ho,e2⟩:=aa0.mp h2;obtain⟨o',_,e3⟩:=aa0.mp ho;subst e3;exact .inl e2.symm
  . rw[abz,aa1]at he;rw[List.zip_map_right]at he;obtain⟨e,he2,e1⟩:=aa0.mp he;cases e1;exact hs _ _ he2
 refine⟨by simp[el],⟨H,Z.g⟩,by simp[hg],⟨eO.refl _,eO.refl _,kj.refl _,λb o e=>.inl e⟩,λe he=>?_,?_⟩
 . obtain⟨v,l⟩:=e;rcases key v l he with rfl | ⟨x,p,rfl,rfl,r⟩
   . trivial
   . exact⟨x,rfl,r⟩
 . have:(sl Z.g U ⟨O.vs.map pk,O.mu.map λ_=>none⟩ []).filterMap mU=[]:=by
    rw[List.filterMap_eq_nil_iff];intro e he;obtain⟨v,l⟩:=e;rcases key v l he with rfl | ⟨x,p,rfl,rfl,_⟩
    . cases v with
      | none=>rfl
      | some x=>cases x<;>rfl
    . cases x<;>rfl
   rw[this];exact aco
theorem SR.look (s:SR K H0 Z0 U H O pd):
 ∃Zt,SR K H Zt U H O.peek []/\(∀H' v r O1,SR K H Zt U H' O1 [(v,r)]->wO r=true->SR K H0 Z0 U H' O ((v,r)::pd))/\∀H' O1,SR K H Zt U H' O1 []->SR K H0 Z0 U H' O pd:=by
 obtain⟨Z,⟨el,hg,lz,so⟩,b1,b2⟩:=s.lookB;refine⟨_,SR.peeked el hg λv o he=>?_,b1,b2⟩;have q:=so.1 _ (aa8 _ (aby _ he))
 match o,q with
 | none,_=>exact .inl rfl
 | some (.sh p),⟨x,e1,e2⟩=>exact .inr ⟨x,p,rfl,e1,e2.mono lz⟩
 | some (.own p),⟨a,e1,e2,_⟩=>exact .inr ⟨.ref a,p,rfl,e1,e2.rep lz rfl⟩
def aak (mu:Mu):PV->PV
 | .ptr n=>match mu[n]? with
  | some (some p)=>p
  | _=>.ptr n
 | p=>p
def peekC (mu:Mu):Option Lc->Option Lc
 | some l=>some (.sh (aak mu l.pv))
 | none=>none
def Ev.peekC (O:Ev):Ev:=⟨O.vs.map (PL.peekC O.mu),O.mu.map λ_=>none⟩
theorem RK:∀U H Q,tP K (uJ f) U H Q->tP K f U H Q:=λU H Q q=>by
 obtain⟨H0,Z0,O,pd,r,O',s,h,k⟩:=q;obtain⟨x,h1,h2⟩:=acy h;obtain⟨Zt,s1,b1,_⟩:=s.look;split at h2
 . rename_i hf;cases h2;exact⟨H,Zt,O.peek,[],x.1,x.2,s1,h1,λv H' s2=>k v H' (b1 H' v x.1 x.2 s2 hf)⟩
 . cases h2
theorem Y7 (h:PE X e (tP X.K f)):PE X e (tP X.K (uJ f)):=PE.imp h RK
theorem Xv (h:PT X e (jg X.K f)):PT X e (jg X.K (zZ f)):=PT.imp h λU H Q q=>by obtain⟨H0,Z0,O,pd,r,O',s,h,k⟩:=q;obtain⟨x,h1,h2⟩:=acz h;cases h2;obtain⟨Zt,s1,_,b2⟩:=s.look;exact⟨H,Zt,O.peek,[],x.1,x.2,s1,h1,λH' s2=>k H' (b2 H' x.2 s2)⟩
end
def wQ (x:Str):It:=⟨λi _=>i<x.cps.size,λi H v H'=>H'=H/\∃c,x.cps[i]?=some c/\v=.str ⟨#[c]⟩,λi _=>i=x.cps.size⟩
theorem Ja (it:Addr) (x:Str) {St:Nat->Heap->Prop} (W:∀A':Around,A'.handled=none->Walks P w A' it [it] [it] x.cps.size (SignAt x) St)
 (hob:∀i h,St i h->∃o,h.get? it=some o/\∀v,o.data≠.cell v) (slf:∀(A:Around) (i:Nat) (s:Shared) (Q:Value->Shared->Prop) (E:Value->Shared->Prop),St i s.heap->Q (.ref it) s->wpAny (model P w) A (pyIter (.ref it)) Q E s):Turn P w K tg (wQ x) [it] it St where
 mem:=by simp
 obj:=λi h st b hb=>by
  have e:b=it:=by simpa using hb
  subst e;exact hob i h st
 keep:=λi h h' st k=>(W {} rfl).frame i h h' st k
 item:=by intro X hP hw hK hc i aeQ s U H E I hf st hg;obtain⟨f0,f1,f2,f3,f4,f5⟩:=hf it (by simp);refine(W X.A (I.ok.hd hc)).item i s _ E hg st λv h' tk hv st' hk=>?_;obtain⟨c,u,e1,rfl⟩:=hv;have I1:Inv X aeQ U H { s with heap:=h',toks:=tk }:=I.turned (λb o hb e=>hk b o (by simpa using hb) e) f0 f1 f3 f4 f5;refine⟨_,rfl,?_⟩;have fin:∃x_1 H',Inv X aeQ U H' { s with heap:=h',toks:=tk }/\RelV x_1 (.str ⟨#[c]⟩ u)/\(wQ x).yld i H x_1 H'/\St (i+1) h'/\∀b∈[it],H' b=none:=⟨.str ⟨#[c]⟩,H,I1,⟨u,rfl⟩,⟨rfl,c,e1,rfl⟩,st',λb hb=>(hf b hb).1⟩;cases tg<;>exact acs fin
 done:=by intro X hP hw hK hc i aeQ s U H E I hf st hg;obtain⟨f0,f1,f2,f3,f4,f5⟩:=hf it (by simp);subst hg;exact(W X.A (I.ok.hd hc)).done s _ E st λh' tk hk=>⟨rfl,I.turned (λb o hb e=>hk b o (by simpa using hb) e) f0 f1 f3 f4 f5⟩
 self:=λA i s Q E st h=>slf A i s Q E st h
section
variable {X:Cx}
def signs (x:Str):List PV:=x.cps.toList.map λc=>.str ⟨#[c]⟩
def aaR:PV->Option (List PV)
 | .str x=>some (signs x)
 | _=>none
theorem RL:qx K H0 Z0 pd (wQ x) (signs x):=by
 intro U H O i s;refine⟨λp hp=>?_,λhl=>?_⟩
 . unfold signs at hp;rw[aa2]at hp;obtain⟨c,hc,rfl⟩:=acz hp;have hi:=(aaD.mp hc).1;refine⟨(show i<x.cps.size by simpa using hi),λv H' y=>?_⟩;obtain⟨rfl,c',hc',rfl⟩:=y;have:c'=c:=by rw[Array.getElem?_toList]at hc;rw[hc]at hc';exact(aaM hc').symm
   subst this;exact s.scal mz
 . show i=x.cps.size;simpa [signs] using hl
theorem K3 {bs:List Bool} (rv:Vals ys its) (e:ys=bs.map V.bl):TruthOf P w A (λi v=>its.toArray[i]?=some v) (λi=>bs.getD i false):=by
 intro i v s Q E hv q;have hv':its[i]?=some v:=by simpa using hv
 have hi:=(aaD.mp hv').1;have hl:=rv.length;have hb:i<bs.length:=by rw[e,aaT]at hl; omega
 obtain⟨u,h1,h2⟩:=rv.get (by rw[e,aa2,aaK hb]; rfl);rw[hv']at h1; cases h1;cases h2;have:bs.getD i false=bs[i]:=by simp[hb]
 have q':Q (bs.getD i false) s:=q;rw[this]at q';exact wpAny_truthy_bool q'
theorem range_all {bs:List Bool}:((List.range bs.length).all λi=>bs.getD i false)=bs.all id:=by
 induction bs with
 | nil=>rfl
 | cons b r ih=>
  rw[aaC,List.range_succ_eq_map,List.all_cons,List.all_map,List.all_cons];have:((List.range r.length).all ((λi=>(b::r).getD i false) ∘ Nat.succ))=(List.range r.length).all λi=>r.getD i false:=rfl;rw[this,ih];rfl
theorem mX (hc:X.calm=true):nF X (.builtin "all") (λxs H Q=>∃(p:Addr) (bs:List Bool),xs=[.ref p]/\cM X.K H p (bs.map V.bl)/\Q (.bl (bs.all id)) H):=by
 intro aeQ s U H xs us Q I r h;obtain⟨p,bs,rfl,hq,q⟩:=h;obtain⟨u,rfl,ru⟩:=vals1 r;cases ru;obtain⟨its,rv,pl,_⟩:=I.list hq;have hlt:p<s.heap.objs.size:=by obtain⟨o,n,g1,_⟩:=pl; exact aaJ g1
 refine call_all_walk (wpAny_pyIter_list pl.isList ?_);have old:∀b o,s.heap.get? b=some o->(s.heap.push { cls:=.type "list_iterator",data:=.fields #[.ref p,.int 0 0] }).get? b=some o:=λb o e=>aaB _ e;have hl:its.toArray.size=bs.length:=by rw[aaF,<-rv.length,aaT]
 refine⟨s.heap.objs.size,_,_,_,_,_,λi=>bs.getD i false,rfl,Walks.list (show X.A.in1.handled=none from I.ok.hd hc) _ p (aa3 hlt) its.toArray,⟨⟨_,aaL _ rfl,rfl,rfl⟩,?_⟩,K3 rv rfl,λh' tk hk=>?_⟩
 . obtain⟨o,g1,g2⟩:=pl.isList;exact⟨o,old _ _ g1,g2⟩
 . rw[hl,range_all];refine⟨.bl _,H,I.kept λb o e=>hk b o ?_ (old b o e),rfl,q⟩;have:=aaJ e;simp;exact aa3 this
def boolsOf:List PV->Option (List Bool)
 | []=>some []
 | .bl b::r=>(boolsOf r).map (b::·)
 | _=>none
theorem Ge:∀{ps:List PV} {bs:List Bool} {vs:List V},boolsOf ps=some bs->aZ K Z ps vs->vs=bs.map V.bl
 | [],bs,vs,h,r=>by cases h; exact r.inv0
 | p::ps,bs,vs,h,r=>by
  cases p with
  | bl b=>
   obtain⟨cs,h1,rfl⟩:=acz h;obtain⟨v,w,rfl,r1,r2⟩:=r.inv;rw[d8 r1,Ge h1 r2];rfl
  | _=>cases h
def aal:PV->Option Lc
 | .lst ps=>(boolsOf ps).map λbs=>.sh (.bl (bs.all id))
 | _=>none
abbrev all1:List PV->Option Lc:=λps=>match ps with | [p]=>aal p | _=>none
theorem Ci:iY K (λxs H Q=>∃(p:Addr) (bs:List Bool),xs=[.ref p]/\cM K H p (bs.map V.bl)/\Q (.bl (bs.all id)) H) all1:=iY.one λH0 Z0 U O pd H v p l Q s e k=>by
 obtain⟨_,r⟩:=s.repH;cases p with
 | lst ps=>
  obtain⟨bs,h1,rfl⟩:=acz (e);obtain⟨a,vs,rfl,h2,h3⟩:=r;have:=Ge h1 h3;subst this;exact⟨a,bs,rfl,h2,k _ H (s.pop.scal fK)⟩
 | _=>cases e
def T7:PV->Option String
 | .non=>some "NoneType"
 | .bl _=>some "bool"
 | .int _=>some "int"
 | .str _=>some "str"
 | .tup _=>some "tuple"
 | .lst _=>some "list"
 | _=>none
def yR (p:PV) (C:String):Option Bool:=(T7 p).bind λT=>if (Value.type T==Value.type C)=true then some true else if W.kitMeta C=true then (fastBuiltinMro T).map λx=>x.contains (.type C) else none
theorem oM (h1:T7 p=some T) (h:yR p C=some b):W.kitOne K (.type T) (.type C)=some b:=by unfold yR at h;rw[h1,aay]at h;exact h
theorem mD:nF X (.builtin "isinstance") (λxs H Q=>∃x C g p b,xs=[x,.ty C]/\Rep X.K ⟨H,g⟩ p x/\yR p C=some b/\Q (.bl b) H):=by
 intro aeQ s U H xs us Q I r h;obtain⟨x,C,g,p,b,rfl,rp,e,q⟩:=h;obtain⟨u,w',rfl,ru,rw'⟩:=vals2 r;cases rw';have fin:∀tk,EP X aeQ U Q (.bool b) { s with toks:=tk }:=λtk=>⟨.bl b,H,I.tok tk,rfl,q⟩;cases p with
 | non=>have:=iw rp; subst this; cases ru; exact acf W.kitx_none I.kIn trivial (oM rfl e) (by intro z; cases z) fin
 | bl c=>have:=d8 rp; subst this; cases ru; exact acf W.kitx_bool I.kIn trivial (oM rfl e) (by intro z; cases z) fin
 | int i=>have:=cG rp; subst this; obtain⟨t,rfl⟩:=ru; exact acf W.kitx_int I.kIn trivial (oM rfl e) (by intro z; cases z) fin
 | str i=>have:=cU rp; subst this; obtain⟨t,rfl⟩:=ru; exact acf W.kitx_str I.kIn trivial (oM rfl e) (by intro z; cases z) fin
 | tup ps=>
  obtain⟨a,vs,its,rfl,_,_,_,o,t1,t2,_⟩:=tO I rp ru;exact acf W.kitx_tuple I.kIn ⟨o,t1,t2⟩ (oM rfl e) (by intro z; cases z) fin
 | lst ps=>
  obtain⟨a,vs,its,rfl,_,_,_,o,t1,t2,_⟩:=tQ I rp ru;exact acf W.kitx_list I.kIn ⟨o,t1,t2⟩ (oM rfl e) (by intro z; cases z) fin
 | _=>cases e
def vL (C:String) (f:EF):EF:=λO=>(f O).bind λx=>(yR x.1.pv C).map λb=>(.sh (.bl b),x.2)
theorem Lx (h:PE X (.Call (.Name "isinstance" pp) [e,c] [] pos) (Fv (λxs H Q=>∃x C g p b,xs=[x,.ty C]/\Rep X.K ⟨H,g⟩ p x/\yR p C=some b/\Q (.bl b) H) (zQ (tP X.K f) (zQ (tC (.ty C)) HD)))):
 PE X (.Call (.Name "isinstance" pp) [e,c] [] pos) (tP X.K (vL C f)):=PE.imp h λU H Q q=>by
 obtain⟨H0,Z0,O,pd,r,O',s,h,k⟩:=q;obtain⟨x,h1,h2⟩:=acy h;obtain⟨b,h3,h4⟩:=acz h2;cases h4;refine⟨H0,Z0,O,pd,x.1,x.2,s,h1,λv H1 s1=>?_⟩;obtain⟨g,r1⟩:=s1.freeze.repH;exact⟨v,C,g,_,b,rfl,r1,h3,k _ H1 (s1.pop.scal fK)⟩
def strsOf:List PV->Option (List Str)
 | []=>some []
 | .str x::r=>(strsOf r).map (x::·)
 | _=>none
theorem Jb:∀{ps:List PV} {xs:List Str} {vs:List V},strsOf ps=some xs->aZ K Z ps vs->vs=xs.map V.str
 | [],xs,vs,h,r=>by cases h; exact r.inv0
 | p::ps,xs,vs,h,r=>by
  cases p with
  | str b=>
   obtain⟨cs,h1,rfl⟩:=acz h;obtain⟨v,w,rfl,r1,r2⟩:=r.inv;rw[cU r1,Jb h1 r2];rfl
  | _=>cases h
theorem Cj:∀{xs:List Str} {its:List Value},Vals (xs.map V.str) its->StrsAre its xs
 | [],_,.nil=>.nil
 | x::xs,_,.cons r t=>by obtain⟨tk,rfl⟩:=r;exact .cons _ _ (Cj t)
theorem vM:TQ X "str.join" (λx xs H Q=>∃(z:Str) (p:Addr) (ys:List Str),x=.str z/\xs=[.ref p]/\cM X.K H p (ys.map V.str)/\(ys.map (·.length)).sum+ys.length*z.length<=16777216/\Q (.str (Txt.join z ys)) H):=by intro aeQ s U H x vs v us Q I rx rv h;obtain⟨z,p,ys,rfl,rfl,hq,hz,q⟩:=h;obtain⟨t,rfl⟩:=rx;obtain⟨u,rfl,ru⟩:=rv.one;cases ru;obtain⟨its,rvs,pl,_⟩:=I.list hq;exact join_list pl.isList (by simpa using Cj rvs) hz λt' k=>⟨.str _,H,I.tok k,⟨t',rfl⟩,q⟩
def mQ (f:EF) (a:AF):EF:=λO=>(f O).bind λx=>(a x.2).bind λy=>match x.1.pv,y.1.map Lc.pv with
 | .str z,[.lst ps]=>(strsOf ps).bind λxs=>if (xs.map (·.length)).sum+xs.length*z.length<=100000 then some (.sh (.str (Txt.join z xs)),y.2) else none
 | _,_=>none
theorem Ck (h:PE X (.Call (.Attribute o "join" apos) [e] [] cpos) (Lg X.K "str" (λx xs H Q=>∃(z:Str) (p:Addr) (ys:List Str),x=.str z/\xs=[.ref p]/\cM X.K H p (ys.map V.str)/\(ys.map (·.length)).sum+ys.length*z.length<=16777216/\Q (.str (Txt.join z ys)) H) (tP X.K f) (lr X.K a))):
 PE X (.Call (.Attribute o "join" apos) [e] [] cpos) (tP X.K (mQ f a)):=PE.imp h λU H Q q=>by
 obtain⟨H0,Z0,O,pd,r,O',s,h,k⟩:=q;obtain⟨x,h1,h2⟩:=acy h;obtain⟨y,h3,h4⟩:=acy h2;refine⟨H0,Z0,O,pd,x.1,x.2,s,h1,λv H1 s1=>?_⟩;split at h4
 . rename_i z ps ez ep;obtain⟨xs,h5,h6⟩:=acy h4;split at h6
   . cases h6;obtain⟨_,rz⟩:=s1.freeze.repH;rw[ez]at rz;have:=cU rz;subst this;refine⟨rfl,H0,Z0,x.2,pd,y.1,y.2,s1.pop,h3,λvs H2 e2 s2=>?_⟩;obtain⟨el,Z,hg,zz,rl,ss⟩:=s2.repl e2;rw[ep]at rl;obtain⟨w,rr,rfl,r1,r2⟩:=rl.inv;have:=r2.inv0;subst this;obtain⟨b,ws,rfl,g1,g2⟩:=r1;have:=Jb h5 g2;subst this;exact⟨z,b,xs,rfl,rfl,cM.same zz.zh g1,by omega,k _ H2 (.mk el hg zz (ss.consS (mz _)))⟩
   . cases h6
 . cases h4
def N6:PV->Option Lc
 | .int i=>if i.natAbs.log2<1920 then some (.sh (.str (toString i))) else none
 | _=>none
abbrev str1:List PV->Option Lc:=λps=>match ps with | [p]=>N6 p | _=>none
theorem Jc:iY K (λxs H Q=>∃i,xs=[.int i]/\i.natAbs.log2<1920/\Q (.str (toString i)) H) str1:=iY.one λH0 Z0 U O pd H v p l Q s e k=>by
 obtain⟨_,r⟩:=s.repH;cases p with
 | int i=>
  have e':(if i.natAbs.log2<1920 then some (Lc.sh (.str (toString i))) else none)=some l:=e;split at e'
  . rename_i hl;cases e';have:=cG r;subst this;exact⟨i,rfl,hl,k _ H (s.pop.scal mz)⟩
  . cases e'
 | _=>cases e
end
section
variable {prog:Program} {w:World} {A:Around} {E:Value->Shared->Prop} {s:Shared}
theorem Gf (hne:t≠it):∀(n i:Nat) (s:Shared) (Q:List Value->Shared->Prop),s.heap.IsListIter it t i->s.heap.IsList t items->i+n<=items.size->
 (∀h',h'.IsListIter it t (i+n)->Heap.SameBut it s.heap h'->Q ((items.toList.drop i).take n) { s with heap:=h' })->wpAny (model prog w) A (draw (.ref it) n) Q E s
 | 0,i,s,Q,hit,_,_,hQ=>by exact acs (by simpa using hQ s.heap hit (Heap.SameBut.refl ..))
 | n+1,i,s,Q,hit,ht,hle,hQ=>by
  have hlt:i<items.size:=by omega
  refine acp (wpAny_pyNext_list_item hit ht (x:=items[i]) (by simp[hlt]) λh₁ hit₁ hs₁=>?_);refine acp (wpAny_holding (Gf hne n (i+1) _ _ hit₁ (ht.extBut hs₁.extBut hne) (by omega) λh₂ hit₂ hs₂=>acs ?_));have hd:items.toList.drop i=items[i]::items.toList.drop (i+1):=by simp[abN,hlt]
  have:=hQ h₂ (by rw[show i+(n+1)=i+1+n by omega]; exact hit₂) (hs₁.trans hs₂);rw[hd,List.take_succ_cons]at this;exact this
theorem Bg (hh:A.handled=none) (ht:s.heap.IsList t items)
 (hQ:∀h',Heap.ExtBut s.heap.objs.size s.heap h'->Q items.toList { s with heap:=h' }):wpAny (model prog w) A (unpackItems (.ref t) items.size none) Q E s:=by
 have hlt:t≠s.heap.objs.size:=by obtain⟨o,ho,_⟩:=ht; exact aa3 (aaJ ho)
 refine acp ?_
 . refine acp (wpAny_specialOf ht.typeIs slot_list_iter.lookup ?_);refine acs ?_;refine acp (wpAny_holding (wpAny_pyIter_list ht ?_));refine acp (wpAny_holding (Gf hlt items.size 0 _ _ ⟨_,aaL _ rfl,rfl,rfl⟩ (by obtain⟨o,g1,g2⟩:=ht; exact⟨o,aaB _ g1,g2⟩) (by omega) λh₁ hit₁ hs₁=>?_));have hall:List.take items.size (List.drop 0 items.toList)=items.toList:=by rw[List.drop_zero]; exact ab2 (by simp)
   rw[hall];rw[acr (by simp)];have ht₁:=Heap.IsList.extBut (by obtain⟨o,g1,g2⟩:=ht; exact⟨o,aaB _ g1,g2⟩) hs₁.extBut hlt;refine acp (wpAny_holding (wpAny_pyNext_list_end hh hit₁ ht₁ (by simp) λh₂ he₂=>?_));refine acs (hQ h₂ λb o hb e=>he₂ b o hb (hs₁.extBut b o hb (aaB _ e)))
end
section
variable {X:Cx} {pos:Pos}
def Xw (K:FG) (n:Nat) (t:xP):TG:=λv U H Q=>∃a xs,v=.ref a/\(eU K H a xs\/cM K H a xs)/\xs.length=n/\t xs U H Q
theorem lW (hc:X.calm=true) (h:O1_ X es t)
 (hn:(assignEach es X.env).length=n:=by rfl) (hst:(assignEach es X.env).findIdx? (·.1)=none:=by rfl):PG X (.Tuple es k pos) (Xw X.K n t):=by
 intro aeQ s U H v u Q I r hw;obtain⟨a,xs,e1,hq,hl,hw⟩:=hw;rcases hq with hq | hq
 . exact Wx hc h hn hst aeQ s U H v u Q I r ⟨a,xs,e1,hq,hl,hw⟩
 . subst e1;cases r;obtain⟨its,rv,ht,hz⟩:=I.list hq;refine acp (wpAny_standAt ?_);unfold unpack;have hsz:(assignEach es X.env).length=its.toArray.size:=by simp[hn,<-hl,rv.length]
   rw[hsz,hst];refine acp (wpAny_holding (Bg (I.ok.hd hc) ht.isList λh' hx=>?_));have I1:=I.kept (t':=s.toks) λb o e=>hx b o (aa3 (aaJ e)) e;exact h aeQ _ U H xs _ Q I1 (by simpa using rv) hw
def eX (n:Nat) (bs:Im):BF:=λp O=>match p with
 | .tup ps=>if ps.length=n then bs ps O else none
 | .lst ps=>if ps.length=n then bs ps O else none
 | _=>none
theorem lX (h1:T4 K t bs):GS K (Xw K n t) (eX n bs):=by
 intro H0 Z0 U H O pd v p O' Q s h k;cases p with
 | tup ps=>
  have h':(if ps.length=n then bs ps O else none)=some O':=h;split at h'
  . rename_i hn;obtain⟨e,Z,hg,z,r,sl'⟩:=s.sh;obtain⟨a,vs,rfl,h2,h3⟩:=r;exact⟨a,vs,rfl,.inl (eU.same z.zh h2),by rw[h3.length]; exact hn,h1 H0 Z0 U H O pd vs ps O' Q h3.length (SR.items e hg z h3 sl') h' k⟩
  . cases h'
 | lst ps=>
  have h':(if ps.length=n then bs ps O else none)=some O':=h;split at h'
  . rename_i hn;obtain⟨e,Z,hg,z,r,sl'⟩:=s.sh;obtain⟨a,vs,rfl,h2,h3⟩:=r;exact⟨a,vs,rfl,.inr (cM.same z.zh h2),by rw[h3.length]; exact hn,h1 H0 Z0 U H O pd vs ps O' Q h3.length (SR.items e hg z h3 sl') h' k⟩
  . cases h'
 | _=>cases h
def aam (K:FG) (tl:TE):TI:=λU H R=>tl U H λx H1=>(∃a,x=.ref a/\(∃xs,cM K H1 a xs)/\R (Lb K a) H1)\/(∃a,x=.ref a/\(∃xs,eU K H1 a xs)/\R (Tj K a) H1)\/∃z,x=.str z/\R (wQ z) H1
theorem Xx (hl:PE X l tl):PI X tg l (aam X.K tl):=by
 intro aeQ s U H R I h;have at':∀(v:Value) (s1:Shared) (x:V) (H1:Hp),Inv X aeQ U H1 s1->RelV x v->((∃a,x=.ref a/\(∃xs,cM X.K H1 a xs)/\R (Lb X.K a) H1)\/(∃a,x=.ref a/\(∃xs,eU X.K H1 a xs)/\R (Tj X.K a) H1)\/∃z,x=.str z/\R (wQ z) H1)->
  wpAny (model X.prog X.w) X.A (pyIter v) (PIE X aeQ U tg R) X.xe s1:=λv s1 x H1 I1 r1 q=>by
  have fp:∀b,b∈[s1.heap.objs.size]->qp X aeQ H1 b:=λb hb=>by
   have e:b=s1.heap.objs.size:=by simpa using hb
   subst e;exact I1.fpOk (aaE _) (I1.hok.fresh (aaE _))
  rcases q with ⟨a,rfl,⟨xs,hq⟩,q⟩ | ⟨a,rfl,⟨xs,hq⟩,q⟩ | ⟨z,rfl,q⟩
  . cases r1;obtain⟨its,rv,p,hz⟩:=I1.list hq;exact wpAny_pyIter_list p.isList ⟨s1.heap.objs.size,[s1.heap.objs.size],_,_,H1,rfl,I1.kept λb o e=>aaB _ e,Fg a _,⟨_,aaL _ rfl,rfl,rfl⟩,fp,q⟩
  . cases r1;obtain⟨its,rv,p,hz⟩:=I1.tuple hq;exact wpAny_pyIter_tuple p ⟨s1.heap.objs.size,[s1.heap.objs.size],_,_,H1,rfl,I1.kept λb o e=>aaB _ e,Nh a _,⟨_,aaL _ rfl,rfl,rfl⟩,fp,q⟩
  . obtain⟨t,rfl⟩:=r1;have kp:∀(o:Obj),Inv X aeQ U H1 { s1 with heap:=s1.heap.push o }:=λo=>I1.kept λb u e=>aaB _ e;have ob:∀{n:String} (i:Nat) (h:Heap),h.IsStrIter s1.heap.objs.size n z t i->∃o,h.get? s1.heap.objs.size=some o/\∀v,o.data≠.cell v:=λi h st=>by obtain⟨o,ho,_,hd⟩:=st;exact⟨o,ho,λv e=>by rw[hd]at e; cases e⟩
    cases ha:z.cps.all (·<128)
    . exact wpAny_pyIter_wide ha ⟨s1.heap.objs.size,[s1.heap.objs.size],_,wQ z,H1,rfl,kp _,Ja _ z (λA' hA=>Walks.strWide hA _ z t) ob (λA i s Q E st h=>wpAny_pyIter_striter_wide st h),⟨_,aaL _ rfl,rfl,rfl⟩,fp,q⟩
    . exact wpAny_pyIter_ascii ha ⟨s1.heap.objs.size,[s1.heap.objs.size],_,wQ z,H1,rfl,kp _,Ja _ z (λA' hA=>Walks.strAscii hA _ z t) ob (λA i s Q E st h=>wpAny_pyIter_striter_ascii st h),⟨_,aaL _ rfl,rfl,rfl⟩,fp,q⟩
 exact cL (hl aeQ s U H _ I h) λv s1 ⟨x,H1,I1,r1,q⟩=>at' v s1 x H1 I1 r1 q
def cX:PV->Option (List PV)
 | .lst ps=>some ps
 | .tup ps=>some ps
 | .str x=>some (signs x)
 | _=>none
theorem gk (hl:PE X l (tP X.K f)):PI X tg l (FQ X.K (gj f cX)):=PI.imp (Xx hl) λU H R q=>by
 obtain⟨H0,Z0,O,pd,xs,O',s,h,k⟩:=q;obtain⟨x,h1,h2⟩:=acy h;obtain⟨ys,h3,h4⟩:=acz h2;cases h4;refine⟨H0,Z0,O,pd,x.1,x.2,s,h1,λv H1 s1=>?_⟩;have s2:=s1.freeze;cases e:x.1.pv with
 | lst ps=>
  rw[e]at h3 s2;cases h3;obtain⟨Z,z,r⟩:=s2.rep;obtain⟨b,vs,rfl,h1',h2'⟩:=r;exact .inl ⟨b,rfl,⟨vs,cM.same z h1'⟩,k _ _ _ s2 FT (aaU _ _)⟩
 | tup ps=>
  rw[e]at h3 s2;cases h3;obtain⟨Z,z,r⟩:=s2.rep;obtain⟨b,vs,rfl,h1',h2'⟩:=r;exact .inr (.inl ⟨b,rfl,⟨vs,eU.same z h1'⟩,k _ _ _ s2 RC (aaU _ _)⟩)
 | str z=>
  rw[e]at h3 s2;cases h3;obtain⟨_,r⟩:=s2.repH;exact .inr (.inr ⟨z,cU r,k _ _ _ s2.pop RL (abU _)⟩)
 | _=>rw[e]at h3; cases h3
def pF (g g':PV->PV->Option Lc) (fa fb fc:EF):EF:=λO=>(fa O).bind λx=>(fb x.2).bind λy=>(g x.1.pv y.1.pv).bind λz=>match z.pv with
 | .bl true=>(fc y.2).bind λw=>(g' y.1.pv w.1.pv).map λl=>(l,w.2)
 | .bl false=>some (.sh (.bl false),y.2)
 | _=>none
theorem Gg (hs:jt X.K r g) (hs':jt X.K r' g'):∀U H Q,tP X.K (pF g g' fa fb fc) U H Q->Hz r r' (tP X.K fa) (tP X.K fb) (tP X.K fc) U H Q:=λU H Q q=>by
 obtain⟨H0,Z0,O,pd,l,O',s,f,k⟩:=q;obtain⟨x,h1,h2⟩:=acy f;obtain⟨y,h3,h4⟩:=acy h2;obtain⟨z,h5,h6⟩:=acy h4;refine⟨H0,Z0,O,pd,x.1,x.2,s,h1,λv H1 s1=>⟨H0,Z0,x.2,_,y.1,y.2,s1,h3,λw H2 s2=>?_⟩⟩;have s3:=s2.freeze.swap.freeze.swap;have s4:=s3.dup.perm ((List.Perm.swap _ _ _).cons _);refine hs H0 Z0 U y.2 _ H2 v w x.1.pv y.1.pv z _ s4 h5 λu H3 s5=>?_;obtain⟨_,ru⟩:=s5.freeze.repH;split at h6
 . rename_i e;rw[e]at ru;refine⟨true,d8 ru,?_⟩;obtain⟨t,h7,h8⟩:=acy h6;obtain⟨l',h9,h10⟩:=acz h8;cases h10;refine⟨H0,Z0,y.2,_,t.1,t.2,s5.pop,h7,λb H4 s6=>?_⟩;exact hs' H0 Z0 U t.2 pd H4 w b y.1.pv t.1.pv _ Q s6.freeze h9 k
 . rename_i e;rw[e]at ru;refine⟨false,d8 ru,?_⟩;cases h6;exact k _ H3 (s5.pop.pop.scal fK)
 . cases h6
theorem Xy (ho:gh X (compareOp op) r) (ho':gh X (compareOp op') r') (hs:jt X.K r g) (hs':jt X.K r' g') (ha:PE X a (tP X.K fa)) (hb:PE X b (tP X.K fb)) (hc:PE X c (tP X.K fc))
 (hm:lastMarks [op,op'] [b,c]=false:=by with_unfolding_all rfl):PE X (.Compare a [op,op'] [b,c] pos) (tP X.K (pF g g' fa fb fc)):=PE.imp (Q9 ho ho' ha hb hc hm) (Gg hs hs')
theorem Vn (ho:gh X (compareOp op) r) (ho':gh X (compareOp op') r') (hs:jt X.K r g) (hs':jt X.K r' g') (ha:PE X a (tP X.K fa)) (hb:PE X b (tP X.K fb)) (hc:PE X c (tP X.K fc))
 (hm:lastMarks [op,op'] [b,c]=false:=by with_unfolding_all rfl):PT X (.Compare a [op,op'] [b,c] pos) (jg X.K (tT (pF g g' fa fb fc) aW)):=T3 (PT.imp (Ra ho ho' ha hb hc hm) λU H Q q=>Gg hs hs' U H _ q)
end
section
variable {P:Program} {w:World} {K:FG} {mg:Str->Option Value} {base:Heap}
def Ly (mg:Str->Option Value) (L:List Str):Prop:=∀x∈L,mg x=none
theorem mF {st:Stmt} (F:bV K mg x st ps):bG P w K mg base x k ps (bU K ps.length λ_ _=>none):=by
 obtain⟨f,fd,F,hm,hb⟩:=F;have no:∀vs H Q E,¬ bU K ps.length (λ_ _=>none) vs H Q E:=λvs H Q E h=>by obtain⟨_,_,_,_,_,_,_,_,_,_,h,_⟩:=h;cases h
 exact⟨f,fd,⟨λvs H Q E h=>absurd h (no vs H Q E),λA outer s H args us vs Q E _ _ _ _ h=>absurd h (no vs H Q E)⟩,hm,F.kp,hb⟩
def Hk (K:FG):Sp:=λvs H Q _=>∃(a:Addr) (ns:List Int),vs=[.ref a]/\cM K H a (ns.map V.int)/\ns.length<=63/\∀H',Q (.bl true) H'
theorem Xz (F:oH P w K mg base qe k f fd ["_law_script"] (bU K 1 g)) (h:∀ns:List Int,ns.length<=63->∃mu',g [.lst (ns.map PV.int)] []=some (.sh (.bl true),mu')):oH P w K mg base qe k f fd ["_law_script"] (Hk K):=
 F.imp λvs H Q E q=>by
  obtain⟨a,ns,rfl,hs,hl,k⟩:=q;obtain⟨mu',e⟩:=h ns hl;refine⟨⟨H,[]⟩,[.lst (ns.map PV.int)],[],_,mu',rfl,rfl,eO.refl _,aZ.cons ?_ .nil,⟨λe he=>(by cases he),aco⟩,e,λv H' r=>?_⟩
  . refine⟨a,ns.map V.int,rfl,hs,?_⟩;clear hs e hl;induction ns with
    | nil=>exact .nil
    | cons n r ih=>exact aZ.cons (f9 _) ih
  . obtain⟨Z',_,_,s⟩:=r;obtain⟨x,e1,e2⟩:=s.1 _ aaz;cases e1;rw[d8 e2];exact k H'
end
theorem aK:∀O ls O1,ao O=some (ls,O1)->ls.length=0:=λO ls O1 h=>by cases h; rfl
theorem au (h:∀O ls O1,g O=some (ls,O1)->ls.length=n):∀O ls O1,aa f g O=some (ls,O1)->ls.length=n+1:=λO ls O1 e=>by obtain⟨x,h1,h2⟩:=acy e;obtain⟨y,h3,h4⟩:=acz h2;cases h4;rw[aaC,h _ _ _ h3]
theorem Y8 (S:Scope) (hS:X.env.scope=S) (kind:sc.kind=.function) (locs:∀y∈sc.names,y.2=.local->sc.names.lookup y.1=some .local) (cel:∀y∈sc.names,y.2=.cell->sc.names.lookup y.1=some .cell)
 (own:∀p∈sc.names,p.2=.free->S.names.lookup p.1=some .cell\/S.names.lookup p.1=some .free) (frs:∀x∈F,sc.names.lookup x=some .free) (ix:ixs.map (λi=>X.N[i]?)=F.map some):jU X M F ixs sc:=by
 refine⟨kind,locs,cel,λp hp e=>by rw[hS]; exact own p hp e,frs,?_,λj i h=>?_⟩
 . have:=congrArg List.length ix;simpa using this
 . have h2:(ixs.map (λi=>X.N[i]?))[j]?=some X.N[i]?:=by rw[aa2,h]; rfl
   rw[ix,aa2]at h2;cases q:F[j]? with
   | none=>rw[q]at h2; cases h2
   | some x=>rw[q]at h2; exact(aaM h2).symm
section
variable {P:Program} {w:World} {K:FG} {mg:Str->Option Value} {base:Heap}
theorem uF.okP {st:Stmt} (F:uF K x x st f fd) (S:bF N ps (aN st))
 (h:∀(cdv:Value) (A:Around) (outer:List PySem.Env) (s:Shared) (H:Hp) (E:XK),lL k (A.deeper (envOfC x (aN st) s.heap.objs.size f cdv))->
   ∃g':SF,(∀a mu,g a mu=cN N.length g' a mu)/\ju (Rm qe P w K mg base N x (aN st) f cdv A outer s H E).nox (jN st) (gw K g')):oH P w K mg base qe (k+1) f fd ps (bU K ps.length g):=by
 refine F.ok S (λvs H Q E q=>?_) (λcdv A outer s H vs Q E hr q=>?_)
 . obtain⟨Z,qs,mu,r,mu',e,_⟩:=q; exact e
 . obtain⟨g',eg,b⟩:=h cdv A outer s H E hr;obtain⟨Z,qs,mu,r,mu',e,hg,z,rl,c,hr',kk⟩:=q;rw[eg]at hr';obtain⟨fl,h1,h2⟩:=acy hr';refine⟨_,b,mV H (tK Z.g mu),Z,_,[],fl,Bb hg z rl c,h1,?_⟩;cases fl with
   | rt r' O'=>
    cases h2;intro v U' H' s';obtain⟨el,Z',hg',z',s''⟩:=s'.top;refine kk v H' ⟨Z',hg',z',s''.sub ?_⟩;exact(abj _ _).cons_cons _
   | nx O'=>
    cases h2;intro U' H' s';obtain⟨el,Z',hg',z',s''⟩:=s';exact kk .non H' ⟨Z',hg',z',(s''.sub (abj _ _)).consS (zV _)⟩
   | bk O'=>cases h2
   | ct O'=>cases h2
end
section
variable {X:Cx}
def aan:PV->Option PV
 | .int i=>some (.int (-i))
 | _=>none
def qD (f:EF):EF:=λO=>(f O).bind λx=>(aan x.1.pv).map λp=>(.sh p,x.2)
theorem DR (ha:PE X a (tP X.K f)):PE X (.UnaryOp .USub a pos) (tP X.K (qD f)):=PE.imp (YX WP ha) λU H Q q=>by
 obtain⟨H0,Z0,O,pd,r,O',s,h,k⟩:=q;obtain⟨x,h1,h2⟩:=acy h;obtain⟨p,h3,h4⟩:=acz h2;cases h4;refine⟨H0,Z0,O,pd,x.1,x.2,s,h1,λv H1 s1=>?_⟩;obtain⟨_,r1⟩:=s1.freeze.repH;cases e:x.1.pv with
 | int i=>
  rw[e]at h3 r1;cases h3;exact⟨i,cG r1,k _ H1 (s1.pop.scal f9)⟩
 | _=>rw[e]at h3; cases h3
end
theorem Bh (J:Ev->Prop) (hJ:∀O,J O->O.mu=mu) (c:PV->Bool) (f:PV->PV):∀{xs:List PV} {O:Ev} {acc:List PV},J O->acc.length+xs.length<=100000->
 (∀x∈xs,∀O,J O->∃O1,b x O=some O1/\∃O2,tc O1=some (c x,O2)/\J O2/\(c x=true->∃l O3,te O2=some (l,O3)/\l.pv=f x/\J O3))->fY b tc te xs O acc=some (acc++(xs.filter c).map f,mu)
 | [],O,acc,h,_,_=>by show some (acc,O.mu)=_;rw[hJ O h];simp
 | x::xs,O,acc,h,hl,hs=>by
  obtain⟨O1,e1,O2,e2,h2,h3⟩:=hs x aaz O h;have hs':=λy hy=>hs y (aaA _ hy);rw[aaC]at hl;show (b x O).bind _=_;rw[e1,aay,e2,aay];cases hc:c x with
  | false=>
   simp only[acg,if_false];rw[Bh J hJ c f h2 (by omega) hs',List.filter_cons_of_neg (by simp[hc])]
  | true=>
   obtain⟨l,O3,e3,ef,h4⟩:=h3 hc;simp only[if_true];rw[e3,aay,acq (by omega),Bh J hJ c f h4 (by rw[aaH,List.length_singleton]; omega) hs',List.filter_cons_of_pos (by simp[hc]),ef];simp
theorem lJ (J:Ev->Prop) (hJ:∀O,J O->O.mu=mu) (f:PV->PV) (h:J O) (hl:xs.length<=100000)
 (hs:∀x∈xs,∀O,J O->∃O1,b x O=some O1/\∃l O3,te O1=some (l,O3)/\l.pv=f x/\J O3) (hb:∀x∈xs,∀O O1,J O->b x O=some O1->J O1):fY b bY te xs O []=some (xs.map f,mu):=by
 rw[Bh J hJ (λ_=>true) f h (by simpa using hl) λx hx O hO=>?_]
 . rw[abH,List.filter_eq_self.mpr (λ_ _=>rfl)]
 . obtain⟨O1,e1,l,O3,e3⟩:=hs x hx O hO;exact⟨O1,e1,O1,rfl,hb x hx O O1 hO e1,λ_=>⟨l,O3,e3⟩⟩
theorem mY (a b:Int):aY (.int a) (.int b)=some (.sh (.int (a+b))):=rfl
theorem jd (h:0<b):gR (.int a) (.int b)=some (.sh (.int (a%b))):=by show (if decide (0<b)=true then _ else _)=_;rw[acq (acv h)]
theorem Gh (h:0<b) (h2:b<1073741824):Ce (.int a) (.int b)=some (.sh (.int (a/b))):=by show (if decide (0<b/\b<1073741824)=true then _ else _)=_;rw[acq (acv ⟨h,h2⟩)]
theorem Jd (h:-18446744073709551616<a) (h2:a<18446744073709551616):jJ (.int a) (.int b)=some (.sh (.int (a*b))):=by show (if decide ((-(2 ^ 64)<a/\a<2 ^ 64)\/(-(2 ^ 64)<b/\b<2 ^ 64))=true then _ else _)=_;rw[acq (acv (.inl ⟨by omega,by omega⟩))]
theorem Qe (h:-18446744073709551616<b) (h2:b<18446744073709551616):jJ (.int a) (.int b)=some (.sh (.int (a*b))):=by show (if decide ((-(2 ^ 64)<a/\a<2 ^ 64)\/(-(2 ^ 64)<b/\b<2 ^ 64))=true then _ else _)=_;rw[acq (acv (.inr ⟨by omega,by omega⟩))]
theorem bC (h1:fa O=some (x,O1)) (h2:fb O1=some (y,O2)) (h3:g x.pv y.pv=some l):aC g fa fb O=some (l,O2):=by unfold aC;rw[h1,aay,h2,aay,h3];rfl
theorem tU (h0:0<=i) (h1:i<l.length):∃x,eQ l i=some x/\l[i.toNat]?=some x:=by
 have hi:i.toNat<l.length:=by omega
 refine⟨l[i.toNat],?_,aaK hi⟩;unfold eQ xR;rw[acq h0,acq h1,aay,aaK hi]
theorem lA {lo:Int}:(iJ lo n).length=n:=by simp[iJ]
theorem vN {lo:Int} (h:p∈iJ lo n):∃i:Nat,i<n/\p=.int (lo+i):=by obtain⟨i,hi,rfl⟩:=aa0.mp h;exact⟨i,List.mem_range.mp hi,rfl⟩
theorem Lz (h:f O=some (.nx O')):aF f g O=g O':=by unfold aF; rw[h,aay]
theorem cW (h:f O=some (.rt r O')):aF f g O=some (.rt r O'):=by unfold aF; rw[h,aay]
theorem Vo (h:f O=some (l,O1)) (hi:i<O1.vs.length):aM i f O=some (.nx (O1.set i (some l))):=by unfold aM; rw[h,aay,acq hi]
theorem cZ (h:c O=some (true,O1)):bT c f g O=f O1:=by unfold bT; rw[h,aay,acq rfl]
theorem bI (h:c O=some (false,O1)):bT c f g O=g O1:=by unfold bT; rw[h,aay,acr aba]
theorem Vp (h:f O=some (l,O1)):bB f O=some (.rt l O1):=by unfold bB; rw[h]; rfl
theorem gf (h:f O=some (xs,O1)):jw f b body O=dz b body xs O1:=by unfold jw; rw[h,aay]
theorem aR (h:g (env0 n ps mu)=some (.rt r O)):cN n g ps mu=some (r,O.mu):=by unfold cN; rw[h,aay]
theorem vO (h:g (env0 n ps mu)=some (.nx O)):cN n g ps mu=some (.sh .non,O.mu):=by unfold cN; rw[h,aay]
theorem RM (h:a O=some (ls,O1)) (h2:g (ls.map Lc.pv) O1.mu=some (r,mu)):az g a O=some (r,⟨O1.vs,mu⟩):=by unfold az; rw[h,aay,h2]; rfl
theorem RN (h:f O=some (l,O1)) (h2:a O1=some (ls,O2)):aa f a O=some (l::ls,O2):=by unfold aa; rw[h,aay,h2]; rfl
theorem Y9 (h:a O=some (ls,O1)) (h2:g (ls.map Lc.pv)=some r):eB g a O=some (r,O1):=by unfold eB; rw[h,aay,h2]; rfl
theorem gG (h:f O=some (xs,O1)) (h2:fY b tc te xs (tM m ixs (kI ixs O1)) []=some (ys,mu)):cT f m ixs b tc te O=some (.own (.lst ys),⟨(kI ixs O1).vs,mu⟩):=by unfold cT; rw[h,aay,h2]; rfl
theorem rM (h:f O=some (l,O1)) (h2:g l.pv=some xs):gj f g O=some (xs,O1):=by unfold gj; rw[h,aay,h2]; rfl
theorem jm (h:a O=some ([l],O1)) (hl:l.pv=.int n) (h1:-4611686018427387904<=n) (h2:n<4611686018427387904):fu a O=some (iJ 0 n.toNat,O1):=by unfold fu;rw[h,aay];show (match [l.pv] with | [.int j]=>_ | _=>_)=_;rw[hl];show (if -(2 ^ 62)<=n/\n<2 ^ 62 then _ else _)=_;rw[acq ⟨by omega,by omega⟩]
theorem RP (h:f O.peek=some (b,O1)):zZ f O=some (b,O):=by unfold zZ; rw[h]; rfl
theorem RQ (h:f O.peek=some (l,O1)) (hf:wO l=true):uJ f O=some (l,O):=by unfold uJ; rw[h,aay,acq hf]
theorem LC (h:f O=some (a,O1)) (h2:a=true->g O1=some (b,O2)) (h3:a=false->b=false/\O2=O1):iy f g O=some (b,O2):=by
 unfold iy;rw[h,aay];cases a with
 | true=> exact h2 rfl
 | false=>obtain⟨rfl,rfl⟩:=h3 rfl; rfl
theorem Cm (h:f O=some (l,O1)) (h2:tr l.pv=some b):tT f tr O=some (b,O1):=by unfold tT; rw[h,aay,h2]; rfl
theorem Bj (h:f O=some (l,O1)) (h2:a O1=some ([m],O2)) (hl:l.pv=.str z) (hm:m.pv=.lst ps) (hx:strsOf ps=some xs) (hs:(xs.map (·.length)).sum+xs.length*z.length<=100000):mQ f a O=some (.sh (.str (Txt.join z xs)),O2):=by unfold mQ;rw[h,aay,h2,aay,hl];show (match PV.str z,[m.pv] with | .str z,[.lst ps]=>_ | _,_=>_)=_;rw[hm];show (strsOf ps).bind _=_;rw[hx,aay,acq hs]
theorem wR:(Txt.join z xs).length<=(xs.map (·.length)).sum+xs.length*z.length:=by unfold Txt.join;rw[StrLaws.glued_eq_join];exact StrLaws.join_length_le z xs
section
variable {f g:SF} {O O1 O2 O':Ev} {R:Option Fl} {l m r:Lc} {fa fb fc:EF} {c d:TF} {a:AF} {b:Bool}
theorem aB (h:f O=some (.nx O')) (h2:g O'=R):aF f g O=R:=(Lz h).trans h2
theorem bK (h:fa O=some (l,O1)) (hi:Nat.blt i O1.vs.length=true) (e:O1.set i (some l)=O'):aM i fa O=some (.nx O'):=by rw[Vo h (by simpa using hi),e]
theorem bO (h:fa O=some (l,O1)):bB fa O=some (.rt l O1):=Vp h
theorem Aa (h:fa O=some (l,O1)):jG fa O=some (.nx O1):=by unfold jG; rw[h]; rfl
theorem T8 (h1:fa O=some (l,O1)) (hx:l.pv=p) (h2:fb O1=some (m,O2)) (hy:m.pv=q) (h3:o p q=some r):aC o fa fb O=some (r,O2):=bC h1 h2 (by rw[hx,hy]; exact h3)
theorem aL (h:a O=some (ls,O1)) (hp:ls.map Lc.pv=ps) (hv:O1.vs=v) (hm:O1.mu=mu1) (h2:G ps mu1=some (r,mu)):az G a O=some (r,⟨v,mu⟩):=by subst hp hv hm;exact RM h h2
theorem uZ (h:a O=some (ls,O1)) (hp:ls.map Lc.pv=ps) (h2:G ps=some r):eB G a O=some (r,O1):=by subst hp;exact Y9 h h2
theorem aH (h:fa O=some (l,O1)) (h2:a O1=some (ls,O2)):aa fa a O=some (l::ls,O2):=RN h h2
theorem cj (h:fa O=some (l,O1)) (hp:l.pv=p) (h2:tr p=some b):tT fa tr O=some (b,O1):=by subst hp;exact Cm h h2
theorem jA (h:c O=some (b,O1)):dH c O=some (!b,O1):=by unfold dH; rw[h]; rfl
theorem vP (h:c O=some (b,O1)) (h2:d O1=some (b2,O1)):iy c d O=some (b&&b2,O1):=by
 unfold iy;rw[h,aay];cases b with
 | true=>rw[acq rfl,h2]; rfl
 | false=>rfl
theorem kJ (h:c O=some (b,O1)) (h2:d O1=some (b2,O1)):dR c d O=some (b||b2,O1):=by
 unfold dR;rw[h,aay];cases b with
 | true=>rfl
 | false=>rw[acr aba,h2]; rfl
theorem Je (h:c O.peek=some (b,O1)):zZ c O=some (b,O):=RP h
theorem RT (h:fa O.peek=some (l,O1)) (hf:wO l=true):uJ fa O=some (l,O):=RQ h hf
theorem lY (h:a O=some (ls,O1)) (hl:Nat.ble ls.length 1000=true) (hp:ls.map Lc.pv=ps):aP a O=some (.own (.lst ps),O1):=by subst hp;unfold aP;rw[h,aay,acq (by simpa using hl)]
theorem eY (h:a O=some (ls,O1)) (hl:Nat.ble ls.length 1000=true) (hp:ls.map Lc.pv=ps):bQ a O=some (.sh (.tup ps),O1):=by subst hp;unfold bQ;rw[h,aay,acq (by simpa using hl)]
theorem Vq (h:a O=some (ls,O1)) (hl:Nat.ble ls.length 1000=true) (hp:ls.map Lc.pv=ps) (hn:O1.mu.length=n):Cg a O=some (.sh (.ptr n),⟨O1.vs,O1.mu++[some (.lst ps)]⟩):=by subst hn;unfold Cg;rw[lY h hl hp];rfl
theorem fV (h1:fa O=some (l,O1)) (hx:l.pv=p) (h2:fb O1=some (m,O2)) (hy:m.pv=q) (hn:∀n,p≠.ptr n) (h3:uI p q=some r):aG fa fb O=some (r,O2):=by
 subst hx hy;unfold aG;rw[h1,aay,h2,aay];split
 . rename_i n k e1 e2;exact(hn n e1).elim
 . rw[h3]; rfl
theorem pG (h1:fa O=some (l,O1)) (hx:l.pv=.ptr n) (h2:fb O1=some (m,O2)) (hy:m.pv=.int k) (hm:O2.mu[n]?=some (some (.lst ws))) (h3:eQ ws k=some p):aG fa fb O=some (.sh p,O2):=by unfold aG;rw[h1,aay,h2,aay,hx,hy];show (match O2.mu[n]? with | some (some (.lst ws))=>_ | _=>_)=_;rw[hm];show (eQ ws k).map _=_;rw[h3];rfl
theorem LK (h1:fv O=some (x,O1)) (hxp:x.pv=p) (h2:fo O1=some (o,O2)) (hx:o.pv=.ptr n) (h3:fi O2=some (y,O3)) (hy:y.pv=.int k) (hm:O3.mu[n]?=some (some (.lst ws))) (h4:xR ws.length k=some j):wN fo fi fv O=some (.nx ⟨O3.vs,O3.mu.set n (some (.lst (ws.set j p)))⟩):=by subst hxp;unfold wN;rw[h1,aay,h2,aay,h3,aay,hx,hy];show (match O3.mu[n]? with | some (some (.lst ws))=>_ | _=>_)=_;rw[hm];show (xR ws.length k).map _=_;rw[h4];rfl
theorem fL (h0:O.vs[i]?=some (some (.own (.lst ws0)))) (h:fa O=some (l,O1)) (hp:l.pv=p) (h1:O1.vs[i]?=some (some (.own (.lst ws)))) (hz:ws.length<100000) (e:O1.set i (some (.own (.lst (ws++[p]))))=O'):cY i fa O=some (.nx O'):=by subst hp;unfold cY;rw[h0];rw[h,aay];rw[h1];show (if ws.length<100000 then _ else _)=_;rw[acq hz,e]
theorem pH (h0:O.vs[i]?=some (some (.own (.lst ws0)))) (h:fa O=some (l,O1)) (hp:l.pv=.lst ps) (h1:O1.vs[i]?=some (some (.own (.lst ws)))) (hz:ws.length+ps.length<=100000) (e:O1.set i (some (.own (.lst (ws++ps))))=O'):jy i fa O=some (.nx O'):=by unfold jy;rw[h0];rw[h,aay,hp];rw[h1];show (if ws.length+ps.length<=100000 then _ else _)=_;rw[acq hz,e]
theorem N7 (h:fa O=some (l,O1)) (hp:l.pv=p) (h2:yR p C=some b):vL C fa O=some (.sh (.bl b),O1):=by subst hp;unfold vL;rw[h,aay,h2];rfl
theorem aax (hx:x=.int p) (hy:y=.int q) (h:0<q):gR x y=some (.sh (.int (p%q))):=by subst hx hy; exact jd h
theorem aao (hx:x=.int p) (hy:y=.int q) (h:-18446744073709551616<q) (h2:q<18446744073709551616):jJ x y=some (.sh (.int (p*q))):=by subst hx hy; exact Qe h h2
end
section
variable {X:Cx}
def jn (f:EF):EF:=λO=>(f O).bind λx=>match x.1 with
 | .own p=>some (.sh (.ptr x.2.mu.length),⟨x.2.vs,x.2.mu++[some p]⟩)
 | _=>none
theorem wU (h:PE X e (tP X.K f)):PE X e (tP X.K (jn f)):=PE.imp h λU H Q q=>by
 obtain⟨H0,Z0,O,pd,l,O',s,f,k⟩:=q;obtain⟨x,h1,h2⟩:=acy f;refine⟨H0,Z0,O,pd,x.1,x.2,s,h1,λv H1 s1=>?_⟩;split at h2
 . rename_i p ep;cases h2;rw[ep]at s1;obtain⟨el,Z,hg,z,so⟩:=s1.top;obtain⟨a,ea,ra,za,ha0⟩:=so.1 _ aaz;have ea':=aaM ea;subst ea';have lz:kj Z ⟨Z.z,Z.g++[a]⟩:=⟨eO.refl _,ace _ _⟩;have so2:=so.step lz λe he b hb=>⟨rfl,(jV so he hb).1⟩;refine k _ H1 (.mk (Z:=⟨Z.z,Z.g++[a]⟩) el (by simp[hg]) ⟨z.zh,z.h0,z.z0.trans lz,z.new⟩ (Slots.consS ?_ ?_))
   . refine so2.perm ?_;have ec:cel (Z.g++[a]) (x.2.mu++[some p])=cel Z.g x.2.mu++[(some (.ref a),some (.own p))]:=by unfold cel;rw[abt,abt,abT (by simp[hg])];rfl
     show List.Perm (cel (Z.g++[a]) (x.2.mu++[some p])++_) _;rw[ec,aaZ];exact abi
   . exact⟨a,rfl,by show (Z.g++[a])[x.2.mu.length]?=some a; rw[hg,aaW (aaE _)]; simp⟩
 . cases h2
def aaO (f:EF):EF:=λO=>(f O).bind λx=>match x.1 with
 | .sh (.ptr n)=>match x.2.mu[n]? with
  | some (some p)=>some (.own p,⟨x.2.vs,x.2.mu.set n none⟩)
  | _=>none
 | _=>none
def openV (i:Nat) (O:Ev):Option Ev:=match O.vs[i]? with
 | some (some (.sh (.ptr n)))=>match O.mu[n]? with
  | some (some p)=>some ⟨O.vs.set i (some (.own p)),O.mu.set n none⟩
  | _=>none
 | _=>none
def Cp (i:Nat) (f:SF):SF:=λO=>(f O).bind λfl=>match fl with
 | .nx O'=>(openV i O').map .nx
 | _=>none
theorem SR.openV (s:SR K H0 Z0 U H O pd) (h:PL.openV i O=some O'):SR K H0 Z0 U H O' pd:=by
 unfold PL.openV at h;split at h
 . rename_i n en;split at h
   . rename_i p em;cases h;obtain⟨v,ev,s1⟩:=s.var en;obtain⟨a,rfl,s2⟩:=s1.cellO em;have s3:=SR.sub s2 ((aaU _ _).cons_cons _);have hi:=(aaD.mp en).1;have s4:=s3.store (by show i<(O.vs.set i _).length; rw[abQ]; exact hi);rw[acA ev]at s4;have e:(⟨(O.vs.set i (some (.sh (.ptr n)))).set i (some (.own p)),O.mu.set n none⟩:Ev)=⟨O.vs.set i (some (.own p)),O.mu.set n none⟩:=by rw[abE]
     have s5:SR K H0 Z0 U H ⟨(O.vs.set i (some (.sh (.ptr n)))).set i (some (.own p)),O.mu.set n none⟩ pd:=s4;rw[e]at s5;exact s5
   . cases h
 . cases h
theorem Vr {st:Stmt} (h:PS X st (gw X.K f)):PS X st (gw X.K (Cp i f)):=PS.imp h λD U H q=>by
 obtain⟨H0,Z0,O,pd,fl,s,h,k⟩:=q;obtain⟨y,h1,h2⟩:=acy h;cases y with
 | nx O'=>
  obtain⟨O2,h3,rfl⟩:=acz h2;exact⟨H0,Z0,O,pd,.nx O',s,h1,λU' H' s'=>k U' H' (s'.openV h3)⟩
 | rt r O'=>cases h2
 | bk O'=>cases h2
 | ct O'=>cases h2
def fH (f:EF) (lo hi:OF):EF:=λO=>(f O).bind λx=>(lo x.2).bind λy=>(hi y.2).bind λz=>match x.1.pv with
 | .lst ps=>some (.own (.lst (pD ps y.1 z.1)),z.2)
 | .str t=>if t.length<=100000 then some (.sh (.str (dM t y.1 z.1)),z.2) else none
 | _=>none
theorem mG {lo hi:Option Expr} (he:PE X e (tP X.K f)) (hl:PO X lo (IK X.K fl)) (hu:PO X hi (IK X.K fh)):PE X (.Subscript e (.Slice lo hi none p2) pos) (tP X.K (fH f fl fh)):=PE.imp (Rn (U7_.or Xe) he hl hu) λU H Q q=>by
 obtain⟨H0,Z0,O,pd,r,O',s,h,k⟩:=q;obtain⟨x,h1,h2⟩:=acy h;obtain⟨y,h3,h4⟩:=acy h2;obtain⟨z,h5,h6⟩:=acy h4;refine⟨H0,Z0,O,pd,x.1,x.2,s,h1,λv H1 s1=>⟨H0,Z0,x.2,_,y.1,y.2,s1.freeze,h3,λH2 s2=>⟨H0,Z0,y.2,_,z.1,z.2,s2,h5,λH3 s3=>?_⟩⟩⟩;cases e:x.1.pv with
 | lst ps=>
  rw[e]at h6 s3;cases h6;obtain⟨el,Z,hg,zz,r1,s4⟩:=s3.sh;obtain⟨a,vs,rfl,g1,g2⟩:=r1;refine .inl ⟨a,vs,rfl,cM.same zz.zh g1,λp hp=>k _ _ ?_⟩;obtain⟨z',s'⟩:=s4.new (p:=.lst (pD ps y.1 z.1)) zz hp ⟨_,dm,g2.cut⟩;exact .mk el hg z' s'
 | str t=>
  rw[e]at h6 s3;have h6':(if t.length<=100000 then some (Lc.sh (.str (dM t y.1 z.1)),z.2) else none)=some (r,O'):=h6;split at h6'
  . rename_i hz;cases h6';obtain⟨_,r1⟩:=s3.repH;exact .inr ⟨t,r1,small hz,k _ H3 (s3.pop.scal mz)⟩
  . cases h6'
 | _=>rw[e]at h6; cases h6
theorem iY.two {g:PV->PV->Option Lc} (h:∀H0 Z0 U O pd H v w p q l Q,SR K H0 Z0 U H O ((v,.sh p)::(w,.sh q)::pd)->g p q=some l->(∀u H',SR K H0 Z0 U H' O ((u,l)::pd)->Q u H')->r [v,w] H Q):
 iY K r (λps=>match ps with | [p,q]=>g p q | _=>none):=by
 intro H0 Z0 U O pd H vs ps l Q e s hg k
 match ps,vs,e,s,hg with
 | [p,q],[v,w],_,s,hg=>exact h H0 Z0 U O pd H v w p q l Q s hg k
 | [p,q],[],e,_,_=>simp at e
 | [p,q],[_],e,_,_=>simp at e
 | [p,q],_::_::_::_,e,_,_=>simp at e
 | [],_,_,_,hg=>cases hg
 | [_],_,_,_,hg=>cases hg
 | _::_::_::_,_,_,_,hg=>cases hg
def XC:PV->PV->Option Lc
 | .int i,.int j=>some (.sh (.int (if j<i then j else i)))
 | _,_=>none
def XF:PV->PV->Option Lc
 | .int i,.int j=>some (.sh (.int (if j>i then j else i)))
 | _,_=>none
abbrev min2:List PV->Option Lc:=λps=>match ps with | [p,q]=>XC p q | _=>none
abbrev max2:List PV->Option Lc:=λps=>match ps with | [p,q]=>XF p q | _=>none
theorem XH:iY K (λxs H Q=>∃i j,xs=[.int i,.int j]/\Q (.int (if j<i then j else i)) H) min2:=iY.two λH0 Z0 U O pd H v w p q l Q s e k=>by
 obtain⟨_,r1,r2⟩:=s.rep2H;unfold XC at e;split at e
 . cases e;have a:=cG r1;have b:=cG r2;subst a b;exact⟨_,_,rfl,k _ H (s.pop.pop.scal f9)⟩
 . cases e
theorem XJ:iY K (λxs H Q=>∃i j,xs=[.int i,.int j]/\Q (.int (if j>i then j else i)) H) max2:=iY.two λH0 Z0 U O pd H v w p q l Q s e k=>by
 obtain⟨_,r1,r2⟩:=s.rep2H;unfold XF at e;split at e
 . cases e;have a:=cG r1;have b:=cG r2;subst a b;exact⟨_,_,rfl,k _ H (s.pop.pop.scal f9)⟩
 . cases e
theorem SR.popO (s:SR K H0 Z0 U H O ((.ref a,.own (.lst ws))::pd)) (hp:ws[ws.length-1]?=some p):
 ∃us y,H a=some (.lst us)/\us[us.length-1]?=some y/\SR K H0 Z0 U (upd H a (.lst us.dropLast)) O ((.ref a,.own (.lst ws.dropLast))::(y,.sh p)::pd):=by
 obtain⟨el,Z,hg,z,so⟩:=s.top;obtain⟨b,eb,⟨us,hu,hr⟩,_⟩:=so.1 _ aaz;cases eb;obtain⟨y,hy,ry⟩:=hr.get hp;have hl:=hr.length;refine⟨us,y,hu,by rw[hl]; exact hy,?_⟩;have hd:aZ K Z ws.dropLast us.dropLast:=by rw[List.dropLast_eq_take,List.dropLast_eq_take,hl];exact hr.take _
 obtain⟨z',s'⟩:=so.write (q:=.lst ws.dropLast) z ⟨us.dropLast,dm,hd⟩;have s2:=(s'.consS ry).perm (List.Perm.swap (some y,some (Lc.sh p)) (some (V.ref a),some (Lc.own (.lst ws.dropLast))) _);exact .mk el hg z' (s2.perm (fM.cons _))
def Jf (i:Nat):EF:=λO=>match O.vs[i]? with
 | some (some (.own (.lst ws)))=>(ws[ws.length-1]?).map λp=>(.sh p,O.set i (some (.own (.lst ws.dropLast))))
 | _=>none
theorem aap (h:PE X (.Call (.Attribute o "pop" apos) [] [] cpos) (Xa X.K "list" Xc (wy i))):PE X (.Call (.Attribute o "pop" apos) [] [] cpos) (tP X.K (Jf i)):=PE.imp h λU H Q q=>by
 obtain⟨H0,Z0,O,pd,r,O',s,h,k⟩:=q;unfold Jf at h;split at h
 . rename_i ws e0;obtain⟨p,h1,h2⟩:=acz h;cases h2;obtain⟨a,ea,⟨us,hu⟩,s1⟩:=s.takeO e0;obtain⟨us2,y,hu2,hy,s2⟩:=s1.popO h1;refine⟨.ref a,ea,.inl ⟨rfl,us,cM.of hu⟩,a,us2,y,rfl,rfl,hu2,hy,k _ _ ?_⟩;have s3:=s2.put ea;rw[Ev.set_set]at s3;exact s3
 . cases h
abbrev PD:=List (Key×PV)
def XM:PD->Key->Option PV
 | [],_=>none
 | kv::r,k=>if kv.1=k then some kv.2 else XM r k
def T9 (k:Key) (v:PV):PD->PD
 | []=>[]
 | kv::r=>(if kv.1=k then (kv.1,v) else kv)::T9 k v r
def aaq (l:PD) (k:Key) (v:PV):PD:=match XM l k with
 | some _=>T9 k v l
 | none=>l++[(k,v)]
def aar:PV->Option Key
 | .int i=>some (.inl i)
 | .str x=>some (.inr x)
 | _=>none
def dkP (l:PD):PV:=.dk (l.map (·.1)) (l.map (·.2))
section
variable {K:FG} {Z Z':ZG}
end
def aaP (i:Nat) (fi fv:EF):SF:=λO=>(fv O).bind λx=>match x.2.vs[i]? with
 | some (some (.own (.dk _ _)))=>(fi x.2).bind λy=>match aar y.1.pv,y.2.vs[i]? with
  | some k,some (some (.own (.dk ks ps)))=>if ks.length<100000 then some (.nx (y.2.set i (some (.own (dkP (aaq (ks.zip ps) k x.1.pv)))))) else none
  | _,_=>none
 | _=>none
def kO (fo fv:EF):SF:=λO=>(fo O).bind λo=>match o.1.pv with
 | .ptr n=>match o.2.mu[n]? with
  | some (some (.lst _))=>(fv o.2).bind λy=>match y.2.mu[n]? with
   | some (some (.lst ws))=>if ws.length<100000 then some (.nx ⟨y.2.vs,y.2.mu.set n (some (.lst (ws++[y.1.pv])))⟩) else none
   | _=>none
  | _=>none
 | _=>none
theorem nH (h:PS X (.Expr (.Call (.Attribute o "append" apos) [e] [] cpos) pos) (G9 (Lg X.K "list" Dv (tP X.K fo) (lr X.K (aa fv ao))))):
 PS X (.Expr (.Call (.Attribute o "append" apos) [e] [] cpos) pos) (gw X.K (kO fo fv)):=PS.imp h λD U H q=>by
 obtain⟨H0,Z0,O,pd,fl,s,h,k⟩:=q;obtain⟨o',h1,h2⟩:=acy h;refine⟨H0,Z0,O,pd,o'.1,o'.2,s,h1,λv H1 s1=>?_⟩;split at h2
 . rename_i n en;split at h2
   . rename_i ws0 em0;obtain⟨y,h3,h4⟩:=acy h2;have s2:=s1.freeze;rw[en]at s2;obtain⟨a,rfl,s5⟩:=s2.cellO em0;obtain⟨_,Z,_,z,so⟩:=s5.top;obtain⟨_,ea,⟨us,hu,_⟩,_⟩:=so.1 _ aaz;cases ea;refine⟨.inl ⟨rfl,us,cM.of hu⟩,H0,Z0,o'.2,_,[y.1],y.2,s2,?_,λvs H2 e2 sv=>?_⟩
     . unfold aa ao;rw[h3];rfl
     . obtain⟨v1,rfl⟩:=FP e2;split at h4
       . rename_i ws em;split at h4
         . cases h4;have s3:=SR.freeze sv;obtain⟨a',ea',s6⟩:=s3.swap.cellO em;cases ea';have s7:=s6.perm ((List.Perm.swap _ _ _).trans ((List.Perm.swap _ _ _).cons _));obtain⟨us2,hu2,hl,s8⟩:=s7.pushO;have hn:=(aaD.mp em).1;have s9:=s8.cellP (by show (y.2.mu.set n none)[n]?=_; rw[aa5 hn]);refine⟨a,us2,v1,rfl,rfl,hu2,by rw[hl,sizeLine_eq]; omega,k U _ ?_⟩;have e8:(y.2.mu.set n none).set n (some (.lst (ws++[y.1.pv])))=y.2.mu.set n (some (.lst (ws++[y.1.pv]))):=abE ..;have s10:SR X.K H0 Z0 U (upd H2 a (.lst (us2++[v1]))) ⟨y.2.vs,(y.2.mu.set n none).set n (some (.lst (ws++[y.1.pv])))⟩ pd:=s9;rw[e8]at s10;exact s10
         . cases h4
       . cases h4
   . cases h2
 . cases h2
def Tz:List (V×V)->List V
 | []=>[]
 | p::r=>p.1::p.2::Tz r
def N8 (f:EF):EF:=λO=>(f O).bind λx=>match x.1.pv with
 | .ptr n=>match x.2.mu[n]? with
  | some (some (.lst ws))=>some (.sh (.int (ws.length:Nat)),x.2)
  | _=>none
 | p=>(RJ p).map λl=>(l,x.2)
theorem aas (h:PE X (.Call (.Name x p) [e] [] pos) (Fv (λxs H Q=>∃x n,xs=[x]/\Rf X.K x H n/\Q (.int n) H) (lr X.K (aa f ao)))):PE X (.Call (.Name x p) [e] [] pos) (tP X.K (N8 f)):=PE.imp h λU H Q q=>by
 obtain⟨H0,Z0,O,pd,l,O',s,ff,k⟩:=q;obtain⟨y,h1,h2⟩:=acy ff;refine⟨H0,Z0,O,pd,[y.1],y.2,s,?_,λvs H1 e1 s1=>?_⟩
 . unfold aa ao;rw[h1];rfl
 . obtain⟨v,rfl⟩:=FP e1;have s2:=SR.freeze s1;split at h2
   . rename_i n en;split at h2
     . rename_i ws em;cases h2;rw[en]at s2;obtain⟨a,rfl,s5⟩:=s2.cellO em;obtain⟨_,Z,_,z,so⟩:=s5.top;obtain⟨_,ea,⟨us,hu,hr⟩,_⟩:=so.1 _ aaz;cases ea;exact⟨.ref a,ws.length,rfl,.inl ⟨us,cM.of hu,hr.length.symm⟩,k _ H1 (s2.pop.scal f9)⟩
     . cases h2
   . obtain⟨l',h3,h4⟩:=acz h2;cases h4;exact Qc H0 Z0 U y.2 pd H1 [v] [y.1.pv] _ Q rfl s2 h3 k
end
open PySem.SeqAt
section
variable {X:Cx}
def oN (ps qs:List PV):List PV:=List.zipWith (λp q=>.tup [p,q]) ps qs
theorem RV {i:Nat} (h:(oN ps qs)[i]?=some x):∃p q,ps[i]?=some p/\qs[i]?=some q/\x=.tup [p,q]:=by
 unfold oN at h;rw[List.getElem?_zipWith]at h;cases h1:ps[i]? with
 | none=>rw[h1]at h; cases h
 | some p=>
  cases h2:qs[i]? with
  | none=>rw[h1,h2]at h; cases h
  | some q=>rw[h1,h2]at h; cases h; exact⟨p,q,rfl,rfl,rfl⟩
theorem RW:(oN ps qs).length=min ps.length qs.length:=by unfold oN; simp
end
end PL
namespace L2
open PySem PySem.Spec PyProof.Rows
variable {aeQ:List (Addr×Obj)} {E:Value->Shared->Prop} {s:Shared} {A:Around} {w:World} {P:Program}
section
variable {X:Cx}
end
end L2
namespace PL
open PySem PySem.Spec PyProof.Rows L2
variable {K:FG} {H0 H:Hp} {Z0:ZG} {U:L2.St} {O:Ev} {pd:Pd}
section
variable {X:Cx}
section
variable {K:FG} {Z Z':ZG}
end
theorem SR.ext (s:SR K H0 Z0 U H O pd) (hl:H l=none):SR K H0 Z0 U (upd H l o) O pd:=by obtain⟨el,Z,hg,z,so⟩:=s;obtain⟨z',lz,so'⟩:=so.newF z hl;exact⟨el,Z.put l o,hg,z',so'⟩
def Hl:SF:=λ_=>none
theorem DW {st:Stmt}:PS X st (gw X.K Hl):=λaeQ s U H D I q=>by obtain⟨H0,Z0,O,pd,fl,s,h,k⟩:=q;cases h
abbrev FD:=List (Str×PV)
def qX:FD->Str->Option PV
 | [],_=>none
 | kv::r,k=>if kv.1=k then some kv.2 else qX r k
def qY (f:Str) (p:PV):FD->FD
 | []=>[(f,p)]
 | kv::r=>if kv.1=f then (kv.1,p)::r else kv::qY f p r
def jB (C:Str) (l:FD):PV:=.obj C (l.map (·.1)) (l.map (·.2))
def pI (K:FG) (Z:ZG):FD->List (Str×V)->Prop:=Paired λp q=>p.1=q.1/\Rep K Z p.2 q.2
section
variable {K:FG} {Z Z':ZG}
theorem DX:∀{kvs:List (Str×V)} {ks:List Str} {ps:List PV},kvs.map (·.1)=ks->aZ K Z ps (kvs.map (·.2))->pI K Z (ks.zip ps) kvs
 | [],ks,ps,h1,h2=>by subst h1;exact .nil
 | kv::r,ks,ps,h1,h2=>by
  subst h1;cases ps with
  | nil=>have:=h2.inv0; simp at this
  | cons p ps=>
   obtain⟨v,r',e,h3,h4⟩:=h2.inv;injection e with e1 e2;subst e1 e2;exact .cons ⟨rfl,h3⟩ (DX rfl h4)
theorem pI.keys:∀{l:FD} {kvs:List (Str×V)},pI K Z l kvs->kvs.map (·.1)=l.map (·.1)
 | _,_,.nil=>rfl
 | _,_,.cons h t=>by rw[aaV,aaV,h.1,pI.keys t]
theorem pI.vals:∀{l:FD} {kvs:List (Str×V)},pI K Z l kvs->aZ K Z (l.map (·.2)) (kvs.map (·.2))
 | _,_,.nil=>.nil
 | _,_,.cons h t=>aZ.cons h.2 (pI.vals t)
theorem pI.look:∀{l:FD} {kvs:List (Str×V)},pI K Z l kvs->(∀p,qX l f=some p->∃v,kvs.lookup f=some v/\Rep K Z p v)/\(qX l f=none->kvs.lookup f=none)
 | _,_,.nil=>⟨λp h=>(by cases h),λ_=>rfl⟩
 | p::l,q::kvs,.cons h t=>by
  have ih:=pI.look (f:=f) t;have e0:(q::kvs).lookup f=if f=q.1 then some q.2 else kvs.lookup f:=by
   obtain⟨q1,q2⟩:=q;rw[aa6];by_cases e:f=q1
   . subst e; simp
   . rw[acr e,show (f==q1)=false from acw.mpr e]
  rw[e0];by_cases e:p.1=f
  . have e':f=q.1:=by rw[<-h.1]; exact e.symm
    rw[acq e'];refine⟨λx hx=>⟨q.2,rfl,?_⟩,λhx=>?_⟩
    . unfold qX at hx; rw[acq e]at hx; cases hx; exact h.2
    . unfold qX at hx; rw[acq e]at hx; cases hx
  . have e':¬ f=q.1:=by rw[<-h.1]; exact λz=>e z.symm
    rw[acr e'];unfold qX;rw[acr e];exact ih
theorem pI.put (r:Rep K Z p v):∀{l:FD} {kvs:List (Str×V)},pI K Z l kvs->pI K Z (qY f p l) (jH f v kvs)
 | _,_,.nil=>.cons ⟨rfl,r⟩ .nil
 | a::l,b::kvs,.cons h t=>by
  obtain⟨b1,b2⟩:=b;unfold qY jH;have h1:a.1=b1:=h.1;by_cases e:a.1=f
  . rw[acq e,acq (by rw[<-h1]; exact e)];exact .cons ⟨h1,r⟩ t
  . rw[acr e,acr (by rw[<-h1]; exact e)];exact .cons h (pI.put r t)
end
structure wV (K:FG) (mg:Str->Option Value) (C:Str) (c:Addr):Prop where
 cn:CN K C c
 cl:lG K c
 mgC:mg C=some (.ref c)
theorem Ab (h:CN K C c) (g:CN K C d):c=d:=by have:(some (some (Value.ref c)))=some (some (.ref d)):=h.symm.trans g;cases this;rfl
def oO (C f:Str) (fo:EF):EF:=λO=>(fo O).bind λx=>match x.1.pv with
 | .ptr n=>match x.2.mu[n]? with
  | some (some (.obj D ks ps))=>if D=C then (qX (ks.zip ps) f).map λp=>(.sh p,x.2) else none
  | _=>none
 | _=>none
theorem SR.cellB {pd pe:Pd} (hm:O.mu[n]?=some (some p)) (s:SR K H0 Z0 U H ⟨O.vs,O.mu.set n none⟩ ((.ref a,.own p)::(.ref a,.sh (.ptr n))::pd)):SR K H0 Z0 U H O pd:=by
 have hn:=(aaD.mp hm).1;have s8:=s.cellP (by show (O.mu.set n none)[n]?=_; rw[aa5 hn]);have e8:(O.mu.set n none).set n (some p)=O.mu:=by rw[abE]; exact acA hm
 have s9:=s8;rw[e8]at s9;exact s9
theorem SR.objAt (s:SR K H0 Z0 U H O ((v,.sh (.ptr n))::pd)) (hm:O.mu[n]?=some (some (.obj C ks ps))):
 ∃a c dx fs,v=.ref a/\CN K C c/\H a=some (.ins c dx fs)/\fs.map (·.1)=ks/\(∀f p,qX (ks.zip ps) f=some p->∃u,fs.lookup f=some u/\SR K H0 Z0 U H O ((u,.sh p)::(v,.sh (.ptr n))::pd))/\∀f,qX (ks.zip ps) f=none->fs.lookup f=none:=by
 have sdup:=s.part λZ _ r=>r;obtain⟨a,rfl,s5⟩:=sdup.cellO hm;obtain⟨el,Z,hg,z,so⟩:=s5.top;obtain⟨_,ea,⟨c,dx,fs,cn,hu,hk,hr⟩,_⟩:=so.1 _ aaz;cases ea;have rf:=DX hk hr;refine⟨a,c,dx,fs,rfl,cn,hu,hk,λf p hl=>?_,λf hl=>rf.look.2 hl⟩;obtain⟨u,h1,h2⟩:=rf.look.1 p hl;refine⟨u,h1,?_⟩;have s6:SR K H0 Z0 U H ⟨O.vs,O.mu.set n none⟩ ((u,.sh p)::(.ref a,.own (.obj C ks ps))::(.ref a,.sh (.ptr n))::(.ref a,.sh (.ptr n))::pd):=.mk el hg z ((so.perm fM).consS h2);have s7:=s6.perm (((List.Perm.swap _ _ _).cons _).trans (List.Perm.swap _ _ _));exact SR.cellB (pe:=pd) hm s7
theorem Bk (T:wV X.K X.mg C c) (na:lR X.K c f) (ho:PE X o (tP X.K fo)) (hb:attributeBase o f X.env (eval o X.env)=eval o X.env:=by rfl):PE X (.Attribute o f pos) (tP X.K (oO C f fo)):=PE.imp (WR ho hb) λU H Q q=>by
 obtain⟨H0,Z0,O,pd,l,O',s,h,k⟩:=q;obtain⟨x,h1,h2⟩:=acy h;refine⟨H0,Z0,O,pd,x.1,x.2,s,h1,λv H1 s1=>?_⟩;split at h2
 . rename_i n en;split at h2
   . rename_i D ks ps em;split at h2
     . rename_i eD;subst eD;obtain⟨p,h3,h4⟩:=acz h2;cases h4;have s2:=s1.freeze;rw[en]at s2;obtain⟨a,c',dx,fs,rfl,cn,hH,hk,hl,_⟩:=s2.objAt em;have:=Ab T.cn cn;subst this;obtain⟨u,h5,s6⟩:=hl f p h3;exact⟨a,c,dx,fs,u,rfl,hH,T.cl,na,h5,k u H1 (s6.sub ((aaU _ _).cons_cons _))⟩
     . cases h2
   . cases h2
 . cases h2
def Ac (C f:Str) (fo fv:EF):SF:=λO=>(fv O).bind λy=>(fo y.2).bind λx=>match x.1.pv with
 | .ptr n=>match x.2.mu[n]? with
  | some (some (.obj D ks ps))=>if D=C/\ks.length<1000 then some (.nx ⟨x.2.vs,x.2.mu.set n (some (jB C (qY f y.1.pv (ks.zip ps))))⟩) else none
  | _=>none
 | _=>none
theorem DY (T:wV X.K X.mg C c) (na:lR X.K c f) (ho:PE X o (tP X.K fo)) (hv:PE X value (tP X.K fv)) (hs:swapsWith value (some (.Attribute o f pos')) pos.line X.env=pure false:=by rfl):PS X (.Assign [.Attribute o f pos'] value pos) (gw X.K (Ac C f fo fv)):=PS.imp (WT ho hv hs) λD U H q=>by
 obtain⟨H0,Z0,O,pd,fl,s,h,k⟩:=q;obtain⟨y,h1,h2⟩:=acy h;obtain⟨x,h3,h4⟩:=acy h2;refine⟨H0,Z0,O,pd,y.1,y.2,s,h1,λv H1 s1=>⟨H0,Z0,y.2,_,x.1,x.2,s1.freeze,h3,λw H2 s2=>?_⟩⟩;split at h4
 . rename_i n en;split at h4
   . rename_i D' ks ps em;split at h4
     . rename_i eD;obtain⟨eD,hz⟩:=eD;subst eD;cases h4;have s3:=s2.freeze;rw[en]at s3;obtain⟨a,rfl,s5⟩:=s3.cellO em;have s6:=s5.perm ((List.Perm.swap _ _ _).trans ((List.Perm.swap _ _ _).cons _));obtain⟨el,Z,hg,z,r,so⟩:=s6.sh;have so2:=so.perm fM.symm;obtain⟨_,eb,⟨c',dx,fs,cn,hu,hk,hr⟩,_⟩:=so2.1 _ aaz;cases eb;have:=Ab T.cn cn;subst this;have rf:=DX hk hr;have rp:=rf.put (f:=f) r;have hlen:fs.length=ks.length:=by rw[<-hk,aaT]
       refine⟨a,c,dx,fs,rfl,hu,T.cl,na,by omega,k U _ ?_⟩;obtain⟨z',s'⟩:=so2.write (q:=jB D' (qY f y.1.pv (ks.zip ps))) z ⟨c,dx,jH f v fs,cn,dm,rp.keys,rp.vals⟩;have s7:SR X.K H0 Z0 U (upd H2 a (.ins c dx (jH f v fs))) ⟨x.2.vs,x.2.mu.set n none⟩ ((.ref a,.own (jB D' (qY f y.1.pv (ks.zip ps))))::(.ref a,.sh (.ptr n))::pd):=.mk el hg z' s';have hn:=(aaD.mp em).1;have s8:=s7.cellP (by show (x.2.mu.set n none)[n]?=_; rw[aa5 hn]);have e8:(x.2.mu.set n none).set n (some (jB D' (qY f y.1.pv (ks.zip ps))))=x.2.mu.set n (some (jB D' (qY f y.1.pv (ks.zip ps)))):=abE ..;have s9:=s8;rw[e8]at s9;exact s9
     . cases h4
   . cases h4
 . cases h4
end
section
variable {P:Program} {w:World} {K:FG} {mg:Str->Option Value} {base:Heap}
def Gi (K:FG) (c:Addr) (m qual:Str) (st:Stmt) (ps:List Str):Prop:=∃f fd,uF K m qual st f fd/\W.findIn K (.ref c) m=some (some (.ref f))/\W.isFn K (.ref f)=true/\Binds K fd ps []
def Cq (P:Program) (w:World) (K:FG) (mg:Str->Option Value) (base:Heap) (c:Addr) (m:Str) (k:Nat) (ps:List Str) (sp:Sp):Prop:=∃f fd,oH P w K mg base qe k f fd ps sp/\Meth K c m f/\Binds K fd ps []
theorem uF.okQ {st:Stmt} (F:uF K x qual st f fd) (S:bF N ps (aN st))
 (h:∀(cdv:Value) (A:Around) (outer:List PySem.Env) (s:Shared) (H:Hp) (E:XK),lL k (A.deeper (envOfC qual (aN st) s.heap.objs.size f cdv))->
   ∃g':SF,(∀a mu,g a mu=cN N.length g' a mu)/\ju (Rm qe P w K mg base N qual (aN st) f cdv A outer s H E).nox (jN st) (gw K g')):oH P w K mg base qe (k+1) f fd ps (bU K ps.length g):=by
 refine F.ok S (λvs H Q E q=>?_) (λcdv A outer s H vs Q E hr q=>?_)
 . obtain⟨Z,qs,mu,r,mu',e,_⟩:=q; exact e
 . obtain⟨g',eg,b⟩:=h cdv A outer s H E hr;obtain⟨Z,qs,mu,r,mu',e,hg,z,rl,c,hr',kk⟩:=q;rw[eg]at hr';obtain⟨fl,h1,h2⟩:=acy hr';refine⟨_,b,mV H (tK Z.g mu),Z,_,[],fl,Bb hg z rl c,h1,?_⟩;cases fl with
   | rt r' O'=>
    cases h2;intro v U' H' s';obtain⟨el,Z',hg',z',s''⟩:=s'.top;refine kk v H' ⟨Z',hg',z',s''.sub ?_⟩;exact(abj _ _).cons_cons _
   | nx O'=>
    cases h2;intro U' H' s';obtain⟨el,Z',hg',z',s''⟩:=s';exact kk .non H' ⟨Z',hg',z',(s''.sub (abj _ _)).consS (zV _)⟩
   | bk O'=>cases h2
   | ct O'=>cases h2
theorem Gi.ok {st:Stmt} (F:Gi K c m qual st ps) (S:bF N ps (aN st))
 (h:∀(f:Addr) (cdv:Value) (A:Around) (outer:List PySem.Env) (s:Shared) (H:Hp) (E:XK),lL k (A.deeper (envOfC qual (aN st) s.heap.objs.size f cdv))->
   ∃g':SF,(∀a mu,g a mu=cN N.length g' a mu)/\ju (Rm qe P w K mg base N qual (aN st) f cdv A outer s H E).nox (jN st) (gw K g')):Cq P w K mg base c m (k+1) ps (bU K ps.length g):=by
 obtain⟨f,fd,F,h1,h2,hb⟩:=F;exact⟨f,fd,uF.okQ F S (h f),⟨h1,h2,F.kp⟩,hb⟩
end
section
variable {X:Cx}
def eE (C m:Str) (g:GF) (fo:EF) (a:AF):EF:=λO=>(fo O).bind λx=>match x.1.pv with
 | .ptr n=>match x.2.mu[n]? with
  | some (some (.obj D ks _))=>if D=C/\ks.contains m=false then (a x.2).bind λy=>(g (.ptr n::y.1.map Lc.pv) y.2.mu).map λr=>(r.1,⟨y.2.vs,r.2⟩) else none
  | _=>none
 | _=>none
theorem Gj:∀{fs:List (Str×V)},(fs.map (·.1)).contains m=false->fs.lookup m=none
 | [],_=>rfl
 | (g,x)::r,h=>by rw[aaV,List.contains_cons,Bool.or_eq_false_iff]at h;rw[aa6,h.1];exact Gj h.2
theorem Jg (T:wV X.K X.mg C c) (hn:∀O ls O1,a O=some (ls,O1)->ls.length+1=n'):∀U H Q,tP X.K (eE C m g fo a) U H Q->Nx c m (bU X.K n' g) [] E (tP X.K fo) (lr X.K a) U H Q:=λU H Q q=>by
 obtain⟨H0,Z0,O,pd,l,O',s,h,k⟩:=q;obtain⟨x,h1,h2⟩:=acy h;refine⟨H0,Z0,O,pd,x.1,x.2,s,h1,λv H1 s1=>?_⟩;split at h2
 . rename_i n en;split at h2
   . rename_i D ks ps em;split at h2
     . rename_i eD;obtain⟨eD,hk⟩:=eD;subst eD;obtain⟨y,h3,h4⟩:=acy h2;obtain⟨r,h5,h6⟩:=acz h4;cases h6;have s2:=s1.freeze;rw[en]at s2;obtain⟨a',c',dx,fs,rfl,cn,hH,hks,_⟩:=s2.objAt em;have:=Ab T.cn cn;subst this;refine⟨a',dx,fs,rfl,hH,Gj (by rw[hks]; exact hk),H0,Z0,x.2,_,y.1,y.2,s2,h3,λvs H2 e2 s3=>?_⟩;have s4:SR X.K H0 Z0 U H2 y.2 ((V.ref a'::vs).zip (Lc.sh (.ptr n)::y.1)++pd):=s3.perm (by rw[abD,abk];exact abi.symm)
       obtain⟨el,Z,hg,z,rl,sl'⟩:=s4.repl (by rw[aaC,aaC,e2]);refine⟨Z,.ptr n::y.1.map Lc.pv,y.2.mu,r.1,r.2,?_,hg,z.zh,?_,sl'.cells hg,h5,λv H' rr=>k v H' (SR.called el hg z sl' rr)⟩
       . rw[aa1,aaC,e2]; exact hn _ _ _ h3
       . rw[aa1]; exact rl
     . cases h2
   . cases h2
 . cases h2
theorem Za (T:wV X.K X.mg C c) (M:Cq X.prog X.w X.K X.mg X.base c m k ps (bU X.K ps.length g)) (hr:lL k X.A) (ho:PE X o (tP X.K fo)) (ha:PA X (e::es) (lr X.K a)) (hn:∀O ls O1,a O=some (ls,O1)->ls.length+1=ps.length)
 (hst:starEach (e::es) X.env=(false,eval e X.env)::starEach es X.env:=by rfl) (hpl:(backTo pos (starEach es X.env)).any (·.1)=false:=by rfl)
 (ht:eval (.Call (.Attribute o m apos) (e::es) [] pos) X.env=(do
   let ov <-eval o X.env
   standAt apos.atName
   let (f,first) <-holding [ov] (getMethod ov m pl)
   callWith pos f first (backTo pos (starEach (e::es) X.env)) (backToKw pos (keywordEach [] X.env))):=by rfl):PE X (.Call (.Attribute o m apos) (e::es) [] pos) (tP X.K (eE C m g fo a)):=by
 obtain⟨f,fd,F,hm,hb⟩:=M
 exact PE.imp (UV ho T.cl hm F hr hb .nil zU ha hst hpl ht) (Jg T hn)
theorem lB (T:wV X.K X.mg C c) (M:Cq X.prog X.w X.K X.mg X.base c m k ps (bU X.K ps.length g)) (hr:lL k X.A) (ho:PE X o (tP X.K fo)) (hn:1=ps.length)
 (ht:eval (.Call (.Attribute o m apos) [] [] pos) X.env=(do
   let ov <-eval o X.env
   standAt apos.atName
   let (f,first) <-holding [ov] (getMethod ov m pl)
   callWith pos f first (backTo pos (starEach [] X.env)) (backToKw pos (keywordEach [] X.env))):=by rfl):PE X (.Call (.Attribute o m apos) [] [] pos) (tP X.K (eE C m g fo ao)):=by
 obtain⟨f,fd,F,hm,hb⟩:=M
 refine PE.imp (Rj ho T.cl hm F hr hb .nil zU ht) λU H Q q=>?_
 have:=Jg (E:=E0) (n':=ps.length) T (λO ls O1 h=>by cases h; rw[<-hn]; rfl) U H Q q
 obtain⟨H0,Z0,O,pd,l,O',s,h,k⟩:=this
 refine⟨H0,Z0,O,pd,l,O',s,h,λv H1 s1=>?_⟩
 obtain⟨a,dx,fs,e1,e2,e3,H0',Z0',O2,pd2,ls,O3,s2,h2,k2⟩:=k v H1 s1
 cases h2
 exact⟨a,dx,fs,e1,e2,e3,k2 [] H1 rfl s2⟩
theorem SR.toCell (s:SR K H0 Z0 U H O ((.ref a,.own p)::pd)):SR K H0 Z0 U H ⟨O.vs,O.mu++[some p]⟩ ((.ref a,.sh (.ptr O.mu.length))::pd):=by
 obtain⟨el,Z,hg,z,so⟩:=s.top;have lz:kj Z ⟨Z.z,Z.g++[a]⟩:=⟨eO.refl _,ace _ _⟩;have so2:=so.step lz λe he b hb=>⟨rfl,(jV so he hb).1⟩;refine .mk (Z:=⟨Z.z,Z.g++[a]⟩) el (by simp[hg]) ⟨z.zh,z.h0,z.z0.trans lz,z.new⟩ (Slots.consS ?_ ?_)
 . refine so2.perm ?_;have ec:cel (Z.g++[a]) (O.mu++[some p])=cel Z.g O.mu++[(some (.ref a),some (.own p))]:=by unfold cel;rw[abt,abt,abT (by simp[hg])];rfl
   show List.Perm (cel (Z.g++[a]) (O.mu++[some p])++_) _;rw[ec,aaZ];exact abi
 . exact⟨a,rfl,by show (Z.g++[a])[O.mu.length]?=some a; rw[hg,aaW (aaE _)]; simp⟩
def Ad (C:Str) (g:GF) (a:AF):EF:=λO=>(a O).bind λy=>(g (.ptr y.2.mu.length::y.1.map Lc.pv) (y.2.mu++[some (.obj C [] [])])).bind λr=>match r.1 with
 | .sh .non=>some (.sh (.ptr y.2.mu.length),⟨y.2.vs,r.2⟩)
 | _=>none
def RX (P:Program) (w:World) (K:FG) (mg:Str->Option Value) (base:Heap) (c:Addr) (k:Nat) (ps:List Str) (sp:Sp):Prop:=∃f fd,oH P w K mg base qe k f fd ps sp/\Mk K c f/\Binds K fd ps []
theorem RZ (T:wV X.K X.mg C c) (hn:∀O ls O1,a O=some (ls,O1)->ls.length+1=n'):∀U H Q,tP X.K (Ad C g a) U H Q->Tr c (bU X.K n' g) [] E (lr X.K a) U H Q:=λU H Q q=>by
 obtain⟨H0,Z0,O,pd,l,O',s,h,k⟩:=q;obtain⟨y,h1,h2⟩:=acy h;obtain⟨r,h3,h4⟩:=acy h2;split at h4
 . rename_i er;cases h4;refine⟨H0,Z0,O,pd,y.1,y.2,s,h1,λvs H1 e1 s1 x dx hx hdx hne=>?_⟩;have s2:SR X.K H0 Z0 U (upd H1 dx (.own x)) y.2 (vs.zip y.1++pd):=s1.ext hdx;have s3:SR X.K H0 Z0 U (upd (upd H1 dx (.own x)) x (.ins c dx [])) y.2 ((.ref x,.own (.obj C [] []))::(vs.zip y.1++pd)):=s2.newO (by rw[dh hne.symm]; exact hx) λZ _ _=>⟨c,dx,[],T.cn,dm,rfl,.nil⟩;have s4:=s3.toCell;have s5:=s4.part λZ _ r=>r;have s6:SR X.K H0 Z0 U (upd (upd H1 dx (.own x)) x (.ins c dx [])) ⟨y.2.vs,y.2.mu++[some (.obj C [] [])]⟩ ((V.ref x::vs).zip (Lc.sh (.ptr y.2.mu.length)::y.1)++(.ref x,.sh (.ptr y.2.mu.length))::pd):=s5.perm (by rw[abD,abk];exact List.perm_middle.cons _)
   obtain⟨el,Z,hg,z,rl,sl'⟩:=s6.repl (by rw[aaC,aaC,e1]);refine⟨Z,.ptr y.2.mu.length::y.1.map Lc.pv,y.2.mu++[some (.obj C [] [])],r.1,r.2,?_,hg,z.zh,?_,sl'.cells hg,h3,λv H' rr=>?_⟩
   . rw[aa1,aaC,e1]; exact hn _ _ _ h1
   . rw[aa1]; exact rl
   . have s7:=SR.called el hg z sl' rr;rw[er]at s7;obtain⟨_,r0⟩:=s7.repH;exact⟨iw r0,k _ _ s7.pop⟩
 . cases h4
theorem Zb (T:wV X.K X.mg C c) (M:RX X.prog X.w X.K X.mg X.base c k ps (bU X.K ps.length g)) (hr:lL (k+1) X.A) (hg:Gl X C) (ha:PA X (e::es) (lr X.K a)) (hn:∀O ls O1,a O=some (ls,O1)->ls.length+1=ps.length)
 (hdb:(C==("__debug__" : Str))=false:=by decide) (he:starEach (e::es) X.env=(false,eval e X.env)::starEach es X.env:=by rfl) (hpl:(backTo pos (starEach es X.env)).any (·.1)=false:=by rfl):PE X (.Call (.Name C p) (e::es) [] pos) (tP X.K (Ad C g a)):=by
 obtain⟨f,fd,F,hm,hb⟩:=M;exact PE.imp (UW hm F hr hg T.mgC hb .nil zU ha hdb he hpl) (RZ T hn)
end
theorem Qf {a:AF} (h:∀O ls O1,a O=some (ls,O1)->ls.length=n) (e:n+1=m:=by rfl):∀O ls O1,a O=some (ls,O1)->ls.length+1=m:=λO ls O1 g=>by rw[h _ _ _ g,e]
theorem Zc (h:Cq P w K mg base c "__init__" k ps sp) (mk:W.makesIn K c=true) (kc:W.keepIn K (.ref c)=true):RX P w K mg base c k ps sp:=by obtain⟨f,fd,F,m,b⟩:=h;exact⟨f,fd,F,⟨mk,m.at_,m.fn,kc⟩,b⟩
end PL
namespace L2
open PySem PySem.Spec PyProof.Rows
variable {aeQ:List (Addr×Obj)} {E:Value->Shared->Prop} {s:Shared} {A:Around} {w:World} {P:Program}
section
variable {X:Cx}
end
end L2
namespace PL
open PySem PySem.Spec PyProof.Rows L2
variable {K:FG} {H0 H:Hp} {Z0:ZG} {U:L2.St} {O:Ev} {pd:Pd}
section
variable {X:Cx}
end
end PL
namespace L2
open PySem PySem.Spec PyProof.Rows
variable {aeQ:List (Addr×Obj)} {E:Value->Shared->Prop} {s:Shared} {A:Around} {w:World} {P:Program}
section
variable {X:Cx}
def pk {α:Type} (xs:List α) (lo hi st:Option Int):List α:=
 (sliceRange (sliceBounds lo hi st xs.length).1 (sliceBounds lo hi st xs.length).2.1 (sliceBounds lo hi st xs.length).2.2).filterMap λi=>xs[i]?
theorem Jh {lo hi st:Option Int}:slicePick its.toArray lo hi st=(pk its lo hi st).toArray:=by unfold slicePick pk;simp
theorem Vals.pick (r:Vals xs its):∀{l:List Nat},Vals (l.filterMap λi=>xs[i]?) (l.filterMap λi=>its[i]?)
 | []=>.nil
 | i::l=>by
  have hl:=r.length;cases h:xs[i]? with
  | none=>
   have h':its[i]?=none:=by rw[List.getElem?_eq_none_iff]at h ⊢; omega
   rw[aa4 h,aa4 h'];exact r.pick
  | some x=>
   obtain⟨u,h',ru⟩:=r.get h;rw[List.filterMap_cons_some h,List.filterMap_cons_some h'];exact .cons ru r.pick
theorem Vals.pk {lo hi st:Option Int} (r:Vals xs its):Vals (pk xs lo hi st) (L2.pk its lo hi st):=by unfold L2.pk;rw[r.length];exact r.pick
def aat (K:FG) (te:TE) (tl th tt:TO):TE:=λU H Q=>te U H λx H1=>tl U H1 λl H2=>th U H2 λu H3=>tt U H3 λk H4=>∃a xs,x=.ref a/\cM K H4 a xs/\k≠some 0/\∀p,H4 p=none->Q (.ref p) (upd H4 p (.lst (pk xs l u k)))
theorem Qg {lo hi:Option Expr} {st:Expr} (he:PE X e te) (hl:PO X lo tl) (hu:PO X hi th) (ht:PO X (some st) tt):PE X (.Subscript e (.Slice lo hi (some st) p2) pos) (aat X.K te tl th tt):=by
 intro aeQ s U H Q I h;refine Subscript_ (cL (he aeQ s U H _ I h) λv s1 ⟨x,H1,I1,r1,q1⟩=>?_);refine wpAny_Slice (cL (hl aeQ s1 U H1 _ I1 q1) λvl s2 ⟨l,H2,I2,pl,q2⟩=>cL (hu aeQ s2 U H2 _ I2 q2) λvu s3 ⟨u,H3,I3,pu,q3⟩=>cL (ht aeQ s3 U H3 _ I3 q3) λvs s4 ⟨k,H4,I4,pk',q4⟩=>?_);obtain⟨a,xs,rfl,hx,hk,q⟩:=q4;cases r1;have I5:Inv X aeQ U H4 { s4 with heap:=s4.heap.push { cls:=.type "slice",data:=.fields #[vl,vu,vs] } }:=I4.kept λb ob q=>aaB _ q;obtain⟨its,r,ht,hz⟩:=I5.list hx;have hlen:=r.length;have hg:wpAny (model X.prog X.w) X.A (getItem (.ref a) (.ref s4.heap.objs.size)) (EP X aeQ U Q) X.xe { s4 with heap:=s4.heap.push { cls:=.type "slice",data:=.fields #[vl,vu,vs] } }:=by refine wpAny_getItem_list_slice ht.isList (Heap.IsSliceOf.new ..) pl pu pk' hk ?_ (by rw[aaF]<;>omega);have hsz:=slicePick_size_le its.toArray l u k;rw[Jh]at hsz ⊢;refine⟨.ref (s4.heap.push { cls:=.type "slice",data:=.fields #[vl,vu,vs] }).objs.size,_,I5.laid (λb ob q=>aaB _ q) (aaE _) ?_,rfl,q _ (I5.hok.fresh (aaE _))⟩;refine⟨?_,_,0,r.pk,aaL _ rfl⟩;have e:=(r.pk (lo:=l) (hi:=u) (st:=k)).length;rw[aaF,aaF]at hsz;omega
 exact tail_any (ops:=[.ref a,.ref s4.heap.objs.size]) ht.isList.typeIs slot_list_getitem.lookup hg (by with_unfolding_all rfl)
end
end L2
namespace PL
open PySem PySem.Spec PyProof.Rows L2
variable {K:FG} {H0 H:Hp} {Z0:ZG} {U:L2.St} {O:Ev} {pd:Pd}
section
variable {X:Cx}
theorem aZ.pick (r:aZ K Z ps vs):∀{l:List Nat},aZ K Z (l.filterMap λi=>ps[i]?) (l.filterMap λi=>vs[i]?)
 | []=>aZ.nil
 | i::l=>by
  have hl:=r.length;cases h:ps[i]? with
  | none=>
   have h':vs[i]?=none:=by rw[List.getElem?_eq_none_iff]at h ⊢; omega
   rw[aa4 h,aa4 h'];exact r.pick
  | some x=>
   obtain⟨u,h',ru⟩:=r.get h;rw[List.filterMap_cons_some h,List.filterMap_cons_some h'];exact aZ.cons ru r.pick
theorem aZ.pk {lo hi st:Option Int} (r:aZ K Z ps vs):aZ K Z (L2.pk ps lo hi st) (L2.pk vs lo hi st):=by unfold L2.pk;rw[r.length];exact r.pick
def wW (f:EF) (lo hi st:OF):EF:=λO=>(f O).bind λx=>(lo x.2).bind λy=>(hi y.2).bind λz=>(st z.2).bind λt=>match x.1.pv with
 | .lst ps=>if t.1≠some 0 then some (.own (.lst (pk ps y.1 z.1 t.1)),t.2) else none
 | _=>none
theorem LQ {lo hi:Option Expr} {st:Expr} (he:PE X e (tP X.K f)) (hl:PO X lo (IK X.K fl)) (hu:PO X hi (IK X.K fh)) (ht:PO X (some st) (IK X.K fs)):
 PE X (.Subscript e (.Slice lo hi (some st) p2) pos) (tP X.K (wW f fl fh fs)):=PE.imp (Qg he hl hu ht) λU H Q q=>by
 obtain⟨H0,Z0,O,pd,r,O',s,h,k⟩:=q;obtain⟨x,h1,h2⟩:=acy h;obtain⟨y,h3,h4⟩:=acy h2;obtain⟨z,h5,h6⟩:=acy h4;obtain⟨t,h7,h8⟩:=acy h6;refine⟨H0,Z0,O,pd,x.1,x.2,s,h1,λv H1 s1=>⟨H0,Z0,x.2,_,y.1,y.2,s1.freeze,h3,λH2 s2=>⟨H0,Z0,y.2,_,z.1,z.2,s2,h5,λH3 s3=>⟨H0,Z0,z.2,_,t.1,t.2,s3,h7,λH4 s4=>?_⟩⟩⟩⟩;split at h8
 . rename_i ps e;split at h8
   . rename_i hk;cases h8;rw[e]at s4;obtain⟨el,Z,hg,zz,r1,s5⟩:=s4.sh;obtain⟨a,vs,rfl,g1,g2⟩:=r1;refine⟨a,vs,rfl,cM.same zz.zh g1,hk,λp hp=>k _ _ ?_⟩;obtain⟨z',s'⟩:=s5.new (p:=.lst (pk ps y.1 z.1 t.1)) zz hp ⟨_,dm,g2.pk⟩;exact .mk el hg z' s'
   . cases h8
 . cases h8
theorem SR.lstAt (s:SR K H0 Z0 U H O ((v,.sh (.ptr n))::pd)) (hm:O.mu[n]?=some (some (.lst ps))):
 ∃a vs,v=.ref a/\H a=some (.lst vs)/\vs.length=ps.length/\∀(i:Nat) p,ps[i]?=some p->∃u,vs[i]?=some u/\SR K H0 Z0 U H O ((u,.sh p)::(v,.sh (.ptr n))::pd):=by
 have sdup:=s.part λZ _ r=>r;obtain⟨a,rfl,s5⟩:=sdup.cellO hm;obtain⟨el,Z,hg,z,so⟩:=s5.top;obtain⟨_,ea,⟨vs,hu,hr⟩,_⟩:=so.1 _ aaz;cases ea;refine⟨a,vs,rfl,hu,hr.length,λi p hp=>?_⟩;obtain⟨u,h1,h2⟩:=hr.get hp;refine⟨u,h1,?_⟩;have s6:SR K H0 Z0 U H ⟨O.vs,O.mu.set n none⟩ ((u,.sh p)::(.ref a,.own (.lst ps))::(.ref a,.sh (.ptr n))::(.ref a,.sh (.ptr n))::pd):=.mk el hg z ((so.perm fM).consS h2);have s7:=s6.perm (((List.Perm.swap _ _ _).cons _).trans (List.Perm.swap _ _ _));exact SR.cellB (pe:=pd) hm s7
def Holds (o:Option Nat) (ps:List PV) (O:Ev):Prop:=∀n,o=some n->O.mu[n]?=some (some (.lst ps))
def Zy (K:FG) (H0:Hp) (Z0:ZG) (pd:Pd) (J:It) (o:Option Nat) (ps:List PV):Prop:=∀U H O (i:Nat),SR K H0 Z0 U H O pd->Holds o ps O->
 (∀x,ps[i]?=some x->J.go i H/\∀v H',J.yld i H v H'->SR K H0 Z0 U H' O ((v,.sh x)::pd))/\(i=ps.length->J.stop i H)
theorem R0:Zy K H0 Z0 ((.ref a,.sh (.ptr n))::pd) (Lb K a) (some n) ps:=by intro U H O i s hm;obtain⟨b,vs,e,hH,hl,hg⟩:=s.lstAt (hm n rfl);cases e;refine⟨λx hx=>?_,λh=>⟨vs,cM.of hH,by omega⟩⟩;obtain⟨u,h1,s2⟩:=hg i x hx;refine⟨⟨vs,u,cM.of hH,h1⟩,λv' H' y=>?_⟩;obtain⟨e',y⟩:=y;subst e';have:=y vs (cM.of hH);rw[h1]at this; cases this;exact s2
abbrev Ua:=Ev->Option (Option Nat×List PV×Ev)
def sI (f:EF):Ua:=λO=>(f O).bind λx=>match x.1.pv with
 | .lst ps=>some (none,ps,x.2)
 | .ptr n=>match x.2.mu[n]? with
  | some (some (.lst ps))=>some (some n,ps,x.2)
  | _=>none
 | _=>none
def XN (K:FG) (f:Ua):TI:=λU H R=>∃H0 Z0 O pd o xs O',SR K H0 Z0 U H O pd/\f O=some (o,xs,O')/\∀J H' pd',SR K H0 Z0 U H' O' pd'->Zy K H0 Z0 pd' J o xs->List.Sublist pd pd'->R J H'
theorem LR (hl:PE X l (tP X.K f)):PI X tg l (XN X.K (sI f)):=PI.imp (Uy hl) λU H R q=>by
 obtain⟨H0,Z0,O,pd,n,xs,O',s,h,k⟩:=q;obtain⟨x,h1,h2⟩:=acy h;refine⟨H0,Z0,O,pd,x.1,x.2,s,h1,λv H1 s1=>?_⟩;have s2:=s1.freeze;split at h2
 . rename_i ps en;cases h2;rw[en]at s2;obtain⟨Z,z,r⟩:=s2.rep;obtain⟨b,vs,rfl,h1',h2'⟩:=r;exact⟨b,rfl,⟨vs,cM.same z h1'⟩,k _ _ _ s2 (λU H O i s _=>FT U H O i s) (aaU _ _)⟩
 . rename_i m en;split at h2
   . rename_i ps em;cases h2;rw[en]at s2;obtain⟨a,vs,rfl,hH,_⟩:=s2.lstAt em;exact⟨a,rfl,⟨vs,cM.of hH⟩,k _ _ _ s2 R0 (aaU _ _)⟩
   . cases h2
 . cases h2
open Classical in
def oR (o:Option Nat) (ps:List PV) (b:BF) (body:SF):List PV->SF
 | [],O=>if Holds o ps O then some (.nx O) else none
 | x::xs,O=>if Holds o ps O then (b x O).bind λO1=>(body O1).bind λfl=>match fl with
  | .nx O'=>oR o ps b body xs O'
  | .ct O'=>oR o ps b body xs O'
  | .bk O'=>some (.nx O')
  | .rt r O'=>some (.rt r O') else none
def wX (f:Ua) (b:BF) (body:SF):SF:=λO=>(f O).bind λy=>oR y.1 y.2.1 b body y.2.1 y.2.2
theorem Qh {α:Type} {_:Decidable c} {o:Option α} {r:α} (h:(if c then o else none)=some r):c/\o=some r:=by
 split at h
 . rename_i hc;exact⟨hc,h⟩
 . cases h
theorem Ma (hp:PassesOwn (model X.prog X.w) X.A X.env X.xe) (hc:X.calm=true) (hi:PI X tg iter (XN X.K f)) (hg:PG X tg g) (hb':GS X.K g b) (hb:ju X body (gw X.K fb))
 (hs:∀x,foldedSetIterable iter X.env x=pure x:=by intro _; rfl):PS X (.For tg iter body [] pos) (gw X.K (wX f b fb)):=PS.imp (O5 hp hc hi hg hb hs) λD U H q=>by
 obtain⟨H0,Z0,O,pd,fl,s,h,k⟩:=q;obtain⟨⟨n,ps,O0⟩,h1,h2⟩:=acy h;refine⟨H0,Z0,O,pd,n,ps,O0,s,h1,λJ H1 pd' s1 it sub=>?_⟩;refine⟨λi m U' H'=>m=ps.length-i/\i<=ps.length/\∃O',SR X.K H0 Z0 U' H' O' pd'/\oR n ps b fb (ps.drop i) O'=some fl,⟨_,rfl,abO _,O0,s1,h2⟩,?_⟩;rintro i m U' H' ⟨rfl,hi,O',s',h'⟩;by_cases hlt:i<ps.length
 . have hx:=aaK hlt;rw[abN hlt]at h';obtain⟨hm,h'⟩:=Qh h';obtain⟨i1,_⟩:=it U' H' O' i s' hm;obtain⟨go,yl⟩:=i1 _ hx;obtain⟨O1,e1,e2⟩:=acy h';obtain⟨fl1,e3,e4⟩:=acy e2;refine .inr ⟨go,λU'' H''=>∃O'',SR X.K H0 Z0 U'' H'' O'' pd'/\oR n ps b fb (ps.drop (i+1)) O''=some fl,λU'' H'' ⟨O'',s'',h''⟩=>⟨ps.length-(i+1),by omega,rfl,hlt,O'',s'',h''⟩,λx H2 hy=>?_⟩;refine hb' H0 Z0 U' H2 O' pd' x _ O1 _ (yl x H2 hy) e1 λU2 s2=>?_;refine⟨H0,Z0,O1,pd',fl1,s2,e3,?_⟩;cases fl1 with
   | nx O2=>exact λU3 H3 s3=>⟨O2,s3,e4⟩
   | ct O2=>exact λU3 H3 s3=>⟨O2,s3,e4⟩
   | bk O2=>cases e4; exact λU3 H3 s3=>k U3 H3 (s3.sub sub)
   | rt r O2=>cases e4; exact λv U3 H3 s3=>k v U3 H3 (s3.sub (sub.cons_cons _))
 . have e:i=ps.length:=by omega
   subst e;rw[ack]at h';obtain⟨hm,h'⟩:=Qh h';cases h';obtain⟨_,i2⟩:=it U' H' O' ps.length s' hm;exact .inl ⟨i2 rfl,k U' H' (s'.sub sub)⟩
def sealV (i:Nat) (O:Ev):Option Ev:=match O.vs[i]? with
 | some (some (.own p))=>some ⟨O.vs.set i (some (.sh (.ptr O.mu.length))),O.mu++[some p]⟩
 | _=>none
def tV (i:Nat) (f:SF):SF:=λO=>(sealV i O).bind f
theorem SR.sealV (s:SR K H0 Z0 U H O pd) (h:PL.sealV i O=some O'):SR K H0 Z0 U H O' pd:=by
 unfold PL.sealV at h;split at h
 . rename_i p e0;cases h;obtain⟨v,ea,s1⟩:=s.take e0;obtain⟨_,Z,_,z,so⟩:=s1.top;obtain⟨a,eb,_⟩:=so.1 _ aaz;have eb':=aaM eb;subst eb';have s2:=s1.toCell.put ea;have e:(O.vs.set i none).set i (some (Lc.sh (.ptr O.mu.length)))=O.vs.set i (some (.sh (.ptr O.mu.length))):=abE _;have s3:SR K H0 Z0 U H ⟨(O.vs.set i none).set i (some (Lc.sh (.ptr O.mu.length))),O.mu++[some p]⟩ pd:=s2;rw[e]at s3;exact s3
 . cases h
theorem Mf {st:Stmt} (h:PS X st (gw X.K f)):PS X st (gw X.K (tV i f)):=PS.imp h λD U H q=>by obtain⟨H0,Z0,O,pd,fl,s,h,k⟩:=q;obtain⟨O1,h1,h2⟩:=acy h;exact⟨H0,Z0,O1,pd,fl,s.sealV h1,h2,k⟩
end
def cH (mu:Mu):Nat->PV->PV
 | 0,p=>p
 | k+1,.ptr n=>match mu[n]? with
  | some (some p)=>cH mu k p
  | _=>.ptr n
 | k+1,.tup ps=>.tup (ps.map (cH mu k))
 | k+1,.lst ps=>.lst (ps.map (cH mu k))
 | k+1,.dk ks ps=>.dk ks (ps.map (cH mu k))
 | _+1,p=>p
theorem tW (hf:∀p x,Rep K Z p x->Rep K Z (f p) x):∀{ps:List PV} {vs:List V},aZ K Z ps vs->aZ K Z (ps.map f) vs
 | [],vs,h=>h
 | p::ps,vs,h=>by obtain⟨v,r,rfl,h1,h2⟩:=h.inv;exact aZ.cons (hf p v h1) (tW hf h2)
theorem tX (so:Slots K H0 Z H (sl Z.g U O pd)) (lz:kj Z ⟨H,Z.g⟩):∀(k:Nat) (p:PV) (x:V),Rep K ⟨H,Z.g⟩ p x->Rep K ⟨H,Z.g⟩ (cH O.mu k p) x
 | 0,p,x,r=>r
 | k+1,p,x,r=>by
  cases p with
  | ptr n=>
   show Rep K ⟨H,Z.g⟩ (match O.mu[n]? with | some (some p)=>cH O.mu k p | _=>.ptr n) x;split
   . rename_i q hq;obtain⟨a,rfl,ha⟩:=r;have hc:(some (V.ref a),some (Lc.own q))∈cel Z.g O.mu:=abf (zip_get (by rw[aa2,ha]; rfl) (by rw[aa2,hq]; rfl));obtain⟨b,e1,e2,_⟩:=so.1 _ (aby _ hc);cases e1;exact tX so lz k q _ (e2.rep lz rfl)
   . exact r
  | tup ps=>
   obtain⟨a,vs,e,h1,h2⟩:=r;exact⟨a,vs,e,h1,tW (tX so lz k) h2⟩
  | lst ps=>
   obtain⟨a,vs,e,h1,h2⟩:=r;exact⟨a,vs,e,h1,tW (tX so lz k) h2⟩
  | dk ks ps=>
   obtain⟨a,vs,e,h1,h3,h2⟩:=r;exact⟨a,vs,e,h1,h3,tW (tX so lz k) h2⟩
  | _=>exact r
def peekD (mu:Mu):Option Lc->Option Lc
 | some l=>some (.sh (cH mu 40 l.pv))
 | none=>none
def Ev.peekD (O:Ev):Ev:=⟨O.vs.map (PL.peekD O.mu),O.mu.map λ_=>none⟩
section
variable {X:Cx}
theorem R5:qx K H0 Z0 ((.ref a,.sh (.lst ps))::pd) (Xg K a ps.length) ps.reverse:=by
 intro U H O i s;obtain⟨Z,z,r⟩:=s.rep;obtain⟨b,vs,e,h1,h2⟩:=r;cases e;have hq:=cM.same z h1;refine⟨λx hx=>?_,λhl=>⟨by rw[hl,aca],vs,hq,h2.length⟩⟩;have hi:i<ps.length:=by
  have:=(aaD.mp hx).1
  rwa [aca]at this
 have hx':ps[ps.length-1-i]?=some x:=by rw[<-List.getElem?_reverse hi]; exact hx
 refine⟨⟨hi,vs,hq,h2.length⟩,λv' H' y=>?_⟩;obtain⟨e',y⟩:=y;subst e';refine s.part λZ' z' r'=>?_;obtain⟨b',vs',e',h1',h2'⟩:=r';cases e';obtain⟨p',hp',rp'⟩:=h2'.getV (y vs' (cM.same z' h1'));rw[hx']at hp';cases hp';exact rp'
def Oa (f:EF):IF:=λO=>(f O).bind λx=>match x.1.pv with
 | .lst ps=>some (ps.reverse,x.2)
 | _=>none
theorem XQ (hg:Gl X "reversed") (hm:X.mg "reversed" = none) (ha:PA X [a] (lr X.K (aa f ao))) (hs:starEach [a] X.env=[(false,eval a X.env)]:=by rfl):PI X tg (.Call (.Name "reversed" p) [a] [] pos) (FQ X.K (Oa f)):=PI.imp (Xh hg hm ha hs) λU H R q=>by
 obtain⟨H0,Z0,O,pd,xs,O',s,h,k⟩:=q;obtain⟨x,h1,h2⟩:=acy h;refine⟨H0,Z0,O,pd,[x.1],x.2,s,?_,λvs H1 e1 s1=>?_⟩
 . unfold aa ao;rw[h1];rfl
 . obtain⟨v,rfl⟩:=FP e1;have s2:=SR.freeze s1;cases e:x.1.pv with
   | lst ps=>
    rw[e]at h2 s2;cases h2;obtain⟨Z,z,r⟩:=s2.rep;obtain⟨b,us,rfl,h1',h2'⟩:=r;refine⟨b,us,rfl,cM.same z h1',?_⟩;rw[h2'.length];exact k _ _ _ s2 R5 (aaU _ _)
   | _=>rw[e]at h2; cases h2
def isAny (p:PV):List String->Option Bool
 | []=>(T7 p).map λ_=>false
 | C::r=>match yR p C with
  | some true=>some true
  | some false=>isAny p r
  | none=>none
theorem mZ (h1:T7 p=some T):∀{Cs:List String} {b:Bool},isAny p Cs=some b->W.kitAny K (.type T) (Cs.map Value.type)=some b
 | [],b,h=>by unfold isAny at h;rw[h1]at h;exact h
 | C::r,b,h=>by
  unfold isAny at h;show (match W.kitOne K (.type T) (.type C) with | some true=>some true | some false=>W.kitAny K (.type T) (r.map Value.type) | none=>none)=some b;cases e:yR p C with
  | none=>rw[e]at h; cases h
  | some c=>
   rw[e]at h;rw[oM h1 e];cases c with
   | true=>exact h
   | false=>exact mZ h1 h
def XS (K:FG):List V->Hp->VK->Prop:=λxs H Q=>∃x t Cs g p b,xs=[x,.ref t]/\H t=some (.tup (Cs.map V.ty))/\Rep K ⟨H,g⟩ p x/\isAny p Cs=some b/\Q (.bl b) H
theorem Mg:∀{Cs:List String} {its:List Value},Vals (Cs.map V.ty) its->its=Cs.map Value.type
 | [],its,h=>by cases h; rfl
 | C::r,its,h=>by
  cases h with
  | cons a b=>cases a; rw[Mg b]; rfl
theorem yS:nF X (.builtin "isinstance") (XS X.K):=by
 intro aeQ s U H xs us Q I r h;obtain⟨x,t,Cs,g,p,b,rfl,ht,rp,e,q⟩:=h;obtain⟨u,w',rfl,ru,rw'⟩:=vals2 r;cases rw';have fin:∀tk,EP X aeQ U Q (.bool b) { s with toks:=tk }:=λtk=>⟨.bl b,H,I.tok tk,rfl,q⟩;obtain⟨its,rv,⟨o,hp,hc,n,hd⟩,_⟩:=I.tuple (eU.of ht);have ei:=Mg rv;subst ei;obtain⟨oc,od,oD,os⟩:=o;have hc':= hc;have hd':=hd;subst hc' hd';cases p with
 | non=>have:=iw rp; subst this; cases ru; exact ach W.kitx_none I.kIn trivial hp (mZ rfl e) (by intro z; cases z) fin
 | bl c=>have:=d8 rp; subst this; cases ru; exact ach W.kitx_bool I.kIn trivial hp (mZ rfl e) (by intro z; cases z) fin
 | int i=>have:=cG rp; subst this; obtain⟨t,rfl⟩:=ru; exact ach W.kitx_int I.kIn trivial hp (mZ rfl e) (by intro z; cases z) fin
 | str i=>have:=cU rp; subst this; obtain⟨t,rfl⟩:=ru; exact ach W.kitx_str I.kIn trivial hp (mZ rfl e) (by intro z; cases z) fin
 | tup ps=>
  obtain⟨a,vs,its,rfl,_,_,_,o,t1,t2,_⟩:=tO I rp ru;exact ach W.kitx_tuple I.kIn ⟨o,t1,t2⟩ hp (mZ rfl e) (by intro z; cases z) fin
 | lst ps=>
  obtain⟨a,vs,its,rfl,_,_,_,o,t1,t2,_⟩:=tQ I rp ru;exact ach W.kitx_list I.kIn ⟨o,t1,t2⟩ hp (mZ rfl e) (by intro z; cases z) fin
 | _=>cases Cs<;>cases e
def Ji (Cs:List String) (f:EF):EF:=λO=>(f O).bind λx=>(isAny x.1.pv Cs).map λb=>(.sh (.bl b),x.2)
def R7:List String->TA
 | []=>HD
 | C::r=>zQ (tC (.ty C)) (R7 r)
theorem Jj:∀{Cs:List String},Q (Cs.map V.ty) H->R7 Cs U H Q
 | [],h=>h
 | C::r,h=>Jj (Cs:=r) h
theorem XX (h:PE X (.Call (.Name "isinstance" pp) [e,c] [] pos) (Fv (XS X.K) (zQ (tP X.K f) (zQ (WW (R7 Cs)) HD)))) (hc:Cs.length<=1000:=by decide):
 PE X (.Call (.Name "isinstance" pp) [e,c] [] pos) (tP X.K (Ji Cs f)):=PE.imp h λU H Q q=>by
 obtain⟨H0,Z0,O,pd,r,O',s,h,k⟩:=q;obtain⟨x,h1,h2⟩:=acy h;obtain⟨b,h3,h4⟩:=acz h2;cases h4;refine⟨H0,Z0,O,pd,x.1,x.2,s,h1,λv H1 s1=>?_⟩;refine Jj ⟨by rw[aaT]; exact small (by omega),λt ht=>?_⟩;have s2:=s1.freeze;obtain⟨el,Z,hg,z,r1,so⟩:=s2.sh;obtain⟨z',lz,so'⟩:=(so.consS r1).newF z ht;have s3:SR X.K H0 Z0 U (upd H1 t (.tup (Cs.map V.ty))) x.2 ((v,.sh x.1.pv)::pd):=.mk (Z:=Z.put t (.tup (Cs.map V.ty))) el hg z' so';obtain⟨g,r2⟩:=s3.repH;exact⟨v,t,Cs,g,_,b,rfl,dm,r2,h3,k _ _ (s3.pop.scal fK)⟩
def aaS (f:EF) (fl fh:OF):EF:=λO=>(f O).bind λx=>(fl x.2).bind λy=>(fh y.2).bind λz=>match x.1.pv with
 | .tup ps=>if HT.sIx ps.length 0 y.1=0/\HT.sIx ps.length ps.length z.1=ps.length then none else some (.sh (.tup (pD ps y.1 z.1)),z.2)
 | _=>none
def uK:Bool->List PV->PV
 | true,ps=>.lst ps
 | false,ps=>.tup ps
theorem Cr (r:Rep K Z (uK k ps) v):∃a vs,v=.ref a/\pC k K Z.z a vs/\aZ K Z ps vs:=by
 cases k
 .  exact r
 .  exact r
theorem pC.same (s:eO Z Z') (h:pC k K Z a vs):pC k K Z' a vs:=by
 cases k
 . exact eU.same s h
 . exact cM.same s h
theorem Qi:qx K H0 Z0 ((.ref a,.sh (uK k ps))::(.ref b,.sh (uK k qs))::pd) (Rv k K a b) (oN ps qs):=by
 intro U H O i s;obtain⟨el,Z,hg,z,rl,so⟩:=SR.repl (vs:=[.ref a,.ref b]) (ls:=[.sh (uK k ps),.sh (uK k qs)]) s rfl;obtain⟨_,_,ev,r,rl⟩:=rl.inv;cases ev;obtain⟨_,_,ev,r',_⟩:=rl.inv;cases ev;have r0:=r;have r0':=r';obtain⟨a',vs,e,h1,h2⟩:=Cr r0;obtain⟨b',ws,e',h1',h2'⟩:=Cr r0';cases e;cases e';have hq:=pC.same z.zh h1;have hr:=pC.same z.zh h1';refine⟨λx hx=>?_,λhl=>⟨vs,ws,hq,hr,?_⟩⟩
 . obtain⟨p,q,hp,hq',rfl⟩:=RV hx;obtain⟨v,hv,rv⟩:=h2.get hp;obtain⟨u,hu,ru⟩:=h2'.get hq';refine⟨⟨vs,ws,v,u,hq,hr,hv,hu⟩,λv' H' y=>?_⟩;obtain⟨T,y1,y2,hT,rfl,rfl,hy1,hy2⟩:=y;have e1:=hy1 vs hq;rw[hv]at e1;cases e1;have e2:=hy2 ws hr;rw[hu]at e2;cases e2;obtain⟨z',lz,so'⟩:=((so.consS r0').consS r0).newF z hT;refine .mk (Z:=Z.put T (.tup [v,u])) el hg z' (Slots.perm (Slots.consS so' ?_) ((fM.trans (fM.cons _)).cons _));exact⟨T,[v,u],rfl,.inl (.inl (by show upd Z.z T _ T=_; rw[dm])),aZ.cons (rv.mono lz) (aZ.cons (ru.mono lz) .nil)⟩
 . rw[RW]at hl;rw[h2.length,h2'.length];omega
def tY (f g:EF):IF:=λO=>(f O).bind λx=>(g x.2).bind λy=>match x.1.pv,y.1.pv with
 | .lst ps,.lst qs=>some (oN ps qs,y.2)
 | .tup ps,.tup qs=>some (oN ps qs,y.2)
 | _,_=>none
theorem Vs {α:Type} {w r:α} (h:(match p,q with
 | .lst ps,.lst qs=>some (oN ps qs,w)
 | .tup ps,.tup qs=>some (oN ps qs,w)
 | _,_=>none)=some (zs,r)):∃k ps qs,p=uK k ps/\q=uK k qs/\zs=oN ps qs/\w=r:=by
 split at h
 . rename_i ps qs; cases h; exact⟨true,ps,qs,rfl,rfl,rfl,rfl⟩
 . rename_i ps qs; cases h; exact⟨false,ps,qs,rfl,rfl,rfl,rfl⟩
 . cases h
theorem Mh {elts:List Expr} {x1} (hg:Gl X "zip") (hm:X.mg "zip" = none) (ha:PA X [a,b] (lr X.K (aa f (aa g ao)))) (hs:starEach [a,b] X.env=(false,eval a X.env)::starEach [b] X.env:=by rfl) (hs2:(backTo pos (starEach [b] X.env)).any (·.1)=false:=by rfl):PI X (.Tuple elts x1 tpos) (.Call (.Name "zip" p) [a,b] [] pos) (FQ X.K (tY f g)):=PI.imp (Vd hg hm ha hs hs2) λU H R q=>by
 obtain⟨H0,Z0,O,pd,xs,O',s,h,k⟩:=q;obtain⟨x,h1,h2⟩:=acy h;obtain⟨y,h3,h4⟩:=acy h2;refine⟨H0,Z0,O,pd,[x.1,y.1],y.2,s,?_,λvs H1 e1 s1=>?_⟩
 . unfold aa ao;rw[h1];simp only[aay,h3,abR]
 . obtain⟨v,u,rfl⟩:=ln2 e1;have s2:SR X.K H0 Z0 U H1 y.2 ((v,.sh x.1.pv)::(u,.sh y.1.pv)::pd):=SR.freezeAll s1;obtain⟨kk,ps,qs,e,e',rfl,rfl⟩:=Vs h4;rw[e,e']at s2;obtain⟨Z,z,r,r'⟩:=s2.rep2;obtain⟨b',us,rfl,g1',g2'⟩:=Cr r;obtain⟨a',vs',rfl,g1,g2⟩:=Cr r';exact⟨kk,a',b',rfl,⟨_,pC.same z g1⟩,⟨_,pC.same z g1'⟩,k _ _ _ s2 Qi ((aaU _ _).cons _)⟩
def jY (g:GF) (a:AF):EF:=λO=>(a O).bind λy=>(g ((y.1.map Lc.pv).map (cH y.2.mu 40)) (y.2.mu.map λ_=>none)).bind λr=>if wO r.1=true then some (r.1,y.2) else none
theorem Cu (h:∀e∈L,e.2=none):Slots K H0 Z H L:=by
 refine⟨λe he=>?_,?_⟩
 . obtain⟨v,l⟩:=e;have:l=none:=h _ he;subst this;trivial
 . have:L.filterMap mU=[]:=by
    rw[List.filterMap_eq_nil_iff];intro e he;obtain⟨v,l⟩:=e;have:l=none:=h _ he;subst this;cases v with
    | none=>rfl
    | some x=>cases x<;>rfl
   rw[this];exact aco
theorem Jk {mu:Mu}:∀e∈cel g (mu.map λ_=>none),e.2=none:=λe he=>by obtain⟨v,l⟩:=e;obtain⟨_,h2⟩:=abF he;obtain⟨o,ho,e2⟩:=aa0.mp h2;obtain⟨o',_,e3⟩:=aa0.mp ho;subst e3;exact e2.symm
theorem Qj (hn:∀O ls O1,a O=some (ls,O1)->ls.length=n):∀U H Q,tP X.K (jY g a) U H Q->Nv (bU X.K n g) [] E (lr X.K a) U H Q:=λU H Q q=>by
 obtain⟨H0,Z0,O,pd,r,O',s,h,k⟩:=q;obtain⟨y,h1,h2⟩:=acy h;obtain⟨⟨r1,mu'⟩,h3,h4⟩:=acy h2;split at h4
 . rename_i hf;cases h4;refine⟨H0,Z0,O,pd,y.1,y.2,s,h1,λvs H2 e2 s2=>?_⟩;have s3:=s2.freezeAll;obtain⟨Z,⟨el,hg,lz,so⟩,b1,_⟩:=s3.lookB;have hm:(y.1.map λl=>Lc.sh l.pv)=(y.1.map Lc.pv).map λp=>Lc.sh p:=by rw[abn]; rfl
   have so0:=so;rw[hm]at so0;have rl:=Slots.repl (by simpa using e2) (so0.perm Ie.symm);have rl2:=tW (tX so lz 40) (rl.mono lz);have z1:nP H2 ⟨H2,Z.g⟩ ⟨H2,Z.g⟩ H2:=⟨eO.refl _,eO.refl _,kj.refl _,λb o e=>.inl e⟩;have hs:Slots X.K H2 ⟨H2,Z.g⟩ H2 (sl Z.g U ⟨y.2.vs.map λ_=>none,y.2.mu.map λ_=>none⟩ []):=Cu λe he=>by
    rcases abq.mp he with he | he
    . exact Jk e he
    . rw[abz,aa1]at he;obtain⟨o,_,e3⟩:=aa0.mp (abF he).2;exact e3.symm
   refine⟨⟨H2,Z.g⟩,(y.1.map Lc.pv).map (cH y.2.mu 40),y.2.mu.map λ_=>none,r1,mu',?_,by simpa using hg,eO.refl _,?_,Cu Jk,h3,λv H' rr=>k v H' ?_⟩
   . rw[aa1,e2]; exact hn _ _ _ h1
   . rw[aa1]; exact rl2
   . have s4:=SR.called (by simpa using el) (by simpa using hg) z1 hs rr;exact(b1 H' v r1 _ s4 hf).sub ((abM _ _).cons_cons _)
 . cases h4
theorem Cv (D:bG X.prog X.w X.K X.mg X.base x k ps (bU X.K ps.length g)) (hr:lL k X.A) (hg:Gl X x)
 (ha:PA X (e::es) (lr X.K a)) (hn:∀O ls O1,a O=some (ls,O1)->ls.length=ps.length) (hdb:(x==("__debug__" : Str))=false:=by decide) (he:starEach (e::es) X.env=(false,eval e X.env)::starEach es X.env:=by rfl) (hpl:(backTo pos (starEach es X.env)).any (·.1)=false:=by rfl):PE X (.Call (.Name x p) (e::es) [] pos) (tP X.K (jY g a)):=by
 obtain⟨f,fd,F,hm,hk,hb⟩:=D;exact PE.imp (Le F hr hg hm hk hb .nil zU ha hdb he hpl) (Qj hn)
theorem Jl (h:a O=some (ls,O1)) (hp:(ls.map Lc.pv).map (cH O1.mu 40)=ps) (h2:G ps (O1.mu.map λ_=>none)=some (r,mu)) (hf:wO r=true):jY G a O=some (r,O1):=by unfold jY;rw[h,aay,hp,h2,aay,acq hf]
end
class HK where
 hk:List yL->Int
def okP:PV->Option yL
 | .non=>some none
 | .int i=>some (some (.inl i))
 | .str x=>some (some (.inr x))
 | _=>none
section
variable {X:Cx} [HK]
end
section
variable {X:Cx}
theorem qw (i:Nat) (hN:X.N[i]?=some x:=by rfl) (hv:OD X.env.scope x:=by first | exact Or.inl rfl | exact Or.inr (Or.inl rfl) | exact Or.inr (Or.inr rfl)) (hd:(x==("__debug__" : Str))=false:=by decide) (hcd:(x==("__classdict__" : Str))=false:=by decide):PE X (.Name x pos) (tP X.K (aj i)):=qv (pv i hN hv hd hcd)
theorem bu {j}:PE X (.Constant (.int i) j pos) (tP X.K (aeO i)):=qc Wk f9
theorem bJ {j}:PE X (.Constant (.str i) j pos) (tP X.K (aeP i)):=qc Wm mz
theorem km {j}:PE X (.Constant .none j pos) (tP X.K (eC .non)):=qc Wl zV
theorem qI {j} (ha:PE X a (tP X.K fa)):PE X (.Subscript a (.Constant (.int i) j p) pos) (tP X.K (aG fa (aeO i))):=jK ha bu (λ_ _=>rfl)
theorem qL (b:X.mg "len" = none) (h:PE X e (tP X.K f)) (hg:Gl X "len" := by rfl) (h0:starEach [e] X.env=(false,eval e X.env)::starEach [] X.env:=by rfl):PE X (.Call (.Name "len" p) [e] [] pos) (tP X.K (eB du (aa f ao))):=tR Aw Qc (fX Aw hg b PySem.boot_len (ak h aq h0) (he:=h0))
theorem cP (i:Nat) (hN:X.N.Nodup) (he:PE X e (tP X.K f)) (hi:X.N[i]?=some x:=by rfl) (hx:L2.Loc X.env.scope x:=by exact Or.inl rfl) (hs:swapsWith e (some (.Name x pos')) pos.line X.env=pure false:=by rfl) (hf:X.fn x=true\/X.env.scope.names.lookup x=some .local:=by first | exact .inl rfl | exact .inr rfl | assumption):
 PS X (.Assign [.Name x pos'] e pos) (gw X.K (aM i f)):=PJ hN hi hx he hs hf
theorem dU (i:Nat) (hN:X.N.Nodup) (hi:X.N[i]?=some x:=by rfl) (hx:L2.Loc X.env.scope x:=by exact Or.inl rfl) (hf:X.fn x=true\/X.env.scope.names.lookup x=some .local:=by first | exact .inl rfl | exact .inr rfl | assumption):PG X (.Name x pos) (Ha i):=Ux hN hi hx hf
theorem qg (S:Scope) (hS:X.env.scope=S:=by rfl) (kind:sc.kind=.function:=by rfl) (locs:∀y∈sc.names,y.2=.local->sc.names.lookup y.1=some .local:=by decide +kernel) (cel:∀y∈sc.names,y.2=.cell->sc.names.lookup y.1=some .cell:=by decide +kernel)
 (own:∀p∈sc.names,p.2=.free->S.names.lookup p.1=some .cell\/S.names.lookup p.1=some .free:=by decide +kernel) (frs:∀x∈F,sc.names.lookup x=some .free:=by decide +kernel) (ix:ixs.map (λi=>X.N[i]?)=F.map some:=by rfl):jU X M F ixs sc:=Y8 S hS kind locs cel own frs ix
theorem j6 (ho:PE X o (wy i)) (he:PE X e (tP X.K f)) (h0:starEach [e] X.env=(false,eval e X.env)::starEach [] X.env:=by rfl) (h1:attributeBase o "append" X.env (eval o X.env)=eval o X.env:=by rfl)
 (h2:((backTo cpos (starEach [e] X.env)).all (λx=>!x.1)&&(backToKw cpos (keywordEach [] X.env)).all (λx=>x.1.isSome)
   && decide (([e]:List Expr).length+([]:List Keyword).length+(if ([]:List Keyword).isEmpty then 0 else 1)<30))=true:=by rfl) (h3:(apos.endLine==cpos.line)=true:=by rfl) (hs:swapsWith (.Call (.Attribute o "append" apos) [e] [] cpos) none pos.line X.env=pure false:=by rfl):
 PS X (.Expr (.Call (.Attribute o "append" apos) [e] [] cpos) pos) (gw X.K (cY i f)):=Xq (jL (jF F.plainAttrs_list F.slot_list_append F.type_list_append iI ho (ak he aq h0) h1 h2 h3 h0) hs)
theorem wY (ho:PE X o (wy i)) (he:PE X e (tP X.K f)) (h0:starEach [e] X.env=(false,eval e X.env)::starEach [] X.env:=by rfl) (h1:attributeBase o "extend" X.env (eval o X.env)=eval o X.env:=by rfl)
 (h2:((backTo cpos (starEach [e] X.env)).all (λx=>!x.1)&&(backToKw cpos (keywordEach [] X.env)).all (λx=>x.1.isSome)
   && decide (([e]:List Expr).length+([]:List Keyword).length+(if ([]:List Keyword).isEmpty then 0 else 1)<30))=true:=by rfl) (h3:(apos.endLine==cpos.line)=true:=by rfl) (hs:swapsWith (.Call (.Attribute o "extend" apos) [e] [] cpos) none pos.line X.env=pure false:=by rfl):
 PS X (.Expr (.Call (.Attribute o "extend" apos) [e] [] cpos) pos) (gw X.K (jy i f)):=Xr (jL (jF F.plainAttrs_list F.slot_list_extend F.type_list_extend NK ho (ak he aq h0) h1 h2 h3 h0) hs)
end
inductive XR (α:Type) where
 | ok (a:α)
 | xc (C:Str) (O:Ev)
section
variable {X:Cx} {E:XK}
end
section
variable {P:Program} {w:World} {K:FG} {mg:Str->Option Value} {base:Heap}
end
section
variable {X:Cx} {E:XK}
end
section
variable {X:Cx}
end
section
variable {P:Program} {w:World} {K:FG} {mg:Str->Option Value} {base:Heap}
end
section
variable {X:Cx} {E:XK}
end
section
variable {K:FG} {H0 H:Hp} {Z0:ZG} {U:L2.St} {O:Ev} {pd:Pd}
end
section
variable {X:Cx} {E:XK}
end
section
variable {X:Cx}
def Ub (f:EF):EF:=λO=>(f O).bind λx=>match x.1.pv with
 | .lst ps=>some (.sh (.tup ps),x.2)
 | _=>none
theorem X3 (h:PE X (.Call (.Name "tuple" p) [e] [] pos) (Fv (λxs H Q=>∃p ys,xs=[.ref p]/\((cM X.K H p ys/\∀l,H l=none->Q (.ref l) (upd H l (.tup ys)))\/(eU X.K H p ys/\Q (.ref p) H))) (lr X.K (aa f ao)))):PE X (.Call (.Name "tuple" p) [e] [] pos) (tP X.K (Ub f)):=PE.imp h λU H Q q=>by
 obtain⟨H0,Z0,O,pd,l,O',s,h,k⟩:=q;obtain⟨x,h1,h2⟩:=acy h;refine⟨H0,Z0,O,pd,[x.1],x.2,s,?_,λvs H1 e1 s1=>?_⟩
 . unfold aa ao;rw[h1];rfl
 . obtain⟨v,rfl⟩:=FP e1;have s2:=SR.freeze s1;split at h2
   . rename_i ps e;cases h2;rw[e]at s2;obtain⟨el,Z,hg,z,r,so⟩:=s2.sh;obtain⟨a,ws,rfl,r1,r2⟩:=r;refine⟨a,ws,rfl,.inl ⟨cM.same z.zh r1,λb hb=>k _ _ ?_⟩⟩;obtain⟨z',sz,s'⟩:=so.newF z hb;refine .mk (Z:=Z.put b (.tup ws)) el hg z' (s'.consS ?_);exact⟨b,ws,rfl,eU.of dm,r2.mono sz⟩
   . cases h2
end
def vQ (K:FG) (mg:Str->Option Value) (x:Str):Prop:=∃a,CN K x a/\mg x=some (.ref a)
section
variable {X:Cx} {E:XK}
theorem Qk (h:vQ X.K X.mg x) (hg:Gl X x) (hd:(x==("__debug__" : Str))=false:=by decide):PE X (.Name x pos) (tP X.K (eC (.fn x))):=by obtain⟨a,h1,h2⟩:=h;exact qc (zP (v:=.ref a) hg h2 rfl hd) λZ=>by unfold Rep; exact⟨a,rfl,h1⟩
theorem Ea (i:Nat) (hN:X.N.Nodup) (he:PE X e (tP X.K f)) (hi:X.N[i]?=some x:=by rfl) (hx:L2.Loc X.env.scope x:=by exact Or.inr rfl) (hs:swapsWith e (some (.Name x pos')) pos.line X.env=pure false:=by rfl) (hf:X.fn x=true\/X.env.scope.names.lookup x=some .local:=by first | exact .inl rfl | exact .inr rfl | assumption):
 PS X (.Assign [.Name x pos'] e pos) (gw X.K (aM i f)):=PJ hN hi hx he hs hf
end
section
variable {X:Cx}
def rN (f:EF) (a:AF):EF:=λO=>(f O).bind λx=>(a x.2).bind λy=>match x.1.pv,y.1.map Lc.pv with
 | .str z,[.str w]=>if (w.length==0)=false/\z.length<=100000 then some (.own (.lst ((Txt.split z w).map .str)),y.2) else none
 | _,_=>none
theorem yU:∀xs:List Str,aZ K Z (xs.map .str) (xs.map V.str)
 | []=>.nil
 | x::xs=>.cons (mz _) (yU xs)
theorem Ql (h:PE X (.Call (.Attribute o "split" apos) [e] [] cpos) (Lg X.K "str" Py (tP X.K f) (lr X.K a))):
 PE X (.Call (.Attribute o "split" apos) [e] [] cpos) (tP X.K (rN f a)):=PE.imp h λU H Q q=>by
 obtain⟨H0,Z0,O,pd,r,O',s,h,k⟩:=q;obtain⟨x,h1,h2⟩:=acy h;obtain⟨y,h3,h4⟩:=acy h2;refine⟨H0,Z0,O,pd,x.1,x.2,s,h1,λv H1 s1=>?_⟩;split at h4
 . rename_i z w ez ew;split at h4
   . rename_i hz;cases h4;obtain⟨_,rz⟩:=s1.freeze.repH;rw[ez]at rz;have:=cU rz;subst this;refine⟨rfl,H0,Z0,x.2,_,y.1,y.2,s1.pop,h3,λvs H2 e2 s2=>?_⟩;obtain⟨l1,hy,el⟩:=List.map_eq_singleton_iff.mp ew;rw[hy]at e2 s2;obtain⟨v1,rfl⟩:∃v1,vs=[v1]:=by
      match vs,e2 with
      | [v1],_=>exact⟨v1,rfl⟩
     have s2':=s2;obtain⟨_,rw1⟩:=s2'.freeze.repH;rw[el]at rw1;have:=cU rw1;subst this;refine⟨z,w,rfl,rfl,hz.1,hz.2,λl hl=>k _ _ ?_⟩;obtain⟨el',Z,hg,zz,_,so⟩:=s2'.freeze.sh;obtain⟨z',s'⟩:=so.new (p:=.lst ((Txt.split z w).map .str)) zz hl ⟨_,dm,yU _⟩;exact .mk el' hg z' s'
   . cases h4
 . cases h4
def aau:PV->Option Lc
 | .str z=>if z.length<=640 then (PySem.intText? z).map λn=>.sh (.int n) else none
 | _=>none
def Hm (ps:List PV):Option Lc:=match ps with | [p]=>aau p | _=>none
theorem Mi:iY K (λxs H Q=>∃z n,xs=[.str z]/\z.length<=640/\PySem.intText? z=some n/\Q (.int n) H) Hm:=iY.one λH0 Z0 U O pd H v p l Q s e k=>by
 cases p with
 | str z=>
  have e:(if z.length<=640 then (PySem.intText? z).map λn=>Lc.sh (.int n) else none)=some l:=e;split at e
  . rename_i hz;obtain⟨n,h1,h2⟩:=acz e;subst h2;obtain⟨_,r⟩:=s.repH;have:=cU r;subst this;exact⟨z,n,rfl,hz,h1,k _ H (s.pop.scal f9)⟩
  . cases e
 | _=>cases e
def DE (P:Params):List DictEntry->List (Str×Int)->Prop
 | [],[]=>True
 | e::r,q::kvs=>(∃t,e.key=.str q.1 t)/\e.hash=PyData.keyHash P q.1/\(∃t,e.val=.int q.2 t)/\DE P r kvs
 | _,_=>False
theorem DE.lit:∀{l:List DictEntry} {kvs:List (Str×Int)},DE P l kvs->W.KeysLit P l
 | [],_,_=>trivial
 | _::_,[],h=>h.elim
 | e::r,q::kvs,⟨⟨t,h1⟩,h2,_,h⟩=>⟨⟨q.1,t,h1,h2⟩,h.lit⟩
theorem DE.find:∀{l:List DictEntry} {kvs:List (Str×Int)},DE P l kvs->(l.any (·.refKey))=false/\(match kvs.lookup x with
 | some v=>∃e t,l.find? (·.key.isStr x)=some e/\e.val=.int v t
 | none=>l.find? (·.key.isStr x)=none)
 | [],[],_=>⟨rfl,rfl⟩
 | [],_::_,h=>h.elim
 | _::_,[],h=>h.elim
 | e::r,(k,v)::kvs,⟨⟨t,h1⟩,h2,⟨t2,h3⟩,h⟩=>by
  obtain⟨i1,i2⟩:=h.find;refine⟨by rw[List.any_cons,i1,show e.refKey=false from by unfold DictEntry.refKey; rw[h1]]; rfl,?_⟩;have ek:e.key.isStr x=(k==x):=by rw[h1]; rfl
  rw[aa6];by_cases hx:x=k
  . subst hx;rw[acx];exact⟨e,t2,by rw[List.find?_cons,ek,acx],h3⟩
  . have b1:=acw.mpr hx;have b2:=acw.mpr (Ne.symm hx);rw[b1];rw[List.find?_cons,ek,b2];exact i2
theorem Qm (hl:K.lookup a=some ⟨.type "dict",none,.dict es n,#[]⟩) (h:DE w.params es.toList kvs) (ns:(a==sysModules)=false):TV K w a kvs:=by
 refine⟨⟨es,n,hl,h.lit⟩,ns,λx=>?_⟩;obtain⟨h1,h2⟩:=h.find;have e:W.nsIn K a x=(match es.toList.find? (·.key.isStr x) with
  | some e=>some (some e.val)
  | none=>if es.toList.any (·.refKey) then none else some none):=by unfold W.nsIn; rw[hl]; rfl
 cases hx:kvs.lookup x with
 | none=>
  rw[hx]at h2;rw[e,h2,h1];rfl
 | some v=>
  rw[hx]at h2;obtain⟨e',t,h3,h4⟩:=h2;exact⟨t,by rw[e,h3]; dsimp only; rw[h4]⟩
def Gk (K:FG) (w:World) (mg:Str->Option Value) (D:Str) (kvs:List (Str×Int)):Prop:=∃a,CN K D a/\mg D=some (.ref a)/\TV K w a kvs
theorem Gk.v (h:Gk K w mg D kvs):vQ K mg D:=let ⟨a,h1,h2,_⟩:=h; ⟨a,h1,h2⟩
def Mj (b:Bool) (D:Str) (kvs:List (Str×Int)) (p q:PV):Option Lc:=match p,q with
 | .str z,.fn x=>if x=D then some (.sh (.bl ((kvs.lookup z).isSome==b))) else none
 | _,_=>none
def Jm (D:Str) (kvs:List (Str×Int)) (p q:PV):Option Lc:=match p,q with
 | .fn x,.str z=>if x=D then (kvs.lookup z).map λn=>.sh (.int n) else none
 | _,_=>none
theorem Vt (hD:CN K D a):jt K (λx y H Q=>∃z,x=.str z/\y=.ref a/\Q (.bl ((kvs.lookup z).isSome==b)) H) (Mj b D kvs):=by
 intro H0 Z0 U O pd H v w x y l Q s e k;obtain⟨g,r1,r2⟩:=s.rep2H;unfold Mj at e;split at e
 . rename_i z x';split at e
   . rename_i hx;cases e;subst hx;have:=cU r1;subst this;obtain⟨a',rfl,cn⟩:=r2;have:=Ab cn hD;subst this;exact⟨z,rfl,rfl,k _ H (s.pop.pop.scal fK)⟩
   . cases e
 . cases e
theorem Vu (hD:CN K D a):jt K (λx y H Q=>∃z n,x=.ref a/\y=.str z/\kvs.lookup z=some n/\Q (.int n) H) (Jm D kvs):=by
 intro H0 Z0 U O pd H v w x y l Q s e k;obtain⟨g,r1,r2⟩:=s.rep2H;unfold Jm at e;split at e
 . rename_i x' z;split at e
   . rename_i hx;obtain⟨n,h1,h2⟩:=acz e;subst h2 hx;have:=cU r2;subst this;obtain⟨a',rfl,cn⟩:=r1;have:=Ab cn hD;subst this;exact⟨z,n,rfl,rfl,h1,k _ H (s.pop.pop.scal f9)⟩
   . cases e
 . cases e
theorem X5 (G:Gk X.K X.w X.mg D kvs) (hg:Gl X D) (he:PE X e (tP X.K f)) (hm:behindInMarks .NotIn (.Name D p2)=false) (hd:(D==("__debug__" : Str))=false:=by decide):PT X (.Compare e [.NotIn] [.Name D p2] pos) (jg X.K (tT (aC (Mj false D kvs) f (eC (.fn D))) aW)):=by have hv:=G.v;obtain⟨a,h1,h2,h3⟩:=G;exact bD (λaeQ s U H x y v u Q I rx ry q=>Ve h3 aeQ s U H x y v u Q I rx ry (by obtain⟨z,e1,e2,q⟩:=q; exact⟨z,e1,e2,by cases h:(kvs.lookup z).isSome<;>rw[h]at q<;>exact q⟩)) (Vt h1) he (Qk hv hg hd) hm
theorem X6 (G:Gk X.K X.w X.mg D kvs) (hg:Gl X D) (he:PE X e (tP X.K f)) (hm:zR e) (hd:(D==("__debug__" : Str))=false:=by decide):PE X (.Subscript (.Name D p2) e pos) (tP X.K (aC (Jm D kvs) (eC (.fn D)) f)):=by have hv:=G.v;obtain⟨a,h1,h2,h3⟩:=G;exact qix (aah h3) (Vu h1) (Qk hv hg hd) he hm
def Qn (K:FG) (mg:Str->Option Value) (D:Str) (xs:List Str):Prop:=∃a o its n,mg D=some (.ref a)/\K.lookup a=some o/\o.cls=.type "tuple" /\ o.data=.seq its n/\its.size<=sizeLine/\Vals (xs.map V.str) its.toList
theorem X7 (G:Qn X.K X.mg D xs) (hg:Gl X D) (hd:(D==("__debug__" : Str))=false:=by decide):PE X (.Name D pos) (tP X.K (eC (.tup (xs.map .str)))):=by obtain⟨a,o,its,n,h1,h2,h3,h4,h5,h6⟩:=G;exact qc (zP (v:=.ref a) hg h1 rfl hd) λZ=>by unfold Rep; exact⟨a,_,rfl,.inr ⟨o,its,n,h2,h3,h4,h5,h6⟩,yU xs⟩
def Uc (a:AF):EF:=λO=>(a O).bind λy=>match y.1.map Lc.pv with
 | [.lst ps]=>some (.own (.lst ps.reverse),y.2)
 | _=>none
theorem Jo:∀{ps:List PV} {vs:List V},aZ K Z ps vs->aZ K Z ps.reverse vs.reverse
 | [],vs,h=>by have:=h.inv0; subst this; exact .nil
 | p::ps,vs,h=>by obtain⟨v,r,rfl,h1,h2⟩:=h.inv;rw[List.reverse_cons,List.reverse_cons];exact(Jo h2).append (.cons h1 .nil)
theorem Zd (h:PE X (.Call (.Name "list" p) [.Call (.Name "reversed" p2) [e] [] pos2] [] pos) (TY X.K (lr X.K a))):PE X (.Call (.Name "list" p) [.Call (.Name "reversed" p2) [e] [] pos2] [] pos) (tP X.K (Uc a)):=PE.imp h λU H Q q=>by
 obtain⟨H0,Z0,O,pd,r,O',s,h,k⟩:=q;obtain⟨y,h1,h2⟩:=acy h;refine⟨H0,Z0,O,pd,y.1,y.2,s,h1,λvs H2 e2 s2=>?_⟩;split at h2
 . rename_i ps ew;cases h2;obtain⟨l1,hy,el⟩:=List.map_eq_singleton_iff.mp ew;rw[hy]at e2 s2;obtain⟨v1,rfl⟩:∃v1,vs=[v1]:=by
    match vs,e2 with
    | [v1],_=>exact⟨v1,rfl⟩
   have s2':=s2;have s3:=s2'.freeze;rw[el]at s3;obtain⟨el',Z,hg,z,r,s1⟩:=s3.sh;obtain⟨a,vs,rfl,h1,h2⟩:=r;refine⟨a,vs,rfl,cM.same z.zh h1,λq hq=>k _ _ ?_⟩;obtain⟨z',s'⟩:=s1.new (p:=.lst ps.reverse) z hq ⟨_,dm,Jo h2⟩;exact .mk el' hg z' s'
 . cases h2
def tZ (T:List (Str×GF)) (i:Nat) (a:AF):EF:=λO=>match O.vs[i]? with
 | some (some (.sh (.fn nm)))=>match T.lookup nm with
  | some g=>az g a O
  | none=>none
 | _=>none
theorem Qo (hT:∀nm g,T.lookup nm=some g->∃k,lL k X.A/\bG X.prog X.w X.K X.mg X.base nm k ps (bU X.K ps.length g)/\vQ X.K X.mg nm) (hN:X.N[i]?=some x) (hv:X.env.scope.names.lookup x=some .local)
 (ha:PA X (e::es) (lr X.K a)) (hn:∀O ls O1,a O=some (ls,O1)->ls.length=ps.length) (hdb:(x==("__debug__" : Str))=false:=by decide) (he:starEach (e::es) X.env=(false,eval e X.env)::starEach es X.env:=by rfl) (hpl:(backTo pos (starEach es X.env)).any (·.1)=false:=by rfl):PE X (.Call (.Name x p) (e::es) [] pos) (tP X.K (tZ T i a)):=by
 intro aeQ s U H Q I q;obtain⟨H0,Z0,O,pd,r,O',sr,h,k⟩:=q;unfold tZ at h;split at h
 . rename_i nm en;split at h
   . rename_i g eg;obtain⟨k0,hr,⟨f,fd,F,hm,hk,hb⟩,f',h3,h4⟩:=hT nm g eg;rw[hm]at h4;cases h4;obtain⟨v,e1,s1⟩:=sr.var en;obtain⟨gg,rr⟩:=s1.repH;obtain⟨f'',rfl,cn⟩:=rr;have:=Ab cn h3;subst this;obtain⟨m,hn',hl⟩:=id I.loc;obtain⟨u,ru,l⟩:=hl i x _ hN e1 (.inl hv);cases ru;have hq:=Ik (E:=E0) U H Q ⟨H0,Z0,O,pd,r,O',sr,h,λls O1 z=>hn _ _ _ z,k⟩;rcases l with ⟨hk',hm'⟩ | ⟨hk',_⟩
     . refine wpAny_Call_Name_kw (wpAny_Name (wpAny_loadName_local I.ok.kind hk' hn' hm' ?_) hdb);refine W.callWith_K I.ok.mod.kin hk (cL (ha pos aeQ s U H _ I hq) λus s1 ⟨vs,H1,I1,r,q⟩=>⟨I1.kIn,?_⟩) he hpl;exact BJ F hr hb .nil (zU _ _) I1 r q
     . rw[show X.env.kindOf x=some .local from hv]at hk';rcases hk' with z | z<;>cases z
   . cases h
 . cases h
theorem Qp:∀nm g,([]:List (Str×GF)).lookup nm=some g->∃k,lL k X.A/\bG X.prog X.w X.K X.mg X.base nm k ps (bU X.K ps.length g)/\vQ X.K X.mg nm:=λ_ _ h=>by cases h
theorem sV (hr:lL k X.A) (D:bG X.prog X.w X.K X.mg X.base x k ps (bU X.K ps.length g0)) (V:vQ X.K X.mg x) (h:∀nm g,T.lookup nm=some g->∃k,lL k X.A/\bG X.prog X.w X.K X.mg X.base nm k ps (bU X.K ps.length g)/\vQ X.K X.mg nm):
 ∀nm g,((x,g0)::T).lookup nm=some g->∃k,lL k X.A/\bG X.prog X.w X.K X.mg X.base nm k ps (bU X.K ps.length g)/\vQ X.K X.mg nm:=λnm g e=>by
 rw[aa6]at e;by_cases hx:nm=x
 . subst hx;rw[acx]at e;cases e;exact⟨k,hr,D,V⟩
 . rw[acw.mpr hx]at e;exact h nm g e
end
end PL
namespace Law
open PySem PySem.Spec PyProof.Rows L2 PL
abbrev fO:List (Str×Int):=[("set",1),("put",2),("out",1),("if",1),("while",1)]
theorem mI {l:List Str} (i:Nat) (h:l[i]?=some a):a∈l:=abf h
abbrev dW:List (Str×Int):=[("set",1),("put",1),("out",2),("call",2),("if",0),("while",0)]
abbrev eF:List Str:=["+", "-", "*", "<", "="]
abbrev m9:List Str:=["1", "2", "3", "4", "5", "6", "7", "8"]
local macro_rules | `(tactic| walk_at "sc")=>`(tactic| exact⟨rfl,rfl,rfl,by decide +kernel,rfl,by decide +kernel,by decide +kernel⟩)
def top (i:Nat):Stmt:=PySem.Challenge.pw_hushwise_k17_texts_read.main.body.getD i (.Pass ⟨0,0,0,0⟩)
abbrev uL:Stmt:=top 5
abbrev Jp:Stmt:=top 13
abbrev uc:Stmt:=top 14
abbrev ud:Stmt:=top 15
abbrev oU:Stmt:=top 16
abbrev qZ:Stmt:=top 17
abbrev sJ:Stmt:=top 18
abbrev pJ:Stmt:=top 19
abbrev rm:Stmt:=top 20
abbrev yV:Stmt:=top 21
abbrev u9:Stmt:=top 22
abbrev vd:Stmt:=top 23
abbrev ue:Stmt:=top 24
abbrev wZ:Stmt:=top 25
abbrev nT:Stmt:=top 26
abbrev xf:Stmt:=top 27
abbrev Bl:Stmt:=top 28
abbrev rA:Stmt:=top 29
abbrev ni:Stmt:=top 30
abbrev vf:Stmt:=top 31
abbrev qF:Stmt:=top 32
abbrev uf:Stmt:=top 33
abbrev vg:Stmt:=top 34
abbrev oV:Stmt:=top 35
abbrev pK:Stmt:=top 36
abbrev vh:Stmt:=top 37
abbrev jZ:Stmt:=top 38
abbrev vm:Stmt:=top 40
abbrev vo:Stmt:=top 41
abbrev mH:Stmt:=top 42
abbrev vp:Stmt:=top 43
abbrev rR:Stmt:=top 44
abbrev kW:Stmt:=top 45
abbrev vq:Stmt:=top 46
abbrev rB:Stmt:=top 47
abbrev pL:Stmt:=top 48
abbrev vy:Stmt:=top 49
abbrev qG:Stmt:=top 50
abbrev rC:Stmt:=top 51
abbrev ug:Stmt:=top 52
abbrev uh:Stmt:=top 53
abbrev pM:Stmt:=top 54
abbrev vz:Stmt:=top 55
abbrev lC:Stmt:=top 56
abbrev oh:Stmt:=top 57
abbrev rD:Stmt:=top 58
abbrev qH:Stmt:=top 59
abbrev xg:Stmt:=top 60
abbrev kY:Stmt:=inClass (top 12) 0
abbrev qJ:Stmt:=inClass (top 12) 1
abbrev qK:Stmt:=inClass (top 12) 2
abbrev rT:Stmt:=inClass (top 12) 3
abbrev nj:Stmt:=inClass (top 12) 4
theorem Ob:bF ["text"] ["text"] (aN uL):=by walk_at "sc"
theorem oZ:bF ["text", "lines", "names", "pairs", "grants", "boxes", "functions", "rows"] ["text"] (aN Jp):=by walk_at "sc"
theorem xX:bF ["lines", "words"] ["lines"] (aN uc):=by walk_at "sc"
theorem ou:bF ["lines", "told_by", "heads", "head"] ["lines", "told_by"] (aN ud):=by walk_at "sc"
theorem kZ:bF ["lines", "functions", "head"] ["lines"] (aN oU):=by walk_at "sc"
theorem pN:bF ["lines", "rows", "row"] ["lines"] (aN qZ):=by walk_at "sc"
theorem vA:bF ["lines", "row", "first"] ["lines"] (aN sJ):=by walk_at "sc"
theorem xY:bF ["lines", "closing", "rows"] ["lines", "closing"] (aN pJ):=by walk_at "sc"
theorem Jq:bF ["words"] ["words"] (aN rm):=by walk_at "sc"
theorem Oc:bF ["word"] ["word"] (aN yV):=by walk_at "sc"
theorem Jr:bF ["word"] ["word"] (aN u9):=by walk_at "sc"
theorem Js:bF ["words"] ["words"] (aN vd):=by walk_at "sc"
theorem GC:bF ["words"] ["words"] (aN ue):=by walk_at "sc"
theorem K4:bF ["words"] ["words"] (aN wZ):=by walk_at "sc"
theorem pO:bF ["words", "names", "ranks", "params"] ["words"] (aN nT):=by walk_at "sc"
theorem rE:bF ["words", "start", "names", "some"] ["words"] (aN xf):=by walk_at "sc"
theorem Qq:bF ["kind", "names", "some"] ["kind", "names", "some"] (aN Bl):=by walk_at "sc"
theorem Jt:bF ["word"] ["word"] (aN rA):=by walk_at "sc"
theorem gZ:bF ["words", "parts", "word", "part"] ["words"] (aN ni):=by walk_at "sc"
theorem Ju:bF ["word", "parts"] ["word", "parts"] (aN vf):=by walk_at "sc"
theorem Bm:bF ["names", "pairs", "program", "lines", "function"] ["names", "pairs", "program"] (aN qF):=by walk_at "sc"
theorem GD:bF ["rank"] ["rank"] (aN uf):=by walk_at "sc"
theorem Jv:bF ["box"] ["box"] (aN vg):=by walk_at "sc"
theorem lg:bF ["function", "head", "name", "rank"] ["function"] (aN oV):=by walk_at "sc"
theorem rW:bF ["rows", "lines", "row"] ["rows"] (aN pK):=by walk_at "sc"
theorem ul:bF ["row", "words", "expression"] ["row"] (aN vh):=by walk_at "sc"
theorem ym:bF ["expression"] ["expression"] (aN jZ):=by walk_at "sc"
theorem pP:bF ["_law_script", "_law_k", "_law_number_here", "_law_spot"] ["_law_script", "_law_k"] (aN vm):=by walk_at "sc"
theorem yW:bF ["_law_pen", "_law_most", "_law_cell_here"] ["_law_pen", "_law_most"] (aN vo):=by walk_at "sc"
theorem dX:bF ["_law_pen", "_law_letters", "_law_way", "_law_turn", "_law_words_here", "_law_size", "_law_at", "_law_some", "_law_base", "_law_names", "_law_k", "_law_letter"] ["_law_pen"] (aN mH):=by walk_at "sc"
theorem Jw:bF ["_law_pen", "_law_pool_here"] ["_law_pen", "_law_pool_here"] (aN vp):=by walk_at "sc"
theorem qM:bF ["_law_pen", "_law_way", "_law_cell_here"] ["_law_pen"] (aN rR):=by walk_at "sc"
theorem iQ:bF ["_law_pen", "_law_deep", "_law_pool_here", "_law_way", "_law_one", "_law_other", "_law_sign"] ["_law_pen", "_law_deep", "_law_pool_here"] (aN kW):=by walk_at "sc"
theorem Jx:bF ["_law_pen", "_law_pool_here"] ["_law_pen", "_law_pool_here"] (aN vq):=by walk_at "sc"
theorem um:bF ["_law_pen", "_law_deep", "_law_pool_here", "_law_most", "_law_rows_here", "_law_k"] ["_law_pen", "_law_deep", "_law_pool_here", "_law_most"] (aN rB):=by walk_at "sc"
theorem mJ:bF ["_law_pen", "_law_deep", "_law_pool_here", "_law_way", "_law_one", "_law_first", "_law_name", "_law_some"] ["_law_pen", "_law_deep", "_law_pool_here"] (aN pL):=by walk_at "sc"
theorem Jy:bF ["_law_pen", "_law_pool_here"] ["_law_pen", "_law_pool_here"] (aN vy):=by walk_at "sc"
theorem dI:bF ["_law_pen", "_law_pool_here", "_law_boxes", "_law_k", "_law_grants", "_law_who", "_law_functions", "_law_name", "_law_params", "_law_j", "_law_param"] ["_law_pen", "_law_pool_here"] (aN qG):=by walk_at "sc"
theorem nq:bF ["_law_pen", "_law_pool_here", "_law_names", "_law_pairs", "_law_k", "_law_low"] ["_law_pen", "_law_pool_here"] (aN rC):=by walk_at "sc"
theorem jO:bF ["_law_expression_here", "_law_words_here", "_law_todo", "_law_one"] ["_law_expression_here"] (aN ug):=by walk_at "sc"
theorem oA:bF ["_law_row_here", "_law_words_here", "_law_one"] ["_law_row_here"] (aN uh):=by walk_at "sc"
theorem jP:bF ["_law_rows_here", "_law_lines_here", "_law_row_here"] ["_law_rows_here"] (aN pM):=by walk_at "sc"
theorem Jz:bF ["_law_rank_here"] ["_law_rank_here"] (aN vz):=by walk_at "sc"
theorem cu:bF ["_law_told_here", "_law_names", "_law_pairs", "_law_program_here", "_law_lines_here", "_law_name", "_law_size", "_law_rank_here", "_law_params", "_law_rows_here", "_law_words_here", "_law_param", "_law_its"] ["_law_told_here"] (aN lC):=by walk_at "sc"
theorem Eb:bF ["_law_lines_here"] ["_law_lines_here"] (aN oh):=by walk_at "sc"
theorem uo:bF ["_law_got", "_law_due", "_law_one", "_law_other"] ["_law_got", "_law_due"] (aN rD):=by walk_at "sc"
theorem iZ:bF ["_law_got", "_law_name", "_law_rank_here", "_law_params", "_law_rows_here", "_law_row_here"] ["_law_got"] (aN qH):=by walk_at "sc"
theorem vR:bF ["_law_script", "_law_pen", "_law_told_here", "_law_text", "_law_got", "_law_again"] ["_law_script"] (aN xg):=by walk_at "sc"
theorem yX:bF ["self", "text"] ["self", "text"] (aN kY):=by walk_at "sc"
theorem Cw:bF ["self"] ["self"] (aN qJ):=by walk_at "sc"
theorem Cy:bF ["self"] ["self"] (aN qK):=by walk_at "sc"
theorem Ec:bF ["self", "word"] ["self", "word"] (aN rT):=by walk_at "sc"
theorem yo:bF ["self"] ["self"] (aN nj):=by walk_at "sc"
def yZ:PV:=(.str "abcdefghijklmnopqrstuvwxyz")
def uM:PV:=(.str "0123456789")
def gA:GF:=cN 1 (bB (rP (pF xW xW (aeO 1) (eB du (aa (aj 0) ao)) (aeO 8)) (eB all1 (aa (cT (gj (aj 0) cX) 1 [] (aJ 0) bY (aC oY (aj 0) (eC yZ))) ao))))
def gO:GF:=cN 2 (aF (Ac "Lines" "lines" (aj 0) (cT (gj (rN (aj 1) (aa (aeP "\n") ao)) cX) 1 [] (aJ 0) bY (rN (aj 0) (aa (aeP " ") ao))))
 (Ac "Lines" "at" (aj 0) (aeO 0)))
def iR:GF:=cN 1 (bT (tT (aC jX (oO "Lines" "at" (aj 0)) (eB du (aa (oO "Lines" "lines" (aj 0)) ao))) aW)
 Hl
 bM)
def fB:GF:=cN 1 (Ac "Lines" "at" (aj 0) (aC aY (oO "Lines" "at" (aj 0)) (aeO 1)))
def cO:GF:=cN 1 (aF (bT (tT (aC jX (oO "Lines" "at" (aj 0)) (eB du (aa (oO "Lines" "lines" (aj 0)) ao))) aW)
 (bB (eB list1 (aa (aG (oO "Lines" "lines" (aj 0)) (oO "Lines" "at" (aj 0))) ao)))
 bM)
 (bB (aP (aa (aeP "") ao))))
def dZ:GF:=cN 1 (bB (eB all1 (aa (cT (gj (aj 0) cX) 1 [] (aJ 0) bY (az gA (aa (aj 0) ao))) ao)))
def lK:GF:=cN 1 (bB (Ig (aC eqP (aj 0) (aeP "?")) (az gA (aa (aj 0) ao))))
def fU:GF:=cN 1 (bB (Lj (tT (aC eqP (aj 0) (aeP "?")) aW) (eC .non) (aj 0)))
def iC:GF:=cN 4 (aF (aM 1 (wW (aj 0) (cD (aeO 1)) d9 (cD (aeO 2))))
 (aF (aM 2 (wW (aj 0) (cD (aeO 2)) d9 (cD (aeO 2))))
 (aF (bT (dR (tT (aC gC (aG (aj 0) (aeO 0)) (aeP "def")) aW) (dR (dH (tT (aj 1) dq)) (tT (aC gC (eB du (aa (aj 1) ao)) (eB du (aa (aj 2) ao))) aW)))
 (bB (eC .non))
 bM)
 (aF (bT (dR (dH (tT (az dZ (aa (aj 1) ao)) dq)) (dH (tT (eB all1 (aa (cT (gj (aj 2) cX) 1 [] (aJ 0) bY (az lK (aa (aj 0) ao))) ao)) dq)))
 (bB (eC .non))
 bM)
 (aF (aM 3 (cT (tY (fH (aj 1) (cD (aeO 1)) d9) (fH (aj 2) (cD (aeO 1)) d9)) 2 [] (eX 2 (bh (aJ 0) (bh (aJ 1) eV))) bY (bQ (aa (aj 0) (aa (az fU (aa (aj 1) ao)) ao)))))
 (tV 3 (bB (bQ (aa (aG (aj 1) (aeO 0)) (aa (az fU (aa (aG (aj 2) (aeO 0)) ao)) (aa (aj 3) ao)))))))))))
def lZ:GF:=cN 2 (aF (bT (tT (aC gC (eE "Lines" "words" cO (aj 0) ao) (aP (aa (aj 1) ao))) aW)
 Hl
 bM)
 (jG (eE "Lines" "go_on" fB (aj 0) ao)))
def iD:GF:=cN 1 (aF (bT (dR (dH (tT (pF xW xW (aeO 1) (eB du (aa (aj 0) ao)) (aeO 12)) aW)) (dH (tT (eB all1 (aa (cT (gj (aj 0) cX) 1 [] (aJ 0) bY (aC oY (aj 0) (eC uM))) ao)) dq)))
 (bB (eC (.bl false)))
 bM)
 (bB (Ig (aC eqP (aj 0) (aeP "0")) (aC gC (aG (aj 0) (aeO 0)) (aeP "0")))))
def fC:GF:=cN 2 (aF (bT (tT (az iD (aa (aj 0) ao)) dq)
 (bB (bQ (aa (aeP "num") (aa (eB Hm (aa (aj 0) ao)) ao))))
 bM)
 (aF (bT (tT (az gA (aa (aj 0) ao)) dq)
 (bB (bQ (aa (aeP "box") (aa (aj 0) ao))))
 bM)
 (aF (bT (tT (aC jX (N8 (aj 1)) (aeO 2)) aW)
 (bB (eC .non))
 bM)
 (aF (bT (iy (tT (aC eqP (aj 0) (aeP "@")) aW) (tT (aC eqP (aG (aG (aj 1) (qD (aeO 1))) (aeO 0)) (aeP "box")) aW))
 (bB (bQ (aa (aeP "@") (aa (aG (aG (aj 1) (qD (aeO 1))) (aeO 1)) (aa (aG (aj 1) (qD (aeO 2))) ao)))))
 bM)
 (aF (bT (tT (aC oY (aj 0) (eC (.tup (eF.map .str)))) aW)
 (bB (bQ (aa (aj 0) (aa (aG (aj 1) (qD (aeO 1))) (aa (aG (aj 1) (qD (aeO 2))) ao)))))
 bM)
 (bB (eC .non)))))))
def j0:GF:=cN 4 (aF (aM 1 (aP ao))
 (aF (jw (Oa (aj 0)) (aJ 2)
 (aF (Cp 1 (tV 1 (aM 3 (az fC (aa (aj 2) (aa (aj 1) ao))))))
 (aF (bT (tT (aC qy (aj 3) (eC .non)) aW)
 (bB (eC .non))
 bM)
 (aF (bT (dR (tT (aC eqP (aj 2) (aeP "@")) aW) (tT (aC oY (aj 2) (eC (.tup (eF.map .str)))) aW))
 (aM 1 (uJ (fH (aj 1) d9 (cD (qD (aeO 2))))))
 bM)
 (cY 1 (aj 3))))))
 (bB (Uc (aa (aj 1) ao)))))
def Bo:GF:=cN 3 (aF (bT (tT (aC eqP (aj 0) (aeP "out")) aW)
 (bB (bQ (aa (aj 0) (aa (aG (aj 1) (aeO 0)) (aa (aG (aj 2) (aeO 0)) (aa (aG (aj 1) (aeO 1)) ao))))))
 bM)
 (aF (bT (tT (aC eqP (aj 0) (aeP "call")) aW)
 (bB (bQ (aa (aj 0) (aa (aG (aj 1) (aeO 0)) (aa (aG (aj 1) (aeO 1)) (aa (aj 2) ao))))))
 bM)
 (bB (aC aY (bQ (aa (aj 0) ao)) (Ub (aC aY (aj 1) (aj 2)))))))
def iG:GF:=cN 4 (aF (bT (tT (aC (Mj false "ROW_NAMES" dW) (aG (aj 0) (aeO 0)) (eC (.fn "ROW_NAMES"))) aW)
 (bB (eC .non))
 bM)
 (aF (aM 1 (aC aY (aeO 1) (aC (Jm "ROW_NAMES" dW) (eC (.fn "ROW_NAMES")) (aG (aj 0) (aeO 0)))))
 (aF (aM 2 (fH (aj 0) (cD (aeO 1)) (cD (aj 1))))
 (aF (aM 3 (az j0 (aa (fH (aj 0) (cD (aj 1)) d9) ao)))
 (aF (bT (dR (tT (aC jX (eB du (aa (aj 0) ao)) (aj 1)) aW) (dR (dH (tT (az dZ (aa (aj 2) ao)) dq)) (tT (aC qy (aj 3) (eC .non)) aW)))
 (bB (eC .non))
 bM)
 (aF (bT (iy (tT (aC gC (aG (aj 0) (aeO 0)) (aeP "call")) aW) (tT (aC gC (eB du (aa (aj 3) ao)) (aC (Jm "ROW_EXPRESSIONS" fO) (eC (.fn "ROW_EXPRESSIONS")) (aG (aj 0) (aeO 0)))) aW))
 (bB (eC .non))
 bM)
 (bB (az Bo (aa (aG (aj 0) (aeO 0)) (aa (aj 2) (aa (aj 3) ao)))))))))))
mutual
def cQ:Nat->GF
 | 0=>λ_ _=>none
 | n+1=>cN 3 (aF (aM 2 (jn (az (eH n) (aa (aj 0) ao))))
  (aF (jG (eE "Lines" "take" lZ (aj 0) (aa (aj 1) ao)))
  (jk 2)))
def eH:Nat->GF
 | 0=>λ_ _=>none
 | n+1=>cN 3 (aF (aM 1 (aP ao))
  (aF (aM 2 (az (fW n) (aa (aj 0) ao)))
  (aF (mW 200 (tT (aC wM (aj 2) (eC .non)) aW)
  (aF (cY 1 (aj 2))
  (aM 2 (az (fW n) (aa (aj 0) ao)))))
  (jk 1))))
def fW:Nat->GF
 | 0=>λ_ _=>none
 | n+1=>cN 3 (aF (aM 1 (az iG (aa (eE "Lines" "words" cO (aj 0) ao) ao)))
  (aF (bT (tT (aC qy (aj 1) (eC .non)) aW)
  (bB (eC .non))
  bM)
  (aF (jG (eE "Lines" "go_on" fB (aj 0) ao))
  (aF (bT (tT (aC eqP (aG (aj 1) (aeO 0)) (aeP "if")) aW)
  (aF (aM 2 (az (cQ n) (aa (aj 0) (aa (aeP "else") ao))))
  (bB (aC aY (aj 1) (bQ (aa (aj 2) (aa (az (cQ n) (aa (aj 0) (aa (aeP "end") ao))) ao))))))
  bM)
  (aF (bT (tT (aC eqP (aG (aj 1) (aeO 0)) (aeP "while")) aW)
  (bB (aC aY (aj 1) (bQ (aa (az (cQ n) (aa (aj 0) (aa (aeP "end") ao))) ao))))
  bM)
  (jk 1))))))
end
def ig:GF:=cN 3 (aF (aM 1 (aP ao))
 (aF (aM 2 (az iC (aa (eE "Lines" "words" cO (aj 0) ao) ao)))
 (aF (mW 200 (tT (aC wM (aj 2) (eC .non)) aW)
 (aF (jG (eE "Lines" "go_on" fB (aj 0) ao))
 (aF (cY 1 (aC aY (aj 2) (bQ (aa (az (cQ 40) (aa (aj 0) (aa (aeP "end") ao))) ao))))
 (aM 2 (az iC (aa (eE "Lines" "words" cO (aj 0) ao) ao))))))
 (jk 1))))
def lM:GF:=cN 1 (aF (bT (iy (tT (aC eqP (aG (aj 0) (aeO 0)) (aeP "box")) aW) (iy (tT (aC eqP (eB du (aa (aj 0) ao)) (aeO 3)) aW) (iy (tT (az gA (aa (aG (aj 0) (aeO 1)) ao)) dq) (tT (az lK (aa (aG (aj 0) (aeO 2)) ao)) dq))))
 (bB (bQ (aa (aG (aj 0) (aeO 1)) (aa (aeO 0) (aa (az fU (aa (aG (aj 0) (aeO 2)) ao)) ao)))))
 bM)
 (aF (bT (dR (tT (aC gC (aG (aj 0) (aeO 0)) (aeP "list")) aW) (dR (tT (aC gC (eB du (aa (aj 0) ao)) (aeO 4)) aW) (tT (aC N5 (aG (aj 0) (aeO 2)) (eC (.tup (m9.map .str)))) aW)))
 (bB (eC .non))
 bM)
 (aF (bT (dR (dH (tT (az gA (aa (aG (aj 0) (aeO 1)) ao)) dq)) (dH (tT (az lK (aa (aG (aj 0) (aeO 3)) ao)) dq)))
 (bB (eC .non))
 bM)
 (bB (bQ (aa (aG (aj 0) (aeO 1)) (aa (eB Hm (aa (aG (aj 0) (aeO 2)) ao)) (aa (az fU (aa (aG (aj 0) (aeO 3)) ao)) ao))))))))
def jC:GF:=cN 1 (aF (bT (dR (tT (aC gC (aG (aj 0) (aeO 0)) (aeP "may")) aW) (dR (tT (aC gC (eB du (aa (aj 0) ao)) (aeO 4)) aW) (dH (tT (az dZ (aa (aj 0) ao)) dq))))
 (bB (eC .non))
 bM)
 (bB (bQ (aa (aG (aj 0) (aeO 1)) (aa (aG (aj 0) (aeO 2)) (aa (aG (aj 0) (aeO 3)) ao))))))
def j7:GF:=cN 1 (aF (bT (dR (tT (aC gC (aG (aj 0) (aeO 0)) (aeP "under")) aW) (dR (tT (aC gC (eB du (aa (aj 0) ao)) (aeO 3)) aW) (dH (tT (az dZ (aa (aj 0) ao)) dq))))
 (bB (eC .non))
 bM)
 (bB (bQ (aa (aG (aj 0) (aeO 1)) (aa (aG (aj 0) (aeO 2)) ao)))))
def dY:GF:=cN 4 (aF (aM 2 (aP ao))
 (aF (aM 3 (tZ [("pair_told",j7),("grant_told",jC),("box_told",lM)] 1 (aa (eE "Lines" "words" cO (aj 0) ao) ao)))
 (aF (mW 200 (tT (aC wM (aj 3) (eC .non)) aW)
 (aF (cY 2 (aj 3))
 (aF (jG (eE "Lines" "go_on" fB (aj 0) ao))
 (aM 3 (tZ [("pair_told",j7),("grant_told",jC),("box_told",lM)] 1 (aa (eE "Lines" "words" cO (aj 0) ao) ao))))))
 (jk 2))))
def lD:GF:=cN 2 (aF (aM 1 (eE "Lines" "words" cO (aj 0) ao))
 (aF (bT (dR (tT (aC gC (aG (aj 1) (aeO 0)) (aeP "ranks")) aW) (dR (tT (aC eqP (eB du (aa (aj 1) ao)) (aeO 1)) aW) (dH (tT (az dZ (aa (fH (aj 1) (cD (aeO 1)) d9) ao)) dq))))
 Hl
 bM)
 (aF (jG (eE "Lines" "go_on" fB (aj 0) ao))
 (bB (fH (aj 1) (cD (aeO 1)) d9)))))
def nU:GF:=cN 8 (aF (aM 1 (Ad "Lines" gO (aa (aj 0) ao)))
 (aF (aM 2 (jn (az lD (aa (aj 1) ao))))
 (aF (aM 3 (jn (az dY (aa (aj 1) (aa (eC (.fn "pair_told")) ao)))))
 (aF (aM 4 (jn (az dY (aa (aj 1) (aa (eC (.fn "grant_told")) ao)))))
 (aF (aM 5 (jn (az dY (aa (aj 1) (aa (eC (.fn "box_told")) ao)))))
 (aF (aM 6 (jn (az ig (aa (aj 1) ao))))
 (aF (aM 7 (jn (az (eH 40) (aa (aj 1) ao))))
 (aF (jG (eE "Lines" "take_last" iR (aj 1) ao))
 (bB (bQ (aa (aj 2) (aa (aj 3) (aa (bQ (aa (aj 5) (aa (aj 4) (aa (aj 6) (aa (aj 7) ao))))) ao)))))))))))))
def jD:GF:=cN 1 (bB (Lj (tT (aC qy (aj 0) (eC .non)) aW) (aeP "?") (aj 0)))
def gD:GF:=cN 1 (aF (bT (tT (aC eqP (aG (aj 0) (aeO 1)) (aeO 0)) aW)
 (bB (aP (aa (aeP "box") (aa (aG (aj 0) (aeO 0)) (aa (az jD (aa (aG (aj 0) (aeO 2)) ao)) ao)))))
 bM)
 (bB (aP (aa (aeP "list") (aa (aG (aj 0) (aeO 0)) (aa (eB str1 (aa (aG (aj 0) (aeO 1)) ao)) (aa (az jD (aa (aG (aj 0) (aeO 2)) ao)) ao)))))))
def bN:Nat->GF
 | 0=>λ_ _=>none
 | n+1=>cN 1 (aF (bT (tT (aC eqP (aG (aj 0) (aeO 0)) (aeP "num")) aW)
  (bB (aP (aa (eB str1 (aa (aG (aj 0) (aeO 1)) ao)) ao)))
  bM)
  (aF (bT (tT (aC eqP (aG (aj 0) (aeO 0)) (aeP "box")) aW)
  (bB (aP (aa (aG (aj 0) (aeO 1)) ao)))
  bM)
  (aF (bT (tT (aC eqP (aG (aj 0) (aeO 0)) (aeP "@")) aW)
  (bB (aC aY (aP (aa (aeP "@") (aa (aG (aj 0) (aeO 1)) ao))) (az (bN n) (aa (aG (aj 0) (aeO 2)) ao))))
  bM)
  (bB (aC aY (aC aY (aP (aa (aG (aj 0) (aeO 0)) ao)) (az (bN n) (aa (aG (aj 0) (aeO 1)) ao))) (az (bN n) (aa (aG (aj 0) (aeO 2)) ao)))))))
def rF:GF:=cN 3 (aF (bT (dR (tT (aC eqP (aG (aj 0) (aeO 0)) (aeP "if")) aW) (tT (aC eqP (aG (aj 0) (aeO 0)) (aeP "while")) aW))
 (bB (aC aY (aP (aa (aG (aj 0) (aeO 0)) ao)) (az (bN 40) (aa (aG (aj 0) (aeO 1)) ao))))
 bM)
 (aF (bT (tT (aC eqP (aG (aj 0) (aeO 0)) (aeP "put")) aW)
 (bB (aC aY (aC aY (aP (aa (aeP "put") (aa (aG (aj 0) (aeO 1)) ao))) (az (bN 40) (aa (aG (aj 0) (aeO 2)) ao))) (az (bN 40) (aa (aG (aj 0) (aeO 3)) ao))))
 bM)
 (aF (bT (tT (aC eqP (aG (aj 0) (aeO 0)) (aeP "out")) aW)
 (bB (aC aY (aP (aa (aeP "out") (aa (aG (aj 0) (aeO 1)) (aa (aG (aj 0) (aeO 3)) ao)))) (az (bN 40) (aa (aG (aj 0) (aeO 2)) ao))))
 bM)
 (aF (bT (tT (aC eqP (aG (aj 0) (aeO 0)) (aeP "call")) aW)
 (aF (aM 1 (aP (aa (aeP "call") (aa (aG (aj 0) (aeO 1)) (aa (aG (aj 0) (aeO 2)) ao)))))
 (aF (jw (gj (aG (aj 0) (aeO 3)) cX) (aJ 2)
 (jy 1 (az (bN 40) (aa (aj 2) ao))))
 (jk 1)))
 bM)
 (bB (aC aY (aP (aa (aeP "set") (aa (aG (aj 0) (aeO 1)) ao))) (az (bN 40) (aa (aG (aj 0) (aeO 2)) ao))))))))
def cR:Nat->GF
 | 0=>λ_ _=>none
 | n+1=>cN 3 (aF (aM 1 (aP ao))
  (aF (jw (gj (aj 0) cX) (aJ 2)
  (aF (cY 1 (az rF (aa (aj 2) ao)))
  (aF (bT (tT (aC eqP (aG (aj 2) (aeO 0)) (aeP "if")) aW)
  (jy 1 (aC aY (aC aY (aC aY (az (cR n) (aa (aG (aj 2) (aeO 2)) ao)) (aP (aa (aP (aa (aeP "else") ao)) ao))) (az (cR n) (aa (aG (aj 2) (aeO 3)) ao))) (aP (aa (aP (aa (aeP "end") ao)) ao))))
  bM)
  (bT (tT (aC eqP (aG (aj 2) (aeO 0)) (aeP "while")) aW)
  (jy 1 (aC aY (az (cR n) (aa (aG (aj 2) (aeO 2)) ao)) (aP (aa (aP (aa (aeP "end") ao)) ao))))
  bM))))
  (jk 1)))
def lN:GF:=cN 4 (aF (aM 1 (aP (aa (aeP "def") (aa (aG (aj 0) (aeO 0)) (aa (az jD (aa (aG (aj 0) (aeO 1)) ao)) ao)))))
 (aF (jw (gj (aG (aj 0) (aeO 2)) cX) (eX 2 (bh (aJ 2) (bh (aJ 3) eV)))
 (jy 1 (aP (aa (aj 2) (aa (az jD (aa (aj 3) ao)) ao)))))
 (bB (aC aY (aC aY (aP (aa (aj 1) ao)) (az (cR 40) (aa (aG (aj 0) (aeO 3)) ao))) (aP (aa (aP (aa (aeP "end") ao)) ao))))))
def vU:GF:=cN 5 (aF (aM 3 (aP (aa (aC aY (aP (aa (aeP "ranks") ao)) (eB list1 (aa (aj 0) ao))) ao)))
 (aF (jy 3 (cT (gj (aj 1) cX) 2 [] (eX 2 (bh (aJ 0) (bh (aJ 1) eV))) bY (aP (aa (aeP "under") (aa (aj 0) (aa (aj 1) ao))))))
 (aF (jy 3 (cT (gj (aG (aj 2) (aeO 1)) cX) 3 [] (eX 3 (bh (aJ 0) (bh (aJ 1) (bh (aJ 2) eV)))) bY (aP (aa (aeP "may") (aa (aj 0) (aa (aj 1) (aa (aj 2) ao)))))))
 (aF (jy 3 (cT (gj (aG (aj 2) (aeO 0)) cX) 1 [] (aJ 0) bY (az gD (aa (aj 0) ao))))
 (aF (jw (gj (aG (aj 2) (aeO 2)) cX) (aJ 4)
 (jy 3 (az lN (aa (aj 4) ao))))
 (aF (jy 3 (az (cR 40) (aa (aG (aj 2) (aeO 3)) ao)))
 (bB (mQ (aeP "\n") (aa (cT (gj (aj 3) cX) 1 [] (aJ 0) bY (mQ (aeP " ") (aa (aj 0) ao))) ao)))))))))
def j8:GF:=cN 4 (aF (bT (tT (aC jX (aj 1) (eB du (aa (aj 0) ao))) aW)
 (bB (aG (aj 0) (aj 1)))
 bM)
 (aF (aM 2 (aC aY (aC jJ (aj 1) (aeO 7919)) (aeO 5)))
 (aF (bT (tT (aC Ga (eB du (aa (aj 0) ao)) (aeO 0)) aW)
 (aF (aM 3 (aG (aj 0) (aC gR (aC jJ (aj 1) (aeO 7)) (eB du (aa (aj 0) ao)))))
 (aM 2 (aC gR (aC aY (aC aY (aC jJ (aj 3) (aeO 48271)) (aC jJ (aC jJ (aj 1) (aj 1)) (aeO 7919))) (aj 1)) (aeO 2147483647))))
 bM)
 (bB (aC gR (aC jJ (aj 2) (aj 2)) (aeO 2147483629))))))
def aQ:GF:=cN 3 (aF (aM 2 (aC gR (az j8 (aa (aG (aj 0) (aeO 0)) (aa (aG (aj 0) (aeO 1)) ao))) (aj 1)))
 (aF (wN (aj 0) (aeO 1) (aC aY (aG (aj 0) (aeO 1)) (aeO 1)))
 (jk 2)))
def rG:GF:=cN 12 (aF (aM 1 (aeP "abcdefghijklmnopqrstuvwxyz"))
 (aF (aM 2 (az aQ (aa (aj 0) (aa (aeO 3) ao))))
 (aF (aM 3 (az aQ (aa (aj 0) (aa (aeO 26) ao))))
 (aF (bT (tT (aC eqP (aj 2) (aeO 2)) aW)
 (aF (aM 4 (aP (aa (aeP "set") (aa (aeP "put") (aa (aeP "out") (aa (aeP "call") (aa (aeP "if") (aa (aeP "while") (aa (aeP "else") ao)))))))))
 (aF (aM 4 (aC aY (aj 4) (aP (aa (aeP "end") (aa (aeP "ranks") (aa (aeP "under") (aa (aeP "may") (aa (aeP "box") (aa (aeP "list") ao)))))))))
 (aF (aM 4 (aC aY (aj 4) (aP (aa (aeP "def") (aa (aeP "main") ao)))))
 (bB (cT (fu (aa (aeO 8) ao)) 1 [4,3] (aJ 0) bY (aG (aj 1) (aC gR (aC aY (aj 2) (aj 0)) (aeO 15))))))))
 bM)
 (aF (aM 5 (aC aY (aeO 1) (az aQ (aa (aj 0) (aa (aeO 8) ao)))))
 (aF (aM 6 (az aQ (aa (aj 0) (aa (aj 5) ao))))
 (aF (aM 7 (cT (fu (aa (aeO 8) ao)) 1 [1,0] (aJ 0) bY (aG (aj 1) (az aQ (aa (aj 2) (aa (aeO 26) ao))))))
 (aF (aM 8 (mQ (aeP "") (aa (aj 7) ao)))
 (aF (bT (tT (aC eqP (aj 2) (aeO 1)) aW)
 (bB (cT (fu (aa (aeO 8) ao)) 1 [1,3,8] (aJ 0) bY (aC aY (aG (aj 1) (aj 2)) (fH (aj 3) d9 (cD (aC gR (aC aY (aj 2) (aj 0)) (aeO 8)))))))
 bM)
 (aF (aM 9 (aP ao))
 (aF (jw (fu (aa (aeO 8) ao)) (aJ 10)
 (aF (aM 11 (aG (aj 1) (aC gR (aC aY (aj 3) (aC jJ (aeO 5) (aj 10))) (aeO 26))))
 (cY 9 (aC aY (aC aY (fH (aj 8) d9 (cD (aj 6))) (aj 11)) (fH (aj 8) (cD (aC aY (aj 6) (aeO 1))) (cD (aj 5)))))))
 (jk 9))))))))))))
def cI:GF:=cN 2 (bB (aG (aj 1) (az aQ (aa (aj 0) (aa (aeO 8) ao)))))
def rY:GF:=cN 3 (aF (aM 1 (az aQ (aa (aj 0) (aa (aeO 4) ao))))
 (aF (aM 2 (az aQ (aa (aj 0) (aa (aC DP (aeO 10) (aeO 12)) ao))))
 (aF (bT (tT (aC eqP (aj 1) (aeO 0)) aW)
 (bB (aC gR (aj 2) (aeO 21)))
 bM)
 (aF (bT (tT (aC eqP (aj 1) (aeO 1)) aW)
 (bB (aC oK (aC oK (aC DP (aeO 10) (aeO 12)) (aeO 1)) (aC gR (aj 2) (aeO 5))))
 bM)
 (aF (bT (tT (aC eqP (aj 1) (aeO 2)) aW)
 (bB (aC oK (aC Ce (aC DP (aeO 10) (aeO 12)) (aC aY (aeO 1) (aC gR (aj 2) (aeO 9999)))) (aeO 1)))
 bM)
 (bB (aC gR (aC jJ (aj 2) (aeO 999983)) (aC DP (aeO 10) (aeO 12)))))))))
def cC:Nat->GF
 | 0=>λ_ _=>none
 | n+1=>cN 7 (aF (aM 3 (az aQ (aa (aj 0) (aa (aeO 9) ao))))
  (aF (bT (dR (tT (aC jX (aj 1) (aeO 2)) aW) (tT (aC jX (aj 3) (aeO 2)) aW))
  (aF (bT (tT (aC eqP (aC gR (aj 3) (aeO 2)) (aeO 0)) aW)
  (bB (bQ (aa (aeP "num") (aa (az rY (aa (aj 0) ao)) ao))))
  bM)
  (bB (bQ (aa (aeP "box") (aa (az cI (aa (aj 0) (aa (aj 2) ao))) ao)))))
  bM)
  (aF (aM 4 (az (cC n) (aa (aj 0) (aa (aC oK (aj 1) (aeO 1)) (aa (aj 2) ao)))))
  (aF (bT (tT (aC jX (aj 3) (aeO 4)) aW)
  (bB (bQ (aa (aeP "@") (aa (az cI (aa (aj 0) (aa (aj 2) ao))) (aa (aj 4) ao)))))
  bM)
  (aF (aM 5 (az (cC n) (aa (aj 0) (aa (eB min2 (aa (aC oK (aj 1) (aeO 1)) (aa (aeO 2) ao))) (aa (aj 2) ao)))))
  (aF (aM 6 (aG (aeP "+-*<=") (az aQ (aa (aj 0) (aa (aeO 5) ao)))))
  (aF (bT (tT (aC eqP (aC gR (aj 3) (aeO 2)) (aeO 0)) aW)
  (bB (bQ (aa (aj 6) (aa (aj 5) (aa (aj 4) ao)))))
  bM)
  (bB (bQ (aa (aj 6) (aa (aj 4) (aa (aj 5) ao))))))))))))
def nW:GF:=cN 2 (bB (az (cC 40) (aa (aj 0) (aa (aC aY (aC aY (aeO 1) (az aQ (aa (aj 0) (aa (aeO 3) ao)))) (aC jJ (aG (aj 0) (aeO 4)) (aC Ce (az aQ (aa (aj 0) (aa (aeO 9) ao))) (aeO 8)))) (aa (aj 1) ao)))))
mutual
def dN:Nat->GF
 | 0=>λ_ _=>none
 | n+1=>cN 6 (aF (aM 4 (aP ao))
  (aF (jw (fu (aa (az aQ (aa (aj 0) (aa (aj 3) ao))) ao)) (aJ 5)
  (bT (tT (aC Ga (aG (aj 0) (aeO 2)) (aeO 0)) aW)
  (aF (wN (aj 0) (aeO 2) (aC oK (aG (aj 0) (aeO 2)) (aeO 1)))
  (cY 4 (az (iH n) (aa (aj 0) (aa (aj 1) (aa (aj 2) ao))))))
  bM))
  (jk 4)))
def iH:Nat->GF
 | 0=>λ_ _=>none
 | n+1=>cN 8 (aF (aM 3 (az aQ (aa (aj 0) (aa (aeO 10) ao))))
  (aF (aM 4 (az nW (aa (aj 0) (aa (aj 2) ao))))
  (aF (bT (iy (tT (aC jX (aj 1) (aG (aj 0) (aeO 3))) aW) (tT (aC jX (aj 3) (aeO 3)) aW))
  (aF (aM 5 (az (dN n) (aa (aj 0) (aa (aC aY (aj 1) (aeO 1)) (aa (aj 2) (aa (aeO 4) ao))))))
  (bB (bQ (aa (aeP "if") (aa (aj 4) (aa (aj 5) (aa (az (dN n) (aa (aj 0) (aa (aC aY (aj 1) (aeO 1)) (aa (aj 2) (aa (aeO 4) ao))))) ao)))))))
  bM)
  (aF (bT (iy (tT (aC jX (aj 1) (aG (aj 0) (aeO 3))) aW) (tT (aC jX (aj 3) (aeO 5)) aW))
  (bB (bQ (aa (aeP "while") (aa (aj 4) (aa (az (dN n) (aa (aj 0) (aa (aC aY (aj 1) (aeO 1)) (aa (aj 2) (aa (aeO 4) ao))))) ao)))))
  bM)
  (aF (aM 6 (az cI (aa (aj 0) (aa (aj 2) ao))))
  (aF (bT (tT (aC eqP (aj 3) (aeO 5)) aW)
  (bB (bQ (aa (aeP "put") (aa (aj 6) (aa (az (cC 40) (aa (aj 0) (aa (aeO 2) (aa (aj 2) ao)))) (aa (aj 4) ao))))))
  bM)
  (aF (bT (tT (aC eqP (aj 3) (aeO 6)) aW)
  (bB (bQ (aa (aeP "out") (aa (aj 6) (aa (aj 4) (aa (az cI (aa (aj 0) (aa (aj 2) ao))) ao))))))
  bM)
  (aF (bT (tT (aC eqP (aj 3) (aeO 7)) aW)
  (aF (aM 7 (cT (fu (aa (az aQ (aa (aj 0) (aa (aeO 5) ao))) ao)) 1 [0,2] (aJ 0) bY (az (cC 40) (aa (aj 1) (aa (aeO 2) (aa (aj 2) ao))))))
  (bB (bQ (aa (aeP "call") (aa (aj 6) (aa (az cI (aa (aj 0) (aa (aj 2) ao))) (aa (aj 7) ao)))))))
  bM)
  (bB (bQ (aa (aeP "set") (aa (aj 6) (aa (aj 4) ao)))))))))))))
end
def j9:GF:=cN 2 (aF (bT (tT (aC eqP (az aQ (aa (aj 0) (aa (aeO 3) ao))) (aeO 0)) aW)
 (bB (eC .non))
 bM)
 (bB (az cI (aa (aj 0) (aa (aj 1) ao)))))
def qN:GF:=cN 11 (aF (aM 2 (aP ao))
 (aF (jw (fu (aa (az aQ (aa (aj 0) (aa (aG (aP (aa (aeO 3) (aa (aeO 5) (aa (aeO 13) ao)))) (az aQ (aa (aj 0) (aa (aeO 3) ao)))) ao))) ao)) (aJ 3)
 (cY 2 (bQ (aa (az cI (aa (aj 0) (aa (aj 1) ao))) (aa (eB max2 (aa (aeO 0) (aa (aC oK (az aQ (aa (aj 0) (aa (aeO 13) ao))) (aeO 4)) ao))) (aa (az j9 (aa (aj 0) (aa (aj 1) ao))) ao))))))
 (aF (aM 4 (aP ao))
 (aF (jw (fu (aa (az aQ (aa (aj 0) (aa (aG (aP (aa (aeO 2) (aa (aeO 2) (aa (aeO 7) ao)))) (az aQ (aa (aj 0) (aa (aeO 3) ao)))) ao))) ao)) (aJ 3)
 (aF (aM 5 (az cI (aa (aj 0) (aa (aj 1) ao))))
 (cY 4 (bQ (aa (aj 5) (aa (az cI (aa (aj 0) (aa (aj 1) ao))) (aa (az cI (aa (aj 0) (aa (aj 1) ao))) ao)))))))
 (aF (aM 6 (aP ao))
 (aF (jw (fu (aa (az aQ (aa (aj 0) (aa (aG (aP (aa (aeO 2) (aa (aeO 3) (aa (aeO 7) ao)))) (az aQ (aa (aj 0) (aa (aeO 3) ao)))) ao))) ao)) (aJ 3)
 (aF (aM 7 (az cI (aa (aj 0) (aa (aj 1) ao))))
 (aF (aM 8 (aP ao))
 (aF (jw (fu (aa (az aQ (aa (aj 0) (aa (aeO 5) ao))) ao)) (aJ 9)
 (aF (aM 10 (az cI (aa (aj 0) (aa (aj 1) ao))))
 (cY 8 (bQ (aa (aj 10) (aa (az j9 (aa (aj 0) (aa (aj 1) ao))) ao))))))
 (cY 6 (bQ (aa (aj 7) (aa (az j9 (aa (aj 0) (aa (aj 1) ao))) (aa (aj 8) (aa (az (dN 40) (aa (aj 0) (aa (aeO 0) (aa (aj 1) (aa (aeO 4) ao))))) ao))))))))))
 (bB (bQ (aa (aj 2) (aa (aj 4) (aa (aj 6) (aa (az (dN 40) (aa (aj 0) (aa (aeO 0) (aa (aj 1) (aa (aG (aP (aa (aeO 5) (aa (aeO 9) (aa (aeO 41) ao)))) (az aQ (aa (aj 0) (aa (aeO 3) ao)))) ao))))) ao))))))))))))
def rH:GF:=cN 6 (aF (aM 2 (cT (fu (aa (aC aY (aeO 1) (az aQ (aa (aj 0) (aa (aeO 8) ao)))) ao)) 1 [0,1] (aJ 0) bY (az cI (aa (aj 1) (aa (aj 2) ao)))))
 (aF (aM 3 (aP ao))
 (aF (jw (fu (aa (az aQ (aa (aj 0) (aa (aG (aP (aa (aeO 3) (aa (aeO 9) (aa (aeO 65) ao)))) (az aQ (aa (aj 0) (aa (aeO 3) ao)))) ao))) ao)) (aJ 4)
 (aF (aM 5 (az cI (aa (aj 0) (aa (aj 1) ao))))
 (cY 3 (bQ (aa (aj 5) (aa (az cI (aa (aj 0) (aa (aj 1) ao))) ao))))))
 (bB (bQ (aa (aj 2) (aa (aj 3) (aa (az qN (aa (aj 0) (aa (aj 1) ao))) ao))))))))
def di:GF:=cN 4 (aF (aM 1 (aP ao))
 (aF (aM 2 (aP (aa (aj 0) ao)))
 (aF (mW 200 (zZ (tT (aC gC (aj 2) (aP ao)) aW))
 (aF (aM 3 (Jf 2))
 (bT (tT (aC eqP (aG (aj 3) (aeO 0)) (aeP "num")) aW)
 (cY 1 (eB str1 (aa (aG (aj 3) (aeO 1)) ao)))
 (bT (tT (aC eqP (aG (aj 3) (aeO 0)) (aeP "box")) aW)
 (cY 1 (aG (aj 3) (aeO 1)))
 (bT (tT (aC eqP (aG (aj 3) (aeO 0)) (aeP "@")) aW)
 (aF (aM 1 (aC aY (aj 1) (aP (aa (aeP "@") (aa (aG (aj 3) (aeO 1)) ao)))))
 (cY 2 (aG (aj 3) (aeO 2))))
 (aF (cY 1 (aG (aj 3) (aeO 0)))
 (aM 2 (aC aY (aj 2) (aP (aa (aG (aj 3) (aeO 2)) (aa (aG (aj 3) (aeO 1)) ao)))))))))))
 (jk 1))))
def pQ:GF:=cN 3 (aF (bT (tT (aC eqP (aG (aj 0) (aeO 0)) (aeP "set")) aW)
 (bB (aC aY (aP (aa (aeP "set") (aa (aG (aj 0) (aeO 1)) ao))) (az di (aa (aG (aj 0) (aeO 2)) ao))))
 bM)
 (aF (bT (tT (aC eqP (aG (aj 0) (aeO 0)) (aeP "put")) aW)
 (bB (aC aY (aC aY (aP (aa (aeP "put") (aa (aG (aj 0) (aeO 1)) ao))) (az di (aa (aG (aj 0) (aeO 2)) ao))) (az di (aa (aG (aj 0) (aeO 3)) ao))))
 bM)
 (aF (bT (tT (aC eqP (aG (aj 0) (aeO 0)) (aeP "out")) aW)
 (bB (aC aY (aP (aa (aeP "out") (aa (aG (aj 0) (aeO 1)) (aa (aG (aj 0) (aeO 3)) ao)))) (az di (aa (aG (aj 0) (aeO 2)) ao))))
 bM)
 (aF (aM 1 (aP (aa (aeP "call") (aa (aG (aj 0) (aeO 1)) (aa (aG (aj 0) (aeO 2)) ao)))))
 (aF (jw (gj (aG (aj 0) (aeO 3)) cX) (aJ 2)
 (aM 1 (aC aY (aj 1) (az di (aa (aj 2) ao)))))
 (jk 1))))))
def bZ:Nat->GF
 | 0=>λ_ _=>none
 | n+1=>cN 3 (aF (aM 1 (aP ao))
  (aF (jw (gj (aj 0) cX) (aJ 2)
  (bT (tT (aC eqP (aG (aj 2) (aeO 0)) (aeP "if")) aW)
  (aF (cY 1 (aC aY (aP (aa (aeP "if") ao)) (az di (aa (aG (aj 2) (aeO 1)) ao))))
  (aF (aM 1 (aC aY (aC aY (aj 1) (az (bZ n) (aa (aG (aj 2) (aeO 2)) ao))) (aP (aa (aP (aa (aeP "else") ao)) ao))))
  (aM 1 (aC aY (aC aY (aj 1) (az (bZ n) (aa (aG (aj 2) (aeO 3)) ao))) (aP (aa (aP (aa (aeP "end") ao)) ao))))))
  (bT (tT (aC eqP (aG (aj 2) (aeO 0)) (aeP "while")) aW)
  (aF (cY 1 (aC aY (aP (aa (aeP "while") ao)) (az di (aa (aG (aj 2) (aeO 1)) ao))))
  (aM 1 (aC aY (aC aY (aj 1) (az (bZ n) (aa (aG (aj 2) (aeO 2)) ao))) (aP (aa (aP (aa (aeP "end") ao)) ao)))))
  (cY 1 (az pQ (aa (aj 2) ao))))))
  (jk 1)))
def eN:GF:=cN 1 (aF (bT (tT (aC qy (aj 0) (eC .non)) aW)
 (bB (aeP "?"))
 bM)
 (jk 0))
def nJ:GF:=cN 13 (aF (Rz (aj 0) (eX 3 (bh (aJ 1) (bh (aJ 2) (bh (aJ 3) eV)))))
 (aF (aM 4 (aC aY (aP (aa (aC aY (aP (aa (aeP "ranks") ao)) (aj 1)) ao)) (cT (gj (aj 2) cX) 2 [] (eX 2 (bh (aJ 0) (bh (aJ 1) eV))) bY (aP (aa (aeP "under") (aa (aj 0) (aa (aj 1) ao)))))))
 (aF (aM 4 (aC aY (aj 4) (cT (gj (aG (aj 3) (aeO 1)) cX) 3 [] (eX 3 (bh (aJ 0) (bh (aJ 1) (bh (aJ 2) eV)))) bY (aP (aa (aeP "may") (aa (aj 0) (aa (aj 1) (aa (aj 2) ao))))))))
 (aF (jw (gj (aG (aj 3) (aeO 0)) cX) (eX 3 (bh (aJ 5) (bh (aJ 6) (bh (aJ 7) eV))))
 (bT (tT (aC eqP (aj 6) (aeO 0)) aW)
 (cY 4 (aP (aa (aeP "box") (aa (aj 5) (aa (az eN (aa (aj 7) ao)) ao)))))
 (cY 4 (aP (aa (aeP "list") (aa (aj 5) (aa (aG (aeP "012345678") (aj 6)) (aa (az eN (aa (aj 7) ao)) ao))))))))
 (aF (jw (gj (aG (aj 3) (aeO 2)) cX) (eX 4 (bh (aJ 5) (bh (aJ 7) (bh (aJ 8) (bh (aJ 9) eV)))))
 (aF (aM 10 (aP (aa (aeP "def") (aa (aj 5) (aa (az eN (aa (aj 7) ao)) ao)))))
 (aF (jw (gj (aj 8) cX) (eX 2 (bh (aJ 11) (bh (aJ 12) eV)))
 (aM 10 (aC aY (aj 10) (aP (aa (aj 11) (aa (az eN (aa (aj 12) ao)) ao))))))
 (aM 4 (aC aY (aC aY (aC aY (aj 4) (aP (aa (aj 10) ao))) (az (bZ 40) (aa (aj 9) ao))) (aP (aa (aP (aa (aeP "end") ao)) ao)))))))
 (bB (aC aY (aj 4) (az (bZ 40) (aa (aG (aj 3) (aeO 3)) ao)))))))))
def oE:GF:=cN 1 (bB (mQ (aeP "\n") (aa (cT (gj (aj 0) cX) 1 [] (aJ 0) bY (mQ (aeP " ") (aa (aj 0) ao))) ao)))
def cg:Nat->GF
 | 0=>λ_ _=>none
 | n+1=>cN 4 (aF (bT (tT (Ji ["list", "tuple"] (aj 1)) dq)
  (aF (bT (dR (dH (tT (Ji ["list", "tuple"] (aj 0)) dq)) (tT (aC gC (vL "list" (aj 0)) (vL "list" (aj 1))) aW))
  (bB (eC (.bl false)))
  bM)
  (aF (bT (tT (aC gC (eB du (aa (aj 0) ao)) (eB du (aa (aj 1) ao))) aW)
  (bB (eC (.bl false)))
  bM)
  (aF (jw (tY (aj 0) (aj 1)) (eX 2 (bh (aJ 2) (bh (aJ 3) eV)))
  (bT (dH (tT (az (cg n) (aa (aj 2) (aa (aj 3) ao))) dq))
  (bB (eC (.bl false)))
  bM))
  (bB (eC (.bl true))))))
  bM)
  (aF (bT (tT (aC qy (aj 1) (eC .non)) aW)
  (bB (aC qy (aj 0) (eC .non)))
  bM)
  (aF (bT (tT (vL "int" (aj 1)) dq)
  (bB (rP (vL "int" (aj 0)) (rP (Ih (vL "bool" (aj 0))) (aC eqP (aj 0) (aj 1)))))
  bM)
  (bB (rP (vL "str" (aj 0)) (aC eqP (aj 0) (aj 1)))))))
def nM:GF:=cN 6 (aF (kO (aG (aj 0) (aeO 0)) (aeP "zz"))
 (aF (kO (aG (aj 0) (aeO 1)) (bQ (aa (aeP "a") (aa (aeP "b") ao))))
 (aF (kO (aG (aG (aj 0) (aeO 2)) (aeO 0)) (bQ (aa (aeP "zz") (aa (aeO 0) (aa (eC .non) ao)))))
 (aF (kO (aG (aG (aj 0) (aeO 2)) (aeO 1)) (bQ (aa (aeP "a") (aa (aeP "b") (aa (aeP "c") ao)))))
 (aF (wX (sI (aG (aG (aj 0) (aeO 2)) (aeO 2))) (eX 4 (bh (aJ 1) (bh (aJ 2) (bh (aJ 3) (bh (aJ 4) eV)))))
 (aF (kO (aj 3) (bQ (aa (aeP "zz") (aa (eC .non) ao))))
 (kO (aj 4) (bQ (aa (aeP "set") (aa (aeP "zz") (aa (bQ (aa (aeP "num") (aa (aeO 0) ao))) ao)))))))
 (aF (wX (sI (aG (aG (aj 0) (aeO 2)) (aeO 3))) (aJ 5)
 (bT (tT (aC oY (aG (aj 5) (aeO 0)) (bQ (aa (aeP "if") (aa (aeP "while") ao)))) aW)
 (kO (aG (aj 5) (aeO 2)) (bQ (aa (aeP "set") (aa (aeP "zz") (aa (bQ (aa (aeP "num") (aa (aeO 0) ao))) ao)))))
 bM))
 (aF (kO (aG (aG (aj 0) (aeO 2)) (aeO 2)) (bQ (aa (aeP "zz") (aa (eC .non) (aa (aP ao) (aa (aP ao) ao))))))
 (kO (aG (aG (aj 0) (aeO 2)) (aeO 3)) (bQ (aa (aeP "set") (aa (aeP "zz") (aa (bQ (aa (aeP "num") (aa (aeO 0) ao))) ao))))))))))))
def Hn:GF:=cN 6 (aF (aM 1 (Cg (aa (aj 0) (aa (aeO 1) (aa (aG (aP (aa (aeO 8) (aa (aeO 12) (aa (aeO 16) (aa (aeO 40) ao))))) (aC gR (az j8 (aa (aj 0) (aa (aeO 0) ao))) (aeO 4))) (aa (aeO 4) (aa (aeO 3) ao)))))))
 (aF (aM 2 (az rH (aa (aj 1) (aa (az rG (aa (aj 1) ao)) ao))))
 (aF (aM 3 (az oE (aa (az nJ (aa (aj 2) ao)) ao)))
 (aF (aM 4 (az nU (aa (aj 3) ao)))
 (aF (bT (dH (tT (jY (cg 40) (aa (aj 4) (aa (aj 2) ao))) dq))
 (bB (eC (.bl false)))
 bM)
 (aF (aM 5 (az nU (aa (aj 3) ao)))
 (aF (jG (az nM (aa (aj 4) ao)))
 (aF (bT (tT (aC gC (jY vU (aa (aG (aj 5) (aeO 0)) (aa (aG (aj 5) (aeO 1)) (aa (aG (aj 5) (aeO 2)) ao)))) (aj 3)) aW)
 (bB (eC (.bl false)))
 bM)
 (bB (rP (jY (cg 40) (aa (aj 5) (aa (aj 2) ao))) (jY (cg 40) (aa (az nU (aa (aj 3) ao)) (aa (aj 2) ao)))))))))))))
section
variable {P:Program} {w:World} {K:FG} {mg:Str->Option Value} {base:Heap}
theorem Qs (h:∃t,X.mg "LETTERS" = some (.str "abcdefghijklmnopqrstuvwxyz" t)) (hg:Gl X "LETTERS"):PE X (.Name "LETTERS" pos) (tP X.K (eC yZ)):=by obtain⟨t,h⟩:=h;exact qc (zP (v:=.str "abcdefghijklmnopqrstuvwxyz") hg h ⟨_,rfl⟩) mz
theorem Qt (h:∃t,X.mg "FIGURES" = some (.str "0123456789" t)) (hg:Gl X "FIGURES"):PE X (.Name "FIGURES" pos) (tP X.K (eC uM)):=by obtain⟨t,h⟩:=h;exact qc (zP (v:=.str "0123456789") hg h ⟨_,rfl⟩) mz
abbrev BL:List Str:=["ValueError", "all", "bool", "int", "isinstance", "len", "list", "max", "min", "range", "reversed", "str", "tuple", "zip"]
section
variable {mg:Str->Option Value} (B:Ly mg BL)
include B
theorem X8:mg "ValueError" = none:=B _ (.head _)
theorem Ho:mg "all" = none:=B _ (mI 1 rfl)
theorem Yb:mg "bool" = none:=B _ (mI 2 rfl)
theorem Hq:mg "int" = none:=B _ (mI 3 rfl)
theorem iT:mg "isinstance" = none:=B _ (mI 4 rfl)
theorem jq:mg "len" = none:=B _ (mI 5 rfl)
theorem uq:mg "list" = none:=B _ (mI 6 rfl)
theorem Ze:mg "max" = none:=B _ (mI 7 rfl)
theorem Zf:mg "min" = none:=B _ (mI 8 rfl)
theorem jQ:mg "range" = none:=B _ (mI 9 rfl)
theorem Cz:mg "reversed" = none:=B _ (mI 10 rfl)
theorem Hr:mg "str" = none:=B _ (mI 11 rfl)
theorem Ed:mg "tuple" = none:=B _ (mI 12 rfl)
theorem Ud:mg "zip" = none:=B _ (.tail _ (mI 12 rfl))
end
section
variable (P:Program) (w:World) (K:FG) (mg:Str->Option Value) (base:Heap) (c:Addr)
abbrev pR:=bG P w K mg base "is_name" 1 ["text"] (bU K 1 gA)
abbrev zc:=RX P w K mg base c 1 ["self", "text"] (bU K 2 gO)
abbrev qi:=Cq P w K mg base c "take_last" 1 ["self"] (bU K 1 iR)
abbrev gH:=Cq P w K mg base c "go_on" 1 ["self"] (bU K 1 fB)
abbrev gJ:=Cq P w K mg base c "words" 1 ["self"] (bU K 1 cO)
abbrev lE:=bG P w K mg base "all_names" 2 ["words"] (bU K 1 dZ)
abbrev xj:=bG P w K mg base "is_rank" 2 ["word"] (bU K 1 lK)
abbrev ur:=bG P w K mg base "rank_told" 1 ["word"] (bU K 1 fU)
abbrev zf:=bG P w K mg base "head_told" 3 ["words"] (bU K 1 iC)
abbrev qO:=Cq P w K mg base c "take" 2 ["self", "word"] (bU K 2 lZ)
abbrev zg:=bG P w K mg base "is_number" 1 ["word"] (bU K 1 iD)
abbrev zj:=bG P w K mg base "part_told" 2 ["word", "parts"] (bU K 2 fC)
abbrev qj:=bG P w K mg base "expressions_told" 3 ["words"] (bU K 1 j0)
abbrev Gm:=bG P w K mg base "row_of" 1 ["kind", "names", "some"] (bU K 3 Bo)
abbrev vB:=bG P w K mg base "row_told" 4 ["words"] (bU K 1 iG)
abbrev GJ:=bG P w K mg base "read_block" 44 ["lines", "closing"] (bU K 2 (cQ 40))
abbrev JB:=bG P w K mg base "read_rows" 44 ["lines"] (bU K 1 (eH 40))
abbrev YF:=bG P w K mg base "read_row" 44 ["lines"] (bU K 1 (fW 40))
abbrev sy:=bG P w K mg base "read_functions" 45 ["lines"] (bU K 1 ig)
abbrev Ar:=bG P w K mg base "box_told" 3 ["words"] (bU K 1 lM)
abbrev xZ:=bG P w K mg base "grant_told" 3 ["words"] (bU K 1 jC)
abbrev zm:=bG P w K mg base "pair_told" 3 ["words"] (bU K 1 j7)
abbrev yc:=bG P w K mg base "read_heads" 4 ["lines", "told_by"] (bU K 2 dY)
abbrev yd:=bG P w K mg base "read_ranks" 3 ["lines"] (bU K 1 lD)
abbrev Ml:=bG P w K mg base "read" 46 ["text"] (bU K 1 nU)
abbrev rZ:=bG P w K mg base "rank_shown" 1 ["rank"] (bU K 1 jD)
abbrev zp:=bG P w K mg base "box_shown" 2 ["box"] (bU K 1 gD)
abbrev yp:=bG P w K mg base "expression_shown" 40 ["expression"] (bU K 1 (bN 40))
abbrev ut:=bG P w K mg base "row_shown" 41 ["row"] (bU K 1 rF)
abbrev ye:=bG P w K mg base "rows_shown" 81 ["rows"] (bU K 1 (cR 40))
abbrev sE:=bG P w K mg base "function_shown" 82 ["function"] (bU K 1 lN)
abbrev JC:=bG P w K mg base "shown" 83 ["names", "pairs", "program"] (bU K 3 vU)
abbrev uv:=bG P w K mg base "_law_cell" 1 ["_law_script", "_law_k"] (bU K 2 j8)
abbrev eG:=bG P w K mg base "_law_next" 2 ["_law_pen", "_law_most"] (bU K 2 aQ)
abbrev zq:=bG P w K mg base "_law_pool" 3 ["_law_pen"] (bU K 1 rG)
abbrev iU:=bG P w K mg base "_law_pick" 3 ["_law_pen", "_law_pool_here"] (bU K 2 cI)
abbrev qP:=bG P w K mg base "_law_number" 3 ["_law_pen"] (bU K 1 rY)
abbrev nu:=bG P w K mg base "_law_expression" 43 ["_law_pen", "_law_deep", "_law_pool_here"] (bU K 3 (cC 40))
abbrev uw:=bG P w K mg base "_law_part" 44 ["_law_pen", "_law_pool_here"] (bU K 2 nW)
abbrev JD:=bG P w K mg base "_law_rows" 84 ["_law_pen", "_law_deep", "_law_pool_here", "_law_most"] (bU K 4 (dN 40))
abbrev YG:=bG P w K mg base "_law_row" 84 ["_law_pen", "_law_deep", "_law_pool_here"] (bU K 3 (iH 40))
abbrev zr:=bG P w K mg base "_law_rank" 4 ["_law_pen", "_law_pool_here"] (bU K 2 j9)
abbrev uN:=bG P w K mg base "_law_program" 85 ["_law_pen", "_law_pool_here"] (bU K 2 qN)
abbrev zu:=bG P w K mg base "_law_told" 86 ["_law_pen", "_law_pool_here"] (bU K 2 rH)
abbrev oF:=bG P w K mg base "_law_words" 1 ["_law_expression_here"] (bU K 1 di)
abbrev su:=bG P w K mg base "_law_plain" 2 ["_law_row_here"] (bU K 1 pQ)
abbrev GK:=bG P w K mg base "_law_lines" 42 ["_law_rows_here"] (bU K 1 (bZ 40))
abbrev zx:=bG P w K mg base "_law_mark" 1 ["_law_rank_here"] (bU K 1 eN)
abbrev uO:=bG P w K mg base "_law_written" 43 ["_law_told_here"] (bU K 1 nJ)
abbrev vV:=bG P w K mg base "_law_joined" 1 ["_law_lines_here"] (bU K 1 oE)
abbrev JF:=bG P w K mg base "_law_same" 40 ["_law_got", "_law_due"] (bU K 2 (cg 40))
abbrev uP:=bG P w K mg base "_law_spoiled" 1 ["_law_got"] (bU K 1 nM)
end
variable (B:Ly mg BL) (acI:∃t,mg "LETTERS" = some (.str "abcdefghijklmnopqrstuvwxyz" t)) (acJ:∃t,mg "FIGURES" = some (.str "0123456789" t)) {acS:Addr} (acG:wV K mg "Lines" acS) (acM:∀f∈(["lines", "at"]:List Str),lR K acS f) (acL:Qn K mg "SIZES" m9) (acK:Qn K mg "SIGNS" eF) (acE:Gk K w mg "ROW_NAMES" dW) (acB:Gk K w mg "ROW_EXPRESSIONS" fO) (acF:vQ K mg "box_told") (acC:vQ K mg "grant_told") (acD:vQ K mg "pair_told")
include B acI acJ acG acM acL acK acE acB acF acC acD
theorem Od (F:bV K mg "is_name" uL ["text"]):pR P w K mg base:=
 F.ok Ob λf cdv A outer s H E hr=>⟨_,λ_ _=>rfl,(aD (aX (Ii (Xy Hc Hc Cd Cd bu (qL (jq B) (qw 0)) bu) (DG (tR (mX rfl) Ci (fX (mX rfl) rfl (Ho B) (by kernel_rfl) (ak (mO ["sign"] [] [] rfl (qg (aN uL)) (gk (qw 0)) (λ_ _ _ _=>(dU 0 (show (["sign"]:List Str).Nodup from by decide +kernel))) bH (λ_ _ _ _=>fG) (λ_ _ _ _=>(yN (yP hr) vK (qw 0) (Qs acI rfl) (by with_unfolding_all rfl)))) aq)))))))⟩
theorem zy (F:Gi K acS "__init__" "Lines.__init__" kY ["self", "text"]):Cq P w K mg base acS "__init__" 1 ["self", "text"] (bU K 2 gO):=
 F.ok yX λf cdv A outer s H E hr=>⟨_,λ_ _=>rfl,(aA (DY acG (acM _ (.head _)) (qw 0) (mO ["line"] [] [] rfl (qg (aN kY)) (gk (Ql (jF PySem.F.plainAttrs_str PySem.F.slot_str_split PySem.F.type_str_split HX (qw 1) (ak bJ aq)))) (λ_ _ _ _=>(dU 0 (show (["line"]:List Str).Nodup from by decide +kernel))) bH (λ_ _ _ _=>fG) (λ_ _ _ _=>(Ql (jF PySem.F.plainAttrs_str PySem.F.slot_str_split PySem.F.type_str_split HX (qw 0) (ak bJ aq))))))
  (aD (DY acG (acM _ (mI 1 rfl)) (qw 0) bu)))⟩
theorem yq (F:Gi K acS "take_last" "Lines.take_last" nj ["self"]):qi P w K mg base acS:=
 F.ok yo λf cdv A outer s H E hr=>⟨_,λ_ _=>rfl,(aD (bL (bD n8 lV (Bk acG (acM _ (mI 1 rfl)) (qw 0)) (qL (jq B) (Bk acG (acM _ (.head _)) (qw 0))) (bf _))
  (aD DW)
  bj))⟩
theorem CG (F:Gi K acS "go_on" "Lines.go_on" qK ["self"]):gH P w K mg base acS:=
 F.ok Cy λf cdv A outer s H E hr=>⟨_,λ_ _=>rfl,(aD (DY acG (acM _ (mI 1 rfl)) (qw 0) (bW bz bA (Bk acG (acM _ (mI 1 rfl)) (qw 0)) bu)))⟩
theorem CJ (F:Gi K acS "words" "Lines.words" qJ ["self"]):gJ P w K mg base acS:=
 F.ok Cw λf cdv A outer s H E hr=>⟨_,λ_ _=>rfl,(aA (bL (bD n8 lV (Bk acG (acM _ (mI 1 rfl)) (qw 0)) (qL (jq B) (Bk acG (acM _ (.head _)) (qw 0))) (bf _))
  (aD (aX (PE.imp (lH yC rfl (uq B) (by kernel_rfl) (ak (jK (Bk acG (acM _ (.head _)) (qw 0)) (Bk acG (acM _ (mI 1 rfl)) (qw 0)) (λ_ _=>rfl)) aq)) (rK Ls))))
  bj)
  (aD (aX (bR (ak bJ aq)))))⟩
theorem JG (F:bV K mg "all_names" rm ["words"]) (acW:pR P w K mg base):lE P w K mg base:=
 F.ok Jq λf cdv A outer s H E hr=>⟨_,λ_ _=>rfl,(aD (aX (tR (mX rfl) Ci (fX (mX rfl) rfl (Ho B) (by kernel_rfl) (ak (mO ["word"] [] [] rfl (qg (aN rm)) (gk (qw 0)) (λ_ _ _ _=>(dU 0 (show (["word"]:List Str).Nodup from by decide +kernel))) bH (λ_ _ _ _=>fG) (λ_ _ _ _=>(aO acW (hr.mono (by omega)) rfl (ak (qw 0) aq) (au aK)))) aq)))))⟩
theorem Oe (F:bV K mg "is_rank" yV ["word"]) (acW:pR P w K mg base):xj P w K mg base:=
 F.ok Oc λf cdv A outer s H E hr=>⟨_,λ_ _=>rfl,(aD (aX (Zu (yN (cA hr) cB (qw 0) bJ (bf _)) (DG (aO acW (hr.mono (by omega)) rfl (ak (qw 0) aq) (au aK))))))⟩
theorem JH (F:bV K mg "rank_told" u9 ["word"]):ur P w K mg base:=
 F.ok Jr λf cdv A outer s H E hr=>⟨_,λ_ _=>rfl,(aD (aX (Zv (bD (cA hr) cB (qw 0) bJ (bf _)) km (qw 0))))⟩
theorem JK (F:bV K mg "head_told" nT ["words"]) (acU:lE P w K mg base) (ada:xj P w K mg base) (acZ:ur P w K mg base):zf P w K mg base:=
 F.ok pO λf cdv A outer s H E hr=>⟨_,λ_ _=>rfl,(aA (cP 1 pO.nd (LQ (qw 0) (gM bu) mC (gM bu)))
  (aA (cP 2 pO.nd (LQ (qw 0) (gM bu) mC (gM bu)))
  (aA (bL (PW.pt (jj (bD (iK hr) iM (qI (qw 0)) bJ (bf _)) (jj (jW (gF (qw 1) (λ_=>rfl))) (lu (bD (iK hr) iM (qL (jq B) (qw 1)) (qL (jq B) (qw 2)) (bf _))))))
  (aD (aX km))
  bj)
  (aA (bL (PW.pt (jj (jW (gF (aO acU (hr.mono (by omega)) rfl (ak (qw 1) aq) (au aK)) (λ_=>rfl))) (lu (jW (gF (tR (mX rfl) Ci (fX (mX rfl) rfl (Ho B) (by kernel_rfl) (ak (mO ["word"] [] [] rfl (qg (aN nT)) (gk (qw 2)) (λ_ _ _ _=>(dU 0 (show (["word"]:List Str).Nodup from by decide +kernel))) bH (λ_ _ _ _=>fG) (λ_ _ _ _=>(aO ada (hr.mono (by omega)) rfl (ak (qw 0) aq) (au aK)))) aq))) (λ_=>rfl))))))
  (aD (aX km))
  bj)
  (aA (zW ["name", "word"] [] [] pO.nd rfl rfl rfl (qg (aN nT)) (Mh rfl (Ud B) (ak (mG (qw 1) (gM bu) mC) (ak (mG (qw 2) (gM bu) mC) aq))) (λ_ _ _ _=>(lW rfl (cF (dU 0 (show (["name", "word"]:List Str).Nodup from by decide +kernel)) (cF (dU 1 (show (["name", "word"]:List Str).Nodup from by decide +kernel)) jM)))) (lX (cV bH (cV bH lU))) (λ_ _ _ _=>fG) (λ_ _ _ _=>(dw (ak (qw 0) (ak (aO acZ (hr.mono (by omega)) rfl (ak (qw 1) aq) (au aK)) aq)))))
  (aD (Mf (aX (dw (ak (qI (qw 1)) (ak (aO acZ (hr.mono (by omega)) rfl (ak (qI (qw 2)) aq) (au aK)) (ak (qw 3) aq))))))))))))⟩
theorem Ef (F:Gi K acS "take" "Lines.take" rT ["self", "word"]) (acP:gH P w K mg base acS) (acO:gJ P w K mg base acS):qO P w K mg base acS:=
 F.ok Ec λf cdv A outer s H E hr=>⟨_,λ_ _=>rfl,(aA (bL (bD (iK hr) iM (lB acG acO (hr.mono (by omega)) (qw 0) rfl) (bR (ak (qw 1) aq)) (bf _))
  (aD DW)
  bj)
  (aD (oX (lB acG acP (hr.mono (by omega)) (qw 0) rfl))))⟩
theorem JL (F:bV K mg "is_number" rA ["word"]):zg P w K mg base:=
 F.ok Jt λf cdv A outer s H E hr=>⟨_,λ_ _=>rfl,(aA (bL (PW.pt (jj (jW (Vn Hc Hc Cd Cd bu (qL (jq B) (qw 0)) bu)) (lu (jW (gF (tR (mX rfl) Ci (fX (mX rfl) rfl (Ho B) (by kernel_rfl) (ak (mO ["sign"] [] [] rfl (qg (aN rA)) (gk (qw 0)) (λ_ _ _ _=>(dU 0 (show (["sign"]:List Str).Nodup from by decide +kernel))) bH (λ_ _ _ _=>fG) (λ_ _ _ _=>(yN (yP hr) vK (qw 0) (Qt acJ rfl) (by with_unfolding_all rfl)))) aq))) (λ_=>rfl))))))
  (aD (aX (qc wz fK)))
  bj)
  (aD (aX (Zu (yN (cA hr) cB (qw 0) bJ (bf _)) (DG (yN (iK hr) iM (qI (qw 0)) bJ (bf _)))))))⟩
theorem JM (F:bV K mg "part_told" vf ["word", "parts"]) (acW:pR P w K mg base) (adD:zg P w K mg base):zj P w K mg base:=
 F.ok Ju λf cdv A outer s H E hr=>⟨_,λ_ _=>rfl,(aA (bL (gF (aO adD (hr.mono (by omega)) rfl (ak (qw 0) aq) (au aK)) (λ_=>rfl))
  (aD (aX (dw (ak bJ (ak (PE.imp (lH xU rfl (Hq B) (by kernel_rfl) (ak (qw 0) aq)) (rK Mi)) aq)))))
  bj)
  (aA (bL (gF (aO acW (hr.mono (by omega)) rfl (ak (qw 0) aq) (au aK)) (λ_=>rfl))
  (aD (aX (dw (ak bJ (ak (qw 0) aq)))))
  bj)
  (aA (bL (bD n8 lV (aas (fX Aw rfl (jq B) PySem.boot_len (ak (qw 1) aq))) bu (bf _))
  (aD (aX km))
  bj)
  (aA (bL (PW.pt (tL (bD (cA hr) cB (qw 0) bJ (bf _)) (vJ (bD (cA hr) cB (qI (jK (qw 1) (DR bu) (λ_ _=>rfl))) bJ (bf _)))))
  (aD (aX (dw (ak bJ (ak (qI (jK (qw 1) (DR bu) (λ_ _=>rfl))) (ak (jK (qw 1) (DR bu) (λ_ _=>rfl)) aq))))))
  bj)
  (aA (bL (bD (yP hr) vK (qw 0) (X7 acK rfl) (by with_unfolding_all rfl))
  (aD (aX (dw (ak (qw 0) (ak (jK (qw 1) (DR bu) (λ_ _=>rfl)) (ak (jK (qw 1) (DR bu) (λ_ _=>rfl)) aq))))))
  bj)
  (aD (aX km)))))))⟩
theorem yr (F:bV K mg "expressions_told" ni ["words"]) (adE:zj P w K mg base):qj P w K mg base:=
 F.ok gZ λf cdv A outer s H E hr=>⟨_,λ_ _=>rfl,(aA (cP 1 gZ.nd (bR aq))
  (aA (gY aaY rfl (XQ rfl (Cz B) (ak (qw 0) aq)) (dU 2 gZ.nd) bH
  (aA (Vr (Mf (cP 3 gZ.nd (aO adE (hr.mono (by omega)) rfl (ak (qw 2) (ak (qw 1) aq)) (au (au aK))))))
  (aA (bL (bD tE qz (qw 3) km (bf _))
  (aD (aX km))
  bj)
  (aA (bL (PW.pt (jj (bD (cA hr) cB (qw 2) bJ (bf _)) (lu (bD (yP hr) vK (qw 2) (X7 acK rfl) (by with_unfolding_all rfl)))))
  (aD (cP 1 gZ.nd (Y7 (mG (qw 1) mC (gM (DR bu))))))
  bj)
  (aD (j6 (pv 1) (qw 3)))))))
  (aD (aX (Zd (K1 rfl rfl (uq B) rfl (Cz B) (ak (qw 1) aq)))))))⟩
theorem Qu (F:bV K mg "row_of" Bl ["kind", "names", "some"]):Gm P w K mg base:=
 F.ok Qq λf cdv A outer s H E hr=>⟨_,λ_ _=>rfl,(aA (bL (bD (cA hr) cB (qw 0) bJ (bf _))
  (aD (aX (dw (ak (qw 0) (ak (qI (qw 1)) (ak (qI (qw 2)) (ak (qI (qw 1)) aq)))))))
  bj)
  (aA (bL (bD (cA hr) cB (qw 0) bJ (bf _))
  (aD (aX (dw (ak (qw 0) (ak (qI (qw 1)) (ak (qI (qw 1)) (ak (qw 2) aq)))))))
  bj)
  (aD (aX (bW bz bA (dw (ak (qw 0) aq)) (X3 (lH Gz rfl (Ed B) (by kernel_rfl) (ak (bW bz bA (qw 1) (qw 2)) aq))))))))⟩
theorem K5 (F:bV K mg "row_told" xf ["words"]) (acU:lE P w K mg base) (adb:qj P w K mg base) (adX:Gm P w K mg base):vB P w K mg base:=
 F.ok rE λf cdv A outer s H E hr=>⟨_,λ_ _=>rfl,(aA (bL (X5 acE rfl (qI (qw 0)) (by with_unfolding_all rfl))
  (aD (aX km))
  bj)
  (aA (cP 1 rE.nd (bW bz bA bu (X6 acE rfl (qI (qw 0)) (λ_ _=>rfl))))
  (aA (cP 2 rE.nd (mG (qw 0) (gM bu) (gM (qw 1))))
  (aA (cP 3 rE.nd (aO adb (hr.mono (by omega)) rfl (ak (mG (qw 0) (gM (qw 1)) mC) aq) (au aK)))
  (aA (bL (PW.pt (jj (bD n8 lV (qL (jq B) (qw 0)) (qw 1) (bf _)) (jj (jW (gF (aO acU (hr.mono (by omega)) rfl (ak (qw 2) aq) (au aK)) (λ_=>rfl))) (lu (bD tE qz (qw 3) km (bf _))))))
  (aD (aX km))
  bj)
  (aA (bL (PW.pt (tL (bD (iK hr) iM (qI (qw 0)) bJ (bf _)) (vJ (bD (iK hr) iM (qL (jq B) (qw 3)) (X6 acB rfl (qI (qw 0)) (λ_ _=>rfl)) (bf _)))))
  (aD (aX km))
  bj)
  (aD (aX (aO adX (hr.mono (by omega)) rfl (ak (qI (qw 0)) (ak (qw 2) (ak (qw 3) aq))) (au (au (au aK))))))))))))⟩
theorem GP (F:bV K mg "read_block" pJ ["lines", "closing"]) (ac2:qO P w K mg base acS) (adk:bG P w K mg base "read_rows" (4+n) ["lines"] (bU K 1 (eH n))):bG P w K mg base "read_block" (4+n+1) ["lines", "closing"] (bU K 2 (cQ (n+1))):=
 F.ok xY λf cdv A outer s H E hr=>⟨_,λ_ _=>rfl,(aA (cP 2 xY.nd (wU (aO adk (hr.mono (by omega)) rfl (ak (qw 0) aq) (au aK))))
  (aA (oX (Za acG ac2 (hr.mono (by omega)) (qw 0) (ak (qw 1) aq) (Qf (au aK))))
  (aD (iV (pv 2)))))⟩
theorem JN (F:bV K mg "read_rows" qZ ["lines"]) (adL:bG P w K mg base "read_row" (4+n) ["lines"] (bU K 1 (fW n))):bG P w K mg base "read_rows" (4+n+1) ["lines"] (bU K 1 (eH (n+1))):=
 F.ok pN λf cdv A outer s H E hr=>⟨_,λ_ _=>rfl,(aA (cP 1 pN.nd (bR aq))
  (aA (cP 2 pN.nd (aO adL (hr.mono (by omega)) rfl (ak (qw 0) aq) (au aK)))
  (aA (wD 200 aaY (bD Ds Be (qw 2) km (bf _))
  (aA (j6 (pv 1) (qw 2))
  (aD (cP 2 pN.nd (aO adL (hr.mono (by omega)) rfl (ak (qw 0) aq) (au aK))))))
  (aD (iV (pv 1))))))⟩
theorem K6 (F:bV K mg "read_row" sJ ["lines"]) (acP:gH P w K mg base acS) (acO:gJ P w K mg base acS) (ac1:bG P w K mg base "read_block" (4+n) ["lines", "closing"] (bU K 2 (cQ n))) (adg:vB P w K mg base):bG P w K mg base "read_row" (4+n+1) ["lines"] (bU K 1 (fW (n+1))):=
 F.ok vA λf cdv A outer s H E hr=>⟨_,λ_ _=>rfl,(aA (cP 1 vA.nd (aO adg (hr.mono (by omega)) rfl (ak (lB acG acO (hr.mono (by omega)) (qw 0) rfl) aq) (au aK)))
  (aA (bL (bD tE qz (qw 1) km (bf _))
  (aD (aX km))
  bj)
  (aA (oX (lB acG acP (hr.mono (by omega)) (qw 0) rfl))
  (aA (bL (bD (cA hr) cB (qI (qw 1)) bJ (bf _))
  (aA (cP 2 vA.nd (aO ac1 (hr.mono (by omega)) rfl (ak (qw 0) (ak bJ aq)) (au (au aK))))
  (aD (aX (bW bz bA (qw 1) (dw (ak (qw 2) (ak (aO ac1 (hr.mono (by omega)) rfl (ak (qw 0) (ak bJ aq)) (au (au aK))) aq)))))))
  bj)
  (aA (bL (bD (cA hr) cB (qI (qw 1)) bJ (bf _))
  (aD (aX (bW bz bA (qw 1) (dw (ak (aO ac1 (hr.mono (by omega)) rfl (ak (qw 0) (ak bJ aq)) (au (au aK))) aq)))))
  bj)
  (aD (iV (pv 1))))))))⟩
theorem vW (ady:bV K mg "read_block" pJ ["lines", "closing"]) (adF:bV K mg "read_rows" qZ ["lines"]) (adM:bV K mg "read_row" sJ ["lines"]) (acP:gH P w K mg base acS) (ac2:qO P w K mg base acS) (acO:gJ P w K mg base acS) (adg:vB P w K mg base):∀n:Nat,bG P w K mg base "read_block" (4+n) ["lines", "closing"] (bU K 2 (cQ n))/\bG P w K mg base "read_rows" (4+n) ["lines"] (bU K 1 (eH n))/\bG P w K mg base "read_row" (4+n) ["lines"] (bU K 1 (fW n))
 | 0=>⟨mF ady,mF adF,mF adM⟩
 | n+1=>by have ih:=vW ady adF adM acP ac2 acO adg n;exact⟨GP B acI acJ acG acM acL acK acE acB acF acC acD ady ac2 ih.2.1,JN B acI acJ acG acM acL acK acE acB acF acC acD adF ih.2.2,K6 B acI acJ acG acM acL acK acE acB acF acC acD adM acP acO ih.1 adg⟩
theorem Al (F:bV K mg "read_functions" oU ["lines"]) (acP:gH P w K mg base acS) (acO:gJ P w K mg base acS) (adu:zf P w K mg base) (ac1:GJ P w K mg base):sy P w K mg base:=
 F.ok kZ λf cdv A outer s H E hr=>⟨_,λ_ _=>rfl,(aA (cP 1 kZ.nd (bR aq))
  (aA (cP 2 kZ.nd (aO adu (hr.mono (by omega)) rfl (ak (lB acG acO (hr.mono (by omega)) (qw 0) rfl) aq) (au aK)))
  (aA (wD 200 aaY (bD Ds Be (qw 2) km (bf _))
  (aA (oX (lB acG acP (hr.mono (by omega)) (qw 0) rfl))
  (aA (j6 (pv 1) (bW bz bA (qw 2) (dw (ak (aO ac1 (hr.mono (by omega)) rfl (ak (qw 0) (ak bJ aq)) (au (au aK))) aq))))
  (aD (cP 2 kZ.nd (aO adu (hr.mono (by omega)) rfl (ak (lB acG acO (hr.mono (by omega)) (qw 0) rfl) aq) (au aK)))))))
  (aD (iV (pv 1))))))⟩
theorem K7 (F:bV K mg "box_told" wZ ["words"]) (acW:pR P w K mg base) (ada:xj P w K mg base) (acZ:ur P w K mg base):Ar P w K mg base:=
 F.ok K4 λf cdv A outer s H E hr=>⟨_,λ_ _=>rfl,(aA (bL (PW.pt (tL (bD (cA hr) cB (qI (qw 0)) bJ (bf _)) (tL (bD (cA hr) cB (qL (jq B) (qw 0)) bu (bf _)) (tL (gF (aO acW (hr.mono (by omega)) rfl (ak (qI (qw 0)) aq) (au aK)) (λ_=>rfl)) (vJ (gF (aO ada (hr.mono (by omega)) rfl (ak (qI (qw 0)) aq) (au aK)) (λ_=>rfl)))))))
  (aD (aX (dw (ak (qI (qw 0)) (ak bu (ak (aO acZ (hr.mono (by omega)) rfl (ak (qI (qw 0)) aq) (au aK)) aq))))))
  bj)
  (aA (bL (PW.pt (jj (bD (iK hr) iM (qI (qw 0)) bJ (bf _)) (jj (bD (iK hr) iM (qL (jq B) (qw 0)) bu (bf _)) (lu (bD (PX hr) Vl (qI (qw 0)) (X7 acL rfl) (by with_unfolding_all rfl))))))
  (aD (aX km))
  bj)
  (aA (bL (PW.pt (jj (jW (gF (aO acW (hr.mono (by omega)) rfl (ak (qI (qw 0)) aq) (au aK)) (λ_=>rfl))) (lu (jW (gF (aO ada (hr.mono (by omega)) rfl (ak (qI (qw 0)) aq) (au aK)) (λ_=>rfl))))))
  (aD (aX km))
  bj)
  (aD (aX (dw (ak (qI (qw 0)) (ak (PE.imp (lH xU rfl (Hq B) (by kernel_rfl) (ak (qI (qw 0)) aq)) (rK Mi)) (ak (aO acZ (hr.mono (by omega)) rfl (ak (qI (qw 0)) aq) (au aK)) aq)))))))))⟩
theorem GQ (F:bV K mg "grant_told" ue ["words"]) (acU:lE P w K mg base):xZ P w K mg base:=
 F.ok GC λf cdv A outer s H E hr=>⟨_,λ_ _=>rfl,(aA (bL (PW.pt (jj (bD (iK hr) iM (qI (qw 0)) bJ (bf _)) (jj (bD (iK hr) iM (qL (jq B) (qw 0)) bu (bf _)) (lu (jW (gF (aO acU (hr.mono (by omega)) rfl (ak (qw 0) aq) (au aK)) (λ_=>rfl)))))))
  (aD (aX km))
  bj)
  (aD (aX (dw (ak (qI (qw 0)) (ak (qI (qw 0)) (ak (qI (qw 0)) aq)))))))⟩
theorem JP (F:bV K mg "pair_told" vd ["words"]) (acU:lE P w K mg base):zm P w K mg base:=
 F.ok Js λf cdv A outer s H E hr=>⟨_,λ_ _=>rfl,(aA (bL (PW.pt (jj (bD (iK hr) iM (qI (qw 0)) bJ (bf _)) (jj (bD (iK hr) iM (qL (jq B) (qw 0)) bu (bf _)) (lu (jW (gF (aO acU (hr.mono (by omega)) rfl (ak (qw 0) aq) (au aK)) (λ_=>rfl)))))))
  (aD (aX km))
  bj)
  (aD (aX (dw (ak (qI (qw 0)) (ak (qI (qw 0)) aq))))))⟩
theorem GX (F:bV K mg "read_heads" ud ["lines", "told_by"]) (acP:gH P w K mg base acS) (acO:gJ P w K mg base acS) (adx:Ar P w K mg base) (ado:xZ P w K mg base) (adv:zm P w K mg base):yc P w K mg base:=
 F.ok ou λf cdv A outer s H E hr=>⟨_,λ_ _=>rfl,(aA (cP 2 ou.nd (bR aq))
  (aA (cP 3 ou.nd (Qo (sV (hr.mono (by omega)) adv acD (sV (hr.mono (by omega)) ado acC (sV (hr.mono (by omega)) adx acF Qp))) rfl rfl (ak (lB acG acO (hr.mono (by omega)) (qw 0) rfl) aq) (au aK)))
  (aA (wD 200 aaY (bD Ds Be (qw 3) km (bf _))
  (aA (j6 (pv 2) (qw 3))
  (aA (oX (lB acG acP (hr.mono (by omega)) (qw 0) rfl))
  (aD (cP 3 ou.nd (Qo (sV (hr.mono (by omega)) adv acD (sV (hr.mono (by omega)) ado acC (sV (hr.mono (by omega)) adx acF Qp))) rfl rfl (ak (lB acG acO (hr.mono (by omega)) (qw 0) rfl) aq) (au aK)))))))
  (aD (iV (pv 2))))))⟩
theorem GZ (F:bV K mg "read_ranks" uc ["lines"]) (acP:gH P w K mg base acS) (acO:gJ P w K mg base acS) (acU:lE P w K mg base):yd P w K mg base:=
 F.ok xX λf cdv A outer s H E hr=>⟨_,λ_ _=>rfl,(aA (cP 1 xX.nd (lB acG acO (hr.mono (by omega)) (qw 0) rfl))
  (aA (bL (PW.pt (jj (bD (iK hr) iM (qI (qw 1)) bJ (bf _)) (jj (bD (cA hr) cB (qL (jq B) (qw 1)) bu (bf _)) (lu (jW (gF (aO acU (hr.mono (by omega)) rfl (ak (mG (qw 1) (gM bu) mC) aq) (au aK)) (λ_=>rfl)))))))
  (aD DW)
  bj)
  (aA (oX (lB acG acP (hr.mono (by omega)) (qw 0) rfl))
  (aD (aX (mG (qw 1) (gM bu) mC))))))⟩
theorem Vv (F:bV K mg "read" Jp ["text"]) (adh:zc P w K mg base acS) (adc:qi P w K mg base acS) (adm:sy P w K mg base) (ade:yc P w K mg base) (adz:yd P w K mg base) (adk:JB P w K mg base):Ml P w K mg base:=
 F.ok oZ λf cdv A outer s H E hr=>⟨_,λ_ _=>rfl,(aA (cP 1 oZ.nd (Zb acG adh (hr.mono (by omega)) rfl (ak (qw 0) aq) (Qf (au aK))))
  (aA (cP 2 oZ.nd (wU (aO adz (hr.mono (by omega)) rfl (ak (qw 1) aq) (au aK))))
  (aA (cP 3 oZ.nd (wU (aO ade (hr.mono (by omega)) rfl (ak (qw 1) (ak (Qk acD rfl) aq)) (au (au aK)))))
  (aA (cP 4 oZ.nd (wU (aO ade (hr.mono (by omega)) rfl (ak (qw 1) (ak (Qk acC rfl) aq)) (au (au aK)))))
  (aA (cP 5 oZ.nd (wU (aO ade (hr.mono (by omega)) rfl (ak (qw 1) (ak (Qk acF rfl) aq)) (au (au aK)))))
  (aA (cP 6 oZ.nd (wU (aO adm (hr.mono (by omega)) rfl (ak (qw 1) aq) (au aK))))
  (aA (cP 7 oZ.nd (wU (aO adk (hr.mono (by omega)) rfl (ak (qw 1) aq) (au aK))))
  (aA (oX (lB acG adc (hr.mono (by omega)) (qw 1) rfl))
  (aD (aX (dw (ak (qw 2) (ak (qw 3) (ak (dw (ak (qw 5) (ak (qw 4) (ak (qw 6) (ak (qw 7) aq))))) aq))))))))))))))⟩
theorem G4 (F:bV K mg "rank_shown" uf ["rank"]):rZ P w K mg base:=
 F.ok GD λf cdv A outer s H E hr=>⟨_,λ_ _=>rfl,(aD (aX (Zv (bD tE qz (qw 0) km (bf _)) bJ (qw 0))))⟩
theorem JQ (F:bV K mg "box_shown" vg ["box"]) (acX:rZ P w K mg base):zp P w K mg base:=
 F.ok Jv λf cdv A outer s H E hr=>⟨_,λ_ _=>rfl,(aA (bL (bD (cA hr) cB (qI (qw 0)) bu (bf _))
  (aD (aX (bR (ak bJ (ak (qI (qw 0)) (ak (aO acX (hr.mono (by omega)) rfl (ak (qI (qw 0)) aq) (au aK)) aq))))))
  bj)
  (aD (aX (bR (ak bJ (ak (qI (qw 0)) (ak (PE.imp (lH tG rfl (Hr B) (by kernel_rfl) (ak (qI (qw 0)) aq)) (rK Jc)) (ak (aO acX (hr.mono (by omega)) rfl (ak (qI (qw 0)) aq) (au aK)) aq))))))))⟩
theorem yt (F:bV K mg "expression_shown" jZ ["expression"]) (acR:bG P w K mg base "expression_shown" (0+n) ["expression"] (bU K 1 (bN n))):bG P w K mg base "expression_shown" (0+n+1) ["expression"] (bU K 1 (bN (n+1))):=
 F.ok ym λf cdv A outer s H E hr=>⟨_,λ_ _=>rfl,(aA (bL (bD (cA hr) cB (qI (qw 0)) bJ (bf _))
  (aD (aX (bR (ak (PE.imp (lH tG rfl (Hr B) (by kernel_rfl) (ak (qI (qw 0)) aq)) (rK Jc)) aq))))
  bj)
  (aA (bL (bD (cA hr) cB (qI (qw 0)) bJ (bf _))
  (aD (aX (bR (ak (qI (qw 0)) aq))))
  bj)
  (aA (bL (bD (cA hr) cB (qI (qw 0)) bJ (bf _))
  (aD (aX (bW bz bA (bR (ak bJ (ak (qI (qw 0)) aq))) (aO acR (hr.mono (by omega)) rfl (ak (qI (qw 0)) aq) (au aK)))))
  bj)
  (aD (aX (bW bz bA (bW bz bA (bR (ak (qI (qw 0)) aq)) (aO acR (hr.mono (by omega)) rfl (ak (qI (qw 0)) aq) (au aK))) (aO acR (hr.mono (by omega)) rfl (ak (qI (qw 0)) aq) (au aK))))))))⟩
theorem pU (adf:bV K mg "expression_shown" jZ ["expression"]):∀n:Nat,bG P w K mg base "expression_shown" (0+n) ["expression"] (bU K 1 (bN n))
 | 0=>mF adf
 | n+1=>by have ih:=pU adf n;exact yt B acI acJ acG acM acL acK acE acB acF acC acD adf ih
theorem JR (F:bV K mg "row_shown" vh ["row"]) (acR:yp P w K mg base):ut P w K mg base:=
 F.ok ul λf cdv A outer s H E hr=>⟨_,λ_ _=>rfl,(aA (bL (PW.pt (jj (bD (cA hr) cB (qI (qw 0)) bJ (bf _)) (lu (bD (cA hr) cB (qI (qw 0)) bJ (bf _)))))
  (aD (aX (bW bz bA (bR (ak (qI (qw 0)) aq)) (aO acR (hr.mono (by omega)) rfl (ak (qI (qw 0)) aq) (au aK)))))
  bj)
  (aA (bL (bD (cA hr) cB (qI (qw 0)) bJ (bf _))
  (aD (aX (bW bz bA (bW bz bA (bR (ak bJ (ak (qI (qw 0)) aq))) (aO acR (hr.mono (by omega)) rfl (ak (qI (qw 0)) aq) (au aK))) (aO acR (hr.mono (by omega)) rfl (ak (qI (qw 0)) aq) (au aK)))))
  bj)
  (aA (bL (bD (cA hr) cB (qI (qw 0)) bJ (bf _))
  (aD (aX (bW bz bA (bR (ak bJ (ak (qI (qw 0)) (ak (qI (qw 0)) aq)))) (aO acR (hr.mono (by omega)) rfl (ak (qI (qw 0)) aq) (au aK)))))
  bj)
  (aA (bL (bD (cA hr) cB (qI (qw 0)) bJ (bf _))
  (aA (cP 1 ul.nd (bR (ak bJ (ak (qI (qw 0)) (ak (qI (qw 0)) aq)))))
  (aA (gY aaY rfl (gk (qI (qw 0))) (dU 2 ul.nd) bH
  (aD (wY (pv 1) (aO acR (hr.mono (by omega)) rfl (ak (qw 2) aq) (au aK)))))
  (aD (iV (pv 1)))))
  bj)
  (aD (aX (bW bz bA (bR (ak bJ (ak (qI (qw 0)) aq))) (aO acR (hr.mono (by omega)) rfl (ak (qI (qw 0)) aq) (au aK)))))))))⟩
theorem G5 (F:bV K mg "rows_shown" pK ["rows"]) (ac6:ut P w K mg base) (acV:bG P w K mg base "rows_shown" (41+n) ["rows"] (bU K 1 (cR n))):bG P w K mg base "rows_shown" (41+n+1) ["rows"] (bU K 1 (cR (n+1))):=
 F.ok rW λf cdv A outer s H E hr=>⟨_,λ_ _=>rfl,(aA (cP 1 rW.nd (bR aq))
  (aA (gY aaY rfl (gk (qw 0)) (dU 2 rW.nd) bH
  (aA (j6 (pv 1) (aO ac6 (hr.mono (by omega)) rfl (ak (qw 2) aq) (au aK)))
  (aA (bL (bD (cA hr) cB (qI (qw 2)) bJ (bf _))
  (aD (wY (pv 1) (bW bz bA (bW bz bA (bW bz bA (aO acV (hr.mono (by omega)) rfl (ak (qI (qw 2)) aq) (au aK)) (bR (ak (bR (ak bJ aq)) aq))) (aO acV (hr.mono (by omega)) rfl (ak (qI (qw 2)) aq) (au aK))) (bR (ak (bR (ak bJ aq)) aq)))))
  bj)
  (aD (bL (bD (cA hr) cB (qI (qw 2)) bJ (bf _))
  (aD (wY (pv 1) (bW bz bA (aO acV (hr.mono (by omega)) rfl (ak (qI (qw 2)) aq) (au aK)) (bR (ak (bR (ak bJ aq)) aq)))))
  bj)))))
  (aD (iV (pv 1)))))⟩
theorem vX (adA:bV K mg "rows_shown" pK ["rows"]) (ac6:ut P w K mg base):∀n:Nat,bG P w K mg base "rows_shown" (41+n) ["rows"] (bU K 1 (cR n))
 | 0=>mF adA
 | n+1=>by have ih:=vX adA ac6 n;exact G5 B acI acJ acG acM acL acK acE acB acF acC acD adA ac6 ih
theorem Am (F:bV K mg "function_shown" oV ["function"]) (acX:rZ P w K mg base) (acV:ye P w K mg base):sE P w K mg base:=
 F.ok lg λf cdv A outer s H E hr=>⟨_,λ_ _=>rfl,(aA (cP 1 lg.nd (bR (ak bJ (ak (qI (qw 0)) (ak (aO acX (hr.mono (by omega)) rfl (ak (qI (qw 0)) aq) (au aK)) aq)))))
  (aA (gY aaY rfl (gk (qI (qw 0))) (lW rfl (cF (dU 2 lg.nd) (cF (dU 3 lg.nd) jM))) (lX (cV bH (cV bH lU)))
  (aD (wY (pv 1) (bR (ak (qw 2) (ak (aO acX (hr.mono (by omega)) rfl (ak (qw 3) aq) (au aK)) aq))))))
  (aD (aX (bW bz bA (bW bz bA (bR (ak (qw 1) aq)) (aO acV (hr.mono (by omega)) rfl (ak (qI (qw 0)) aq) (au aK))) (bR (ak (bR (ak bJ aq)) aq)))))))⟩
theorem R8 (F:bV K mg "shown" qF ["names", "pairs", "program"]) (adG:zp P w K mg base) (adn:sE P w K mg base) (acV:ye P w K mg base):JC P w K mg base:=
 F.ok Bm λf cdv A outer s H E hr=>⟨_,λ_ _=>rfl,(aA (cP 3 Bm.nd (bR (ak (bW bz bA (bR (ak bJ aq)) (PE.imp (lH yC rfl (uq B) (by kernel_rfl) (ak (qw 0) aq)) (rK Ls))) aq)))
  (aA (wY (pv 3) (mO ["low", "high"] [] [] rfl (qg (aN qF)) (gk (qw 1)) (λ_ _ _ _=>(lW rfl (cF (dU 0 (show (["low", "high"]:List Str).Nodup from by decide +kernel)) (cF (dU 1 (show (["low", "high"]:List Str).Nodup from by decide +kernel)) jM)))) (lX (cV bH (cV bH lU))) (λ_ _ _ _=>fG) (λ_ _ _ _=>(bR (ak bJ (ak (qw 0) (ak (qw 1) aq)))))))
  (aA (wY (pv 3) (mO ["who", "high", "low"] [] [] rfl (qg (aN qF)) (gk (qI (qw 2))) (λ_ _ _ _=>(lW rfl (cF (dU 0 (show (["who", "high", "low"]:List Str).Nodup from by decide +kernel)) (cF (dU 1 (show (["who", "high", "low"]:List Str).Nodup from by decide +kernel)) (cF (dU 2 (show (["who", "high", "low"]:List Str).Nodup from by decide +kernel)) jM))))) (lX (cV bH (cV bH (cV bH lU)))) (λ_ _ _ _=>fG) (λ_ _ _ _=>(bR (ak bJ (ak (qw 0) (ak (qw 1) (ak (qw 2) aq))))))))
  (aA (wY (pv 3) (mO ["box"] [] [] rfl (qg (aN qF)) (gk (qI (qw 2))) (λ_ _ _ _=>(dU 0 (show (["box"]:List Str).Nodup from by decide +kernel))) bH (λ_ _ _ _=>fG) (λ_ _ _ _=>(aO adG (hr.mono (by omega)) rfl (ak (qw 0) aq) (au aK)))))
  (aA (gY aaY rfl (gk (qI (qw 2))) (dU 4 Bm.nd) bH
  (aD (wY (pv 3) (aO adn (hr.mono (by omega)) rfl (ak (qw 4) aq) (au aK)))))
  (aA (wY (pv 3) (aO acV (hr.mono (by omega)) rfl (ak (qI (qw 2)) aq) (au aK)))
  (aD (aX (Ck (jF PySem.F.plainAttrs_str PySem.F.slot_str_join PySem.F.type_str_join vM bJ (ak (mO ["words"] [] [] rfl (qg (aN qF)) (gk (qw 3)) (λ_ _ _ _=>(dU 0 (show (["words"]:List Str).Nodup from by decide +kernel))) bH (λ_ _ _ _=>fG) (λ_ _ _ _=>(Ck (jF PySem.F.plainAttrs_str PySem.F.slot_str_join PySem.F.type_str_join vM bJ (ak (qw 0) aq))))) aq)))))))))))⟩
theorem JS (F:bV K mg "_law_cell" vm ["_law_script", "_law_k"]):uv P w K mg base:=
 F.ok pP λf cdv A outer s H E hr=>⟨_,λ_ _=>rfl,(aA (bL (bD n8 lV (qw 1) (qL (jq B) (qw 0)) (bf _))
  (aD (aX (jK (qw 0) (qw 1) (λ_ _=>rfl))))
  bj)
  (aA (cP 2 pP.nd (bW bz bA (bW pB nG (qw 1) bu) bu))
  (aA (bL (bD Tq Qa (qL (jq B) (qw 0)) bu (bf _))
  (aA (cP 3 pP.nd (jK (qw 0) (bW jT iW (bW pB nG (qw 1) bu) (qL (jq B) (qw 0))) (λ_ _=>rfl)))
  (aD (cP 2 pP.nd (bW jT iW (bW bz bA (bW bz bA (bW pB nG (qw 3) bu) (bW pB nG (bW pB nG (qw 1) (qw 1)) bu)) (qw 1)) bu))))
  bj)
  (aD (aX (bW jT iW (bW pB nG (qw 2) (qw 2)) bu))))))⟩
theorem JT (F:bV K mg "_law_next" vo ["_law_pen", "_law_most"]) (ac7:uv P w K mg base):eG P w K mg base:=
 F.ok yW λf cdv A outer s H E hr=>⟨_,λ_ _=>rfl,(aA (cP 2 yW.nd (bW jT iW (aO ac7 (hr.mono (by omega)) rfl (ak (qI (qw 0)) (ak (qI (qw 0)) aq)) (au (au aK))) (qw 1)))
  (aA (IV (Hx (bW bz bA (qI (qw 0)) bu) (O2_ (qw 0) bu set_list)))
  (aD (iV (pv 2)))))⟩
theorem JV (F:bV K mg "_law_pool" mH ["_law_pen"]) (acH:eG P w K mg base):zq P w K mg base:=
 F.ok dX λf cdv A outer s H E hr=>⟨_,λ_ _=>rfl,(aA (Ea 1 dX.nd bJ)
  (aA (cP 2 dX.nd (aO acH (hr.mono (by omega)) rfl (ak (qw 0) (ak bu aq)) (au (au aK))))
  (aA (Ea 3 dX.nd (aO acH (hr.mono (by omega)) rfl (ak (qw 0) (ak bu aq)) (au (au aK))))
  (aA (bL (bD (cA hr) cB (qw 2) bu (bf _))
  (aA (Ea 4 dX.nd (bR (ak bJ (ak bJ (ak bJ (ak bJ (ak bJ (ak bJ (ak bJ aq)))))))))
  (aA (Ea 4 dX.nd (bW bz bA (qw 4) (bR (ak bJ (ak bJ (ak bJ (ak bJ (ak bJ (ak bJ aq)))))))))
  (aA (Ea 4 dX.nd (bW bz bA (qw 4) (bR (ak bJ (ak bJ aq)))))
  (aD (aX (mO ["_law_k"] ["_law_words_here", "_law_turn"] [4,3] rfl (qg (aN mH)) (gQ rfl (jQ B) (ak bu aq)) (λ_ _ _ _=>(dU 0 (show (["_law_k", "_law_words_here", "_law_turn"]:List Str).Nodup from by decide +kernel))) bH (λ_ _ _ _=>fG) (λ_ _ _ _=>(jK (qw 1) (bW jT iW (bW bz bA (qw 2) (qw 0)) bu) (λ_ _=>rfl)))))))))
  bj)
  (aA (cP 5 dX.nd (bW bz bA bu (aO acH (hr.mono (by omega)) rfl (ak (qw 0) (ak bu aq)) (au (au aK)))))
  (aA (cP 6 dX.nd (aO acH (hr.mono (by omega)) rfl (ak (qw 0) (ak (qw 5) aq)) (au (au aK))))
  (aA (zW ["_law_k"] ["_law_letters", "_law_pen"] [1,0] dX.nd rfl rfl rfl (qg (aN mH)) (gQ rfl (jQ B) (ak bu aq)) (λ_ _ _ _=>(dU 0 (show (["_law_k", "_law_letters", "_law_pen"]:List Str).Nodup from by decide +kernel))) bH (λ_ _ _ _=>fG) (λ_ _ _ _=>(jK (qw 1) (aO acH (hr.mono (by omega)) rfl (ak (qw 2) (ak bu aq)) (au (au aK))) (λ_ _=>rfl))))
  (aA (Ea 8 dX.nd (Ck (jF PySem.F.plainAttrs_str PySem.F.slot_str_join PySem.F.type_str_join vM bJ (ak (qw 7) aq))))
  (aA (bL (bD (cA hr) cB (qw 2) bu (bf _))
  (aD (aX (mO ["_law_k"] ["_law_letters", "_law_turn", "_law_base"] [1,3,8] rfl (qg (aN mH)) (gQ rfl (jQ B) (ak bu aq)) (λ_ _ _ _=>(dU 0 (show (["_law_k", "_law_letters", "_law_turn", "_law_base"]:List Str).Nodup from by decide +kernel))) bH (λ_ _ _ _=>fG) (λ_ _ _ _=>(bW bz bA (jK (qw 1) (qw 2) (λ_ _=>rfl)) (mG (qw 3) mC (gM (bW jT iW (bW bz bA (qw 2) (qw 0)) bu))))))))
  bj)
  (aA (cP 9 dX.nd (bR aq))
  (aA (gY aaY rfl (gQ rfl (jQ B) (ak bu aq)) (dU 10 dX.nd) bH
  (aA (cP 11 dX.nd (jK (qw 1) (bW jT iW (bW bz bA (qw 3) (bW pB nG bu (qw 10))) bu) (λ_ _=>rfl)))
  (aD (j6 (pv 9) (bW bz bA (bW bz bA (mG (qw 8) mC (gM (qw 6))) (qw 11)) (mG (qw 8) (gM (bW bz bA (qw 6) bu)) (gM (qw 5))))))))
  (aD (iV (pv 9))))))))))))))⟩
theorem JW (F:bV K mg "_law_pick" vp ["_law_pen", "_law_pool_here"]) (acH:eG P w K mg base):iU P w K mg base:=
 F.ok Jw λf cdv A outer s H E hr=>⟨_,λ_ _=>rfl,(aD (aX (jK (qw 1) (aO acH (hr.mono (by omega)) rfl (ak (qw 0) (ak bu aq)) (au (au aK))) (λ_ _=>rfl))))⟩
theorem Eg (F:bV K mg "_law_number" rR ["_law_pen"]) (acH:eG P w K mg base):qP P w K mg base:=
 F.ok qM λf cdv A outer s H E hr=>⟨_,λ_ _=>rfl,(aA (cP 1 qM.nd (aO acH (hr.mono (by omega)) rfl (ak (qw 0) (ak bu aq)) (au (au aK))))
  (aA (cP 2 qM.nd (aO acH (hr.mono (by omega)) rfl (ak (qw 0) (ak (bW Bv zY bu bu) aq)) (au (au aK))))
  (aA (bL (bD (cA hr) cB (qw 1) bu (bf _))
  (aD (aX (bW jT iW (qw 2) bu)))
  bj)
  (aA (bL (bD (cA hr) cB (qw 1) bu (bf _))
  (aD (aX (bW tD qC (bW tD qC (bW Bv zY bu bu) bu) (bW jT iW (qw 2) bu))))
  bj)
  (aA (bL (bD (cA hr) cB (qw 1) bu (bf _))
  (aD (aX (bW tD qC (bW Ld Iz (bW Bv zY bu bu) (bW bz bA bu (bW jT iW (qw 2) bu))) bu)))
  bj)
  (aD (aX (bW jT iW (bW pB nG (qw 2) bu) (bW Bv zY bu bu)))))))))⟩
theorem zA {n:Nat} (F:bV K mg "_law_expression" kW ["_law_pen", "_law_deep", "_law_pool_here"]) (acQ:bG P w K mg base "_law_expression" (3+n) ["_law_pen", "_law_deep", "_law_pool_here"] (bU K 3 (cC n))) (acH:eG P w K mg base) (ac3:qP P w K mg base) (acN:iU P w K mg base):bG P w K mg base "_law_expression" (3+n+1) ["_law_pen", "_law_deep", "_law_pool_here"] (bU K 3 (cC (n+1))):=
 F.ok (k:=3+n) iQ λf cdv A outer s H E hr=>⟨_,λ_ _=>rfl,(aA (cP 3 iQ.nd (aO acH (hr.mono (by omega)) rfl (ak (qw 0) (ak bu aq)) (au (au aK))))
  (aA (bL (PW.pt (jj (bD n8 lV (qw 1) bu (bf _)) (lu (bD n8 lV (qw 3) bu (bf _)))))
  (aA (bL (bD (cA hr) cB (bW jT iW (qw 3) bu) bu (bf _))
  (aD (aX (dw (ak bJ (ak (aO ac3 (hr.mono (by omega)) rfl (ak (qw 0) aq) (au aK)) aq)))))
  bj)
  (aD (aX (dw (ak bJ (ak (aO acN (hr.mono (by omega)) rfl (ak (qw 0) (ak (qw 2) aq)) (au (au aK))) aq))))))
  bj)
  (aA (cP 4 iQ.nd (aO acQ (hr.mono (by omega)) rfl (ak (qw 0) (ak (bW tD qC (qw 1) bu) (ak (qw 2) aq))) (au (au (au aK)))))
  (aA (bL (bD n8 lV (qw 3) bu (bf _))
  (aD (aX (dw (ak bJ (ak (aO acN (hr.mono (by omega)) rfl (ak (qw 0) (ak (qw 2) aq)) (au (au aK))) (ak (qw 4) aq))))))
  bj)
  (aA (cP 5 iQ.nd (aO acQ (hr.mono (by omega)) rfl (ak (qw 0) (ak (tR (Fj rfl) XH (fX (Fj rfl) (by rfl) (Zf B) (by kernel_rfl) (ak (bW tD qC (qw 1) bu) (ak bu aq)))) (ak (qw 2) aq))) (au (au (au aK)))))
  (aA (cP 6 iQ.nd (jK bJ (aO acH (hr.mono (by omega)) rfl (ak (qw 0) (ak bu aq)) (au (au aK))) (λ_ _=>rfl)))
  (aA (bL (bD (cA hr) cB (bW jT iW (qw 3) bu) bu (bf _))
  (aD (aX (dw (ak (qw 6) (ak (qw 5) (ak (qw 4) aq))))))
  bj)
  (aD (aX (dw (ak (qw 6) (ak (qw 4) (ak (qw 5) aq)))))))))))))⟩
theorem qm (adi:bV K mg "_law_expression" kW ["_law_pen", "_law_deep", "_law_pool_here"]) (acH:eG P w K mg base) (ac3:qP P w K mg base) (acN:iU P w K mg base):∀n:Nat,bG P w K mg base "_law_expression" (3+n) ["_law_pen", "_law_deep", "_law_pool_here"] (bU K 3 (cC n))
 | 0=>mF adi
 | n+1=>by have ih:=qm adi acH ac3 acN n;exact zA B acI acJ acG acM acL acK acE acB acF acC acD adi ih acH ac3 acN
theorem JX (F:bV K mg "_law_part" vq ["_law_pen", "_law_pool_here"]) (acQ:nu P w K mg base) (acH:eG P w K mg base):uw P w K mg base:=
 F.ok (k:=43) Jx λf cdv A outer s H E hr=>⟨_,λ_ _=>rfl,(aD (aX (aO acQ (hr.mono (by omega)) rfl (ak (qw 0) (ak (bW bz bA (bW bz bA bu (aO acH (hr.mono (by omega)) rfl (ak (qw 0) (ak bu aq)) (au (au aK)))) (bW pB nG (qI (qw 0)) (bW Ld Iz (aO acH (hr.mono (by omega)) rfl (ak (qw 0) (ak bu aq)) (au (au aK))) bu))) (ak (qw 1) aq))) (au (au (au aK))))))⟩
theorem JZ {n:Nat} (F:bV K mg "_law_rows" rB ["_law_pen", "_law_deep", "_law_pool_here", "_law_most"]) (acH:eG P w K mg base) (ad0:bG P w K mg base "_law_row" (44+n) ["_law_pen", "_law_deep", "_law_pool_here"] (bU K 3 (iH n))):bG P w K mg base "_law_rows" (44+n+1) ["_law_pen", "_law_deep", "_law_pool_here", "_law_most"] (bU K 4 (dN (n+1))):=
 F.ok (k:=44+n) um λf cdv A outer s H E hr=>⟨_,λ_ _=>rfl,(aA (cP 4 um.nd (bR aq))
  (aA (gY aaY rfl (gQ rfl (jQ B) (ak (aO acH (hr.mono (by omega)) rfl (ak (qw 0) (ak (qw 3) aq)) (au (au aK))) aq)) (dU 5 um.nd) bH
  (aD (bL (bD Tq Qa (qI (qw 0)) bu (bf _))
  (aA (IV (Hx (bW tD qC (qI (qw 0)) bu) (O2_ (qw 0) bu set_list)))
  (aD (j6 (pv 4) (aO ad0 (hr.mono (by omega)) rfl (ak (qw 0) (ak (qw 1) (ak (qw 2) aq))) (au (au (au aK)))))))
  bj)))
  (aD (iV (pv 4)))))⟩
theorem K8 (F:bV K mg "_law_row" pL ["_law_pen", "_law_deep", "_law_pool_here"]) (acQ:nu P w K mg base) (acH:eG P w K mg base) (ac8:uw P w K mg base) (acN:iU P w K mg base) (ac0:bG P w K mg base "_law_rows" (44+n) ["_law_pen", "_law_deep", "_law_pool_here", "_law_most"] (bU K 4 (dN n))):bG P w K mg base "_law_row" (44+n+1) ["_law_pen", "_law_deep", "_law_pool_here"] (bU K 3 (iH (n+1))):=
 F.ok mJ λf cdv A outer s H E hr=>⟨_,λ_ _=>rfl,(aA (cP 3 mJ.nd (aO acH (hr.mono (by omega)) rfl (ak (qw 0) (ak bu aq)) (au (au aK))))
  (aA (cP 4 mJ.nd (aO ac8 (hr.mono (by omega)) rfl (ak (qw 0) (ak (qw 2) aq)) (au (au aK))))
  (aA (bL (PW.pt (tL (bD n8 lV (qw 1) (qI (qw 0)) (bf _)) (vJ (bD n8 lV (qw 3) bu (bf _)))))
  (aA (cP 5 mJ.nd (aO ac0 (hr.mono (by omega)) rfl (ak (qw 0) (ak (bW bz bA (qw 1) bu) (ak (qw 2) (ak bu aq)))) (au (au (au (au aK))))))
  (aD (aX (dw (ak bJ (ak (qw 4) (ak (qw 5) (ak (aO ac0 (hr.mono (by omega)) rfl (ak (qw 0) (ak (bW bz bA (qw 1) bu) (ak (qw 2) (ak bu aq)))) (au (au (au (au aK))))) aq))))))))
  bj)
  (aA (bL (PW.pt (tL (bD n8 lV (qw 1) (qI (qw 0)) (bf _)) (vJ (bD n8 lV (qw 3) bu (bf _)))))
  (aD (aX (dw (ak bJ (ak (qw 4) (ak (aO ac0 (hr.mono (by omega)) rfl (ak (qw 0) (ak (bW bz bA (qw 1) bu) (ak (qw 2) (ak bu aq)))) (au (au (au (au aK))))) aq))))))
  bj)
  (aA (cP 6 mJ.nd (aO acN (hr.mono (by omega)) rfl (ak (qw 0) (ak (qw 2) aq)) (au (au aK))))
  (aA (bL (bD (cA hr) cB (qw 3) bu (bf _))
  (aD (aX (dw (ak bJ (ak (qw 6) (ak (aO acQ (hr.mono (by omega)) rfl (ak (qw 0) (ak bu (ak (qw 2) aq))) (au (au (au aK)))) (ak (qw 4) aq)))))))
  bj)
  (aA (bL (bD (cA hr) cB (qw 3) bu (bf _))
  (aD (aX (dw (ak bJ (ak (qw 6) (ak (qw 4) (ak (aO acN (hr.mono (by omega)) rfl (ak (qw 0) (ak (qw 2) aq)) (au (au aK))) aq)))))))
  bj)
  (aA (bL (bD (cA hr) cB (qw 3) bu (bf _))
  (aA (zW ["_law_k"] ["_law_pen", "_law_pool_here"] [0,2] mJ.nd rfl rfl rfl (qg (aN pL)) (gQ rfl (jQ B) (ak (aO acH (hr.mono (by omega)) rfl (ak (qw 0) (ak bu aq)) (au (au aK))) aq)) (λ_ _ _ _=>(dU 0 (show (["_law_k", "_law_pen", "_law_pool_here"]:List Str).Nodup from by decide +kernel))) bH (λ_ _ _ _=>fG) (λ_ _ _ _=>(aO acQ (hr.mono (by omega)) rfl (ak (qw 1) (ak bu (ak (qw 2) aq))) (au (au (au aK))))))
  (aD (aX (dw (ak bJ (ak (qw 6) (ak (aO acN (hr.mono (by omega)) rfl (ak (qw 0) (ak (qw 2) aq)) (au (au aK))) (ak (qw 7) aq))))))))
  bj)
  (aD (aX (dw (ak bJ (ak (qw 6) (ak (qw 4) aq))))))))))))))⟩
theorem yf (adH:bV K mg "_law_rows" rB ["_law_pen", "_law_deep", "_law_pool_here", "_law_most"]) (adN:bV K mg "_law_row" pL ["_law_pen", "_law_deep", "_law_pool_here"]) (acQ:nu P w K mg base) (acH:eG P w K mg base) (ac8:uw P w K mg base) (acN:iU P w K mg base):∀n:Nat,bG P w K mg base "_law_rows" (44+n) ["_law_pen", "_law_deep", "_law_pool_here", "_law_most"] (bU K 4 (dN n))/\bG P w K mg base "_law_row" (44+n) ["_law_pen", "_law_deep", "_law_pool_here"] (bU K 3 (iH n))
 | 0=>⟨mF adH,mF adN⟩
 | n+1=>by have ih:=yf adH adN acQ acH ac8 acN n;exact⟨JZ B acI acJ acG acM acL acK acE acB acF acC acD adH acH ih.2,K8 B acI acJ acG acM acL acK acE acB acF acC acD adN acQ acH ac8 acN ih.1⟩
theorem J0 (F:bV K mg "_law_rank" vy ["_law_pen", "_law_pool_here"]) (acH:eG P w K mg base) (acN:iU P w K mg base):zr P w K mg base:=
 F.ok Jy λf cdv A outer s H E hr=>⟨_,λ_ _=>rfl,(aA (bL (bD (cA hr) cB (aO acH (hr.mono (by omega)) rfl (ak (qw 0) (ak bu aq)) (au (au aK))) bu (bf _))
  (aD (aX km))
  bj)
  (aD (aX (aO acN (hr.mono (by omega)) rfl (ak (qw 0) (ak (qw 1) aq)) (au (au aK))))))⟩
theorem CK (F:bV K mg "_law_program" qG ["_law_pen", "_law_pool_here"]) (acH:eG P w K mg base) (acN:iU P w K mg base) (adl:zr P w K mg base) (ac0:JD P w K mg base):uN P w K mg base:=
 F.ok dI λf cdv A outer s H E hr=>⟨_,λ_ _=>rfl,(aA (cP 2 dI.nd (bR aq))
  (aA (gY aaY rfl (gQ rfl (jQ B) (ak (aO acH (hr.mono (by omega)) rfl (ak (qw 0) (ak (jK (bR (ak bu (ak bu (ak bu aq)))) (aO acH (hr.mono (by omega)) rfl (ak (qw 0) (ak bu aq)) (au (au aK))) (λ_ _=>rfl)) aq)) (au (au aK))) aq)) (dU 3 dI.nd) bH
  (aD (j6 (pv 2) (dw (ak (aO acN (hr.mono (by omega)) rfl (ak (qw 0) (ak (qw 1) aq)) (au (au aK))) (ak (tR (Fi rfl) XJ (fX (Fi rfl) rfl (Ze B) (by kernel_rfl) (ak bu (ak (bW tD qC (aO acH (hr.mono (by omega)) rfl (ak (qw 0) (ak bu aq)) (au (au aK))) bu) aq)))) (ak (aO adl (hr.mono (by omega)) rfl (ak (qw 0) (ak (qw 1) aq)) (au (au aK))) aq)))))))
  (aA (cP 4 dI.nd (bR aq))
  (aA (gY aaY rfl (gQ rfl (jQ B) (ak (aO acH (hr.mono (by omega)) rfl (ak (qw 0) (ak (jK (bR (ak bu (ak bu (ak bu aq)))) (aO acH (hr.mono (by omega)) rfl (ak (qw 0) (ak bu aq)) (au (au aK))) (λ_ _=>rfl)) aq)) (au (au aK))) aq)) (dU 3 dI.nd) bH
  (aA (cP 5 dI.nd (aO acN (hr.mono (by omega)) rfl (ak (qw 0) (ak (qw 1) aq)) (au (au aK))))
  (aD (j6 (pv 4) (dw (ak (qw 5) (ak (aO acN (hr.mono (by omega)) rfl (ak (qw 0) (ak (qw 1) aq)) (au (au aK))) (ak (aO acN (hr.mono (by omega)) rfl (ak (qw 0) (ak (qw 1) aq)) (au (au aK))) aq))))))))
  (aA (cP 6 dI.nd (bR aq))
  (aA (gY aaY rfl (gQ rfl (jQ B) (ak (aO acH (hr.mono (by omega)) rfl (ak (qw 0) (ak (jK (bR (ak bu (ak bu (ak bu aq)))) (aO acH (hr.mono (by omega)) rfl (ak (qw 0) (ak bu aq)) (au (au aK))) (λ_ _=>rfl)) aq)) (au (au aK))) aq)) (dU 3 dI.nd) bH
  (aA (cP 7 dI.nd (aO acN (hr.mono (by omega)) rfl (ak (qw 0) (ak (qw 1) aq)) (au (au aK))))
  (aA (cP 8 dI.nd (bR aq))
  (aA (gY aaY rfl (gQ rfl (jQ B) (ak (aO acH (hr.mono (by omega)) rfl (ak (qw 0) (ak bu aq)) (au (au aK))) aq)) (dU 9 dI.nd) bH
  (aA (cP 10 dI.nd (aO acN (hr.mono (by omega)) rfl (ak (qw 0) (ak (qw 1) aq)) (au (au aK))))
  (aD (j6 (pv 8) (dw (ak (qw 10) (ak (aO adl (hr.mono (by omega)) rfl (ak (qw 0) (ak (qw 1) aq)) (au (au aK))) aq)))))))
  (aD (j6 (pv 6) (dw (ak (qw 7) (ak (aO adl (hr.mono (by omega)) rfl (ak (qw 0) (ak (qw 1) aq)) (au (au aK))) (ak (qw 8) (ak (aO ac0 (hr.mono (by omega)) rfl (ak (qw 0) (ak bu (ak (qw 1) (ak bu aq)))) (au (au (au (au aK))))) aq)))))))))))
  (aD (aX (dw (ak (qw 2) (ak (qw 4) (ak (qw 6) (ak (aO ac0 (hr.mono (by omega)) rfl (ak (qw 0) (ak bu (ak (qw 1) (ak (jK (bR (ak bu (ak bu (ak bu aq)))) (aO acH (hr.mono (by omega)) rfl (ak (qw 0) (ak bu aq)) (au (au aK))) (λ_ _=>rfl)) aq)))) (au (au (au (au aK))))) aq)))))))))))))⟩
theorem J1 (F:bV K mg "_law_told" rC ["_law_pen", "_law_pool_here"]) (acH:eG P w K mg base) (acN:iU P w K mg base) (adp:uN P w K mg base):zu P w K mg base:=
 F.ok nq λf cdv A outer s H E hr=>⟨_,λ_ _=>rfl,(aA (zW ["_law_k"] ["_law_pen", "_law_pool_here"] [0,1] nq.nd rfl rfl rfl (qg (aN rC)) (gQ rfl (jQ B) (ak (bW bz bA bu (aO acH (hr.mono (by omega)) rfl (ak (qw 0) (ak bu aq)) (au (au aK)))) aq)) (λ_ _ _ _=>(dU 0 (show (["_law_k", "_law_pen", "_law_pool_here"]:List Str).Nodup from by decide +kernel))) bH (λ_ _ _ _=>fG) (λ_ _ _ _=>(aO acN (hr.mono (by omega)) rfl (ak (qw 1) (ak (qw 2) aq)) (au (au aK)))))
  (aA (cP 3 nq.nd (bR aq))
  (aA (gY aaY rfl (gQ rfl (jQ B) (ak (aO acH (hr.mono (by omega)) rfl (ak (qw 0) (ak (jK (bR (ak bu (ak bu (ak bu aq)))) (aO acH (hr.mono (by omega)) rfl (ak (qw 0) (ak bu aq)) (au (au aK))) (λ_ _=>rfl)) aq)) (au (au aK))) aq)) (dU 4 nq.nd) bH
  (aA (cP 5 nq.nd (aO acN (hr.mono (by omega)) rfl (ak (qw 0) (ak (qw 1) aq)) (au (au aK))))
  (aD (j6 (pv 3) (dw (ak (qw 5) (ak (aO acN (hr.mono (by omega)) rfl (ak (qw 0) (ak (qw 1) aq)) (au (au aK))) aq)))))))
  (aD (aX (dw (ak (qw 2) (ak (qw 3) (ak (aO adp (hr.mono (by omega)) rfl (ak (qw 0) (ak (qw 1) aq)) (au (au aK))) aq)))))))))⟩
theorem G6 (F:bV K mg "_law_words" ug ["_law_expression_here"]):oF P w K mg base:=
 F.ok jO λf cdv A outer s H E hr=>⟨_,λ_ _=>rfl,(aA (cP 1 jO.nd (bR aq))
  (aA (cP 2 jO.nd (bR (ak (qw 0) aq)))
  (aA (wD 200 aaY (Xv (bD (iK hr) iM (qw 2) (bR aq) (bf _)))
  (aA (cP 3 jO.nd (aap (Xb aa9 PySem.F.slot_list_pop PySem.F.type_list_pop Xd (pv 2))))
  (aD (bL (bD (cA hr) cB (qI (qw 3)) bJ (bf _))
  (aD (j6 (pv 1) (PE.imp (lH tG rfl (Hr B) (by kernel_rfl) (ak (qI (qw 3)) aq)) (rK Jc))))
  (aD (bL (bD (cA hr) cB (qI (qw 3)) bJ (bf _))
  (aD (j6 (pv 1) (qI (qw 3))))
  (aD (bL (bD (cA hr) cB (qI (qw 3)) bJ (bf _))
  (aA (cP 1 jO.nd (bW bz bA (qw 1) (bR (ak bJ (ak (qI (qw 3)) aq)))))
  (aD (j6 (pv 2) (qI (qw 3)))))
  (aA (j6 (pv 1) (qI (qw 3)))
  (aD (cP 2 jO.nd (bW bz bA (qw 2) (bR (ak (qI (qw 3)) (ak (qI (qw 3)) aq)))))))))))))))
  (aD (iV (pv 1))))))⟩
theorem G7 (F:bV K mg "_law_plain" uh ["_law_row_here"]) (acT:oF P w K mg base):su P w K mg base:=
 F.ok oA λf cdv A outer s H E hr=>⟨_,λ_ _=>rfl,(aA (bL (bD (cA hr) cB (qI (qw 0)) bJ (bf _))
  (aD (aX (bW bz bA (bR (ak bJ (ak (qI (qw 0)) aq))) (aO acT (hr.mono (by omega)) rfl (ak (qI (qw 0)) aq) (au aK)))))
  bj)
  (aA (bL (bD (cA hr) cB (qI (qw 0)) bJ (bf _))
  (aD (aX (bW bz bA (bW bz bA (bR (ak bJ (ak (qI (qw 0)) aq))) (aO acT (hr.mono (by omega)) rfl (ak (qI (qw 0)) aq) (au aK))) (aO acT (hr.mono (by omega)) rfl (ak (qI (qw 0)) aq) (au aK)))))
  bj)
  (aA (bL (bD (cA hr) cB (qI (qw 0)) bJ (bf _))
  (aD (aX (bW bz bA (bR (ak bJ (ak (qI (qw 0)) (ak (qI (qw 0)) aq)))) (aO acT (hr.mono (by omega)) rfl (ak (qI (qw 0)) aq) (au aK)))))
  bj)
  (aA (cP 1 oA.nd (bR (ak bJ (ak (qI (qw 0)) (ak (qI (qw 0)) aq)))))
  (aA (gY aaY rfl (gk (qI (qw 0))) (dU 2 oA.nd) bH
  (aD (cP 1 oA.nd (bW bz bA (qw 1) (aO acT (hr.mono (by omega)) rfl (ak (qw 2) aq) (au aK))))))
  (aD (iV (pv 1))))))))⟩
theorem G8 (F:bV K mg "_law_lines" pM ["_law_rows_here"]) (acY:bG P w K mg base "_law_lines" (2+n) ["_law_rows_here"] (bU K 1 (bZ n))) (ac5:su P w K mg base) (acT:oF P w K mg base):bG P w K mg base "_law_lines" (2+n+1) ["_law_rows_here"] (bU K 1 (bZ (n+1))):=
 F.ok jP λf cdv A outer s H E hr=>⟨_,λ_ _=>rfl,(aA (cP 1 jP.nd (bR aq))
  (aA (gY aaY rfl (gk (qw 0)) (dU 2 jP.nd) bH
  (aD (bL (bD (cA hr) cB (qI (qw 2)) bJ (bf _))
  (aA (j6 (pv 1) (bW bz bA (bR (ak bJ aq)) (aO acT (hr.mono (by omega)) rfl (ak (qI (qw 2)) aq) (au aK))))
  (aA (cP 1 jP.nd (bW bz bA (bW bz bA (qw 1) (aO acY (hr.mono (by omega)) rfl (ak (qI (qw 2)) aq) (au aK))) (bR (ak (bR (ak bJ aq)) aq))))
  (aD (cP 1 jP.nd (bW bz bA (bW bz bA (qw 1) (aO acY (hr.mono (by omega)) rfl (ak (qI (qw 2)) aq) (au aK))) (bR (ak (bR (ak bJ aq)) aq)))))))
  (aD (bL (bD (cA hr) cB (qI (qw 2)) bJ (bf _))
  (aA (j6 (pv 1) (bW bz bA (bR (ak bJ aq)) (aO acT (hr.mono (by omega)) rfl (ak (qI (qw 2)) aq) (au aK))))
  (aD (cP 1 jP.nd (bW bz bA (bW bz bA (qw 1) (aO acY (hr.mono (by omega)) rfl (ak (qI (qw 2)) aq) (au aK))) (bR (ak (bR (ak bJ aq)) aq))))))
  (aD (j6 (pv 1) (aO ac5 (hr.mono (by omega)) rfl (ak (qw 2) aq) (au aK)))))))))
  (aD (iV (pv 1)))))⟩
theorem vY (adB:bV K mg "_law_lines" pM ["_law_rows_here"]) (ac5:su P w K mg base) (acT:oF P w K mg base):∀n:Nat,bG P w K mg base "_law_lines" (2+n) ["_law_rows_here"] (bU K 1 (bZ n))
 | 0=>mF adB
 | n+1=>by have ih:=vY adB ac5 acT n;exact G8 B acI acJ acG acM acL acK acE acB acF acC acD adB ih ac5 acT
theorem J2 (F:bV K mg "_law_mark" vz ["_law_rank_here"]):zx P w K mg base:=
 F.ok Jz λf cdv A outer s H E hr=>⟨_,λ_ _=>rfl,(aA (bL (bD tE qz (qw 0) km (bf _))
  (aD (aX bJ))
  bj)
  (aD (iV (pv 0))))⟩
theorem CP (F:bV K mg "_law_written" lC ["_law_told_here"]) (acY:GK P w K mg base) (ac9:zx P w K mg base):uO P w K mg base:=
 F.ok cu λf cdv A outer s H E hr=>⟨_,λ_ _=>rfl,(aA (Xl (qw 0) (lW rfl (cF (dU 1 cu.nd) (cF (dU 2 cu.nd) (cF (dU 3 cu.nd) jM)))) (lX (cV bH (cV bH (cV bH lU)))))
  (aA (cP 4 cu.nd (bW bz bA (bR (ak (bW bz bA (bR (ak bJ aq)) (qw 1)) aq)) (mO ["_law_low", "_law_high"] [] [] rfl (qg (aN lC)) (gk (qw 2)) (λ_ _ _ _=>(lW rfl (cF (dU 0 (show (["_law_low", "_law_high"]:List Str).Nodup from by decide +kernel)) (cF (dU 1 (show (["_law_low", "_law_high"]:List Str).Nodup from by decide +kernel)) jM)))) (lX (cV bH (cV bH lU))) (λ_ _ _ _=>fG) (λ_ _ _ _=>(bR (ak bJ (ak (qw 0) (ak (qw 1) aq))))))))
  (aA (cP 4 cu.nd (bW bz bA (qw 4) (mO ["_law_who", "_law_high", "_law_low"] [] [] rfl (qg (aN lC)) (gk (qI (qw 3))) (λ_ _ _ _=>(lW rfl (cF (dU 0 (show (["_law_who", "_law_high", "_law_low"]:List Str).Nodup from by decide +kernel)) (cF (dU 1 (show (["_law_who", "_law_high", "_law_low"]:List Str).Nodup from by decide +kernel)) (cF (dU 2 (show (["_law_who", "_law_high", "_law_low"]:List Str).Nodup from by decide +kernel)) jM))))) (lX (cV bH (cV bH (cV bH lU)))) (λ_ _ _ _=>fG) (λ_ _ _ _=>(bR (ak bJ (ak (qw 0) (ak (qw 1) (ak (qw 2) aq)))))))))
  (aA (gY aaY rfl (gk (qI (qw 3))) (lW rfl (cF (dU 5 cu.nd) (cF (dU 6 cu.nd) (cF (dU 7 cu.nd) jM)))) (lX (cV bH (cV bH (cV bH lU))))
  (aD (bL (bD (cA hr) cB (qw 6) bu (bf _))
  (aD (j6 (pv 4) (bR (ak bJ (ak (qw 5) (ak (aO ac9 (hr.mono (by omega)) rfl (ak (qw 7) aq) (au aK)) aq))))))
  (aD (j6 (pv 4) (bR (ak bJ (ak (qw 5) (ak (jK bJ (qw 6) (λ_ _=>rfl)) (ak (aO ac9 (hr.mono (by omega)) rfl (ak (qw 7) aq) (au aK)) aq))))))))))
  (aA (gY aaY rfl (gk (qI (qw 3))) (lW rfl (cF (dU 5 cu.nd) (cF (dU 7 cu.nd) (cF (dU 8 cu.nd) (cF (dU 9 cu.nd) jM))))) (lX (cV bH (cV bH (cV bH (cV bH lU)))))
  (aA (cP 10 cu.nd (bR (ak bJ (ak (qw 5) (ak (aO ac9 (hr.mono (by omega)) rfl (ak (qw 7) aq) (au aK)) aq)))))
  (aA (gY aaY rfl (gk (qw 8)) (lW rfl (cF (dU 11 cu.nd) (cF (dU 12 cu.nd) jM))) (lX (cV bH (cV bH lU)))
  (aD (cP 10 cu.nd (bW bz bA (qw 10) (bR (ak (qw 11) (ak (aO ac9 (hr.mono (by omega)) rfl (ak (qw 12) aq) (au aK)) aq)))))))
  (aD (cP 4 cu.nd (bW bz bA (bW bz bA (bW bz bA (qw 4) (bR (ak (qw 10) aq))) (aO acY (hr.mono (by omega)) rfl (ak (qw 9) aq) (au aK))) (bR (ak (bR (ak bJ aq)) aq))))))))
  (aD (aX (bW bz bA (qw 4) (aO acY (hr.mono (by omega)) rfl (ak (qI (qw 3)) aq) (au aK))))))))))⟩
theorem Eh (F:bV K mg "_law_joined" oh ["_law_lines_here"]):vV P w K mg base:=
 F.ok Eb λf cdv A outer s H E hr=>⟨_,λ_ _=>rfl,(aD (aX (Ck (jF PySem.F.plainAttrs_str PySem.F.slot_str_join PySem.F.type_str_join vM bJ (ak (mO ["_law_words_here"] [] [] rfl (qg (aN oh)) (gk (qw 0)) (λ_ _ _ _=>(dU 0 (show (["_law_words_here"]:List Str).Nodup from by decide +kernel))) bH (λ_ _ _ _=>fG) (λ_ _ _ _=>(Ck (jF PySem.F.plainAttrs_str PySem.F.slot_str_join PySem.F.type_str_join vM bJ (ak (qw 0) aq))))) aq)))))⟩
theorem J3 (F:bV K mg "_law_same" rD ["_law_got", "_law_due"]) (ac4:bG P w K mg base "_law_same" (0+n) ["_law_got", "_law_due"] (bU K 2 (cg n))):bG P w K mg base "_law_same" (0+n+1) ["_law_got", "_law_due"] (bU K 2 (cg (n+1))):=
 F.ok uo λf cdv A outer s H E hr=>⟨_,λ_ _=>rfl,(aA (bL (gF (XX (fX yS rfl (iT B) (by kernel_rfl) (fj (qw 1) (fj (HH (fj (my rfl (uq B) (by kernel_rfl) rfl) (fj (my rfl (Ed B) (by kernel_rfl) rfl) mR))) mR)))) (λ_=>rfl))
  (aA (bL (PW.pt (jj (jW (gF (XX (fX yS rfl (iT B) (by kernel_rfl) (fj (qw 0) (fj (HH (fj (my rfl (uq B) (by kernel_rfl) rfl) (fj (my rfl (Ed B) (by kernel_rfl) rfl) mR))) mR)))) (λ_=>rfl))) (lu (bD (iK hr) iM (Lx (fX mD rfl (iT B) (by kernel_rfl) (fj (qw 0) (fj (my rfl (uq B) (by kernel_rfl) rfl) mR)))) (Lx (fX mD rfl (iT B) (by kernel_rfl) (fj (qw 1) (fj (my rfl (uq B) (by kernel_rfl) rfl) mR)))) (bf _)))))
  (aD (aX (qc wz fK)))
  bj)
  (aA (bL (bD (iK hr) iM (qL (jq B) (qw 0)) (qL (jq B) (qw 1)) (bf _))
  (aD (aX (qc wz fK)))
  bj)
  (aA (gY aaY rfl (Mh rfl (Ud B) (ak (qw 0) (ak (qw 1) aq))) (lW rfl (cF (dU 2 uo.nd) (cF (dU 3 uo.nd) jM))) (lX (cV bH (cV bH lU)))
  (aD (bL (jW (gF (aO ac4 (hr.mono (by omega)) rfl (ak (qw 2) (ak (qw 3) aq)) (au (au aK))) (λ_=>rfl)))
  (aD (aX (qc wz fK)))
  bj)))
  (aD (aX (qc wz fK))))))
  bj)
  (aA (bL (bD tE qz (qw 1) km (bf _))
  (aD (aX (yN tE qz (qw 0) km (bf _))))
  bj)
  (aA (bL (gF (Lx (fX mD rfl (iT B) (by kernel_rfl) (fj (qw 1) (fj (my rfl (Hq B) (by kernel_rfl) rfl) mR)))) (λ_=>rfl))
  (aD (aX (Ii (Lx (fX mD rfl (iT B) (by kernel_rfl) (fj (qw 0) (fj (my rfl (Hq B) (by kernel_rfl) rfl) mR)))) (Ii (aaj (Lx (fX mD rfl (iT B) (by kernel_rfl) (fj (qw 0) (fj (my rfl (Yb B) (by kernel_rfl) rfl) mR))))) (DG (yN (cA hr) cB (qw 0) (qw 1) (bf _)))))))
  bj)
  (aD (aX (Ii (Lx (fX mD rfl (iT B) (by kernel_rfl) (fj (qw 0) (fj (my rfl (Hr B) (by kernel_rfl) rfl) mR)))) (DG (yN (cA hr) cB (qw 0) (qw 1) (bf _)))))))))⟩
theorem yg (adI:bV K mg "_law_same" rD ["_law_got", "_law_due"]):∀n:Nat,bG P w K mg base "_law_same" (0+n) ["_law_got", "_law_due"] (bU K 2 (cg n))
 | 0=>mF adI
 | n+1=>by have ih:=yg adI n;exact J3 B acI acJ acG acM acL acK acE acB acF acC acD adI ih
theorem CQ (F:bV K mg "_law_spoiled" qH ["_law_got"]):uP P w K mg base:=
 F.ok (k:=0) iZ λf cdv A outer s H E hr=>⟨_,λ_ _=>rfl,(aA (nH (jL (jF aa9 abb abd iI (qI (qw 0)) (ak bJ aq))))
  (aA (nH (jL (jF aa9 abb abd iI (qI (qw 0)) (ak (dw (ak bJ (ak bJ aq))) aq))))
  (aA (nH (jL (jF aa9 abb abd iI (qI (qI (qw 0))) (ak (dw (ak bJ (ak bu (ak km aq)))) aq))))
  (aA (nH (jL (jF aa9 abb abd iI (qI (qI (qw 0))) (ak (dw (ak bJ (ak bJ (ak bJ aq)))) aq))))
  (aA (Ma aaY rfl (LR (qI (qI (qw 0)))) (lW rfl (cF (dU 1 iZ.nd) (cF (dU 2 iZ.nd) (cF (dU 3 iZ.nd) (cF (dU 4 iZ.nd) jM))))) (lX (cV bH (cV bH (cV bH (cV bH lU)))))
  (aA (nH (jL (jF aa9 abb abd iI (qw 3) (ak (dw (ak bJ (ak km aq))) aq))))
  (aD (nH (jL (jF aa9 abb abd iI (qw 4) (ak (dw (ak bJ (ak bJ (ak (dw (ak bJ (ak bu aq))) aq)))) aq)))))))
  (aA (Ma aaY rfl (LR (qI (qI (qw 0)))) (dU 5 iZ.nd) bH
  (aD (bL (bD (yP hr) vK (qI (qw 5)) (dw (ak bJ (ak bJ aq))) (by with_unfolding_all rfl))
  (aD (nH (jL (jF aa9 abb abd iI (qI (qw 5)) (ak (dw (ak bJ (ak bJ (ak (dw (ak bJ (ak bu aq))) aq)))) aq)))))
  bj)))
  (aA (nH (jL (jF aa9 abb abd iI (qI (qI (qw 0))) (ak (dw (ak bJ (ak km (ak (bR aq) (ak (bR aq) aq))))) aq))))
  (aD (nH (jL (jF aa9 abb abd iI (qI (qI (qw 0))) (ak (dw (ak bJ (ak bJ (ak (dw (ak bJ (ak bu aq))) aq)))) aq))))))))))))⟩
theorem Yc {f:Addr} {fd:FuncData} (F:uF K "law" "law" xg f fd) (ac7:uv P w K mg base) (adw:vV P w K mg base) (adJ:zq P w K mg base) (ac4:JF P w K mg base) (adq:uP P w K mg base) (adK:zu P w K mg base) (adt:uO P w K mg base) (adO:Ml P w K mg base) (ad2:JC P w K mg base):oH P w K mg base qe 87 f fd ["_law_script"] (bU K 1 Hn):=
 uF.okP (k:=86) F vR λcdv A outer s H E hr=>⟨_,λ_ _=>rfl,(aA (cP 1 vR.nd (Xu (bR (ak (qw 0) (ak bu (ak (jK (bR (ak bu (ak bu (ak bu (ak bu aq))))) (bW jT iW (aO ac7 (hr.mono (by omega)) rfl (ak (qw 0) (ak bu aq)) (au (au aK))) bu) (λ_ _=>rfl)) (ak bu (ak bu aq))))))))
  (aA (cP 2 vR.nd (aO adK (hr.mono (by omega)) rfl (ak (qw 1) (ak (aO adJ (hr.mono (by omega)) rfl (ak (qw 1) aq) (au aK)) aq)) (au (au aK))))
  (aA (cP 3 vR.nd (aO adw (hr.mono (by omega)) rfl (ak (aO adt (hr.mono (by omega)) rfl (ak (qw 2) aq) (au aK)) aq) (au aK)))
  (aA (cP 4 vR.nd (aO adO (hr.mono (by omega)) rfl (ak (qw 3) aq) (au aK)))
  (aA (bL (jW (gF (Cv ac4 (hr.mono (by omega)) rfl (ak (qw 4) (ak (qw 2) aq)) (au (au aK))) (λ_=>rfl)))
  (aD (aX (qc wz fK)))
  bj)
  (aA (cP 5 vR.nd (aO adO (hr.mono (by omega)) rfl (ak (qw 3) aq) (au aK)))
  (aA (oX (aO adq (hr.mono (by omega)) rfl (ak (qw 4) aq) (au aK)))
  (aA (bL (bD (iK hr) iM (Cv ad2 (hr.mono (by omega)) rfl (ak (qI (qw 5)) (ak (qI (qw 5)) (ak (qI (qw 5)) aq))) (au (au (au aK)))) (qw 3) (bf _))
  (aD (aX (qc wz fK)))
  bj)
  (aD (aX (Ii (Cv ac4 (hr.mono (by omega)) rfl (ak (qw 5) (ak (qw 2) aq)) (au (au aK))) (DG (Cv ac4 (hr.mono (by omega)) rfl (ak (aO adO (hr.mono (by omega)) rfl (ak (qw 3) aq) (au aK)) (ak (qw 2) aq)) (au (au aK)))))))))))))))⟩
end
def Lw (c:Nat):Prop:=97<=c/\c<=122
def Gn (x:Str):Prop:=1<=x.length/\x.length<=8/\∀c∈x.cps.toList,Lw c
theorem Gn.le {x:Str} (h:Gn x):x.length<=17:=by have:=h.2.1; omega
abbrev wl (ws:List Str):PV:=.lst (ws.map .str)
abbrev ll (ls:List (List Str)):List PV:=ls.map wl
def lw (ws:List Str):Nat:=(ws.map λx=>x.length+1).sum
def tw (ls:List (List Str)):Nat:=(ls.map lw).sum
theorem Qv {a b:List Str}:lw (a++b)=lw a+lw b:=by simp[lw]
theorem gP {x:Str} {b:List Str}:lw (x::b)=x.length+1+lw b:=by simp[lw]
theorem vZ {a b:List (List Str)}:tw (a++b)=tw a+tw b:=by simp[tw]
theorem sW {x:List Str} {b:List (List Str)}:tw (x::b)=lw x+tw b:=by simp[tw]
theorem aav {a b:List PV} (h:a.length+b.length<=100000):aY (.lst a) (.lst b)=some (.own (.lst (a++b))):=by show (if a.length+b.length<=100000 then _ else _)=_;rw[acq h]
theorem d7 {fa fb:EF} {O O1 O2:Ev} {x y:Lc} {a b:List PV} (h1:fa O=some (x,O1)) (hx:x.pv=.lst a) (h2:fb O1=some (y,O2)) (hy:y.pv=.lst b) (h:a.length+b.length<=100000):aC aY fa fb O=some (.own (.lst (a++b)),O2):=bC h1 h2 (by rw[hx,hy]; exact aav h)
theorem oW {f:EF} {a b:Str} {O O1:Ev} (h:f O=some (.sh (.str a),O1)) (e:(a==b)=true):tT (aC eqP f (aeP b)) aW O=some (true,O1):=Cm (l:=.sh (.bl true)) (bC h rfl (by show some (Lc.sh (.bl (a==b)))=_; rw[e])) rfl
theorem gU {f:EF} {a b:Str} {O O1:Ev} (h:f O=some (.sh (.str a),O1)) (e:(a==b)=false):tT (aC eqP f (aeP b)) aW O=some (false,O1):=Cm (l:=.sh (.bl false)) (bC h rfl (by show some (Lc.sh (.bl (a==b)))=_; rw[e])) rfl
theorem at0 {p:PV} {t:List PV}:eQ (p::t) 0=some p:=by obtain⟨x,h,h2⟩:=tU (l:=p::t) (i:=0) (by decide) (by simp only[aaC]; omega);rw[h,<-h2]; rfl
inductive aV where
 | num (v:Int)
 | box (x:Str)
 | at (x:Str) (e:aV)
 | sg (s:Str) (a b:aV)
def aV.pv:aV->PV
 | .num v=>.tup [.str "num",.int v]
 | .box x=>.tup [.str "box",.str x]
 | .at x e=>.tup [.str "@",.str x,e.pv]
 | .sg s a b=>.tup [.str s,a.pv,b.pv]
def aV.ws:aV->List Str
 | .num v=>[toString v]
 | .box x=>[x]
 | .at x e => "@" :: x::e.ws
 | .sg s a b=>s::(a.ws++b.ws)
def aV.dep:aV->Nat
 | .num _=>1
 | .box _=>1
 | .at _ e=>e.dep+1
 | .sg _ a b=>max a.dep b.dep+1
def Sg (s:Str):Prop:=s = "+" \/ s = "-" \/ s = "*" \/ s = "<" \/ s = "="
theorem Sg.no {s:Str} (h:Sg s):(s == "num")=false/\(s == "box")=false/\(s == "@")=false:=by rcases h with rfl | rfl | rfl | rfl | rfl<;>decide +kernel
theorem Sg.len {s:Str} (h:Sg s):s.length=1:=by rcases h with rfl | rfl | rfl | rfl | rfl<;>decide +kernel
def aV.ok:aV->Prop
 | .num v=>0<=v/\v<1000000000000
 | .box x=>Gn x
 | .at x e=>Gn x/\e.ok
 | .sg s a b=>Sg s/\a.ok/\b.ok
theorem Ei {v:Int} (h0:0<=v) (h1:v<1000000000000):N6 (.int v)=some (.sh (.str (toString v))):=by
 show (if v.natAbs.log2<1920 then _ else _)=_;have h2:v.natAbs.log2<64:=by
  by_cases e:v.natAbs=0
  . rw[e]; decide +kernel
  . exact(Nat.log2_lt e).mpr (by omega)
 rw[acq (by omega)]
abbrev E1 (p:PV) (mu:Mu):Ev:=⟨[some (.sh p)],mu⟩
theorem Mm (e:aV):1<=e.ws.length:=by cases e<;>simp[aV.ws]
theorem uQ {mu:Mu}:∀(e:aV) (n:Nat),e.ok->e.dep<=n->e.ws.length<=1000->bN n [e.pv] mu=some (.own (wl e.ws),mu)
 | .num v,n,ok,hd,hl=>by obtain⟨m,rfl⟩:∃m,n=m+1:=⟨n-1,by simp only[aV.dep]at hd; omega⟩;refine aR (O:=E1 (aV.num v).pv mu) (cW ((cZ (O1:=E1 (aV.num v).pv mu) (oW (a := "num") rfl (by decide +kernel))).trans (bO ?_)));exact lY (ls:=[.sh (.str (toString v))]) (aH (uZ (ls:=[.sh (.int v)]) (ps:=[.int v]) rfl rfl (Ei ok.1 ok.2)) rfl) rfl rfl
 | .box x,n,ok,hd,hl=>by obtain⟨m,rfl⟩:∃m,n=m+1:=⟨n-1,by simp only[aV.dep]at hd; omega⟩;refine aR (O:=E1 (aV.box x).pv mu) (aB (O':=E1 (aV.box x).pv mu) ((bI (O1:=E1 (aV.box x).pv mu) (gU (a := "box") rfl (by decide +kernel))).trans rfl) (cW ((cZ (O1:=E1 (aV.box x).pv mu) (oW (a := "box") rfl (by decide +kernel))).trans rfl)))
 | .at x e,n,ok,hd,hl=>by
  simp only[aV.dep]at hd;obtain⟨m,rfl⟩:∃m,n=m+1:=⟨n-1,by omega⟩;have hl':e.ws.length+2<=1000:=by simpa [aV.ws] using hl
  have ih:=uQ (mu:=mu) e m ok.2 (by omega) (by omega);let E:=E1 (aV.at x e).pv mu;refine aR (O:=E) (aB (O':=E) ((bI (O1:=E) (gU (a := "@") rfl (by decide +kernel))).trans rfl) (aB (O':=E) ((bI (O1:=E) (gU (a := "@") rfl (by decide +kernel))).trans rfl) (cW ((cZ (O1:=E) (oW (a := "@") rfl (by decide +kernel))).trans (bO ?_)))));exact d7 (a:=[.str "@",.str x]) (b:=e.ws.map .str) (x:=.own (.lst [.str "@",.str x])) (y:=.own (wl e.ws)) (O1:=E) rfl rfl (aL (ps:=[e.pv]) (ls:=[.sh e.pv]) (O1:=E) rfl rfl rfl rfl ih) rfl (by simp; omega)
 | .sg s a b,n,ok,hd,hl=>by
  simp only[aV.dep]at hd;obtain⟨m,rfl⟩:∃m,n=m+1:=⟨n-1,by omega⟩;have hl':a.ws.length+b.ws.length+1<=1000:=by simpa [aV.ws] using hl
  obtain⟨n1,n2,n3⟩:=ok.1.no;have iha:=uQ (mu:=mu) a m ok.2.1 (by omega) (by omega);have ihb:=uQ (mu:=mu) b m ok.2.2 (by omega) (by omega);let E:=E1 (aV.sg s a b).pv mu;refine aR (O:=E) (aB (O':=E) ((bI (O1:=E) (gU (a:=s) rfl n1)).trans rfl) (aB (O':=E) ((bI (O1:=E) (gU (a:=s) rfl n2)).trans rfl) (aB (O':=E) ((bI (O1:=E) (gU (a:=s) rfl n3)).trans rfl) (bO ?_))));have e1:=d7 (fa:=aP (aa (aG (aj 0) (aeO 0)) ao)) (fb:=az (bN m) (aa (aG (aj 0) (aeO 1)) ao)) (O:=E) (a:=[.str s]) (b:=a.ws.map .str) (x:=.own (.lst [.str s])) (y:=.own (wl a.ws)) (O1:=E) (O2:=E) rfl rfl (aL (ps:=[a.pv]) (ls:=[.sh a.pv]) (O1:=E) rfl rfl rfl rfl iha) rfl (by simp; omega);have e2:=d7 (fb:=az (bN m) (aa (aG (aj 0) (aeO 2)) ao)) (a:=.str s::a.ws.map .str) (b:=b.ws.map .str) (y:=.own (wl b.ws)) (O2:=E) e1 rfl (aL (ps:=[b.pv]) (ls:=[.sh b.pv]) (O1:=E) rfl rfl rfl rfl ihb) rfl (by simp; omega);refine e2.trans ?_;simp[aV.ws,wl]
abbrev W4 (p:PV) (acc todo:List PV) (o:Option Lc) (mu:Mu):Ev:=⟨[some (.sh p),some (.own (.lst acc)),some (.own (.lst todo)),o],mu⟩
abbrev CT:SF:=(aF (aM 3 (Jf 2))
 (bT (tT (aC eqP (aG (aj 3) (aeO 0)) (aeP "num")) aW)
 (cY 1 (eB str1 (aa (aG (aj 3) (aeO 1)) ao)))
 (bT (tT (aC eqP (aG (aj 3) (aeO 0)) (aeP "box")) aW)
 (cY 1 (aG (aj 3) (aeO 1)))
 (bT (tT (aC eqP (aG (aj 3) (aeO 0)) (aeP "@")) aW)
 (aF (aM 1 (aC aY (aj 1) (aP (aa (aeP "@") (aa (aG (aj 3) (aeO 1)) ao)))))
 (cY 2 (aG (aj 3) (aeO 2))))
 (aF (cY 1 (aG (aj 3) (aeO 0)))
 (aM 2 (aC aY (aj 2) (aP (aa (aG (aj 3) (aeO 2)) (aa (aG (aj 3) (aeO 1)) ao))))))))))
abbrev yh:TF:=zZ (tT (aC gC (aj 2) (aP ao)) aW)
theorem Hs {p q:PV} {acc todo:List PV} {o:Option Lc} {mu:Mu}:yh (W4 p acc (todo++[q]) o mu)=some (true,W4 p acc (todo++[q]) o mu):=by refine Je (O1:=⟨[some (.sh p),some (.sh (.lst acc)),some (.sh (.lst (todo++[q]))),Hj o],mu.map λ_=>none⟩) (cj (l:=.sh (.bl true)) (p:=.bl true) (bC (x:=.sh (.lst (todo++[q]))) (y:=.own (.lst [])) rfl rfl ?_) rfl rfl);show (if (todo++[q]).length=([]:List PV).length then wG (gB 149) (todo++[q]) [] else some false).map _=_;rw[acr (by simp)];rfl
theorem Zg {p:PV} {acc:List PV} {o:Option Lc} {mu:Mu}:yh (W4 p acc [] o mu)=some (false,W4 p acc [] o mu):=
 Je (O1:=⟨[some (.sh p),some (.sh (.lst acc)),some (.sh (.lst [])),Hj o],mu.map λ_=>none⟩) (cj (l:=.sh (.bl false)) (p:=.bl false) (bC (x:=.sh (.lst [])) (y:=.own (.lst [])) rfl rfl rfl) rfl rfl)
theorem CV {p q:PV} {acc todo:List PV} {o:Option Lc} {mu:Mu}:aM 3 (Jf 2) (W4 p acc (todo++[q]) o mu)=some (.nx (W4 p acc todo (some (.sh q)) mu)):=by
 refine bK (l:=.sh q) (O1:=W4 p acc todo o mu) ?_ rfl rfl;show ((todo++[q])[(todo++[q]).length-1]?).map (λp'=>(Lc.sh p',Ev.set (W4 p acc (todo++[q]) o mu) 2 (some (.own (.lst (todo++[q]).dropLast)))))=_;have e:(todo++[q])[(todo++[q]).length-1]?=some q:=by simp
 rw[e,List.dropLast_concat];rfl
def aV.siz:aV->Nat
 | .num _=>1
 | .box _=>1
 | .at _ e=>e.siz+1
 | .sg _ a b=>a.siz+b.siz+1
theorem CZ:∀e:aV,e.siz<=e.ws.length
 | .num _=>by simp[aV.siz,aV.ws]
 | .box _=>by simp[aV.siz,aV.ws]
 | .at _ e=>by have:=CZ e; simp[aV.siz,aV.ws]; omega
 | .sg _ a b=>by have:=CZ a; have:=CZ b; simp[aV.siz,aV.ws]; omega
theorem uR {p:PV} {mu:Mu}:∀(e:aV) (acc todo:List PV) (o:Option Lc) (n:Nat),e.ok->acc.length+e.ws.length<=2000->todo.length+e.siz<=2000->∃o',jx yh CT (n+e.siz) (W4 p acc (todo++[e.pv]) o mu)=jx yh CT n (W4 p (acc++e.ws.map .str) todo o' mu)
 | .num v,acc,todo,o,n,ok,hl,ht=>by
  refine⟨some (.sh (aV.num v).pv),?_⟩;have st:CT (W4 p acc (todo++[(aV.num v).pv]) o mu)=some (.nx (W4 p (acc++[.str (toString v)]) todo (some (.sh (aV.num v).pv)) mu)):=
   aB CV ((cZ (O1:=W4 p acc todo (some (.sh (aV.num v).pv)) mu) (oW (a := "num") rfl (by decide +kernel))).trans (fL (ws0:=acc) (ws:=acc) (l:=.sh (.str (toString v))) (p:=.str (toString v)) (O1:=W4 p acc todo (some (.sh (aV.num v).pv)) mu) rfl (uZ (ls:=[.sh (.int v)]) (ps:=[.int v]) rfl rfl (Ei ok.1 ok.2)) rfl rfl (by simp[aV.ws]at hl; omega) rfl))
  show (yh _).bind _=_;rw[Hs,aay,acq rfl,st];rfl
 | .box x,acc,todo,o,n,ok,hl,ht=>by
  refine⟨some (.sh (aV.box x).pv),?_⟩;have st:CT (W4 p acc (todo++[(aV.box x).pv]) o mu)=some (.nx (W4 p (acc++[.str x]) todo (some (.sh (aV.box x).pv)) mu)):=
   aB CV ((bI (O1:=W4 p acc todo (some (.sh (aV.box x).pv)) mu) (gU (a := "box") rfl (by decide +kernel))).trans ((cZ (O1:=W4 p acc todo (some (.sh (aV.box x).pv)) mu) (oW (a := "box") rfl (by decide +kernel))).trans (fL (ws0:=acc) (ws:=acc) (l:=.sh (.str x)) (p:=.str x) (O1:=W4 p acc todo (some (.sh (aV.box x).pv)) mu) rfl rfl rfl rfl (by simp[aV.ws]at hl; omega) rfl)))
  show (yh _).bind _=_;rw[Hs,aay,acq rfl,st];rfl
 | .at x e,acc,todo,o,n,ok,hl,ht=>by
  have hl':acc.length+(e.ws.length+2)<=2000:=by simpa [aV.ws] using hl
  have ht':todo.length+(e.siz+1)<=2000:=by simpa [aV.siz] using ht
  obtain⟨o',ih⟩:=uR (p:=p) (mu:=mu) e (acc++[.str "@",.str x]) todo (some (.sh (aV.at x e).pv)) n ok.2 (by simp; omega) (by omega);refine⟨o',?_⟩;let E:=W4 p acc todo (some (.sh (aV.at x e).pv)) mu;let E':Ev:=⟨[some (.sh p),some (.sh (.lst acc)),some (.own (.lst todo)),some (.sh (aV.at x e).pv)],mu⟩;have st:CT (W4 p acc (todo++[(aV.at x e).pv]) o mu)=some (.nx (W4 p (acc++[.str "@",.str x]) (todo++[e.pv]) (some (.sh (aV.at x e).pv)) mu)):=by refine aB CV ((bI (O1:=E) (gU (a := "@") rfl (by decide +kernel))).trans ((bI (O1:=E) (gU (a := "@") rfl (by decide +kernel))).trans ((cZ (O1:=E) (oW (a := "@") rfl (by decide +kernel))).trans ?_)));refine aB (O':=W4 p (acc++[.str "@",.str x]) todo (some (.sh (aV.at x e).pv)) mu) (bK (l:=.own (.lst (acc++[.str "@",.str x]))) (O1:=E') (d7 (x:=.sh (.lst acc)) (y:=.own (.lst [.str "@",.str x])) (O1:=E') (O2:=E') rfl rfl rfl rfl (by simp; omega)) rfl rfl) ?_;exact fL (ws0:=todo) (ws:=todo) (l:=.sh e.pv) (p:=e.pv) (O1:=W4 p (acc++[.str "@",.str x]) todo (some (.sh (aV.at x e).pv)) mu) rfl rfl rfl rfl (by omega) rfl
  have e2:n+(aV.at x e).siz=(n+e.siz)+1:=by simp[aV.siz]; omega
  rw[e2];show (yh _).bind _=_;rw[Hs,aay,acq rfl,st];show jx yh CT (n+e.siz) (W4 p (acc++[.str "@",.str x]) (todo++[e.pv]) (some (.sh (aV.at x e).pv)) mu)=_;rw[ih];simp[aV.ws]
 | .sg s a b,acc,todo,o,n,ok,hl,ht=>by
  have hl':acc.length+(a.ws.length+b.ws.length+1)<=2000:=by simpa [aV.ws] using hl
  have ht':todo.length+(a.siz+b.siz+1)<=2000:=by simpa [aV.siz] using ht
  obtain⟨n1,n2,n3⟩:=ok.1.no;have pa:1<=a.siz:=by cases a<;>simp[aV.siz]
  have pb:1<=b.siz:=by cases b<;>simp[aV.siz]
  obtain⟨o1,iha⟩:=uR (p:=p) (mu:=mu) a (acc++[.str s]) (todo++[b.pv]) (some (.sh (aV.sg s a b).pv)) (n+b.siz) ok.2.1 (by simp; omega) (by simp; omega);obtain⟨o2,ihb⟩:=uR (p:=p) (mu:=mu) b (acc++[.str s]++a.ws.map .str) todo o1 n ok.2.2 (by simp; omega) (by omega);refine⟨o2,?_⟩;let E:=W4 p acc todo (some (.sh (aV.sg s a b).pv)) mu;let E':Ev:=⟨[some (.sh p),some (.own (.lst (acc++[.str s]))),some (.sh (.lst todo)),some (.sh (aV.sg s a b).pv)],mu⟩;have st:CT (W4 p acc (todo++[(aV.sg s a b).pv]) o mu)=some (.nx (W4 p (acc++[.str s]) (todo++[b.pv,a.pv]) (some (.sh (aV.sg s a b).pv)) mu)):=by refine aB CV ((bI (O1:=E) (gU (a:=s) rfl n1)).trans ((bI (O1:=E) (gU (a:=s) rfl n2)).trans ((bI (O1:=E) (gU (a:=s) rfl n3)).trans ?_)));refine aB (O':=W4 p (acc++[.str s]) todo (some (.sh (aV.sg s a b).pv)) mu) (fL (ws0:=acc) (ws:=acc) (l:=.sh (.str s)) (p:=.str s) (O1:=E) rfl rfl rfl rfl (by omega) rfl) ?_;exact bK (l:=.own (.lst (todo++[b.pv,a.pv]))) (O1:=E') (d7 (x:=.sh (.lst todo)) (y:=.own (.lst [b.pv,a.pv])) (O1:=E') (O2:=E') rfl rfl rfl rfl (by simp; omega)) rfl rfl
  have e2:n+(aV.sg s a b).siz=(n+b.siz+a.siz)+1:=by simp[aV.siz]; omega
  rw[e2];show (yh _).bind _=_;rw[Hs,aay,acq rfl,st];show jx yh CT (n+b.siz+a.siz) (W4 p (acc++[.str s]) (todo++[b.pv,a.pv]) (some (.sh (aV.sg s a b).pv)) mu)=_;have e3:todo++[b.pv,a.pv]=(todo++[b.pv])++[a.pv]:=by simp
  rw[e3,iha,ihb];simp[aV.ws]
theorem R9 {e:aV} {mu:Mu} (ok:e.ok) (hl:e.ws.length<=150):di [e.pv] mu=some (.own (wl e.ws),mu):=by
 have hs:=CZ e;obtain⟨o,h⟩:=uR (p:=e.pv) (mu:=mu) e [] [] none (200-e.siz) ok (by simp; omega) (by simp; omega);have e2:200-e.siz+e.siz=199+1:=by omega
 rw[e2]at h;have e3:jx yh CT (200-e.siz) (W4 e.pv ([]++e.ws.map .str) [] o mu)=some (.nx (W4 e.pv (e.ws.map .str) [] o mu)):=by obtain⟨m,hm⟩:∃m,200-e.siz=m+1:=⟨199-e.siz,by omega⟩;rw[hm];show (yh _).bind _=_;rw[Zg,aay,acr aba];rfl
 rw[e3]at h;refine aR (O:=⟨[some (.sh e.pv),none,some (.own (.lst [])),o],mu⟩) ?_;refine aB (O':=⟨[some (.sh e.pv),some (.own (.lst [])),none,none],mu⟩) rfl (aB (O':=W4 e.pv [] ([]++[e.pv]) none mu) rfl (aB (O':=W4 e.pv (e.ws.map .str) [] o mu) h rfl))
abbrev zI (x:Int):Option Lc:=some (.sh (.int x))
abbrev zT (x:Str):Option Lc:=some (.sh (.str x))
abbrev zL (x:List PV):Option Lc:=some (.sh (.lst x))
abbrev zO (x:List PV):Option Lc:=some (.own (.lst x))
abbrev zS (x:PV):Option Lc:=some (.sh x)
mutual
inductive Row where
 | set (x:Str) (e:aV)
 | put (x:Str) (e f:aV)
 | out (x:Str) (e:aV) (w:Str)
 | call (x f:Str) (es:List aV)
 | ifr (e:aV) (a b:Rows)
 | wh (e:aV) (a:Rows)
inductive Rows where
 | nil
 | cons (r:Row) (rs:Rows)
end
mutual
def Row.pv:Row->PV
 | .set x e=>.tup [.str "set",.str x,e.pv]
 | .put x e f=>.tup [.str "put",.str x,e.pv,f.pv]
 | .out x e w=>.tup [.str "out",.str x,e.pv,.str w]
 | .call x f es=>.tup [.str "call",.str x,.str f,.lst (es.map aV.pv)]
 | .ifr e a b=>.tup [.str "if",e.pv,.lst a.pvs,.lst b.pvs]
 | .wh e a=>.tup [.str "while",e.pv,.lst a.pvs]
def Rows.pvs:Rows->List PV
 | .nil=>[]
 | .cons r rs=>r.pv::rs.pvs
end
def fZ (es:List aV):List Str:=(es.map aV.ws).flatten
def Row.hd:Row->List Str
 | .set x e => "set" :: x::e.ws
 | .put x e f => "put" :: x::(e.ws++f.ws)
 | .out x e w => "out" :: x::w::e.ws
 | .call x f es => "call" :: x::f::fZ es
 | .ifr e _ _ => "if" :: e.ws
 | .wh e _ => "while" :: e.ws
abbrev pW:List (List Str):=[["else"]]
abbrev gK:List (List Str):=[["end"]]
mutual
def Row.ls:Row->List (List Str)
 | .set x e=>[(Row.set x e).hd]
 | .put x e f=>[(Row.put x e f).hd]
 | .out x e w=>[(Row.out x e w).hd]
 | .call x f es=>[(Row.call x f es).hd]
 | .ifr e a b=>("if" :: e.ws)::(a.ls++pW++b.ls++gK)
 | .wh e a=>("while" :: e.ws)::(a.ls++gK)
def Rows.ls:Rows->List (List Str)
 | .nil=>[]
 | .cons r rs=>r.ls++rs.ls
end
mutual
def Row.dep:Row->Nat
 | .ifr _ a b=>max a.dep b.dep+1
 | .wh _ a=>a.dep+1
 | _=>0
def Rows.dep:Rows->Nat
 | .nil=>0
 | .cons r rs=>max r.dep rs.dep
end
def Ex (e:aV):Prop:=e.ok/\e.dep<=6/\e.ws.length<=19
mutual
def Row.ok:Row->Prop
 | .set x e=>Gn x/\Ex e
 | .put x e f=>Gn x/\Ex e/\Ex f
 | .out x e w=>Gn x/\Gn w/\Ex e
 | .call x f es=>Gn x/\Gn f/\es.length<=4/\∀e∈es,Ex e
 | .ifr e a b=>Ex e/\a.ok/\b.ok
 | .wh e a=>Ex e/\a.ok
def Rows.ok:Rows->Prop
 | .nil=>True
 | .cons r rs=>r.ok/\rs.ok
end
theorem Ex.shown {e:aV} {mu:Mu} (h:Ex e):bN 40 [e.pv] mu=some (.own (wl e.ws),mu):=uQ e 40 h.1 (by have:=h.2.1; omega) (by have:=h.2.2; omega)
theorem Ex.words {e:aV} {mu:Mu} (h:Ex e):di [e.pv] mu=some (.own (wl e.ws),mu):=R9 h.1 (by have:=h.2.2; omega)
abbrev R3 (p:PV) (mu:Mu):Ev:=⟨[zS p,none,none],mu⟩
theorem Og {s:Str} {t:List PV} {mu:Mu} (h1:(s == "if")=false) (h2:(s == "while")=false):dR (tT (aC eqP (aG (aj 0) (aeO 0)) (aeP "if")) aW) (tT (aC eqP (aG (aj 0) (aeO 0)) (aeP "while")) aW) (R3 (.tup (.str s::t)) mu)=some (false,R3 (.tup (.str s::t)) mu):=by have e:aG (aj 0) (aeO 0) (R3 (.tup (.str s::t)) mu)=some (.sh (.str s),R3 (.tup (.str s::t)) mu):=fV rfl rfl rfl rfl (λn h=>by cases h) (by show (eQ (.str s::t) 0).map _=_; rw[at0]; rfl);exact kJ (b:=false) (b2:=false) (gU e h1) (gU e h2)
theorem uT {s w:Str} {t:List PV} {mu:Mu} (h1:(s==w)=false):tT (aC eqP (aG (aj 0) (aeO 0)) (aeP w)) aW (R3 (.tup (.str s::t)) mu)=some (false,R3 (.tup (.str s::t)) mu):=by have e:aG (aj 0) (aeO 0) (R3 (.tup (.str s::t)) mu)=some (.sh (.str s),R3 (.tup (.str s::t)) mu):=fV rfl rfl rfl rfl (λn h=>by cases h) (by show (eQ (.str s::t) 0).map _=_; rw[at0]; rfl);exact gU e h1
theorem Gp {s w:Str} {t:List PV} {mu:Mu} (h1:(s==w)=true):tT (aC eqP (aG (aj 0) (aeO 0)) (aeP w)) aW (R3 (.tup (.str s::t)) mu)=some (true,R3 (.tup (.str s::t)) mu):=by have e:aG (aj 0) (aeO 0) (R3 (.tup (.str s::t)) mu)=some (.sh (.str s),R3 (.tup (.str s::t)) mu):=fV rfl rfl rfl rfl (λn h=>by cases h) (by show (eQ (.str s::t) 0).map _=_; rw[at0]; rfl);exact oW e h1
theorem fP {b:BF} {body:SF} {x:PV} {xs:List PV} {O O1 O2:Ev} {R:Option Fl} (h1:b x O=some O1) (h2:body O1=some (.nx O2)) (h3:dz b body xs O2=R):dz b body (x::xs) O=R:=by show (b x O).bind _=R;rw[h1,aay,h2,aay];exact h3
theorem nA {e:aV} {es:List aV}:fZ (e::es)=e.ws++fZ es:=by simp[fZ]
theorem Vw {es:List aV} (h:∀e∈es,Ex e):(fZ es).length<=19*es.length:=by
 induction es with
 | nil=>simp[fZ]
 | cons e es ih=>
  have h1:=(h e aaz).2.2;have h2:=ih λx hx=>h x (aaA _ hx);rw[nA,aaH,aaC];omega
theorem Gq {A:Option Lc} {mu:Mu}:∀(es:List aV) (acc:List PV) (o:Option Lc),(∀e∈es,Ex e)->acc.length+19*es.length<=1000->∃o',dz (aJ 2) (jy 1 (az (bN 40) (aa (aj 2) ao))) (es.map aV.pv) ⟨[A,zO acc,o],mu⟩=some (.nx ⟨[A,zO (acc++(fZ es).map .str),o'],mu⟩)
 | [],acc,o,_,_=>⟨o,by simp[fZ,dz]⟩
 | e::es,acc,o,h,hl=>by have h1:=h e aaz;have h2:=h1.2.2;rw[aaC]at hl;obtain⟨o',ih⟩:=Gq (A:=A) (mu:=mu) es (acc++e.ws.map .str) (zS e.pv) (λx hx=>h x (aaA _ hx)) (by simp; omega);refine⟨o',fP (O1:=⟨[A,zO acc,zS e.pv],mu⟩) rfl (pH (ws0:=acc) (ws:=acc) (ps:=e.ws.map .str) (l:=.own (wl e.ws)) (O1:=⟨[A,zO acc,zS e.pv],mu⟩) rfl (aL (ps:=[e.pv]) (ls:=[.sh e.pv]) (O1:=⟨[A,zO acc,zS e.pv],mu⟩) rfl rfl rfl rfl h1.shown) rfl rfl (by simp; omega) rfl) (ih.trans ?_)⟩;rw[nA];simp
theorem Dc {A:Option Lc} {mu:Mu}:∀(es:List aV) (acc:List PV) (o:Option Lc),(∀e∈es,Ex e)->acc.length+19*es.length<=1000->∃o',dz (aJ 2) (aM 1 (aC aY (aj 1) (az di (aa (aj 2) ao)))) (es.map aV.pv) ⟨[A,zO acc,o],mu⟩=some (.nx ⟨[A,zO (acc++(fZ es).map .str),o'],mu⟩)
 | [],acc,o,_,_=>⟨o,by simp[fZ,dz]⟩
 | e::es,acc,o,h,hl=>by have h1:=h e aaz;have h2:=h1.2.2;rw[aaC]at hl;obtain⟨o',ih⟩:=Dc (A:=A) (mu:=mu) es (acc++e.ws.map .str) (zS e.pv) (λx hx=>h x (aaA _ hx)) (by simp; omega);let E':Ev:=⟨[A,zL acc,zS e.pv],mu⟩;refine⟨o',fP (O1:=⟨[A,zO acc,zS e.pv],mu⟩) (O2:=⟨[A,zO (acc++e.ws.map PV.str),zS e.pv],mu⟩) rfl (bK (l:=.own (.lst (acc++e.ws.map PV.str))) (O1:=E') (d7 (x:=.sh (.lst acc)) (y:=.own (wl e.ws)) (O1:=E') (O2:=E') rfl rfl (aL (ps:=[e.pv]) (ls:=[.sh e.pv]) (O1:=E') rfl rfl rfl rfl h1.words) rfl (by simp; omega)) rfl rfl) (ih.trans ?_)⟩;rw[nA];simp
theorem je {p:PV} {mu:Mu} {fa fb:EF} {hs:List Str} {e:aV} {O2:Ev} (h:Ex e) (h1:fa O2=some (.own (wl hs),O2)) (h2:fb O2=some (.own (wl e.ws),O2)) (hl:hs.length<=100):aC aY fa fb O2=some (.own (wl (hs++e.ws)),O2):=by have:=h.2.2;have r:=d7 (a:=hs.map .str) (b:=e.ws.map .str) h1 rfl h2 rfl (by simp; omega);rw[r];simp[wl]
theorem ux {mu:Mu}:∀r:Row,r.ok->rF [r.pv] mu=some (.own (wl r.hd),mu)
 | .set x e,ok=>by
  simp only[Row.ok]at ok;let E:=R3 (Row.set x e).pv mu;have q:Row.pv (.set x e)=.tup (.str "set" :: [.str x,e.pv]):=by simp[Row.pv]
  rw[q];refine aR (O:=R3 (.tup (.str "set" :: [.str x,e.pv])) mu) ?_;refine aB (O':=R3 (.tup (.str "set" :: [.str x,e.pv])) mu) ((bI (Og (by decide +kernel) (by decide +kernel))).trans rfl) ?_;refine aB (O':=R3 (.tup (.str "set" :: [.str x,e.pv])) mu) ((bI (uT (by decide +kernel))).trans rfl) ?_;refine aB (O':=R3 (.tup (.str "set" :: [.str x,e.pv])) mu) ((bI (uT (by decide +kernel))).trans rfl) ?_;refine aB (O':=R3 (.tup (.str "set" :: [.str x,e.pv])) mu) ((bI (uT (by decide +kernel))).trans rfl) (bO ?_);exact je (p:=.non) (mu:=mu) (hs:=["set",x]) ok.2 rfl (aL (ps:=[e.pv]) (ls:=[.sh e.pv]) (O1:=R3 (.tup (.str "set" :: [.str x,e.pv])) mu) rfl rfl rfl rfl ok.2.shown) (by simp)
 | .put x e f,ok=>by
  simp only[Row.ok]at ok;have q:Row.pv (.put x e f)=.tup (.str "put" :: [.str x,e.pv,f.pv]):=by simp[Row.pv]
  rw[q];let E:=R3 (.tup (.str "put" :: [.str x,e.pv,f.pv])) mu;have l1:=ok.2.1.2.2;refine aR (O:=E) ?_;refine aB (O':=E) ((bI (Og (by decide +kernel) (by decide +kernel))).trans rfl) ?_;refine cW ((cZ (O1:=E) (Gp (by decide +kernel))).trans (bO ?_));have e1:=je (p:=.non) (mu:=mu) (fa:=aP (aa (aeP "put") (aa (aG (aj 0) (aeO 1)) ao))) (fb:=az (bN 40) (aa (aG (aj 0) (aeO 2)) ao)) (O2:=E) (hs:=["put",x]) ok.2.1 rfl (aL (ps:=[e.pv]) (ls:=[.sh e.pv]) (O1:=E) rfl rfl rfl rfl ok.2.1.shown) (by simp);exact je (p:=.non) (mu:=mu) (hs := "put" :: x::e.ws) ok.2.2 e1 (aL (ps:=[f.pv]) (ls:=[.sh f.pv]) (O1:=E) rfl rfl rfl rfl ok.2.2.shown) (by simp; omega)
 | .out x e w,ok=>by
  simp only[Row.ok]at ok;have q:Row.pv (.out x e w)=.tup (.str "out" :: [.str x,e.pv,.str w]):=by simp[Row.pv]
  rw[q];let E:=R3 (.tup (.str "out" :: [.str x,e.pv,.str w])) mu;refine aR (O:=E) ?_;refine aB (O':=E) ((bI (Og (by decide +kernel) (by decide +kernel))).trans rfl) ?_;refine aB (O':=E) ((bI (uT (by decide +kernel))).trans rfl) ?_;refine cW ((cZ (O1:=E) (Gp (by decide +kernel))).trans (bO ?_));exact je (p:=.non) (mu:=mu) (hs:=["out",x,w]) ok.2.2 rfl (aL (ps:=[e.pv]) (ls:=[.sh e.pv]) (O1:=E) rfl rfl rfl rfl ok.2.2.shown) (by simp)
 | .call x f es,ok=>by
  simp only[Row.ok]at ok;have q:Row.pv (.call x f es)=.tup (.str "call" :: [.str x,.str f,.lst (es.map aV.pv)]):=by simp[Row.pv]
  rw[q];let E:=R3 (.tup (.str "call" :: [.str x,.str f,.lst (es.map aV.pv)])) mu;obtain⟨o',el⟩:=Gq (A:=some (.sh (.tup (.str "call" :: [.str x,.str f,.lst (es.map aV.pv)])))) (mu:=mu) es [.str "call",.str x,.str f] none ok.2.2.2 (by simp; omega);refine aR (O:=⟨[some (.sh (.tup (.str "call" :: [.str x,.str f,.lst (es.map aV.pv)]))),none,o'],mu⟩) ?_;refine aB (O':=E) ((bI (Og (by decide +kernel) (by decide +kernel))).trans rfl) ?_;refine aB (O':=E) ((bI (uT (by decide +kernel))).trans rfl) ?_;refine aB (O':=E) ((bI (uT (by decide +kernel))).trans rfl) ?_;refine cW ((cZ (O1:=E) (Gp (by decide +kernel))).trans ?_);refine aB (O':=⟨[some (.sh (.tup (.str "call" :: [.str x,.str f,.lst (es.map aV.pv)]))),some (.own (.lst [.str "call",.str x,.str f])),none],mu⟩) rfl ?_;refine aB ((gf (xs:=es.map aV.pv) (O1:=⟨[some (.sh (.tup (.str "call" :: [.str x,.str f,.lst (es.map aV.pv)]))),some (.own (.lst [.str "call",.str x,.str f])),none],mu⟩) rfl).trans el) ?_;show some (Fl.rt (.own (.lst ([.str "call",.str x,.str f]++(fZ es).map .str))) _)=_;simp[wl,Row.hd];rfl
 | .ifr e a b,ok=>by
  simp only[Row.ok]at ok;have q:Row.pv (.ifr e a b)=.tup (.str "if" :: [e.pv,.lst a.pvs,.lst b.pvs]):=by simp[Row.pv]
  rw[q];let E:=R3 (.tup (.str "if" :: [e.pv,.lst a.pvs,.lst b.pvs])) mu;refine aR (O:=E) (cW ((cZ (O1:=E) (kJ (b:=true) (b2:=false) (Gp (by decide +kernel)) (uT (by decide +kernel)))).trans (bO ?_)));exact je (p:=.non) (mu:=mu) (hs:=["if"]) ok.1 rfl (aL (ps:=[e.pv]) (ls:=[.sh e.pv]) (O1:=E) rfl rfl rfl rfl ok.1.shown) (by simp)
 | .wh e a,ok=>by
  simp only[Row.ok]at ok;have q:Row.pv (.wh e a)=.tup (.str "while" :: [e.pv,.lst a.pvs]):=by simp[Row.pv]
  rw[q];let E:=R3 (.tup (.str "while" :: [e.pv,.lst a.pvs])) mu;refine aR (O:=E) (cW ((cZ (O1:=E) (kJ (b:=false) (b2:=true) (uT (by decide +kernel)) (Gp (by decide +kernel)))).trans (bO ?_)));exact je (p:=.non) (mu:=mu) (hs:=["while"]) ok.1 rfl (aL (ps:=[e.pv]) (ls:=[.sh e.pv]) (O1:=E) rfl rfl rfl rfl ok.1.shown) (by simp)
def Row.leaf:Row->Prop
 | .ifr _ _ _=>False
 | .wh _ _=>False
 | _=>True
theorem Sd {mu:Mu}:∀r:Row,r.leaf->r.ok->pQ [r.pv] mu=some (.own (wl r.hd),mu)
 | .set x e,_,ok=>by
  simp only[Row.ok]at ok;have q:Row.pv (.set x e)=.tup (.str "set" :: [.str x,e.pv]):=by simp[Row.pv]
  rw[q];let E:=R3 (.tup (.str "set" :: [.str x,e.pv])) mu;refine aR (O:=E) (cW ((cZ (O1:=E) (Gp (by decide +kernel))).trans (bO ?_)));exact je (p:=.non) (mu:=mu) (hs:=["set",x]) ok.2 rfl (aL (ps:=[e.pv]) (ls:=[.sh e.pv]) (O1:=E) rfl rfl rfl rfl ok.2.words) (by simp)
 | .put x e f,_,ok=>by
  simp only[Row.ok]at ok;have q:Row.pv (.put x e f)=.tup (.str "put" :: [.str x,e.pv,f.pv]):=by simp[Row.pv]
  rw[q];let E:=R3 (.tup (.str "put" :: [.str x,e.pv,f.pv])) mu;have l1:=ok.2.1.2.2;refine aR (O:=E) ?_;refine aB (O':=E) ((bI (uT (by decide +kernel))).trans rfl) ?_;refine cW ((cZ (O1:=E) (Gp (by decide +kernel))).trans (bO ?_));have e1:=je (p:=.non) (mu:=mu) (fa:=aP (aa (aeP "put") (aa (aG (aj 0) (aeO 1)) ao))) (fb:=az di (aa (aG (aj 0) (aeO 2)) ao)) (O2:=E) (hs:=["put",x]) ok.2.1 rfl (aL (ps:=[e.pv]) (ls:=[.sh e.pv]) (O1:=E) rfl rfl rfl rfl ok.2.1.words) (by simp);exact je (p:=.non) (mu:=mu) (hs := "put" :: x::e.ws) ok.2.2 e1 (aL (ps:=[f.pv]) (ls:=[.sh f.pv]) (O1:=E) rfl rfl rfl rfl ok.2.2.words) (by simp; omega)
 | .out x e w,_,ok=>by
  simp only[Row.ok]at ok;have q:Row.pv (.out x e w)=.tup (.str "out" :: [.str x,e.pv,.str w]):=by simp[Row.pv]
  rw[q];let E:=R3 (.tup (.str "out" :: [.str x,e.pv,.str w])) mu;refine aR (O:=E) ?_;refine aB (O':=E) ((bI (uT (by decide +kernel))).trans rfl) ?_;refine aB (O':=E) ((bI (uT (by decide +kernel))).trans rfl) ?_;refine cW ((cZ (O1:=E) (Gp (by decide +kernel))).trans (bO ?_));exact je (p:=.non) (mu:=mu) (hs:=["out",x,w]) ok.2.2 rfl (aL (ps:=[e.pv]) (ls:=[.sh e.pv]) (O1:=E) rfl rfl rfl rfl ok.2.2.words) (by simp)
 | .call x f es,_,ok=>by
  simp only[Row.ok]at ok;have q:Row.pv (.call x f es)=.tup (.str "call" :: [.str x,.str f,.lst (es.map aV.pv)]):=by simp[Row.pv]
  rw[q];let E:=R3 (.tup (.str "call" :: [.str x,.str f,.lst (es.map aV.pv)])) mu;obtain⟨o',el⟩:=Dc (A:=some (.sh (.tup (.str "call" :: [.str x,.str f,.lst (es.map aV.pv)])))) (mu:=mu) es [.str "call",.str x,.str f] none ok.2.2.2 (by simp; omega);refine aR (O:=⟨[some (.sh (.tup (.str "call" :: [.str x,.str f,.lst (es.map aV.pv)]))),none,o'],mu⟩) ?_;refine aB (O':=E) ((bI (uT (by decide +kernel))).trans rfl) ?_;refine aB (O':=E) ((bI (uT (by decide +kernel))).trans rfl) ?_;refine aB (O':=E) ((bI (uT (by decide +kernel))).trans rfl) ?_;refine aB (O':=⟨[some (.sh (.tup (.str "call" :: [.str x,.str f,.lst (es.map aV.pv)]))),some (.own (.lst [.str "call",.str x,.str f])),none],mu⟩) rfl ?_;refine aB ((gf (xs:=es.map aV.pv) (O1:=⟨[some (.sh (.tup (.str "call" :: [.str x,.str f,.lst (es.map aV.pv)]))),some (.own (.lst [.str "call",.str x,.str f])),none],mu⟩) rfl).trans el) ?_;show some (Fl.rt (.own (.lst ([.str "call",.str x,.str f]++(fZ es).map .str))) _)=_;simp[wl,Row.hd];rfl
 | .ifr e a b,h,_=>h.elim
 | .wh e a,h,_=>h.elim
abbrev Ue (n:Nat):SF:=(aF (cY 1 (az rF (aa (aj 2) ao)))
 (aF (bT (tT (aC eqP (aG (aj 2) (aeO 0)) (aeP "if")) aW)
 (jy 1 (aC aY (aC aY (aC aY (az (cR n) (aa (aG (aj 2) (aeO 2)) ao)) (aP (aa (aP (aa (aeP "else") ao)) ao))) (az (cR n) (aa (aG (aj 2) (aeO 3)) ao))) (aP (aa (aP (aa (aeP "end") ao)) ao))))
 bM)
 (bT (tT (aC eqP (aG (aj 2) (aeO 0)) (aeP "while")) aW)
 (jy 1 (aC aY (az (cR n) (aa (aG (aj 2) (aeO 2)) ao)) (aP (aa (aP (aa (aeP "end") ao)) ao))))
 bM)))
abbrev Ug (n:Nat):SF:=(bT (tT (aC eqP (aG (aj 2) (aeO 0)) (aeP "if")) aW)
 (aF (cY 1 (aC aY (aP (aa (aeP "if") ao)) (az di (aa (aG (aj 2) (aeO 1)) ao))))
 (aF (aM 1 (aC aY (aC aY (aj 1) (az (bZ n) (aa (aG (aj 2) (aeO 2)) ao))) (aP (aa (aP (aa (aeP "else") ao)) ao))))
 (aM 1 (aC aY (aC aY (aj 1) (az (bZ n) (aa (aG (aj 2) (aeO 3)) ao))) (aP (aa (aP (aa (aeP "end") ao)) ao))))))
 (bT (tT (aC eqP (aG (aj 2) (aeO 0)) (aeP "while")) aW)
 (aF (cY 1 (aC aY (aP (aa (aeP "while") ao)) (az di (aa (aG (aj 2) (aeO 1)) ao))))
 (aM 1 (aC aY (aC aY (aj 1) (az (bZ n) (aa (aG (aj 2) (aeO 2)) ao))) (aP (aa (aP (aa (aeP "end") ao)) ao)))))
 (cY 1 (az pQ (aa (aj 2) ao)))))
abbrev L3 (A:Option Lc) (l p:Lc) (mu:Mu):Ev:=⟨[A,some l,some p],mu⟩
theorem hd2 {A:Option Lc} {l:Lc} {s:Str} {t:List PV} {mu:Mu}:aG (aj 2) (aeO 0) (L3 A l (.sh (.tup (.str s::t))) mu)=some (.sh (.str s),L3 A l (.sh (.tup (.str s::t))) mu):=fV rfl rfl rfl rfl (λn h=>by cases h) (by show (eQ (.str s::t) 0).map _=_; rw[at0]; rfl)
theorem zB:∀r:Row,r.leaf->∃s t,r.pv=.tup (.str s::t)/\(s == "if")=false/\(s == "while")=false/\r.ls=[r.hd]/\r.dep=0
 | .set x e,_=>⟨"set",[.str x,e.pv],by simp[Row.pv],by decide +kernel,by decide +kernel,by simp[Row.ls],by simp[Row.dep]⟩
 | .put x e f,_=>⟨"put",[.str x,e.pv,f.pv],by simp[Row.pv],by decide +kernel,by decide +kernel,by simp[Row.ls],by simp[Row.dep]⟩
 | .out x e w,_=>⟨"out",[.str x,e.pv,.str w],by simp[Row.pv],by decide +kernel,by decide +kernel,by simp[Row.ls],by simp[Row.dep]⟩
 | .call x f es,_=>⟨"call",[.str x,.str f,.lst (es.map aV.pv)],by simp[Row.pv],by decide +kernel,by decide +kernel,by simp[Row.ls],by simp[Row.dep]⟩
 | .ifr e a b,h=>h.elim
 | .wh e a,h=>h.elim
theorem sO {mu:Mu} (r:Row) (n:Nat) (A:Option Lc) (acc:List PV) (hf:r.leaf) (ok:r.ok) (hl:acc.length+r.ls.length<=5000):Ue n (L3 A (.own (.lst acc)) (.sh r.pv) mu)=some (.nx (L3 A (.own (.lst (acc++ll r.ls))) (.sh r.pv) mu)):=by obtain⟨s,t,ep,h1,h2,hls,_⟩:=zB r hf;have er:=ux (mu:=mu) r ok;rw[hls]at hl ⊢;rw[ep]at er ⊢;refine aB (O':=L3 A (.own (.lst (acc++[wl r.hd]))) (.sh (.tup (.str s::t))) mu) (fL (ws0:=acc) (ws:=acc) (l:=.own (wl r.hd)) (p:=wl r.hd) (O1:=L3 A (.own (.lst acc)) (.sh (.tup (.str s::t))) mu) rfl (aL (ps:=[.tup (.str s::t)]) (ls:=[.sh (.tup (.str s::t))]) (O1:=L3 A (.own (.lst acc)) (.sh (.tup (.str s::t))) mu) rfl rfl rfl rfl er) rfl rfl (by simp at hl; omega) rfl) ?_;refine aB (O':=L3 A (.own (.lst (acc++[wl r.hd]))) (.sh (.tup (.str s::t))) mu) ((bI (gU hd2 h1)).trans rfl) ?_;exact(bI (gU hd2 h2)).trans rfl
theorem sS {mu:Mu} (r:Row) (n:Nat) (A:Option Lc) (acc:List PV) (hf:r.leaf) (ok:r.ok) (hl:acc.length+r.ls.length<=5000):Ug n (L3 A (.own (.lst acc)) (.sh r.pv) mu)=some (.nx (L3 A (.own (.lst (acc++ll r.ls))) (.sh r.pv) mu)):=by obtain⟨s,t,ep,h1,h2,hls,_⟩:=zB r hf;have er:=Sd (mu:=mu) r hf ok;rw[hls]at hl ⊢;rw[ep]at er ⊢;refine(bI (gU hd2 h1)).trans ((bI (gU hd2 h2)).trans ?_);exact fL (ws0:=acc) (ws:=acc) (l:=.own (wl r.hd)) (p:=wl r.hd) (O1:=L3 A (.own (.lst acc)) (.sh (.tup (.str s::t))) mu) rfl (aL (ps:=[.tup (.str s::t)]) (ls:=[.sh (.tup (.str s::t))]) (O1:=L3 A (.own (.lst acc)) (.sh (.tup (.str s::t))) mu) rfl rfl rfl rfl er) rfl rfl (by simp at hl; omega) rfl
theorem Ae {mu:Mu} {rs:Rows} {n:Nat} (h:∃o',dz (aJ 2) (Ue n) rs.pvs ⟨[zL rs.pvs,zO [],none],mu⟩=some (.nx ⟨[zL rs.pvs,zO ([]++ll rs.ls),o'],mu⟩)):cR (n+1) [.lst rs.pvs] mu=some (.own (.lst (ll rs.ls)),mu):=by obtain⟨o',h⟩:=h;refine aR (O:=⟨[zL rs.pvs,none,o'],mu⟩) ?_;refine aB (O':=⟨[zL rs.pvs,zO [],none],mu⟩) rfl ?_;refine aB ((gf (xs:=rs.pvs) (O1:=⟨[zL rs.pvs,zO [],none],mu⟩) rfl).trans h) ?_;rfl
theorem xm {mu:Mu} {rs:Rows} {n:Nat} (h:∃o',dz (aJ 2) (Ug n) rs.pvs ⟨[zL rs.pvs,zO [],none],mu⟩=some (.nx ⟨[zL rs.pvs,zO ([]++ll rs.ls),o'],mu⟩)):bZ (n+1) [.lst rs.pvs] mu=some (.own (.lst (ll rs.ls)),mu):=by obtain⟨o',h⟩:=h;refine aR (O:=⟨[zL rs.pvs,none,o'],mu⟩) ?_;refine aB (O':=⟨[zL rs.pvs,zO [],none],mu⟩) rfl ?_;refine aB ((gf (xs:=rs.pvs) (O1:=⟨[zL rs.pvs,zO [],none],mu⟩) rfl).trans h) ?_;rfl
theorem xn {e:aV} {a b:Rows}:(Row.ifr e a b).ls=(("if" : Str)::e.ws)::(a.ls++pW++b.ls++gK):=by simp[Row.ls]
theorem xq {e:aV} {a:Rows}:(Row.wh e a).ls=(("while" : Str)::e.ws)::(a.ls++gK):=by simp[Row.ls]
theorem zE {e:aV} {a b:Rows}:(Row.ifr e a b).ls.length=a.ls.length+b.ls.length+3:=by rw[xn]; simp; omega
theorem zF {e:aV} {a:Rows}:(Row.wh e a).ls.length=a.ls.length+2:=by rw[xq]; simp
mutual
theorem Qw {mu:Mu}:∀(r:Row) (n:Nat) (A:Option Lc) (acc:List PV),r.ok->r.dep<=n->acc.length+r.ls.length<=5000->Ue n (L3 A (.own (.lst acc)) (.sh r.pv) mu)=some (.nx (L3 A (.own (.lst (acc++ll r.ls))) (.sh r.pv) mu))
 | .set x e,n,A,acc,ok,hd,hl=>sO _ n A acc trivial ok hl
 | .put x e f,n,A,acc,ok,hd,hl=>sO _ n A acc trivial ok hl
 | .out x e w,n,A,acc,ok,hd,hl=>sO _ n A acc trivial ok hl
 | .call x f es,n,A,acc,ok,hd,hl=>sO _ n A acc trivial ok hl
 | .ifr e a b,n,A,acc,ok,hd,hl=>by
  have er:=ux (mu:=mu) (.ifr e a b) ok;simp only[Row.ok]at ok;simp only[Row.dep]at hd;obtain⟨m,rfl⟩:∃m,n=m+1:=⟨n-1,by omega⟩;rw[zE]at hl;have ra:=Ae (pX (mu:=mu) a m (zL a.pvs) [] none ok.2.1 (by omega) (by simp; omega));have rb:=Ae (pX (mu:=mu) b m (zL b.pvs) [] none ok.2.2 (by omega) (by simp; omega));have q:Row.pv (.ifr e a b)=.tup (.str "if" :: [e.pv,.lst a.pvs,.lst b.pvs]):=by simp[Row.pv]
  rw[q]at er ⊢;have hq:(Row.ifr e a b).hd=("if" : Str)::e.ws:=rfl;rw[hq]at er;let X:PV:=.tup (.str "if" :: [e.pv,.lst a.pvs,.lst b.pvs]);let E:=L3 A (.own (.lst (acc++[wl ("if" :: e.ws)]))) (.sh X) mu;refine aB (O':=E) (fL (ws0:=acc) (ws:=acc) (l:=.own (wl ("if" :: e.ws))) (p:=wl ("if" :: e.ws)) (O1:=L3 A (.own (.lst acc)) (.sh X) mu) rfl (aL (ps:=[X]) (ls:=[.sh X]) (O1:=L3 A (.own (.lst acc)) (.sh X) mu) rfl rfl rfl rfl er) rfl rfl (by omega) rfl) ?_;have c1:=d7 (fa:=az (cR (m+1)) (aa (aG (aj 2) (aeO 2)) ao)) (fb:=aP (aa (aP (aa (aeP "else") ao)) ao)) (O:=E) (x:=.own (.lst (ll a.ls))) (y:=.own (.lst (ll pW))) (O1:=E) (O2:=E) (aL (ps:=[.lst a.pvs]) (ls:=[.sh (.lst a.pvs)]) (O1:=E) rfl rfl rfl rfl ra) rfl rfl rfl (by simp; omega);have c2:=d7 (fb:=az (cR (m+1)) (aa (aG (aj 2) (aeO 3)) ao)) (y:=.own (.lst (ll b.ls))) (O2:=E) c1 rfl (aL (ps:=[.lst b.pvs]) (ls:=[.sh (.lst b.pvs)]) (O1:=E) rfl rfl rfl rfl rb) rfl (by simp; omega);have c3:=d7 (fb:=aP (aa (aP (aa (aeP "end") ao)) ao)) (y:=.own (.lst (ll gK))) (O2:=E) c2 rfl rfl rfl (by simp; omega);refine aB (O':=L3 A (.own (.lst (acc++ll (Row.ifr e a b).ls))) (.sh X) mu) ((cZ (O1:=E) (oW hd2 (by decide +kernel))).trans (pH (ws0:=acc++[wl ("if" :: e.ws)]) (ws:=acc++[wl ("if" :: e.ws)]) (l:=.own (.lst (ll a.ls++ll pW++ll b.ls++ll gK))) (O1:=E) rfl c3 rfl rfl (by simp; omega) ?_)) ((bI (gU hd2 (by decide +kernel))).trans rfl);rw[xn];show L3 A (.own (.lst (acc++[wl ("if" :: e.ws)]++(ll a.ls++ll pW++ll b.ls++ll gK)))) (.sh X) mu=_;simp
 | .wh e a,n,A,acc,ok,hd,hl=>by
  have er:=ux (mu:=mu) (.wh e a) ok;simp only[Row.ok]at ok;simp only[Row.dep]at hd;obtain⟨m,rfl⟩:∃m,n=m+1:=⟨n-1,by omega⟩;rw[zF]at hl;have ra:=Ae (pX (mu:=mu) a m (zL a.pvs) [] none ok.2 (by omega) (by simp; omega));have q:Row.pv (.wh e a)=.tup (.str "while" :: [e.pv,.lst a.pvs]):=by simp[Row.pv]
  rw[q]at er ⊢;have hq:(Row.wh e a).hd=("while" : Str)::e.ws:=rfl;rw[hq]at er;let X:PV:=.tup (.str "while" :: [e.pv,.lst a.pvs]);let E:=L3 A (.own (.lst (acc++[wl ("while" :: e.ws)]))) (.sh X) mu;refine aB (O':=E) (fL (ws0:=acc) (ws:=acc) (l:=.own (wl ("while" :: e.ws))) (p:=wl ("while" :: e.ws)) (O1:=L3 A (.own (.lst acc)) (.sh X) mu) rfl (aL (ps:=[X]) (ls:=[.sh X]) (O1:=L3 A (.own (.lst acc)) (.sh X) mu) rfl rfl rfl rfl er) rfl rfl (by omega) rfl) ?_;have c1:=d7 (fa:=az (cR (m+1)) (aa (aG (aj 2) (aeO 2)) ao)) (fb:=aP (aa (aP (aa (aeP "end") ao)) ao)) (O:=E) (x:=.own (.lst (ll a.ls))) (y:=.own (.lst (ll gK))) (O1:=E) (O2:=E) (aL (ps:=[.lst a.pvs]) (ls:=[.sh (.lst a.pvs)]) (O1:=E) rfl rfl rfl rfl ra) rfl rfl rfl (by simp; omega);refine aB (O':=E) ((bI (O1:=E) (gU hd2 (by decide +kernel))).trans rfl) ((cZ (O1:=E) (oW hd2 (by decide +kernel))).trans (pH (ws0:=acc++[wl ("while" :: e.ws)]) (ws:=acc++[wl ("while" :: e.ws)]) (l:=.own (.lst (ll a.ls++ll gK))) (O1:=E) rfl c1 rfl rfl (by simp; omega) ?_));rw[xq];show L3 A (.own (.lst (acc++[wl ("while" :: e.ws)]++(ll a.ls++ll gK)))) (.sh X) mu=_;simp[X]
theorem pX {mu:Mu}:∀(rs:Rows) (n:Nat) (A:Option Lc) (acc:List PV) (o:Option Lc),rs.ok->rs.dep<=n->acc.length+rs.ls.length<=5000->∃o',dz (aJ 2) (Ue n) rs.pvs ⟨[A,zO acc,o],mu⟩=some (.nx ⟨[A,zO (acc++ll rs.ls),o'],mu⟩)
 | .nil,n,A,acc,o,_,_,_=>⟨o,by simp[Rows.pvs,Rows.ls,dz]⟩
 | .cons r rs,n,A,acc,o,ok,hd,hl=>by
  simp only[Rows.ok]at ok;simp only[Rows.dep]at hd;simp only[Rows.ls,aaH]at hl;have h1:=Qw (mu:=mu) r n A acc ok.1 (by omega) (by omega);obtain⟨o',h2⟩:=pX (mu:=mu) rs n A (acc++ll r.ls) (zS r.pv) ok.2 (by omega) (by simp; omega);refine⟨o',?_⟩;have q:(Rows.cons r rs).pvs=r.pv::rs.pvs:=by simp[Rows.pvs]
  rw[q];refine(fP (O1:=L3 A (.own (.lst acc)) (.sh r.pv) mu) rfl h1 h2).trans ?_;simp[Rows.ls]
end
mutual
theorem Qx {mu:Mu}:∀(r:Row) (n:Nat) (A:Option Lc) (acc:List PV),r.ok->r.dep<=n->acc.length+r.ls.length<=5000->Ug n (L3 A (.own (.lst acc)) (.sh r.pv) mu)=some (.nx (L3 A (.own (.lst (acc++ll r.ls))) (.sh r.pv) mu))
 | .set x e,n,A,acc,ok,hd,hl=>sS _ n A acc trivial ok hl
 | .put x e f,n,A,acc,ok,hd,hl=>sS _ n A acc trivial ok hl
 | .out x e w,n,A,acc,ok,hd,hl=>sS _ n A acc trivial ok hl
 | .call x f es,n,A,acc,ok,hd,hl=>sS _ n A acc trivial ok hl
 | .ifr e a b,n,A,acc,ok,hd,hl=>by
  simp only[Row.ok]at ok;simp only[Row.dep]at hd;obtain⟨m,rfl⟩:∃m,n=m+1:=⟨n-1,by omega⟩;rw[zE]at hl;have ra:=xm (pY (mu:=mu) a m (zL a.pvs) [] none ok.2.1 (by omega) (by simp; omega));have rb:=xm (pY (mu:=mu) b m (zL b.pvs) [] none ok.2.2 (by omega) (by simp; omega));have q:Row.pv (.ifr e a b)=.tup (.str "if" :: [e.pv,.lst a.pvs,.lst b.pvs]):=by simp[Row.pv]
  rw[q];let X:PV:=.tup (.str "if" :: [e.pv,.lst a.pvs,.lst b.pvs]);let a1:=acc++[wl ("if" :: e.ws)];let a2:=a1++ll a.ls++ll pW;have g1:cY 1 (aC aY (aP (aa (aeP "if") ao)) (az di (aa (aG (aj 2) (aeO 1)) ao))) (L3 A (.own (.lst acc)) (.sh X) mu)=some (.nx (L3 A (.own (.lst a1)) (.sh X) mu)):=
   fL (ws0:=acc) (ws:=acc) (l:=.own (wl ("if" :: e.ws))) (p:=wl ("if" :: e.ws)) (O1:=L3 A (.own (.lst acc)) (.sh X) mu) rfl (je (p:=.non) (mu:=mu) (hs:=["if"]) ok.1 rfl (aL (ps:=[e.pv]) (ls:=[.sh e.pv]) (O1:=L3 A (.own (.lst acc)) (.sh X) mu) rfl rfl rfl rfl ok.1.words) (by simp)) rfl rfl (by omega) rfl
  have g2:aM 1 (aC aY (aC aY (aj 1) (az (bZ (m+1)) (aa (aG (aj 2) (aeO 2)) ao))) (aP (aa (aP (aa (aeP "else") ao)) ao))) (L3 A (.own (.lst a1)) (.sh X) mu)=some (.nx (L3 A (.own (.lst a2)) (.sh X) mu)):=by let E:=L3 A (.sh (.lst a1)) (.sh X) mu;have c1:=d7 (fa:=aj 1) (fb:=az (bZ (m+1)) (aa (aG (aj 2) (aeO 2)) ao)) (O:=L3 A (.own (.lst a1)) (.sh X) mu) (x:=.sh (.lst a1)) (y:=.own (.lst (ll a.ls))) (O1:=E) (O2:=E) rfl rfl (aL (ps:=[.lst a.pvs]) (ls:=[.sh (.lst a.pvs)]) (O1:=E) rfl rfl rfl rfl ra) rfl (by simp[a1]; omega);have c2:=d7 (fb:=aP (aa (aP (aa (aeP "else") ao)) ao)) (y:=.own (.lst (ll pW))) (O2:=E) c1 rfl rfl rfl (by simp[a1]; omega);exact bK c2 rfl rfl
  have g3:aM 1 (aC aY (aC aY (aj 1) (az (bZ (m+1)) (aa (aG (aj 2) (aeO 3)) ao))) (aP (aa (aP (aa (aeP "end") ao)) ao))) (L3 A (.own (.lst a2)) (.sh X) mu)=some (.nx (L3 A (.own (.lst (a2++ll b.ls++ll gK))) (.sh X) mu)):=by let E:=L3 A (.sh (.lst a2)) (.sh X) mu;have c1:=d7 (fa:=aj 1) (fb:=az (bZ (m+1)) (aa (aG (aj 2) (aeO 3)) ao)) (O:=L3 A (.own (.lst a2)) (.sh X) mu) (x:=.sh (.lst a2)) (y:=.own (.lst (ll b.ls))) (O1:=E) (O2:=E) rfl rfl (aL (ps:=[.lst b.pvs]) (ls:=[.sh (.lst b.pvs)]) (O1:=E) rfl rfl rfl rfl rb) rfl (by simp[a1,a2]; omega);have c2:=d7 (fb:=aP (aa (aP (aa (aeP "end") ao)) ao)) (y:=.own (.lst (ll gK))) (O2:=E) c1 rfl rfl rfl (by simp[a1,a2]; omega);exact bK c2 rfl rfl
  refine(cZ (O1:=L3 A (.own (.lst acc)) (.sh X) mu) (oW hd2 (by decide +kernel))).trans ((aB g1 (aB g2 g3)).trans ?_);rw[xn];simp[a1,a2,X]
 | .wh e a,n,A,acc,ok,hd,hl=>by
  simp only[Row.ok]at ok;simp only[Row.dep]at hd;obtain⟨m,rfl⟩:∃m,n=m+1:=⟨n-1,by omega⟩;rw[zF]at hl;have ra:=xm (pY (mu:=mu) a m (zL a.pvs) [] none ok.2 (by omega) (by simp; omega));have q:Row.pv (.wh e a)=.tup (.str "while" :: [e.pv,.lst a.pvs]):=by simp[Row.pv]
  rw[q];let X:PV:=.tup (.str "while" :: [e.pv,.lst a.pvs]);let a1:=acc++[wl ("while" :: e.ws)];have g1:cY 1 (aC aY (aP (aa (aeP "while") ao)) (az di (aa (aG (aj 2) (aeO 1)) ao))) (L3 A (.own (.lst acc)) (.sh X) mu)=some (.nx (L3 A (.own (.lst a1)) (.sh X) mu)):=
   fL (ws0:=acc) (ws:=acc) (l:=.own (wl ("while" :: e.ws))) (p:=wl ("while" :: e.ws)) (O1:=L3 A (.own (.lst acc)) (.sh X) mu) rfl (je (p:=.non) (mu:=mu) (hs:=["while"]) ok.1 rfl (aL (ps:=[e.pv]) (ls:=[.sh e.pv]) (O1:=L3 A (.own (.lst acc)) (.sh X) mu) rfl rfl rfl rfl ok.1.words) (by simp)) rfl rfl (by omega) rfl
  have g2:aM 1 (aC aY (aC aY (aj 1) (az (bZ (m+1)) (aa (aG (aj 2) (aeO 2)) ao))) (aP (aa (aP (aa (aeP "end") ao)) ao))) (L3 A (.own (.lst a1)) (.sh X) mu)=some (.nx (L3 A (.own (.lst (a1++ll a.ls++ll gK))) (.sh X) mu)):=by let E:=L3 A (.sh (.lst a1)) (.sh X) mu;have c1:=d7 (fa:=aj 1) (fb:=az (bZ (m+1)) (aa (aG (aj 2) (aeO 2)) ao)) (O:=L3 A (.own (.lst a1)) (.sh X) mu) (x:=.sh (.lst a1)) (y:=.own (.lst (ll a.ls))) (O1:=E) (O2:=E) rfl rfl (aL (ps:=[.lst a.pvs]) (ls:=[.sh (.lst a.pvs)]) (O1:=E) rfl rfl rfl rfl ra) rfl (by simp[a1]; omega);have c2:=d7 (fb:=aP (aa (aP (aa (aeP "end") ao)) ao)) (y:=.own (.lst (ll gK))) (O2:=E) c1 rfl rfl rfl (by simp[a1]; omega);exact bK c2 rfl rfl
  refine(bI (O1:=L3 A (.own (.lst acc)) (.sh X) mu) (gU hd2 (by decide +kernel))).trans ((cZ (O1:=L3 A (.own (.lst acc)) (.sh X) mu) (oW hd2 (by decide +kernel))).trans ((aB g1 g2).trans ?_));rw[xq];simp[a1,X]
theorem pY {mu:Mu}:∀(rs:Rows) (n:Nat) (A:Option Lc) (acc:List PV) (o:Option Lc),rs.ok->rs.dep<=n->acc.length+rs.ls.length<=5000->∃o',dz (aJ 2) (Ug n) rs.pvs ⟨[A,zO acc,o],mu⟩=some (.nx ⟨[A,zO (acc++ll rs.ls),o'],mu⟩)
 | .nil,n,A,acc,o,_,_,_=>⟨o,by simp[Rows.pvs,Rows.ls,dz]⟩
 | .cons r rs,n,A,acc,o,ok,hd,hl=>by
  simp only[Rows.ok]at ok;simp only[Rows.dep]at hd;simp only[Rows.ls,aaH]at hl;have h1:=Qx (mu:=mu) r n A acc ok.1 (by omega) (by omega);obtain⟨o',h2⟩:=pY (mu:=mu) rs n A (acc++ll r.ls) (zS r.pv) ok.2 (by omega) (by simp; omega);refine⟨o',?_⟩;have q:(Rows.cons r rs).pvs=r.pv::rs.pvs:=by simp[Rows.pvs]
  rw[q];refine(fP (O1:=L3 A (.own (.lst acc)) (.sh r.pv) mu) rfl h1 h2).trans ?_;simp[Rows.ls]
end
theorem yj {mu:Mu} {rs:Rows} (ok:rs.ok) (hd:rs.dep<=20) (hl:rs.ls.length<=5000):cR 40 [.lst rs.pvs] mu=some (.own (.lst (ll rs.ls)),mu):=Ae (n:=39) (pX rs 39 _ [] none ok (by omega) (by simpa using hl))
theorem J4 {mu:Mu} {rs:Rows} (ok:rs.ok) (hd:rs.dep<=20) (hl:rs.ls.length<=5000):bZ 40 [.lst rs.pvs] mu=some (.own (.lst (ll rs.ls)),mu):=xm (n:=39) (pY rs 39 _ [] none ok (by omega) (by simpa using hl))
theorem strs_map:∀ws:List Str,strsOf (ws.map .str)=some ws
 | []=>rfl
 | w::ws=>by show (strsOf (ws.map .str)).map _=_;rw[strs_map ws];rfl
theorem Oh (ws:List Str):(ws.map (·.length)).sum+ws.length*1=lw ws:=by
 induction ws with
 | nil=>rfl
 | cons w ws ih=>rw[gP,<-ih]; simp; omega
def TX (ls:List (List Str)):Str:=Txt.join "\n" (ls.map (Txt.join " "))
theorem v4:(" " : Str).length=1/\("\n" : Str).length=1:=by decide +kernel
theorem Mp (ls:List (List Str)):((ls.map (Txt.join " ")).map (·.length)).sum<=tw ls:=by
 induction ls with
 | nil=>simp[tw]
 | cons w ls ih=>
  rw[sW,aaV,aaV,List.sum_cons];have:=wR (z := " ") (xs:=w);rw[v4.1,Oh]at this;omega
theorem Uh {ls:List (List Str)} {w:List Str} (h:w∈ls):lw w<=tw ls:=by
 induction ls with
 | nil=>cases h
 | cons v ls ih=>
  rw[sW];rcases aaI.mp h with rfl | h
  . omega
  . have:=ih h; omega
theorem Gr {f:EF} {O O1:Ev} {l:Lc} {ls:List (List Str)} (h:f O=some (l,O1)) (hl:l.pv=.lst (ll ls)) (hw:tw ls+ls.length<=100000):mQ (aeP "\n") (aa (cT (gj f cX) 1 [] (aJ 0) bY (mQ (aeP " ") (aa (aj 0) ao))) ao) O=some (.sh (.str (TX ls)),O1):=by
 have comp:fY (aJ 0) bY (mQ (aeP " ") (aa (aj 0) ao)) (ll ls) ⟨[none],O1.mu⟩ []=some ((ls.map (Txt.join " ")).map .str,O1.mu):=by
  have:=lJ (b:=aJ 0) (te:=mQ (aeP " ") (aa (aj 0) ao)) (mu:=O1.mu) (λO=>∃o,O=⟨[o],O1.mu⟩) (λO ⟨o,e⟩=>by rw[e]) (λp=>match p with | .lst ps=>.str (Txt.join " " ((strsOf ps).getD [])) | _=>.non) (xs:=ll ls) (O:=⟨[none],O1.mu⟩) ⟨none,rfl⟩ (by simp; omega) ?_ ?_
  . rw[this];refine congrArg (λl=>some (l,O1.mu)) ?_;show List.map _ (List.map wl ls)=_;rw[abn,abn];refine abB λw _=>?_;show PV.str (Txt.join " " ((strsOf (w.map .str)).getD []))=_;rw[strs_map];rfl
  . rintro x hx O ⟨o,rfl⟩;obtain⟨w,hw',rfl⟩:=aa0.mp hx;refine⟨⟨[zS (wl w)],O1.mu⟩,rfl,.sh (.str (Txt.join " " w)),⟨[zS (wl w)],O1.mu⟩,Bj (l:=.sh (.str " ")) (m:=.sh (wl w)) rfl rfl rfl rfl (strs_map w) ?_,?_,_,rfl⟩
    . rw[v4.1,Oh];have:=Uh hw';omega
    . show PV.str _=PV.str (Txt.join " " ((strsOf (w.map .str)).getD []));rw[strs_map];rfl
  . rintro x hx O O2 ⟨o,rfl⟩ h;cases h;exact⟨_,rfl⟩
 have ec:cT (gj f cX) 1 [] (aJ 0) bY (mQ (aeP " ") (aa (aj 0) ao)) O=some (.own (.lst ((ls.map (Txt.join " ")).map .str)),O1):=by have:=gG (m:=1) (ixs:=[]) (rM (g:=cX) (xs:=ll ls) h (by rw[hl]; rfl)) comp;exact this
 refine Bj (l:=.sh (.str "\n")) (m:=.own (.lst ((ls.map (Txt.join " ")).map .str))) rfl (aH ec rfl) rfl rfl (strs_map _) ?_;have h1:=Mp ls;rw[v4.2];simp only[aaT];omega
def eZ:Option Str->PV
 | none=>.non
 | some x=>.str x
def cJ:Option Str->Str
 | none => "?"
 | some x=>x
theorem oG {r:Option Str} {mu:Mu}:jD [eZ r] mu=some (.sh (.str (cJ r)),mu):=by cases r<;>rfl
theorem Ej {r:Option Str} {mu:Mu}:eN [eZ r] mu=some (.sh (.str (cJ r)),mu):=by cases r<;>rfl
structure Bx where
 name:Str
 size:Nat
 rank:Option Str
def Bx.pv (b:Bx):PV:=.tup [.str b.name,.int (b.size:Int),eZ b.rank]
def Bx.l (b:Bx):List Str:=if b.size=0 then ["box",b.name,cJ b.rank] else ["list",b.name,toString (b.size:Int),cJ b.rank]
theorem digit {z:Nat} (h1:1<=z) (h2:z<=8):N6 (.int (z:Int))=zT (toString (z:Int))/\uI (.str "012345678") (.int (z:Int))=zT (toString (z:Int))/\(toString (z:Int):Str).length=1:=by
 have hz:z=1\/z=2\/z=3\/z=4\/z=5\/z=6\/z=7\/z=8:=by omega
 have go:∀(z:Nat) (c:Nat),1<=z->z<=8->eQ ("012345678" : Str).cps.toList (z:Int)=some c->(⟨#[c]⟩:Str)=toString (z:Int)->(toString (z:Int):Str).length=1->N6 (.int (z:Int))=zT (toString (z:Int))/\uI (.str "012345678") (.int (z:Int))=zT (toString (z:Int))/\(toString (z:Int):Str).length=1:=λz c h1 h2 e1 e2 e3=>by refine⟨Ei (by omega) (by omega),?_,e3⟩;show (if ("012345678" : Str).length<=100000 then (eQ ("012345678" : Str).cps.toList (z:Int)).map (λc=>Lc.sh (.str ⟨#[c]⟩)) else none)=_;rw[acq (by decide +kernel),e1,<-e2];rfl
 rcases hz with rfl | rfl | rfl | rfl | rfl | rfl | rfl | rfl
 . exact go 1 49 (by omega) (by omega) (by decide +kernel) (by decide +kernel) (by decide +kernel)
 . exact go 2 50 (by omega) (by omega) (by decide +kernel) (by decide +kernel) (by decide +kernel)
 . exact go 3 51 (by omega) (by omega) (by decide +kernel) (by decide +kernel) (by decide +kernel)
 . exact go 4 52 (by omega) (by omega) (by decide +kernel) (by decide +kernel) (by decide +kernel)
 . exact go 5 53 (by omega) (by omega) (by decide +kernel) (by decide +kernel) (by decide +kernel)
 . exact go 6 54 (by omega) (by omega) (by decide +kernel) (by decide +kernel) (by decide +kernel)
 . exact go 7 55 (by omega) (by omega) (by decide +kernel) (by decide +kernel) (by decide +kernel)
 . exact go 8 56 (by omega) (by omega) (by decide +kernel) (by decide +kernel) (by decide +kernel)
theorem J5 {b:Bx} {mu:Mu} (h:b.size<=8):gD [b.pv] mu=some (.own (wl b.l),mu):=by
 let E:Ev:=⟨[zS b.pv],mu⟩;have t:tT (aC eqP (aG (aj 0) (aeO 1)) (aeO 0)) aW E=some (((b.size:Int)==0),E):=rfl;by_cases hz:b.size=0
 . have t':=t.trans (show _=some (true,E) by rw[hz]; rfl);have hl:b.l=[("box" : Str),b.name,cJ b.rank]:=acq hz;rw[hl];refine aR (O:=E) (cW ((cZ t').trans (bO ?_)));exact lY (ls:=[.sh (.str "box"),.sh (.str b.name),.sh (.str (cJ b.rank))]) (O1:=E) (aH rfl (aH rfl (aH (aL (ps:=[eZ b.rank]) (ls:=[.sh (eZ b.rank)]) (O1:=E) rfl rfl rfl rfl oG) rfl))) rfl rfl
 . have t':=t.trans (show _=some (false,E) by rw[show ((b.size:Int)==0)=false from by simpa using hz]);have hl:b.l=[("list" : Str),b.name,toString (b.size:Int),cJ b.rank]:=acr hz;rw[hl];refine aR (O:=E) (aB ((bI t').trans rfl) (bO ?_));exact lY (ls:=[.sh (.str "list"),.sh (.str b.name),.sh (.str (toString (b.size:Int))),.sh (.str (cJ b.rank))]) (O1:=E) (aH rfl (aH rfl (aH (uZ (ls:=[.sh (.int (b.size:Int))]) (ps:=[.int (b.size:Int)]) (O1:=E) rfl rfl (digit (by omega) h).1) (aH (aL (ps:=[eZ b.rank]) (ls:=[.sh (eZ b.rank)]) (O1:=E) rfl rfl rfl rfl oG) rfl)))) rfl rfl
structure Fn where
 name:Str
 rank:Option Str
 params:List (Str×Option Str)
 rows:Rows
def jf (q:Str×Option Str):PV:=.tup [.str q.1,eZ q.2]
def jE (ps:List (Str×Option Str)):List Str:=(ps.map λq=>[q.1,cJ q.2]).flatten
def Fn.pv (f:Fn):PV:=.tup [.str f.name,eZ f.rank,.lst (f.params.map jf),.lst f.rows.pvs]
def Fn.ls (f:Fn):List (List Str):=("def" :: f.name::cJ f.rank::jE f.params)::(f.rows.ls++gK)
structure Fn.ok (f:Fn):Prop where
 rows:f.rows.ok
 dep:f.rows.dep<=20
 len:f.rows.ls.length<=1000
 par:f.params.length<=4
theorem uU {q:Str×Option Str} {ps:List (Str×Option Str)}:jE (q::ps)=q.1::cJ q.2::jE ps:=by simp[jE]
theorem J6 {A:Option Lc} {mu:Mu}:∀(ps:List (Str×Option Str)) (acc:List PV) (o2 o3:Option Lc),acc.length+2*ps.length<=1000->∃o2' o3',dz (eX 2 (bh (aJ 2) (bh (aJ 3) eV))) (jy 1 (aP (aa (aj 2) (aa (az jD (aa (aj 3) ao)) ao)))) (ps.map jf) ⟨[A,zO acc,o2,o3],mu⟩=some (.nx ⟨[A,zO (acc++(jE ps).map .str),o2',o3'],mu⟩)
 | [],acc,o2,o3,_=>⟨o2,o3,by simp[jE,dz]⟩
 | q::ps,acc,o2,o3,hl=>by rw[aaC]at hl;obtain⟨p2,p3,ih⟩:=J6 (A:=A) (mu:=mu) ps (acc++[.str q.1,.str (cJ q.2)]) (zT q.1) (zS (eZ q.2)) (by simp; omega);let E:Ev:=⟨[A,zO acc,zT q.1,zS (eZ q.2)],mu⟩;refine⟨p2,p3,fP (O1:=E) rfl (pH (ws0:=acc) (ws:=acc) (ps:=[.str q.1,.str (cJ q.2)]) (l:=.own (.lst [.str q.1,.str (cJ q.2)])) (O1:=E) rfl (lY (ls:=[.sh (.str q.1),.sh (.str (cJ q.2))]) (O1:=E) (aH rfl (aH (aL (ps:=[eZ q.2]) (ls:=[.sh (eZ q.2)]) (O1:=E) rfl rfl rfl rfl oG) rfl)) rfl rfl) rfl rfl (by simp; omega) rfl) (ih.trans ?_)⟩;rw[uU];simp
theorem An {f:Fn} {mu:Mu} (ok:f.ok):lN [f.pv] mu=some (.own (.lst (ll f.ls)),mu):=by
 have h1:=ok.len;have h2:=ok.par;obtain⟨o2,o3,el⟩:=J6 (A:=zS f.pv) (mu:=mu) f.params [.str "def",.str f.name,.str (cJ f.rank)] none none (by simp; omega);have rs:=yj (mu:=mu) ok.rows ok.dep (by omega);let E0:Ev:=⟨[zS f.pv,some (.own (.lst [.str "def",.str f.name,.str (cJ f.rank)])),none,none],mu⟩;let E:Ev:=⟨[zS f.pv,some (.sh (wl ("def" :: f.name::cJ f.rank::jE f.params))),o2,o3],mu⟩;have hw:[PV.str "def",.str f.name,.str (cJ f.rank)]++(jE f.params).map .str=(("def" : Str)::f.name::cJ f.rank::jE f.params).map .str:=by simp
 rw[hw]at el;refine aR (O:=E) ?_;refine aB (O':=E0) (bK (l:=.own (.lst [.str "def",.str f.name,.str (cJ f.rank)])) (O1:=⟨[zS f.pv,none,none,none],mu⟩) (lY (ls:=[.sh (.str "def"),.sh (.str f.name),.sh (.str (cJ f.rank))]) (O1:=⟨[zS f.pv,none,none,none],mu⟩) (aH rfl (aH rfl (aH (aL (ps:=[eZ f.rank]) (ls:=[.sh (eZ f.rank)]) (O1:=⟨[zS f.pv,none,none,none],mu⟩) rfl rfl rfl rfl oG) rfl))) rfl rfl) rfl rfl) ?_;refine aB ((gf (xs:=f.params.map jf) (O1:=E0) rfl).trans el) (bO ?_);have c1:=d7 (fa:=aP (aa (aj 1) ao)) (fb:=az (cR 40) (aa (aG (aj 0) (aeO 3)) ao)) (O:=⟨[zS f.pv,some (.own (wl ("def" :: f.name::cJ f.rank::jE f.params))),o2,o3],mu⟩) (x:=.own (.lst [wl ("def" :: f.name::cJ f.rank::jE f.params)])) (y:=.own (.lst (ll f.rows.ls))) (O1:=E) (O2:=E) rfl rfl (aL (ps:=[.lst f.rows.pvs]) (ls:=[.sh (.lst f.rows.pvs)]) (O1:=E) rfl rfl rfl rfl rs) rfl (by simp; omega);have c2:=d7 (fb:=aP (aa (aP (aa (aeP "end") ao)) ao)) (y:=.own (.lst (ll gK))) (O2:=E) c1 rfl rfl rfl (by simp; omega);refine c2.trans ?_;simp[Fn.ls]
structure Tl where
 names:List Str
 pairs:List (Str×Str)
 boxes:List Bx
 grants:List (Str×Str×Str)
 funs:List Fn
 rows:Rows
def j4 (q:Str×Str):PV:=.tup [.str q.1,.str q.2]
def jb (q:Str×Str):List Str:=["under",q.1,q.2]
def mj (g:Str×Str×Str):PV:=.tup [.str g.1,.str g.2.1,.str g.2.2]
def nY (g:Str×Str×Str):List Str:=["may",g.1,g.2.1,g.2.2]
def dg (fs:List Fn):List (List Str):=(fs.map Fn.ls).flatten
def Tl.nmP (T:Tl):PV:=.lst (T.names.map .str)
def Tl.prP (T:Tl):PV:=.lst (T.pairs.map j4)
def Tl.pgP (T:Tl):PV:=.tup [.lst (T.boxes.map Bx.pv),.lst (T.grants.map mj),.lst (T.funs.map Fn.pv),.lst T.rows.pvs]
def Tl.pv (T:Tl):PV:=.tup [T.nmP,T.prP,T.pgP]
def Tl.lines (T:Tl):List (List Str):=[("ranks" : Str)::T.names]++T.pairs.map jb++T.grants.map nY++T.boxes.map Bx.l++dg T.funs++T.rows.ls
structure Tl.ok (T:Tl):Prop where
 nm:T.names.length<=100
 pr:T.pairs.length<=100
 bx:T.boxes.length<=100
 gr:T.grants.length<=100
 sz:∀b∈T.boxes,b.size<=8
 fn:∀f∈T.funs,f.ok
 fl:(dg T.funs).length<=3000
 rw:T.rows.ok
 dp:T.rows.dep<=20
 rl:T.rows.ls.length<=1000
 tx:tw T.lines+T.lines.length<=100000
theorem Dd (ps:List (Str×Str)) (mu:Mu) (h:ps.length<=100):fY (eX 2 (bh (aJ 0) (bh (aJ 1) eV))) bY (aP (aa (aeP "under") (aa (aj 0) (aa (aj 1) ao)))) (ps.map j4) ⟨[none,none],mu⟩ []=some (ll (ps.map jb),mu):=by
 have:=lJ (b:=eX 2 (bh (aJ 0) (bh (aJ 1) eV))) (te:=aP (aa (aeP "under") (aa (aj 0) (aa (aj 1) ao)))) (mu:=mu) (λO=>∃o1 o2,O=⟨[o1,o2],mu⟩) (λO ⟨o1,o2,e⟩=>by rw[e]) (λp=>match p with | .tup [a,b]=>.lst [.str "under",a,b] | _=>.non) (xs:=ps.map j4) (O:=⟨[none,none],mu⟩) ⟨none,none,rfl⟩ (by simp; omega) ?_ ?_
 . rw[this];refine congrArg (λl=>some (l,mu)) ?_;show List.map _ (List.map j4 ps)=List.map wl (List.map jb ps);rw[abn,abn];exact abB λq _=>rfl
 . rintro x hx O ⟨o1,o2,rfl⟩;obtain⟨q,_,rfl⟩:=aa0.mp hx;exact⟨⟨[zT q.1,zT q.2],mu⟩,rfl,.own (.lst [.str "under",.str q.1,.str q.2]),_,rfl,rfl,_,_,rfl⟩
 . rintro x hx O O2 ⟨o1,o2,rfl⟩ h;obtain⟨q,_,rfl⟩:=aa0.mp hx;cases h;exact⟨_,_,rfl⟩
theorem J7 (ps:List (Str×Str×Str)) (mu:Mu) (h:ps.length<=100):fY (eX 3 (bh (aJ 0) (bh (aJ 1) (bh (aJ 2) eV)))) bY (aP (aa (aeP "may") (aa (aj 0) (aa (aj 1) (aa (aj 2) ao))))) (ps.map mj) ⟨[none,none,none],mu⟩ []=some (ll (ps.map nY),mu):=by
 have:=lJ (b:=eX 3 (bh (aJ 0) (bh (aJ 1) (bh (aJ 2) eV)))) (te:=aP (aa (aeP "may") (aa (aj 0) (aa (aj 1) (aa (aj 2) ao))))) (mu:=mu) (λO=>∃o1 o2 o3,O=⟨[o1,o2,o3],mu⟩) (λO ⟨o1,o2,o3,e⟩=>by rw[e]) (λp=>match p with | .tup [a,b,c]=>.lst [.str "may",a,b,c] | _=>.non) (xs:=ps.map mj) (O:=⟨[none,none,none],mu⟩) ⟨none,none,none,rfl⟩ (by simp; omega) ?_ ?_
 . rw[this];refine congrArg (λl=>some (l,mu)) ?_;show List.map _ (List.map mj ps)=List.map wl (List.map nY ps);rw[abn,abn];exact abB λq _=>rfl
 . rintro x hx O ⟨o1,o2,o3,rfl⟩;obtain⟨q,_,rfl⟩:=aa0.mp hx;exact⟨⟨[zT q.1,zT q.2.1,zT q.2.2],mu⟩,rfl,.own (.lst [.str "may",.str q.1,.str q.2.1,.str q.2.2]),_,rfl,rfl,_,_,_,rfl⟩
 . rintro x hx O O2 ⟨o1,o2,o3,rfl⟩ h;obtain⟨q,_,rfl⟩:=aa0.mp hx;cases h;exact⟨_,_,_,rfl⟩
theorem Sq (bs:List Bx) (mu:Mu) (h:bs.length<=100) (hz:∀b∈bs,b.size<=8):fY (aJ 0) bY (az gD (aa (aj 0) ao)) (bs.map Bx.pv) ⟨[none],mu⟩ []=some (ll (bs.map Bx.l),mu):=by
 have go:∀(bs:List Bx) (acc:List PV) (o:Option Lc),acc.length+bs.length<=200->(∀b∈bs,b.size<=8)->fY (aJ 0) bY (az gD (aa (aj 0) ao)) (bs.map Bx.pv) ⟨[o],mu⟩ acc=some (acc++ll (bs.map Bx.l),mu):=by
  intro bs;induction bs with
  | nil=>intro acc o _ _; simp[fY]
  | cons b bs ih=>
   intro acc o hl hz;rw[aaC]at hl;have e:az gD (aa (aj 0) ao) ⟨[zS b.pv],mu⟩=some (.own (wl b.l),⟨[zS b.pv],mu⟩):=aL (ps:=[b.pv]) (ls:=[.sh b.pv]) (O1:=⟨[zS b.pv],mu⟩) rfl rfl rfl rfl (J5 (hz b aaz));show (az gD (aa (aj 0) ao) ⟨[zS b.pv],mu⟩).bind (λv=>if acc.length<100000 then fY (aJ 0) bY (az gD (aa (aj 0) ao)) (bs.map Bx.pv) v.2 (acc++[v.1.pv]) else none)=_;rw[e,aay,acq (by omega)];refine(ih (acc++[wl b.l]) (zS b.pv) (by simp; omega) λx hx=>hz x (aaA _ hx)).trans ?_;simp
 simpa using go bs [] none (by simp; omega) hz
theorem J8 {A B C:Option Lc} {mu:Mu}:∀(fs:List Fn) (acc:List PV) (o:Option Lc),(∀f∈fs,f.ok)->acc.length+(dg fs).length<=5000->∃o',dz (aJ 4) (jy 3 (az lN (aa (aj 4) ao))) (fs.map Fn.pv) ⟨[A,B,C,zO acc,o],mu⟩=some (.nx ⟨[A,B,C,zO (acc++ll (dg fs)),o'],mu⟩)
 | [],acc,o,_,_=>⟨o,by simp[dg,dz]⟩
 | f::fs,acc,o,h,hl=>by
  have e0:dg (f::fs)=f.ls++dg fs:=by simp[dg]
  rw[e0,aaH]at hl;obtain⟨o',ih⟩:=J8 (A:=A) (B:=B) (C:=C) (mu:=mu) fs (acc++ll f.ls) (zS f.pv) (λx hx=>h x (aaA _ hx)) (by simp; omega);refine⟨o',fP (O1:=⟨[A,B,C,zO acc,zS f.pv],mu⟩) rfl (pH (ws0:=acc) (ws:=acc) (ps:=ll f.ls) (l:=.own (.lst (ll f.ls))) (O1:=⟨[A,B,C,zO acc,zS f.pv],mu⟩) rfl (aL (ps:=[f.pv]) (ls:=[.sh f.pv]) (O1:=⟨[A,B,C,zO acc,zS f.pv],mu⟩) rfl rfl rfl rfl (An (h f aaz))) rfl rfl (by simp; omega) rfl) (ih.trans ?_)⟩;rw[e0];simp
theorem Ss {T:Tl} {mu:Mu} (ok:T.ok):vU [T.nmP,T.prP,T.pgP] mu=some (.sh (.str (TX T.lines)),mu):=by
 have h1:=ok.nm;have h2:=ok.pr;have h3:=ok.bx;have h4:=ok.gr;have h5:=ok.fl;have h6:=ok.rl;let l1:List (List Str):=[("ranks" : Str)::T.names];let l2:=l1++T.pairs.map jb;let l3:=l2++T.grants.map nY;let l4:=l3++T.boxes.map Bx.l;let l5:=l4++dg T.funs;let E:List (List Str)->Option Lc->Ev:=λls o=>⟨[zS T.nmP,zS T.prP,zS T.pgP,zO (ll ls),o],mu⟩;let E0:Ev:=⟨[zS T.nmP,zS T.prP,zS T.pgP,none,none],mu⟩;have st1:aM 3 (aP (aa (aC aY (aP (aa (aeP "ranks") ao)) (eB list1 (aa (aj 0) ao))) ao)) E0=some (.nx (E l1 none)):=by have c:=d7 (fa:=aP (aa (aeP "ranks") ao)) (fb:=eB list1 (aa (aj 0) ao)) (O:=E0) (x:=.own (.lst [.str "ranks"])) (y:=.own (.lst (T.names.map .str))) (O1:=E0) (O2:=E0) rfl rfl rfl rfl (by simp; omega);exact bK (lY (ls:=[.own (.lst ([.str "ranks"]++T.names.map .str))]) (aH c rfl) rfl rfl) rfl rfl
 have st2:jy 3 (cT (gj (aj 1) cX) 2 [] (eX 2 (bh (aJ 0) (bh (aJ 1) eV))) bY (aP (aa (aeP "under") (aa (aj 0) (aa (aj 1) ao))))) (E l1 none)=some (.nx (E l2 none)):=by have c:cT (gj (aj 1) cX) 2 [] (eX 2 (bh (aJ 0) (bh (aJ 1) eV))) bY (aP (aa (aeP "under") (aa (aj 0) (aa (aj 1) ao)))) (E l1 none)=some (.own (.lst (ll (T.pairs.map jb))),E l1 none):=gG (m:=2) (ixs:=[]) (O1:=E l1 none) (rM (l:=.sh T.prP) (xs:=T.pairs.map j4) rfl rfl) (Dd T.pairs mu h2);refine pH (ws0:=ll l1) (ws:=ll l1) (ps:=ll (T.pairs.map jb)) (O1:=E l1 none) rfl c rfl rfl (by simp[l1]; omega) ?_;simp[E,l2,ll,Ev.set]
 have st3:jy 3 (cT (gj (aG (aj 2) (aeO 1)) cX) 3 [] (eX 3 (bh (aJ 0) (bh (aJ 1) (bh (aJ 2) eV)))) bY (aP (aa (aeP "may") (aa (aj 0) (aa (aj 1) (aa (aj 2) ao)))))) (E l2 none)=some (.nx (E l3 none)):=by have c:cT (gj (aG (aj 2) (aeO 1)) cX) 3 [] (eX 3 (bh (aJ 0) (bh (aJ 1) (bh (aJ 2) eV)))) bY (aP (aa (aeP "may") (aa (aj 0) (aa (aj 1) (aa (aj 2) ao))))) (E l2 none)=some (.own (.lst (ll (T.grants.map nY))),E l2 none):=gG (m:=3) (ixs:=[]) (O1:=E l2 none) (rM (l:=.sh (.lst (T.grants.map mj))) (xs:=T.grants.map mj) rfl rfl) (J7 T.grants mu h4);refine pH (ws0:=ll l2) (ws:=ll l2) (ps:=ll (T.grants.map nY)) (O1:=E l2 none) rfl c rfl rfl (by simp[l1,l2]; omega) ?_;simp[E,l3,ll,Ev.set]
 have st4:jy 3 (cT (gj (aG (aj 2) (aeO 0)) cX) 1 [] (aJ 0) bY (az gD (aa (aj 0) ao))) (E l3 none)=some (.nx (E l4 none)):=by have c:cT (gj (aG (aj 2) (aeO 0)) cX) 1 [] (aJ 0) bY (az gD (aa (aj 0) ao)) (E l3 none)=some (.own (.lst (ll (T.boxes.map Bx.l))),E l3 none):=gG (m:=1) (ixs:=[]) (O1:=E l3 none) (rM (l:=.sh (.lst (T.boxes.map Bx.pv))) (xs:=T.boxes.map Bx.pv) rfl rfl) (Sq T.boxes mu h3 ok.sz);refine pH (ws0:=ll l3) (ws:=ll l3) (ps:=ll (T.boxes.map Bx.l)) (O1:=E l3 none) rfl c rfl rfl (by simp[l1,l2,l3]; omega) ?_;simp[E,l4,ll,Ev.set]
 obtain⟨o,st5⟩:=J8 (A:=zS T.nmP) (B:=zS T.prP) (C:=zS T.pgP) (mu:=mu) T.funs (ll l4) none ok.fn (by simp[l1,l2,l3,l4]; omega);have e5:ll l4++ll (dg T.funs)=ll l5:=by simp[l5,ll]
 rw[e5]at st5;have st6:jy 3 (az (cR 40) (aa (aG (aj 2) (aeO 3)) ao)) (E l5 o)=some (.nx (E T.lines o)):=by refine pH (ws0:=ll l5) (ws:=ll l5) (ps:=ll T.rows.ls) (l:=.own (.lst (ll T.rows.ls))) (O1:=E l5 o) rfl (aL (ps:=[.lst T.rows.pvs]) (ls:=[.sh (.lst T.rows.pvs)]) (O1:=E l5 o) rfl rfl rfl rfl (yj ok.rw ok.dp (by omega))) rfl rfl (by simp[l1,l2,l3,l4,l5]; omega) ?_;simp[E,l1,l2,l3,l4,l5,ll,Ev.set,Tl.lines]
 refine aR (O:=⟨[zS T.nmP,zS T.prP,zS T.pgP,zL (ll T.lines),o],mu⟩) ?_;refine aB (O':=E l1 none) st1 (aB st2 (aB st3 (aB st4 (aB (O':=E l5 o) ((gf (xs:=T.funs.map Fn.pv) (O1:=E l4 none) rfl).trans st5) (aB st6 (bO ?_))))));exact Gr (f:=aj 3) (O:=E T.lines o) (l:=.sh (.lst (ll T.lines))) rfl rfl ok.tx
section
variable {T:Tl} {mu:Mu}
abbrev WE (T:Tl) (l o5 o6 o7 o8 o9 o10 o11 o12:Option Lc) (mu:Mu):Ev:=⟨[zS T.pv,zS T.nmP,zS T.prP,zS T.pgP,l,o5,o6,o7,o8,o9,o10,o11,o12],mu⟩
abbrev Zz:SF:=(bT (tT (aC eqP (aj 6) (aeO 0)) aW)
 (cY 4 (aP (aa (aeP "box") (aa (aj 5) (aa (az eN (aa (aj 7) ao)) ao)))))
 (cY 4 (aP (aa (aeP "list") (aa (aj 5) (aa (aG (aeP "012345678") (aj 6)) (aa (az eN (aa (aj 7) ao)) ao)))))))
theorem Mq:∀(bs:List Bx) (acc:List PV) (o5 o6 o7:Option Lc),(∀b∈bs,b.size<=8)->acc.length+bs.length<=1000->∃p5 p6 p7,dz (eX 3 (bh (aJ 5) (bh (aJ 6) (bh (aJ 7) eV)))) Zz (bs.map Bx.pv) (WE T (zO acc) o5 o6 o7 none none none none none mu)=some (.nx (WE T (zO (acc++ll (bs.map Bx.l))) p5 p6 p7 none none none none none mu))
 | [],acc,o5,o6,o7,_,_=>⟨o5,o6,o7,by simp[dz]⟩
 | b::bs,acc,o5,o6,o7,hz,hl=>by
  rw[aaC]at hl;obtain⟨p5,p6,p7,ih⟩:=Mq bs (acc++[wl b.l]) (zT b.name) (zI (b.size:Int)) (zS (eZ b.rank)) (λx hx=>hz x (aaA _ hx)) (by simp; omega);let E:=WE T (zO acc) (zT b.name) (zI (b.size:Int)) (zS (eZ b.rank)) none none none none none mu;have t:tT (aC eqP (aj 6) (aeO 0)) aW E=some (((b.size:Int)==0),E):=rfl;have mk:az eN (aa (aj 7) ao) E=some (.sh (.str (cJ b.rank)),E):=aL (ps:=[eZ b.rank]) (ls:=[.sh (eZ b.rank)]) (O1:=E) rfl rfl rfl rfl Ej;have st:Zz E=some (.nx (WE T (zO (acc++[wl b.l])) (zT b.name) (zI (b.size:Int)) (zS (eZ b.rank)) none none none none none mu)):=by
   by_cases h0:b.size=0
   . have t':=t.trans (show _=some (true,E) by rw[h0]; rfl);have hb:b.l=[("box" : Str),b.name,cJ b.rank]:=acq h0;rw[hb];exact(cZ t').trans (fL (ws0:=acc) (ws:=acc) (l:=.own (wl [("box" : Str),b.name,cJ b.rank])) (O1:=E) rfl (lY (ls:=[.sh (.str "box"),.sh (.str b.name),.sh (.str (cJ b.rank))]) (O1:=E) (aH rfl (aH rfl (aH mk rfl))) rfl rfl) rfl rfl (by omega) rfl)
   . have t':=t.trans (show _=some (false,E) by rw[show ((b.size:Int)==0)=false from by simpa using h0]);have hb:b.l=[("list" : Str),b.name,toString (b.size:Int),cJ b.rank]:=acr h0;rw[hb];have hd:=(digit (z:=b.size) (by omega) (hz b aaz)).2.1;exact(bI t').trans (fL (ws0:=acc) (ws:=acc) (l:=.own (wl [("list" : Str),b.name,toString (b.size:Int),cJ b.rank])) (O1:=E) rfl (lY (ls:=[.sh (.str "list"),.sh (.str b.name),.sh (.str (toString (b.size:Int))),.sh (.str (cJ b.rank))]) (O1:=E) (aH rfl (aH rfl (aH (fV (p:=.str "012345678") (q:=.int (b.size:Int)) (l:=.sh (.str "012345678")) (m:=.sh (.int (b.size:Int))) (O1:=E) (O2:=E) rfl rfl rfl rfl (λn h=>by cases h) hd) (aH mk rfl)))) rfl rfl) rfl rfl (by omega) rfl)
  exact⟨p5,p6,p7,fP (O1:=E) rfl st (ih.trans (by simp))⟩
theorem Mr {l o5 o6 o7 o8 o9:Option Lc}:∀(ps:List (Str×Option Str)) (acc:List PV) (o11 o12:Option Lc),acc.length+2*ps.length<=1000->∃p11 p12,dz (eX 2 (bh (aJ 11) (bh (aJ 12) eV))) (aM 10 (aC aY (aj 10) (aP (aa (aj 11) (aa (az eN (aa (aj 12) ao)) ao))))) (ps.map jf) (WE T l o5 o6 o7 o8 o9 (zO acc) o11 o12 mu)=some (.nx (WE T l o5 o6 o7 o8 o9 (zO (acc++(jE ps).map .str)) p11 p12 mu))
 | [],acc,o11,o12,_=>⟨o11,o12,by simp[jE,dz]⟩
 | q::ps,acc,o11,o12,hl=>by rw[aaC]at hl;obtain⟨p11,p12,ih⟩:=Mr (l:=l) (o5:=o5) (o6:=o6) (o7:=o7) (o8:=o8) (o9:=o9) ps (acc++[.str q.1,.str (cJ q.2)]) (zT q.1) (zS (eZ q.2)) (by simp; omega);let E:=WE T l o5 o6 o7 o8 o9 (zO acc) (zT q.1) (zS (eZ q.2)) mu;let E':=WE T l o5 o6 o7 o8 o9 (zL acc) (zT q.1) (zS (eZ q.2)) mu;have c:=d7 (fa:=aj 10) (fb:=aP (aa (aj 11) (aa (az eN (aa (aj 12) ao)) ao))) (O:=E) (x:=.sh (.lst acc)) (y:=.own (.lst [.str q.1,.str (cJ q.2)])) (O1:=E') (O2:=E') rfl rfl (lY (ls:=[.sh (.str q.1),.sh (.str (cJ q.2))]) (O1:=E') (aH rfl (aH (aL (ps:=[eZ q.2]) (ls:=[.sh (eZ q.2)]) (O1:=E') rfl rfl rfl rfl Ej) rfl)) rfl rfl) rfl (by simp; omega);refine⟨p11,p12,fP (O1:=E) (O2:=WE T l o5 o6 o7 o8 o9 (zO (acc++[.str q.1,.str (cJ q.2)])) (zT q.1) (zS (eZ q.2)) mu) rfl (bK c rfl rfl) (ih.trans ?_)⟩;rw[uU];simp
abbrev ZC:SF:=(aF (aM 10 (aP (aa (aeP "def") (aa (aj 5) (aa (az eN (aa (aj 7) ao)) ao)))))
 (aF (jw (gj (aj 8) cX) (eX 2 (bh (aJ 11) (bh (aJ 12) eV)))
 (aM 10 (aC aY (aj 10) (aP (aa (aj 11) (aa (az eN (aa (aj 12) ao)) ao))))))
 (aM 4 (aC aY (aC aY (aC aY (aj 4) (aP (aa (aj 10) ao))) (az (bZ 40) (aa (aj 9) ao))) (aP (aa (aP (aa (aeP "end") ao)) ao))))))
theorem Ms:∀(fs:List Fn) (acc:List PV) (o5 o6 o7 o8 o9 o10 o11 o12:Option Lc),(∀f∈fs,f.ok)->acc.length+(dg fs).length<=5000->∃p5 p7 p8 p9 p10 p11 p12,dz (eX 4 (bh (aJ 5) (bh (aJ 7) (bh (aJ 8) (bh (aJ 9) eV))))) ZC (fs.map Fn.pv) (WE T (zO acc) o5 o6 o7 o8 o9 o10 o11 o12 mu)=some (.nx (WE T (zO (acc++ll (dg fs))) p5 o6 p7 p8 p9 p10 p11 p12 mu))
 | [],acc,o5,o6,o7,o8,o9,o10,o11,o12,_,_=>⟨o5,o7,o8,o9,o10,o11,o12,by simp[dg,dz]⟩
 | f::fs,acc,o5,o6,o7,o8,o9,o10,o11,o12,h,hl=>by
  have ok:=h f aaz;have h1:=ok.len;have h2:=ok.par;have e0:dg (f::fs)=f.ls++dg fs:=by simp[dg]
  have e1:f.ls.length=f.rows.ls.length+2:=by simp[Fn.ls]
  rw[e0,aaH]at hl;let N:Option Lc:=zT f.name;let R:Option Lc:=zS (eZ f.rank);let P:Option Lc:=zL (f.params.map jf);let Q:Option Lc:=zL f.rows.pvs;let W:List Str := "def" :: f.name::cJ f.rank::jE f.params;obtain⟨p11,p12,el⟩:=Mr (T:=T) (mu:=mu) (l:=zO acc) (o5:=N) (o6:=o6) (o7:=R) (o8:=P) (o9:=Q) f.params [.str "def",.str f.name,.str (cJ f.rank)] o11 o12 (by simp; omega);have hw:[PV.str "def",.str f.name,.str (cJ f.rank)]++(jE f.params).map .str=W.map .str:=by simp[W]
  rw[hw]at el;obtain⟨p5,p7,p8,p9,p10,q11,q12,ih⟩:=Ms fs (acc++ll f.ls) N o6 R P Q (zS (wl W)) p11 p12 (λx hx=>h x (aaA _ hx)) (by simp; omega);let E:=WE T (zO acc) N o6 R P Q o10 o11 o12 mu;have s1:aM 10 (aP (aa (aeP "def") (aa (aj 5) (aa (az eN (aa (aj 7) ao)) ao)))) E=some (.nx (WE T (zO acc) N o6 R P Q (some (.own (.lst [.str "def",.str f.name,.str (cJ f.rank)]))) o11 o12 mu)):=
   bK (lY (ls:=[.sh (.str "def"),.sh (.str f.name),.sh (.str (cJ f.rank))]) (O1:=E) (aH rfl (aH rfl (aH (aL (ps:=[eZ f.rank]) (ls:=[.sh (eZ f.rank)]) (O1:=E) rfl rfl rfl rfl Ej) rfl))) rfl rfl) rfl rfl
  let E2:=WE T (zO acc) N o6 R P Q (some (.own (wl W))) p11 p12 mu;let E3:=WE T (zL acc) N o6 R P Q (zS (wl W)) p11 p12 mu;have c1:=d7 (fa:=aj 4) (fb:=aP (aa (aj 10) ao)) (O:=E2) (x:=.sh (.lst acc)) (y:=.own (.lst [wl W])) (O1:=WE T (zL acc) N o6 R P Q (some (.own (wl W))) p11 p12 mu) (O2:=E3) rfl rfl rfl rfl (by simp; omega);have c2:=d7 (fb:=az (bZ 40) (aa (aj 9) ao)) (y:=.own (.lst (ll f.rows.ls))) (O2:=E3) c1 rfl (aL (ps:=[.lst f.rows.pvs]) (ls:=[.sh (.lst f.rows.pvs)]) (O1:=E3) rfl rfl rfl rfl (J4 ok.rows ok.dep (by omega))) rfl (by simp; omega);have c3:=d7 (fb:=aP (aa (aP (aa (aeP "end") ao)) ao)) (y:=.own (.lst (ll gK))) (O2:=E3) c2 rfl rfl rfl (by simp; omega);have ea:acc++[wl W]++ll f.rows.ls++ll gK=acc++ll f.ls:=by simp[Fn.ls,W]
  rw[ea]at c3;have st:ZC E=some (.nx (WE T (zO (acc++ll f.ls)) N o6 R P Q (zS (wl W)) p11 p12 mu)):=
   aB s1 (aB ((gf (xs:=f.params.map jf) (O1:=WE T (zO acc) N o6 R P Q (some (.own (.lst [.str "def",.str f.name,.str (cJ f.rank)]))) o11 o12 mu) rfl).trans el) (bK c3 rfl rfl))
  refine⟨p5,p7,p8,p9,p10,q11,q12,fP (O1:=E) rfl st (ih.trans ?_)⟩;rw[e0];simp
theorem Oi_ (ok:T.ok):nJ [T.pv] mu=some (.own (.lst (ll T.lines)),mu):=by
 have h1:=ok.nm;have h2:=ok.pr;have h3:=ok.bx;have h4:=ok.gr;have h5:=ok.fl;have h6:=ok.rl;let l1:List (List Str):=[("ranks" : Str)::T.names];let l2:=l1++T.pairs.map jb;let l3:=l2++T.grants.map nY;let l4:=l3++T.boxes.map Bx.l;let l5:=l4++dg T.funs;let E0:=WE T none none none none none none none none none mu;let E:List (List Str)->Ev:=λls=>WE T (zO (ll ls)) none none none none none none none none mu;let F:List (List Str)->Ev:=λls=>WE T (zL (ll ls)) none none none none none none none none mu;have st1:Rz (aj 0) (eX 3 (bh (aJ 1) (bh (aJ 2) (bh (aJ 3) eV)))) (env0 13 [T.pv] mu)=some (.nx E0):=rfl;have st2:aM 4 (aC aY (aP (aa (aC aY (aP (aa (aeP "ranks") ao)) (aj 1)) ao)) (cT (gj (aj 2) cX) 2 [] (eX 2 (bh (aJ 0) (bh (aJ 1) eV))) bY (aP (aa (aeP "under") (aa (aj 0) (aa (aj 1) ao)))))) E0=some (.nx (E l2)):=by have c0:=d7 (fa:=aP (aa (aeP "ranks") ao)) (fb:=aj 1) (O:=E0) (x:=.own (.lst [.str "ranks"])) (y:=.sh (.lst (T.names.map .str))) (O1:=E0) (O2:=E0) rfl rfl rfl rfl (by simp; omega);have c1:aP (aa (aC aY (aP (aa (aeP "ranks") ao)) (aj 1)) ao) E0=some (.own (.lst (ll l1)),E0):=lY (ls:=[.own (.lst ([.str "ranks"]++T.names.map .str))]) (aH c0 rfl) rfl rfl;have c2:cT (gj (aj 2) cX) 2 [] (eX 2 (bh (aJ 0) (bh (aJ 1) eV))) bY (aP (aa (aeP "under") (aa (aj 0) (aa (aj 1) ao)))) E0=some (.own (.lst (ll (T.pairs.map jb))),E0):=gG (m:=2) (ixs:=[]) (O1:=E0) (rM (l:=.sh T.prP) (xs:=T.pairs.map j4) rfl rfl) (Dd T.pairs mu h2);have c3:=d7 c1 rfl c2 rfl (by simp[l1]; omega);refine bK c3 rfl ?_;simp[E,E0,l2,ll,Ev.set]
 have st3:aM 4 (aC aY (aj 4) (cT (gj (aG (aj 3) (aeO 1)) cX) 3 [] (eX 3 (bh (aJ 0) (bh (aJ 1) (bh (aJ 2) eV)))) bY (aP (aa (aeP "may") (aa (aj 0) (aa (aj 1) (aa (aj 2) ao))))))) (E l2)=some (.nx (E l3)):=by have c2:cT (gj (aG (aj 3) (aeO 1)) cX) 3 [] (eX 3 (bh (aJ 0) (bh (aJ 1) (bh (aJ 2) eV)))) bY (aP (aa (aeP "may") (aa (aj 0) (aa (aj 1) (aa (aj 2) ao))))) (F l2)=some (.own (.lst (ll (T.grants.map nY))),F l2):=gG (m:=3) (ixs:=[]) (O1:=F l2) (rM (l:=.sh (.lst (T.grants.map mj))) (xs:=T.grants.map mj) rfl rfl) (J7 T.grants mu h4);have c3:=d7 (fa:=aj 4) (O:=E l2) (x:=.sh (.lst (ll l2))) (O1:=F l2) rfl rfl c2 rfl (by simp[l1,l2]; omega);refine bK c3 rfl ?_;simp[E,F,l3,ll,Ev.set]
 obtain⟨p5,p6,p7,st4⟩:=Mq (T:=T) (mu:=mu) T.boxes (ll l3) none none none ok.sz (by simp[l1,l2,l3]; omega);have e4:ll l3++ll (T.boxes.map Bx.l)=ll l4:=by simp[l4,ll]
 rw[e4]at st4;obtain⟨q5,q7,q8,q9,q10,q11,q12,st5⟩:=Ms (T:=T) (mu:=mu) T.funs (ll l4) p5 p6 p7 none none none none none ok.fn (by simp[l1,l2,l3,l4]; omega);have e5:ll l4++ll (dg T.funs)=ll l5:=by simp[l5,ll]
 rw[e5]at st5;let G:=WE T (zL (ll l5)) q5 p6 q7 q8 q9 q10 q11 q12 mu;have c6:=d7 (fa:=aj 4) (fb:=az (bZ 40) (aa (aG (aj 3) (aeO 3)) ao)) (O:=WE T (zO (ll l5)) q5 p6 q7 q8 q9 q10 q11 q12 mu) (x:=.sh (.lst (ll l5))) (y:=.own (.lst (ll T.rows.ls))) (O1:=G) (O2:=G) rfl rfl (aL (ps:=[.lst T.rows.pvs]) (ls:=[.sh (.lst T.rows.pvs)]) (O1:=G) rfl rfl rfl rfl (J4 ok.rw ok.dp (by omega))) rfl (by simp[l1,l2,l3,l4,l5]; omega);have e6:ll l5++ll T.rows.ls=ll T.lines:=by simp[l1,l2,l3,l4,l5,ll,Tl.lines]
 rw[e6]at c6;refine aR (O:=G) (aB st1 (aB st2 (aB st3 (aB ((gf (xs:=T.boxes.map Bx.pv) (O1:=E l3) rfl).trans st4) (aB ((gf (xs:=T.funs.map Fn.pv) (O1:=WE T (zO (ll l4)) p5 p6 p7 none none none none none mu) rfl).trans st5) (bO c6))))))
theorem Qy (ok:T.ok):oE [.lst (ll T.lines)] mu=some (.sh (.str (TX T.lines)),mu):=
 aR (O:=⟨[zL (ll T.lines)],mu⟩) (bO (Gr (f:=aj 0) (l:=.sh (.lst (ll T.lines))) rfl rfl ok.tx))
end
theorem cell_eq {ns:List Int} {k:Int} (hn:ns.length<=63) (h0:0<=k) (h1:k<100000000):∃c,∀mu:Mu,j8 [.lst (ns.map .int),.int k] mu=some (.sh (.int c),mu):=by
 have hN:(ns.map PV.int).length<=63:=by rw[aaT]; exact hn
 have hlt:∀o2 o3 (mu:Mu),tT (aC jX (aj 1) (eB du (aa (aj 0) ao))) aW ⟨[zL (ns.map .int),zI k,o2,o3],mu⟩=some (decide (k<(ns.map PV.int).length),⟨[zL (ns.map .int),zI k,o2,o3],mu⟩):=λo2 o3 mu=>by
  rfl
 have hgt:∀o2 o3 (mu:Mu),tT (aC Ga (eB du (aa (aj 0) ao)) (aeO 0)) aW ⟨[zL (ns.map .int),zI k,o2,o3],mu⟩=some (decide ((0:Int)<(ns.map PV.int).length),⟨[zL (ns.map .int),zI k,o2,o3],mu⟩):=λo2 o3 mu=>by
  rfl
 have at_:∀i:Int,0<=i->i<(ns.map PV.int).length->∃c,uI (.lst (ns.map .int)) (.int i)=zI c:=λi h0 h1=>by obtain⟨x,e,e2⟩:=tU (l:=ns.map PV.int) (i:=i) h0 h1;rw[aa2]at e2;obtain⟨c,_,rfl⟩:=acz e2;exact⟨c,by show (eQ (ns.map PV.int) i).map _=_; rw[e]; rfl⟩
 by_cases hk:k<(ns.map PV.int).length
 . obtain⟨c,e⟩:=at_ k h0 hk;refine⟨c,λmu=>aR (O:=⟨[zL (ns.map .int),zI k,none,none],mu⟩) ?_⟩;refine(cW ?_);refine(cZ (O1:=⟨[zL (ns.map .int),zI k,none,none],mu⟩) ((hlt none none mu).trans (by rw[acv hk]))).trans ?_;exact bO (fV rfl rfl rfl rfl (λn h=>by cases h) e)
 . have fin:∀(c:Int) o3 (mu:Mu),0<=c->c<18446744073709551616->bB (aC gR (aC jJ (aj 2) (aj 2)) (aeO 2147483629)) ⟨[zL (ns.map .int),zI k,zI c,o3],mu⟩=some (.rt (.sh (.int (c*c%2147483629))) ⟨[zL (ns.map .int),zI k,zI c,o3],mu⟩):=λc o3 mu a b=>
    bO (bC (bC rfl rfl (Jd (by omega) (by omega))) rfl (jd (by decide)))
   have go1:∀mu:Mu,bT (tT (aC jX (aj 1) (eB du (aa (aj 0) ao))) aW) (bB (aG (aj 0) (aj 1))) bM ⟨[zL (ns.map .int),zI k,none,none],mu⟩=some (.nx ⟨[zL (ns.map .int),zI k,none,none],mu⟩):=λmu=>
    (bI ((hlt none none mu).trans (by rw[acu hk]))).trans rfl
   have go2:∀mu:Mu,aM 2 (aC aY (aC jJ (aj 1) (aeO 7919)) (aeO 5)) ⟨[zL (ns.map .int),zI k,none,none],mu⟩=some (.nx ⟨[zL (ns.map .int),zI k,zI (k*7919+5),none],mu⟩):=λmu=>by
    exact bK (bC (bC rfl rfl (Jd (by omega) (by omega))) rfl rfl) rfl rfl
   by_cases hz:(0:Int)<(ns.map PV.int).length
   . have hm0:=abh (k*7) (b:=(ns.map PV.int).length) (by omega);have hm1:=aa7 (k*7) (b:=(ns.map PV.int).length) hz;obtain⟨d,e⟩:=at_ _ hm0 hm1;have go3:∀mu:Mu,bT (tT (aC Ga (eB du (aa (aj 0) ao)) (aeO 0)) aW) (aF (aM 3 (aG (aj 0) (aC gR (aC jJ (aj 1) (aeO 7)) (eB du (aa (aj 0) ao)))))
      (aM 2 (aC gR (aC aY (aC aY (aC jJ (aj 3) (aeO 48271)) (aC jJ (aC jJ (aj 1) (aj 1)) (aeO 7919))) (aj 1)) (aeO 2147483647)))) bM ⟨[zL (ns.map .int),zI k,zI (k*7919+5),none],mu⟩=
      some (.nx ⟨[zL (ns.map .int),zI k,zI ((d*48271+k*k*7919+k)%2147483647),zI d],mu⟩):=λmu=>by
      refine(cZ ((hgt _ none mu).trans (by rw[acv hz]))).trans ?_;refine aB (bK (l:=.sh (.int d)) (fV (q:=.int (k*7%(ns.map PV.int).length)) rfl rfl (by exact bC (bC rfl rfl (Jd (by omega) (by omega))) rfl (jd (by omega))) rfl (λn h=>by cases h) e) rfl rfl) ?_
      exact bK (bC (bC (bC (bC rfl rfl (Qe (by decide) (by decide))) (bC (bC rfl rfl (Jd (by omega) (by omega))) rfl (Qe (by decide) (by decide))) rfl) rfl rfl) rfl (jd (by decide))) rfl rfl
     have b1:=abh (d*48271+k*k*7919+k) (b:=2147483647) (by decide);have b2:=aa7 (d*48271+k*k*7919+k) (b:=2147483647) (by decide);exact⟨_,λmu=>aR (O:=⟨[zL (ns.map .int),zI k,zI ((d*48271+k*k*7919+k)%2147483647),zI d],mu⟩) (aB (go1 mu) (aB (go2 mu) (aB (go3 mu) (fin _ _ mu b1 (by omega)))))⟩
   . have go3:∀(f:SF) (mu:Mu),bT (tT (aC Ga (eB du (aa (aj 0) ao)) (aeO 0)) aW) f bM ⟨[zL (ns.map .int),zI k,zI (k*7919+5),none],mu⟩=
      some (.nx ⟨[zL (ns.map .int),zI k,zI (k*7919+5),none],mu⟩):=λf mu=>
      (bI ((hgt _ none mu).trans (by rw[acu hz]))).trans rfl
     exact⟨_,λmu=>aR (O:=⟨[zL (ns.map .int),zI k,zI (k*7919+5),none],mu⟩) (aB (go1 mu) (aB (go2 mu) (aB (go3 _ mu) (fin _ _ mu (by omega) (by omega)))))⟩
structure Spot (P:PV->Mu) (n:Nat):Prop where
 g:∀x,(P x)[n]?=some (some x)
 s:∀x y,(P x).set n (some y)=P y
abbrev aU (ns:List Int) (k c:Int):PV:=.lst [.lst (ns.map .int),.int k,.int c,.int 4,.int 3]
theorem fD {ns:List Int} {k m:Int} (hn:ns.length<=63) (h0:0<=k) (h1:k<100000000) (hm:0<m):∃r,0<=r/\r<m/\∀P n c,Spot P n->aQ [.ptr n,.int m] (P (aU ns k c))=some (.sh (.int r),P (aU ns (k+1) c)):=by
 obtain⟨d,e⟩:=cell_eq hn h0 h1;refine⟨d%m,abh _ (by omega),aa7 _ hm,λP n c S=>aR (O:=⟨[zS (.ptr n),zI m,none],P (aU ns (k+1) c)⟩) ?_⟩;have g1:aM 2 (aC gR (az j8 (aa (aG (aj 0) (aeO 0)) (aa (aG (aj 0) (aeO 1)) ao))) (aj 1)) ⟨[zS (.ptr n),zI m,none],P (aU ns k c)⟩=some (.nx ⟨[zS (.ptr n),zI m,zI (d%m)],P (aU ns k c)⟩):=
  bK (T8 (aL (ps:=[.lst (ns.map .int),.int k]) (aH (pG rfl rfl rfl rfl (S.g _) rfl) (aH (pG rfl rfl rfl rfl (S.g _) rfl) rfl)) rfl rfl rfl (e _)) rfl rfl rfl (jd hm)) rfl rfl
 have g2:wN (aj 0) (aeO 1) (aC aY (aG (aj 0) (aeO 1)) (aeO 1)) ⟨[zS (.ptr n),zI m,zI (d%m)],P (aU ns k c)⟩=some (.nx ⟨[zS (.ptr n),zI m,zI (d%m)],P (aU ns (k+1) c)⟩):=by refine(LK (x:=.sh (.int (k+1))) (j:=1) (T8 (pG rfl rfl rfl rfl (S.g _) rfl) rfl rfl rfl rfl) rfl rfl rfl rfl rfl (S.g _) rfl).trans ?_;show some (Fl.nx ⟨_,(P (aU ns k c)).set n (some (aU ns (k+1) c))⟩)=_;rw[S.s];rfl
 exact aB g1 (aB g2 rfl)
def Dr (ns:List Int) (F:Nat->Mu->Option (Lc×Mu)) (k c k' c':Int) (l:Lc):Prop:=∀P n,Spot P n->F n (P (aU ns k c))=some (l,P (aU ns k' c'))
def qQ (pl:List Str):Prop:=pl.length=8/\∀x∈pl,Gn x
abbrev b8 (pl:List Str):PV:=.lst (pl.map .str)
theorem ik {ns:List Int} {k:Int} {pl:List Str} (hn:ns.length<=63) (h0:0<=k) (h1:k<100000000) (hp:qQ pl):∃x:Str,Gn x/\∀c,Dr ns (λn mu=>cI [.ptr n,b8 pl] mu) k c (k+1) c (.sh (.str x)):=by
 obtain⟨r,r0,r1,e⟩:=fD (m:=8) hn h0 h1 (by decide);have hl:(pl.map PV.str).length=8:=by rw[aaT]; exact hp.1
 obtain⟨p,h2,h3⟩:=tU (l:=pl.map PV.str) (i:=r) r0 (by omega);rw[aa2]at h3;obtain⟨x,hx,rfl⟩:=acz h3;refine⟨x,hp.2 x (abf hx),λc P n S=>aR (O:=⟨[zS (.ptr n),zS (b8 pl)],P (aU ns (k+1) c)⟩) (bO ?_)⟩;exact fV (p:=b8 pl) (q:=.int r) (l:=.sh (b8 pl)) (m:=.sh (.int r)) (O1:=⟨[zS (.ptr n),zS (b8 pl)],P (aU ns k c)⟩) rfl rfl (aL (ps:=[.ptr n,.int 8]) (ls:=[.sh (.ptr n),.sh (.int 8)]) (O1:=⟨[zS (.ptr n),zS (b8 pl)],P (aU ns k c)⟩) rfl rfl rfl rfl (e P n c S)) rfl (λn h=>by cases h) (by show (eQ (pl.map PV.str) r).map _=_; rw[h2]; rfl)
theorem De {f:EF} {a b:Int} {O O1:Ev} (h:f O=some (.sh (.int a),O1)):tT (aC eqP f (aeO b)) aW O=some (decide (a=b),O1):=Cm (l:=.sh (.bl (a==b))) (bC h rfl rfl) (by show some (a==b)=_; rfl)
theorem gm {c:TF} {f g:SF} {O O1:Ev} {b:Bool} (h:c O=some (b,O1)) (hb:b=false):aF (bT c f bM) g O=g O1:=by subst hb; exact Lz ((bI h).trans rfl)
theorem jh {c:TF} {f g:SF} {O O1 O2:Ev} {b:Bool} {r:Lc} (h:c O=some (b,O1)) (hb:b=true) (h2:f O1=some (.rt r O2)):aF (bT c f bM) g O=some (.rt r O2):=by subst hb; exact cW ((cZ h).trans h2)
theorem Qz {ns:List Int} {k:Int} (hn:ns.length<=63) (h0:0<=k) (h1:k<99999999):∃v,0<=v/\v<1000000000000/\∀c,Dr ns (λn mu=>rY [.ptr n] mu) k c (k+2) c (.sh (.int v)):=by
 obtain⟨w,w0,w1,ew⟩:=fD (m:=4) hn h0 (by omega) (by decide);obtain⟨z,z0,z1,ez⟩:=fD (m:=1000000000000) (k:=k+1) hn (by omega) (by omega) (by decide);have e2:k+1+1=k+2:=by omega
 rw[e2]at ez;let E:Nat->Mu->Ev:=λn mu=>⟨[zS (.ptr n),zI w,zI z],mu⟩;have st:∀P n c,Spot P n->∀(g:SF) R,g (E n (P (aU ns (k+2) c)))=R->aF (aM 1 (az aQ (aa (aj 0) (aa (aeO 4) ao)))) (aF (aM 2 (az aQ (aa (aj 0) (aa (aC DP (aeO 10) (aeO 12)) ao)))) g) (env0 3 [.ptr n] (P (aU ns k c)))=R:=λP n c S g R hg=>
  aB (O':=⟨[zS (.ptr n),zI w,none],P (aU ns (k+1) c)⟩) (bK (aL (ps:=[.ptr n,.int 4]) rfl rfl rfl rfl (ew P n c S)) rfl rfl) (aB (O':=E n (P (aU ns (k+2) c))) (bK (aL (ps:=[.ptr n,.int 1000000000000]) rfl rfl rfl rfl (ez P n c S)) rfl rfl) hg)
 have t:∀(i:Int) n mu,tT (aC eqP (aj 1) (aeO i)) aW (E n mu)=some (decide (w=i),E n mu):=λi n mu=>De rfl;by_cases h0':w=0
 . exact⟨z%21,abh _ (by decide),Int.lt_trans (aa7 _ (by decide)) (by decide),λc P n S=>aR (O:=E n (P (aU ns (k+2) c))) (st P n c S _ _ (jh (t 0 _ _) (acv h0') (bO (bC rfl rfl (jd (by decide))))))⟩
 . by_cases h1':w=1
   . have b0:=abh z (b:=5) (by decide);have b1:=aa7 z (b:=5) (by decide);exact⟨999999999999-z%5,by omega,by omega,λc P n S=>aR (O:=E n (P (aU ns (k+2) c))) (st P n c S _ _ ((gm (t 0 _ _) (acu h0')).trans (jh (t 1 _ _) (acv h1') (bO (bC (x:=.sh (.int 999999999999)) rfl (bC rfl rfl (jd (by decide))) rfl)))))⟩
   . by_cases h2':w=2
     . have b0:=abh z (b:=9999) (by decide);have b1:=aa7 z (b:=9999) (by decide);have d1:1<=(1000000000000:Int)/(1+z%9999):=(Int.le_ediv_iff_mul_le (by omega)).mpr (by omega);have d2:(1000000000000:Int)/(1+z%9999)<=1000000000000:=Int.ediv_le_self _ (by decide);exact⟨1000000000000/(1+z%9999)-1,by omega,by omega,λc P n S=>aR (O:=E n (P (aU ns (k+2) c))) (st P n c S _ _ ((gm (t 0 _ _) (acu h0')).trans ((gm (t 1 _ _) (acu h1')).trans (jh (t 2 _ _) (acv h2') (bO (bC (bC (x:=.sh (.int 1000000000000)) (y:=.sh (.int (1+z%9999))) rfl (bC rfl (bC rfl rfl (jd (by decide))) (mY _ _)) (Gh (by omega) (by omega))) rfl rfl))))))⟩
     . exact⟨z*999983%1000000000000,abh _ (by decide),aa7 _ (by decide),λc P n S=>aR (O:=E n (P (aU ns (k+2) c))) (st P n c S _ _ ((gm (t 0 _ _) (acu h0')).trans ((gm (t 1 _ _) (acu h1')).trans ((gm (t 2 _ _) (acu h2')).trans (bO (bC (bC rfl rfl (Qe (by decide) (by decide))) (y:=.sh (.int 1000000000000)) rfl (jd (by decide))))))))⟩
theorem Vx {i:Int} (h0:0<=i) (h1:i<5):∃s,Sg s/\uI (.str "+-*<=") (.int i)=zT s:=by
 have go:∀(c:Nat) (s:Str),Sg s->("+-*<=" : Str).length<=100000->eQ ("+-*<=" : Str).cps.toList i=some c->(⟨#[c]⟩:Str)=s->∃s,Sg s/\uI (.str "+-*<=") (.int i)=zT s:=λc s hs hl hc e=>⟨s,hs,by
  show (if ("+-*<=" : Str).length<=100000 then (eQ ("+-*<=" : Str).cps.toList i).map λc=>Lc.sh (.str ⟨#[c]⟩) else none)=_;rw[acq hl,hc,<-e];rfl⟩
 have h:i=0\/i=1\/i=2\/i=3\/i=4:=by omega
 rcases h with rfl | rfl | rfl | rfl | rfl
 . exact go 43 "+" (.inl rfl) (by decide +kernel) (by decide +kernel) (by decide +kernel)
 . exact go 45 "-" (.inr (.inl rfl)) (by decide +kernel) (by decide +kernel) (by decide +kernel)
 . exact go 42 "*" (.inr (.inr (.inl rfl))) (by decide +kernel) (by decide +kernel) (by decide +kernel)
 . exact go 60 "<" (.inr (.inr (.inr (.inl rfl)))) (by decide +kernel) (by decide +kernel) (by decide +kernel)
 . exact go 61 "=" (.inr (.inr (.inr (.inr rfl)))) (by decide +kernel) (by decide +kernel) (by decide +kernel)
def Bd:Nat->Int
 | 0=>3
 | d+1=>3+2*Bd d
theorem Df:∀d,3<=Bd d
 | 0=>by decide
 | d+1=>by have:=Df d; show 3<=3+2*Bd d; omega
theorem Mt:∀{a b:Nat},a<=b->Bd a<=Bd b:=λ{a b} h=>by
 induction h with
 | refl=>exact Int.le_refl _
 | step _ ih=>rename_i m _; have:=Df m; show _<=3+2*Bd m; omega
def Wd (d:Nat):Nat:=if d<=1 then 1 else 4*d-5
theorem Zh (h:1<=d):2+Wd d<=Wd (d+1):=by unfold Wd; split<;>split<;>omega
theorem Zi (h:1<=d):1+Wd d+Wd (min d 2)<=Wd (d+1):=by
 unfold Wd;by_cases h1:d<=1
 . rw[acq h1,acq (by omega),acr (by omega)]; omega
 . rw[acr h1,acr (by omega),acr (by omega)]; omega
theorem QB:1<=Wd d:=by unfold Wd; split<;>omega
abbrev XE (n:Nat) (d:Int) (pl:List Str) (w:Int) (o4 o5 o6:Option Lc) (mu:Mu):Ev:=⟨[zS (.ptr n),zI d,zS (b8 pl),zI w,o4,o5,o6],mu⟩
theorem J9 {ns:List Int} {pl:List Str} (hn:ns.length<=63) (hp:qQ pl) (d:Nat):∀(f:Nat) (k:Int),1<=d->d<=f->0<=k->k+Bd d<99999999->∃(e:aV) (k':Int),e.ok/\e.dep<=d/\e.ws.length<=Wd d/\k<=k'/\k'<=k+Bd d/\∀c,Dr ns (λn mu=>cC f [.ptr n,.int (d:Int),b8 pl] mu) k c k' c (.sh e.pv):=by
 induction d using Nat.strongRecOn with
 | _ d IH=>
  intro f k h1 hf h0 hb;obtain⟨g,rfl⟩:∃g,f=g+1:=⟨f-1,by omega⟩;have bp:=Df d;obtain⟨w,w0,w1,ew⟩:=fD (m:=9) hn h0 (by omega) (by decide);have st:∀P n c,Spot P n->aM 3 (az aQ (aa (aj 0) (aa (aeO 9) ao))) (env0 7 [.ptr n,.int (d:Int),b8 pl] (P (aU ns k c)))=some (.nx (XE n d pl w none none none (P (aU ns (k+1) c)))):=λP n c S=>bK (aL (ps:=[.ptr n,.int 9]) rfl rfl rfl rfl (ew P n c S)) rfl rfl;have t1:∀n mu,dR (tT (aC jX (aj 1) (aeO 2)) aW) (tT (aC jX (aj 3) (aeO 2)) aW) (XE n d pl w none none none mu)=some (decide ((d:Int)<2)||decide (w<2),XE n d pl w none none none mu):=λn mu=>kJ rfl rfl;have t2:∀n mu o4 o5 o6,tT (aC eqP (aC gR (aj 3) (aeO 2)) (aeO 0)) aW (XE n d pl w o4 o5 o6 mu)=some (decide (w%2=0),XE n d pl w o4 o5 o6 mu):=λn mu o4 o5 o6=>De (bC rfl rfl (jd (by decide)));cases hA:(decide ((d:Int)<2)||decide (w<2)) with
  | true=>
   by_cases hw:w%2=0
   . obtain⟨v,v0,v1,ev⟩:=Qz (k:=k+1) hn (by omega) (by omega);refine⟨.num v,k+1+2,⟨v0,v1⟩,by simp[aV.dep]; omega,by simp only[aV.ws,List.length_singleton]; exact QB,by omega,by omega,λc P n S=>aR (O:=XE n d pl w none none none (P (aU ns (k+1+2) c))) (aB (st P n c S) (jh (t1 _ _) hA ?_))⟩;exact jh (t2 _ _ _ _ _) (acv hw) (bO (eY (ls:=[.sh (.str "num"),.sh (.int v)]) (aH rfl (aH (aL (ps:=[.ptr n]) (ls:=[.sh (.ptr n)]) (O1:=XE n d pl w none none none (P (aU ns (k+1) c))) rfl rfl rfl rfl (ev c P n S)) rfl)) rfl rfl))
   . obtain⟨x,hx,ex⟩:=ik (k:=k+1) hn (by omega) (by omega) hp;refine⟨.box x,k+1+1,hx,by simp[aV.dep]; omega,by simp only[aV.ws,List.length_singleton]; exact QB,by omega,by omega,λc P n S=>aR (O:=XE n d pl w none none none (P (aU ns (k+1+1) c))) (aB (st P n c S) (jh (t1 _ _) hA ?_))⟩;exact(gm (t2 _ _ _ _ _) (acu hw)).trans (bO (eY (ls:=[.sh (.str "box"),.sh (.str x)]) (aH rfl (aH (aL (ps:=[.ptr n,b8 pl]) (ls:=[.sh (.ptr n),.sh (b8 pl)]) (O1:=XE n d pl w none none none (P (aU ns (k+1) c))) rfl rfl rfl rfl (ex c P n S)) rfl)) rfl rfl))
  | false=>
   have hd:¬ (d:Int)<2:=λh=>by rw[acv h]at hA; simp at hA
   obtain⟨d',rfl⟩:∃d',d=d'+1:=⟨d-1,by omega⟩;have bs:Bd (d'+1)=3+2*Bd d':=rfl;obtain⟨e,k1,ok1,dp1,ws1,ka,kb,ee⟩:=IH d' (by omega) g (k+1) (by omega) (by omega) (by omega) (by omega);have ed:((d'+1:Nat):Int)-1=(d':Int):=by omega
   have st4:∀P n c,Spot P n->aM 4 (az (cC g) (aa (aj 0) (aa (aC oK (aj 1) (aeO 1)) (aa (aj 2) ao)))) (XE n (d'+1:Nat) pl w none none none (P (aU ns (k+1) c)))=some (.nx (XE n (d'+1:Nat) pl w (zS e.pv) none none (P (aU ns k1 c)))):=λP n c S=>by have e3:=ee c P n S;rw[<-ed]at e3;exact bK (aL (ps:=[.ptr n,.int (((d'+1:Nat):Int)-1),b8 pl]) (ls:=[.sh (.ptr n),.sh (.int (((d'+1:Nat):Int)-1)),.sh (b8 pl)]) (O1:=XE n (d'+1:Nat) pl w none none none (P (aU ns (k+1) c))) rfl rfl rfl rfl e3) rfl rfl
   have t3:∀n mu o4,tT (aC jX (aj 3) (aeO 4)) aW (XE n (d'+1:Nat) pl w o4 none none mu)=some (decide (w<4),XE n (d'+1:Nat) pl w o4 none none mu):=λn mu o4=>rfl;by_cases hw4:w<4
   . obtain⟨x,hx,ex⟩:=ik (k:=k1) hn (by omega) (by omega) hp;refine⟨.at x e,k1+1,⟨hx,ok1⟩,by simp only[aV.dep]; omega,by have:=Zh (d:=d') (by omega); simp only[aV.ws,aaC]; omega,by omega,by omega,λc P n S=>aR (O:=XE n (d'+1:Nat) pl w (zS e.pv) none none (P (aU ns (k1+1) c))) (aB (st P n c S) ((gm (t1 _ _) hA).trans (aB (st4 P n c S) (jh (t3 _ _ _) (acv hw4) (bO ?_)))))⟩;exact eY (ls:=[.sh (.str "@"),.sh (.str x),.sh e.pv]) (aH rfl (aH (aL (ps:=[.ptr n,b8 pl]) (ls:=[.sh (.ptr n),.sh (b8 pl)]) (O1:=XE n (d'+1:Nat) pl w (zS e.pv) none none (P (aU ns k1 c))) rfl rfl rfl rfl (ex c P n S)) (aH rfl rfl))) rfl rfl
   . have bm:=Mt (a:=min d' 2) (b:=d') (by omega);have bp':=Df d';obtain⟨e',k2,ok2,dp2,ws2,ka2,kb2,ee2⟩:=IH (min d' 2) (by omega) g k1 (by omega) (by omega) (by omega) (by omega);obtain⟨r,r0,r1,er⟩:=fD (m:=5) (k:=k2) hn (by omega) (by omega) (by decide);obtain⟨s,hs,es⟩:=Vx r0 r1;have mn:∀n mu,eB min2 (aa (aC oK (aj 1) (aeO 1)) (aa (aeO 2) ao)) (XE n (d'+1:Nat) pl w (zS e.pv) none none mu)=some (.sh (.int ((min d' 2:Nat):Int)),XE n (d'+1:Nat) pl w (zS e.pv) none none mu):=λn mu=>by
      refine uZ (ls:=[.sh (.int (((d'+1:Nat):Int)-1)),.sh (.int 2)]) (ps:=[.int (((d'+1:Nat):Int)-1),.int 2]) rfl rfl ?_;show some (Lc.sh (.int (if (2:Int)<((d'+1:Nat):Int)-1 then 2 else ((d'+1:Nat):Int)-1)))=_;have:(if (2:Int)<((d'+1:Nat):Int)-1 then 2 else ((d'+1:Nat):Int)-1)=((min d' 2:Nat):Int):=by split<;>omega
      rw[this]
     have st5:∀P n c,Spot P n->aM 5 (az (cC g) (aa (aj 0) (aa (eB min2 (aa (aC oK (aj 1) (aeO 1)) (aa (aeO 2) ao))) (aa (aj 2) ao)))) (XE n (d'+1:Nat) pl w (zS e.pv) none none (P (aU ns k1 c)))=some (.nx (XE n (d'+1:Nat) pl w (zS e.pv) (zS e'.pv) none (P (aU ns k2 c)))):=λP n c S=>
      bK (aL (ps:=[.ptr n,.int ((min d' 2:Nat):Int),b8 pl]) (ls:=[.sh (.ptr n),.sh (.int ((min d' 2:Nat):Int)),.sh (b8 pl)]) (O1:=XE n (d'+1:Nat) pl w (zS e.pv) none none (P (aU ns k1 c))) (aH rfl (aH (mn _ _) (aH rfl rfl))) rfl rfl rfl (ee2 c P n S)) rfl rfl
     have st6:∀P n c,Spot P n->aM 6 (aG (aeP "+-*<=") (az aQ (aa (aj 0) (aa (aeO 5) ao)))) (XE n (d'+1:Nat) pl w (zS e.pv) (zS e'.pv) none (P (aU ns k2 c)))=some (.nx (XE n (d'+1:Nat) pl w (zS e.pv) (zS e'.pv) (zT s) (P (aU ns (k2+1) c)))):=λP n c S=>
      bK (fV (p:=.str "+-*<=") (q:=.int r) (l:=.sh (.str "+-*<=")) (m:=.sh (.int r)) (O1:=XE n (d'+1:Nat) pl w (zS e.pv) (zS e'.pv) none (P (aU ns k2 c))) rfl rfl (aL (ps:=[.ptr n,.int 5]) (ls:=[.sh (.ptr n),.sh (.int 5)]) (O1:=XE n (d'+1:Nat) pl w (zS e.pv) (zS e'.pv) none (P (aU ns k2 c))) rfl rfl rfl rfl (er P n c S)) rfl (λn h=>by cases h) es) rfl rfl
     have ws:=Zi (d:=d') (by omega);by_cases hw:w%2=0
     . refine⟨.sg s e' e,k2+1,⟨hs,ok2,ok1⟩,by simp only[aV.dep]; omega,by simp only[aV.ws,aaC,aaH]; omega,by omega,by omega,λc P n S=>aR (O:=XE n (d'+1:Nat) pl w (zS e.pv) (zS e'.pv) (zT s) (P (aU ns (k2+1) c))) (aB (st P n c S) ((gm (t1 _ _) hA).trans (aB (st4 P n c S) ((gm (t3 _ _ _) (acu hw4)).trans (aB (st5 P n c S) (aB (st6 P n c S) (jh (t2 _ _ _ _ _) (acv hw) rfl)))))))⟩
     . refine⟨.sg s e e',k2+1,⟨hs,ok1,ok2⟩,by simp only[aV.dep]; omega,by simp only[aV.ws,aaC,aaH]; omega,by omega,by omega,λc P n S=>aR (O:=XE n (d'+1:Nat) pl w (zS e.pv) (zS e'.pv) (zT s) (P (aU ns (k2+1) c))) (aB (st P n c S) ((gm (t1 _ _) hA).trans (aB (st4 P n c S) ((gm (t3 _ _ _) (acu hw4)).trans (aB (st5 P n c S) (aB (st6 P n c S) ((gm (t2 _ _ _ _ _) (acu hw)).trans rfl)))))))⟩
theorem Ui {e:aV} {d:Nat} (h:d<=6) (ok:e.ok) (hd:e.dep<=d) (hw:e.ws.length<=Wd d):Ex e:=by refine⟨ok,by omega,?_⟩;unfold Wd at hw;split at hw<;>omega
theorem Uj {ns:List Int} {pl:List Str} (hn:ns.length<=63) (hp:qQ pl) {k:Int} (h0:0<=k) (h1:k<99000000):∃(e:aV) (k':Int),Ex e/\k<=k'/\k'<=k+21/\∀c,Dr ns (λn mu=>cC 40 [.ptr n,.int 2,b8 pl] mu) k c k' c (.sh e.pv):=by obtain⟨e,k',ok,hd,hw,ka,kb,ee⟩:=J9 (ns:=ns) hn hp 2 40 k (by decide) (by decide) h0 (by have:Bd 2=21:=rfl; omega);exact⟨e,k',Ui (by decide) ok hd hw,ka,by have:Bd 2=21:=rfl; omega,ee⟩
theorem Vy {ns:List Int} {pl:List Str} (hn:ns.length<=63) (hp:qQ pl) {k:Int} (h0:0<=k) (h1:k<99000000):∃(e:aV) (k':Int),Ex e/\k<=k'/\k'<=k+383/\∀c,Dr ns (λn mu=>nW [.ptr n,b8 pl] mu) k c k' c (.sh e.pv):=by
 obtain⟨a,a0,a1,ea⟩:=fD (m:=3) hn h0 (by omega) (by decide);obtain⟨b,b0,b1,eb⟩:=fD (m:=9) (k:=k+1) hn (by omega) (by omega) (by decide);have e2:k+1+1=k+2:=by omega
 rw[e2]at eb;have q0:0<=b/8/\b/8<=1:=by omega
 obtain⟨d,hd⟩:∃d:Nat,(d:Int)=1+a+3*(b/8):=⟨(1+a+3*(b/8)).toNat,by omega⟩;have bd:=Mt (a:=d) (b:=6) (by omega);have b6:Bd 6=381:=rfl;obtain⟨e,k',ok,hdp,hw,ka,kb,ee⟩:=J9 (ns:=ns) hn hp d 40 (k+2) (by omega) (by omega) (by omega) (by omega);refine⟨e,k',Ui (d:=d) (by omega) ok hdp hw,by omega,by omega,λc P n S=>aR (O:=⟨[zS (.ptr n),zS (b8 pl)],P (aU ns k' c)⟩) (bO ?_)⟩;let E:Int->Ev:=λk=>⟨[zS (.ptr n),zS (b8 pl)],P (aU ns k c)⟩;have n1:az aQ (aa (aj 0) (aa (aeO 3) ao)) (E k)=some (.sh (.int a),E (k+1)):=aL (ps:=[.ptr n,.int 3]) (ls:=[.sh (.ptr n),.sh (.int 3)]) (O1:=E k) rfl rfl rfl rfl (ea P n c S);have n2:az aQ (aa (aj 0) (aa (aeO 9) ao)) (E (k+1))=some (.sh (.int b),E (k+2)):=aL (ps:=[.ptr n,.int 9]) (ls:=[.sh (.ptr n),.sh (.int 9)]) (O1:=E (k+1)) rfl rfl rfl rfl (eb P n c S);have n3:aG (aj 0) (aeO 4) (E (k+1))=some (.sh (.int 3),E (k+1)):=pG (n:=n) (k:=4) (l:=.sh (.ptr n)) (m:=.sh (.int 4)) (O1:=E (k+1)) rfl rfl rfl rfl (S.g _) rfl;have dd:aC aY (aC aY (aeO 1) (az aQ (aa (aj 0) (aa (aeO 3) ao)))) (aC jJ (aG (aj 0) (aeO 4)) (aC Ce (az aQ (aa (aj 0) (aa (aeO 9) ao))) (aeO 8))) (E k)=some (.sh (.int (d:Int)),E (k+2)):=by rw[hd];exact bC (x:=.sh (.int (1+a))) (y:=.sh (.int (3*(b/8)))) (bC (x:=.sh (.int 1)) (y:=.sh (.int a)) rfl n1 (mY _ _)) (bC (x:=.sh (.int 3)) (y:=.sh (.int (b/8))) n3 (bC (x:=.sh (.int b)) (y:=.sh (.int 8)) n2 rfl (Gh (by decide) (by decide))) (Jd (by decide) (by decide))) (mY _ _)
 exact aL (ps:=[.ptr n,.int (d:Int),b8 pl]) (ls:=[.sh (.ptr n),.sh (.int (d:Int)),.sh (b8 pl)]) (O1:=E (k+2)) (aH (O1:=E k) rfl (aH dd (aH rfl rfl))) rfl rfl rfl (ee c P n S)
theorem Ek {ns:List Int} {pl:List Str} (hn:ns.length<=63) (hp:qQ pl) {k:Int} (h0:0<=k) (h1:k<99000000):∃(r:Option Str) (k':Int),(∀x,r=some x->Gn x)/\k<=k'/\k'<=k+2/\∀c,Dr ns (λn mu=>j9 [.ptr n,b8 pl] mu) k c k' c (.sh (eZ r)):=by
 obtain⟨a,a0,a1,ea⟩:=fD (m:=3) hn h0 (by omega) (by decide);have t:∀P n c,Spot P n->tT (aC eqP (az aQ (aa (aj 0) (aa (aeO 3) ao))) (aeO 0)) aW ⟨[zS (.ptr n),zS (b8 pl)],P (aU ns k c)⟩=some (decide (a=0),⟨[zS (.ptr n),zS (b8 pl)],P (aU ns (k+1) c)⟩):=λP n c S=>De (aL (ps:=[.ptr n,.int 3]) (ls:=[.sh (.ptr n),.sh (.int 3)]) (O1:=⟨[zS (.ptr n),zS (b8 pl)],P (aU ns k c)⟩) rfl rfl rfl rfl (ea P n c S));by_cases h:a=0
 . exact⟨none,k+1,λx hx=>(by cases hx),by omega,by omega,λc P n S=>aR (r:=.sh .non) (O:=⟨[zS (.ptr n),zS (b8 pl)],P (aU ns (k+1) c)⟩) (jh (t P n c S) (acv h) rfl)⟩
 . obtain⟨x,hx,ex⟩:=ik (k:=k+1) hn (by omega) (by omega) hp;exact⟨some x,k+1+1,λy hy=>(by cases hy; exact hx),by omega,by omega,λc P n S=>aR (O:=⟨[zS (.ptr n),zS (b8 pl)],P (aU ns (k+1+1) c)⟩) ((gm (t P n c S) (acu h)).trans (bO (aL (ps:=[.ptr n,b8 pl]) (ls:=[.sh (.ptr n),.sh (b8 pl)]) (O1:=⟨[zS (.ptr n),zS (b8 pl)],P (aU ns (k+1) c)⟩) rfl rfl rfl rfl (ex c P n S))))⟩
theorem ph {b:Int} {m:Nat}:b*((m+1:Nat):Int)=b*(m:Int)+b:=by rw[Int.natCast_succ,Int.mul_add,Int.mul_one]
theorem uV {α:Type} {ns:List Int} (img:α->PV) (good:α->Prop) (b:Int) (hb:0<=b) (te:EF) (A B:Nat->Option Lc) (K:Int)
 (H:∀k,0<=k->k<=K->∃(a:α) (k':Int),good a/\k<=k'/\k'<=k+b/\∀P n c,Spot P n->∀o,∃l,te ⟨[o,A n,B n],P (aU ns k c)⟩=some (l,⟨[o,A n,B n],P (aU ns k' c)⟩)/\l.pv=img a):
 ∀(m:Nat) (k:Int),0<=k->k+b*m<=K->∃(as:List α) (k':Int),as.length=m/\(∀a∈as,good a)/\k<=k'/\k'<=k+b*m/\∀P n c,Spot P n->∀o acc xs,xs.length=m->acc.length+m<=1000->fY (aJ 0) bY te xs ⟨[o,A n,B n],P (aU ns k c)⟩ acc=some (acc++as.map img,P (aU ns k' c))
 | 0,k,h0,hK=>by refine⟨[],k,rfl,λa h=>(by cases h),by omega,by simp,λP n c S o acc xs hx _=>?_⟩;have:xs=[]:=List.length_eq_zero_iff.mp hx;subst this;simp[fY]
 | m+1,k,h0,hK=>by
  rw[ph]at hK;have bm:0<=b*(m:Int):=Int.mul_nonneg hb (by omega);obtain⟨a,k1,ga,ka,kb,ea⟩:=H k h0 (by omega);obtain⟨as,k2,hl,hg,kc,kd,ih⟩:=uV img good b hb te A B K H m k1 (by omega) (by omega);refine⟨a::as,k2,by simp[hl],λy hy=>?_,by omega,by rw[ph]; omega,λP n c S o acc xs hx hacc=>?_⟩
  . rcases aaI.mp hy with rfl | hy
    . exact ga
    . exact hg y hy
  . match xs,hx with
    | x::xs,hx=>
     obtain⟨l,e1,e2⟩:=ea P n c S (zS x);have e3:=ih P n c S (zS x) (acc++[img a]) xs (by simpa using hx) (by simp; omega);show (te ⟨[zS x,A n,B n],P (aU ns k c)⟩).bind (λv=>if acc.length<100000 then fY (aJ 0) bY te xs v.2 (acc++[v.1.pv]) else none)=_;rw[e1,aay,acq (by omega)];dsimp only;rw[e2,e3];simp
theorem uW {α:Type} {ns:List Int} (img:α->PV) (good:α->Prop) (cost:α->Int) (b:Int) (hb:0<=b) (bn:BF) (body:SF) (J:Nat->List PV->Mu->Ev->Prop) (K:Int)
 (H:∀k c,0<=k->0<=c->k+2000*c<=K->∃(a:α) (k' c':Int),good a/\k<=k'/\0<=c'/\c'+cost a=c/\k'+2000*c'<=k+2000*c+b/\∀P n,Spot P n->∀acc O x,J n acc (P (aU ns k c)) O->acc.length<1000->∃O1 O2,bn x O=some O1/\body O1=some (.nx O2)/\J n (acc++[img a]) (P (aU ns k' c')) O2):
 ∀(m:Nat) (k c:Int),0<=k->0<=c->k+2000*c+b*m<=K->∃(as:List α) (k' c':Int),as.length=m/\(∀a∈as,good a)/\k<=k'/\0<=c'/\c'+(as.map cost).sum=c/\k'+2000*c'<=k+2000*c+b*m/\∀P n,Spot P n->∀acc O xs,xs.length=m->acc.length+m<=1000->J n acc (P (aU ns k c)) O->∃O',dz bn body xs O=some (.nx O')/\J n (acc++as.map img) (P (aU ns k' c')) O'
 | 0,k,c,h0,hc,hK=>by refine⟨[],k,c,rfl,λa h=>(by cases h),by omega,hc,by simp,by simp,λP n S acc O xs hx _ hJ=>?_⟩;have:xs=[]:=List.length_eq_zero_iff.mp hx;subst this;exact⟨O,rfl,by simpa using hJ⟩
 | m+1,k,c,h0,hc,hK=>by
  rw[ph]at hK;have bm:0<=b*(m:Int):=Int.mul_nonneg hb (by omega);obtain⟨a,k1,c1,ga,ka,hc1,cc,kb,ea⟩:=H k c h0 hc (by omega);obtain⟨as,k2,c2,hl,hg,kc,hc2,cc2,kd,ih⟩:=uW img good cost b hb bn body J K H m k1 c1 (by omega) hc1 (by omega);refine⟨a::as,k2,c2,by simp[hl],λy hy=>?_,by omega,hc2,by rw[aaV,List.sum_cons]; omega,by rw[ph]; omega,λP n S acc O xs hx hacc hJ=>?_⟩
  . rcases aaI.mp hy with rfl | hy
    . exact ga
    . exact hg y hy
  . match xs,hx with
    | x::xs,hx=>
     obtain⟨O1,O2,e1,e2,hJ2⟩:=ea P n S acc O x hJ (by omega);obtain⟨O3,e3,hJ3⟩:=ih P n S (acc++[img a]) O2 xs (by simpa using hx) (by simp; omega) hJ2;exact⟨O3,fP e1 e2 e3,by simpa using hJ3⟩
mutual
def Row.cnt:Row->Nat
 | .ifr _ a b=>a.cnt+b.cnt+1
 | .wh _ a=>a.cnt+1
 | _=>1
def Rows.cnt:Rows->Nat
 | .nil=>0
 | .cons r rs=>r.cnt+rs.cnt
end
def Oj (ns:List Int) (j:Nat) (F:Nat->Mu->Option (Lc×Mu)) (k c:Int):Prop:=∃(r:Row) (k' c':Int),Dr ns F k c k' c' (.sh r.pv)/\r.ok/\r.dep<=j/\c'+(r.cnt:Int)=c+1/\0<=c'/\k<=k'/\k'+2000*c'<=k+2000*c+1000
def Ol (ns:List Int) (j:Nat) (F:Nat->Mu->Option (Lc×Mu)) (k c:Int):Prop:=∃(rs:Rows) (k' c':Int),Dr ns F k c k' c' (.own (.lst rs.pvs))/\rs.ok/\rs.dep<=j/\c'+(rs.cnt:Int)=c/\0<=c'/\k<=k'/\k'+2000*c'<=k+2000*c+1
abbrev RE (n:Nat) (d:Int) (pl:List Str) (w:Int) (one:PV) (o5 o6 o7:Option Lc) (mu:Mu):Ev:=⟨[zS (.ptr n),zI d,zS (b8 pl),zI w,zS one,o5,o6,o7],mu⟩
theorem Mv {ns:List Int} {pl:List Str} {f j:Nat} {d:Int} (hn:ns.length<=63) (hp:qQ pl) (H:d<4->∀k c,0<=k->0<=c->k+2000*c<=50001000->Ol ns j (λn mu=>dN f [.ptr n,.int (d+1),b8 pl,.int 4] mu) k c) {k c:Int} (hk:0<=k) (h0:0<=c) (hb:k+2000*c<=50000000):
 Oj ns (j+1) (λn mu=>iH (f+1) [.ptr n,.int d,b8 pl] mu) k c:=by
 obtain⟨w,hw0,hw1,ew⟩:=fD (ns:=ns) (k:=k) (m:=10) hn hk (by omega) (by decide);obtain⟨one,k1,ox,ka,kb,eo⟩:=Vy (ns:=ns) (k:=k+1) hn hp (by omega) (by omega);let E:Nat->Option Lc->Option Lc->Option Lc->Mu->Ev:=λn o5 o6 o7 mu=>RE n d pl w one.pv o5 o6 o7 mu;have head:∀(P:PV->Mu) (n:Nat),Spot P n->∀(g:SF) R,g (E n none none none (P (aU ns k1 c)))=R->(aF (aM 3 (az aQ (aa (aj 0) (aa (aeO 10) ao)))) (aF (aM 4 (az nW (aa (aj 0) (aa (aj 2) ao)))) g)) (env0 8 [.ptr n,.int d,b8 pl] (P (aU ns k c)))=R:=λP n S g R hg=>
  aB (O':=⟨[zS (.ptr n),zI d,zS (b8 pl),zI w,none,none,none,none],P (aU ns (k+1) c)⟩) (bK (aL (ps:=[.ptr n,.int 10]) rfl rfl rfl rfl (ew P n c S)) rfl rfl) (aB (O':=E n none none none (P (aU ns k1 c))) (bK (aL (ps:=[.ptr n,b8 pl]) rfl rfl rfl rfl (eo c P n S)) rfl rfl) hg)
 have tq:∀(i:Int) (P:PV->Mu) n,Spot P n->∀k c,iy (tT (aC jX (aj 1) (aG (aj 0) (aeO 3))) aW) (tT (aC jX (aj 3) (aeO i)) aW) (E n none none none (P (aU ns k c)))=some (decide (d<4)&&decide (w<i),E n none none none (P (aU ns k c))):=λi P n S k c=>by have e3:aG (aj 0) (aeO 3) (E n none none none (P (aU ns k c)))=some (.sh (.int 4),E n none none none (P (aU ns k c))):=pG (n:=n) (k:=3) (l:=.sh (.ptr n)) (m:=.sh (.int 3)) (O1:=E n none none none (P (aU ns k c))) rfl rfl rfl rfl (S.g _) rfl;exact vP (cj (l:=.sh (.bl (decide (d<4)))) (p:=.bl (decide (d<4))) (bC (x:=.sh (.int d)) (y:=.sh (.int 4)) (O1:=E n none none none (P (aU ns k c))) rfl e3 rfl) rfl rfl) rfl
 have te:∀(i:Int) n o5 o6 o7 mu,tT (aC eqP (aj 3) (aeO i)) aW (E n o5 o6 o7 mu)=some (decide (w=i),E n o5 o6 o7 mu):=λi n o5 o6 o7 mu=>De rfl;have rc:∀(P:PV->Mu) n,Spot P n->∀o5 k c k' c' (rs:Rows),Dr ns (λn mu=>dN f [.ptr n,.int (d+1),b8 pl,.int 4] mu) k c k' c' (.own (.lst rs.pvs))->az (dN f) (aa (aj 0) (aa (aC aY (aj 1) (aeO 1)) (aa (aj 2) (aa (aeO 4) ao)))) (E n o5 none none (P (aU ns k c)))=some (.own (.lst rs.pvs),E n o5 none none (P (aU ns k' c'))):=λP n S o5 k c k' c' rs h=>
  aL (ps:=[.ptr n,.int (d+1),b8 pl,.int 4]) (ls:=[.sh (.ptr n),.sh (.int (d+1)),.sh (b8 pl),.sh (.int 4)]) (O1:=E n o5 none none (P (aU ns k c))) rfl rfl rfl rfl (h P n S)
 cases hA:(decide (d<4)&&decide (w<3)) with
 | true=>
  have hd:d<4:=by rw[abX]at hA; exact of_decide_eq_true hA.1
  obtain⟨ra,k2,c2,e1,oka,da,ca,p2,ka2,kb2⟩:=H hd k1 c (by omega) h0 (by omega);obtain⟨rb,k3,c3,e2,okb,db,cb,p3,ka3,kb3⟩:=H hd k2 c2 (by omega) p2 (by omega);refine⟨.ifr one ra rb,k3,c3,λP n S=>?_,by simp only[Row.ok]; exact⟨ox,oka,okb⟩,by simp only[Row.dep]; omega,by simp only[Row.cnt]; omega,p3,by omega,by omega⟩;have q:Row.pv (.ifr one ra rb)=.tup [.str "if",one.pv,.lst ra.pvs,.lst rb.pvs]:=by simp[Row.pv]
  rw[q];refine aR (O:=E n (zL ra.pvs) none none (P (aU ns k3 c3))) (head P n S _ _ (jh (tq 3 P n S k1 c) hA ?_));refine aB (O':=E n (zO ra.pvs) none none (P (aU ns k2 c2))) (bK (rc P n S none k1 c k2 c2 ra e1) rfl rfl) (bO ?_);exact eY (ls:=[.sh (.str "if"),.sh one.pv,.sh (.lst ra.pvs),.own (.lst rb.pvs)]) (aH (O1:=E n (zO ra.pvs) none none (P (aU ns k2 c2))) rfl (aH (O1:=E n (zO ra.pvs) none none (P (aU ns k2 c2))) rfl (aH (O1:=E n (zL ra.pvs) none none (P (aU ns k2 c2))) rfl (aH (rc P n S _ k2 c2 k3 c3 rb e2) rfl)))) rfl rfl
 | false=>
  cases hB:(decide (d<4)&&decide (w<5)) with
  | true=>
   have hd:d<4:=by rw[abX]at hB; exact of_decide_eq_true hB.1
   obtain⟨ra,k2,c2,e1,oka,da,ca,p2,ka2,kb2⟩:=H hd k1 c (by omega) h0 (by omega);refine⟨.wh one ra,k2,c2,λP n S=>?_,by simp only[Row.ok]; exact⟨ox,oka⟩,by simp only[Row.dep]; omega,by simp only[Row.cnt]; omega,p2,by omega,by omega⟩;have q:Row.pv (.wh one ra)=.tup [.str "while",one.pv,.lst ra.pvs]:=by simp[Row.pv]
   rw[q];refine aR (O:=E n none none none (P (aU ns k2 c2))) (head P n S _ _ ((gm (tq 3 P n S k1 c) hA).trans (jh (tq 5 P n S k1 c) hB (bO ?_))));exact eY (ls:=[.sh (.str "while"),.sh one.pv,.own (.lst ra.pvs)]) (aH (O1:=E n none none none (P (aU ns k1 c))) rfl (aH (O1:=E n none none none (P (aU ns k1 c))) rfl (aH (rc P n S _ k1 c k2 c2 ra e1) rfl))) rfl rfl
  | false=>
   obtain⟨x,hx,exx⟩:=ik (k:=k1) hn (by omega) (by omega) hp;have st6:∀(P:PV->Mu) n,Spot P n->aM 6 (az cI (aa (aj 0) (aa (aj 2) ao))) (E n none none none (P (aU ns k1 c)))=some (.nx (E n none (zT x) none (P (aU ns (k1+1) c)))):=λP n S=>bK (aL (ps:=[.ptr n,b8 pl]) (ls:=[.sh (.ptr n),.sh (b8 pl)]) (O1:=E n none none none (P (aU ns k1 c))) rfl rfl rfl rfl (exx c P n S)) rfl rfl;have lead:∀(P:PV->Mu) n,Spot P n->∀(f1 f2 g:SF) R,g (E n none (zT x) none (P (aU ns (k1+1) c)))=R->(aF (aM 3 (az aQ (aa (aj 0) (aa (aeO 10) ao)))) (aF (aM 4 (az nW (aa (aj 0) (aa (aj 2) ao)))) (aF (bT (iy (tT (aC jX (aj 1) (aG (aj 0) (aeO 3))) aW) (tT (aC jX (aj 3) (aeO 3)) aW)) f1 bM) (aF (bT (iy (tT (aC jX (aj 1) (aG (aj 0) (aeO 3))) aW) (tT (aC jX (aj 3) (aeO 5)) aW)) f2 bM) (aF (aM 6 (az cI (aa (aj 0) (aa (aj 2) ao)))) g))))) (env0 8 [.ptr n,.int d,b8 pl] (P (aU ns k c)))=R:=λP n S f1 f2 g R hg=>head P n S _ R ((gm (tq 3 P n S k1 c) hA).trans ((gm (tq 5 P n S k1 c) hB).trans (aB (st6 P n S) hg)));by_cases h5:w=5
   . obtain⟨e2,k2,ox2,ka2,kb2,ee2⟩:=Uj (ns:=ns) (k:=k1+1) hn hp (by omega) (by omega);refine⟨.put x e2 one,k2,c,λP n S=>?_,by simp only[Row.ok]; exact⟨hx,ox2,ox⟩,by simp[Row.dep],by simp[Row.cnt],h0,by omega,by omega⟩;have q:Row.pv (.put x e2 one)=.tup [.str "put",.str x,e2.pv,one.pv]:=by simp[Row.pv]
     rw[q];refine aR (O:=E n none (zT x) none (P (aU ns k2 c))) (lead P n S _ _ _ _ (jh (te 5 _ _ _ _ _) (acv h5) (bO ?_)));exact eY (ls:=[.sh (.str "put"),.sh (.str x),.sh e2.pv,.sh one.pv]) (aH (O1:=E n none (zT x) none (P (aU ns (k1+1) c))) rfl (aH (O1:=E n none (zT x) none (P (aU ns (k1+1) c))) rfl (aH (aL (ps:=[.ptr n,.int 2,b8 pl]) (ls:=[.sh (.ptr n),.sh (.int 2),.sh (b8 pl)]) (O1:=E n none (zT x) none (P (aU ns (k1+1) c))) rfl rfl rfl rfl (ee2 c P n S)) rfl))) rfl rfl
   . by_cases h6:w=6
     . obtain⟨y,hy,ey⟩:=ik (k:=k1+1) hn (by omega) (by omega) hp;refine⟨.out x one y,k1+1+1,c,λP n S=>?_,by simp only[Row.ok]; exact⟨hx,hy,ox⟩,by simp[Row.dep],by simp[Row.cnt],h0,by omega,by omega⟩;have q:Row.pv (.out x one y)=.tup [.str "out",.str x,one.pv,.str y]:=by simp[Row.pv]
       rw[q];refine aR (O:=E n none (zT x) none (P (aU ns (k1+1+1) c))) (lead P n S _ _ _ _ ((gm (te 5 _ _ _ _ _) (acu h5)).trans (jh (te 6 _ _ _ _ _) (acv h6) (bO ?_))));exact eY (ls:=[.sh (.str "out"),.sh (.str x),.sh one.pv,.sh (.str y)]) (aH (O1:=E n none (zT x) none (P (aU ns (k1+1) c))) rfl (aH (O1:=E n none (zT x) none (P (aU ns (k1+1) c))) rfl (aH (O1:=E n none (zT x) none (P (aU ns (k1+1) c))) rfl (aH (aL (ps:=[.ptr n,b8 pl]) (ls:=[.sh (.ptr n),.sh (b8 pl)]) (O1:=E n none (zT x) none (P (aU ns (k1+1) c))) rfl rfl rfl rfl (ey c P n S)) rfl)))) rfl rfl
     . by_cases h7:w=7
       . obtain⟨m,m0,m1,em⟩:=fD (ns:=ns) (k:=k1+1) (m:=5) hn (by omega) (by omega) (by decide);obtain⟨es,k2,hl,hg,ka2,kb2,ec⟩:=uV (ns:=ns) aV.pv Ex 21 (by decide) (az (cC 40) (aa (aj 1) (aa (aeO 2) (aa (aj 2) ao)))) (λn=>some (.sh (.ptr n))) (λ_=>some (.sh (b8 pl))) 98000000 (λk h0 h1=>by obtain⟨e,k',ox',ka',kb',ee⟩:=Uj (ns:=ns) (k:=k) hn hp h0 (by omega);exact⟨e,k',ox',ka',kb',λP n c S o=>⟨.sh e.pv,aL (ps:=[.ptr n,.int 2,b8 pl]) (ls:=[.sh (.ptr n),.sh (.int 2),.sh (b8 pl)]) (O1:=⟨[o,zS (.ptr n),zS (b8 pl)],P (aU ns k c)⟩) rfl rfl rfl rfl (ee c P n S),rfl⟩⟩) m.toNat (k1+1+1) (by omega) (by omega)
         obtain⟨y,hy,ey⟩:=ik (k:=k2) hn (by omega) (by omega) hp;refine⟨.call x y es,k2+1,c,λP n S=>?_,by simp only[Row.ok]; exact⟨hx,hy,by omega,hg⟩,by simp[Row.dep],by simp[Row.cnt],h0,by omega,by omega⟩;have q:Row.pv (.call x y es)=.tup [.str "call",.str x,.str y,.lst (es.map aV.pv)]:=by simp[Row.pv]
         rw[q];let E1:=E n none (zT x) none (P (aU ns (k1+1) c));let E2:=E n none (zT x) none (P (aU ns (k1+1+1) c));have ir:=jm (a:=aa (az aQ (aa (aj 0) (aa (aeO 5) ao))) ao) (O:=E1) (O1:=E2) (l:=.sh (.int m)) (n:=m) (aH (aL (ps:=[.ptr n,.int 5]) (ls:=[.sh (.ptr n),.sh (.int 5)]) (O1:=E1) rfl rfl rfl rfl (em P n c S)) rfl) rfl (by omega) (by omega);have cc:cT (fu (aa (az aQ (aa (aj 0) (aa (aeO 5) ao))) ao)) 1 [0,2] (aJ 0) bY (az (cC 40) (aa (aj 1) (aa (aeO 2) (aa (aj 2) ao)))) E1=some (.own (.lst (es.map aV.pv)),E n none (zT x) none (P (aU ns k2 c))):=
          (gG (m:=1) (ixs:=[0,2]) ir (ec P n c S none [] (iJ 0 m.toNat) lA (by simp; omega))).trans rfl
         refine aR (O:=E n none (zT x) (zL (es.map aV.pv)) (P (aU ns (k2+1) c))) (lead P n S _ _ _ _ ((gm (te 5 _ _ _ _ _) (acu h5)).trans ((gm (te 6 _ _ _ _ _) (acu h6)).trans (jh (te 7 _ _ _ _ _) (acv h7) (aB (O':=E n none (zT x) (zO (es.map aV.pv)) (P (aU ns k2 c))) (bK cc rfl rfl) (bO ?_))))));let E3:=E n none (zT x) (zO (es.map aV.pv)) (P (aU ns k2 c));exact eY (ls:=[.sh (.str "call"),.sh (.str x),.sh (.str y),.sh (.lst (es.map aV.pv))]) (aH (O1:=E3) rfl (aH (O1:=E3) rfl (aH (aL (ps:=[.ptr n,b8 pl]) (ls:=[.sh (.ptr n),.sh (b8 pl)]) (O1:=E3) rfl rfl rfl rfl (ey c P n S)) rfl))) rfl rfl
       . refine⟨.set x one,k1+1,c,λP n S=>?_,by simp only[Row.ok]; exact⟨hx,ox⟩,by simp[Row.dep],by simp[Row.cnt],h0,by omega,by omega⟩;have q:Row.pv (.set x one)=.tup [.str "set",.str x,one.pv]:=by simp[Row.pv]
         rw[q];exact aR (O:=E n none (zT x) none (P (aU ns (k1+1) c))) (lead P n S _ _ _ _ ((gm (te 5 _ _ _ _ _) (acu h5)).trans ((gm (te 6 _ _ _ _ _) (acu h6)).trans ((gm (te 7 _ _ _ _ _) (acu h7)).trans rfl))))
abbrev rwB (f:Nat):SF:=(bT (tT (aC Ga (aG (aj 0) (aeO 2)) (aeO 0)) aW)
 (aF (wN (aj 0) (aeO 2) (aC oK (aG (aj 0) (aeO 2)) (aeO 1)))
 (cY 4 (az (iH f) (aa (aj 0) (aa (aj 1) (aa (aj 2) ao))))))
 bM)
abbrev W6 (n:Nat) (d:Int) (pl:List Str) (most:PV) (l o:Option Lc) (mu:Mu):Ev:=⟨[zS (.ptr n),zI d,zS (b8 pl),zS most,l,o],mu⟩
theorem zG {ns:List Int} {pl:List Str} {f j:Nat} {d:Int} {most:PV} (H:∀k c,0<=k->0<=c->k+2000*c<=50000000->Oj ns j (λn mu=>iH f [.ptr n,.int d,b8 pl] mu) k c):
 ∀(m:Nat) (k c:Int),0<=k->0<=c->k+2000*c<=50001001->∃(rs:Rows) (k' c':Int),rs.ok/\rs.dep<=j/\c'+(rs.cnt:Int)=c/\0<=c'/\k<=k'/\k'+2000*c'<=k+2000*c/\∀P n,Spot P n->∀acc o xs,xs.length=m->acc.length+m<=1000->
  ∃o',dz (aJ 5) (rwB f) xs (W6 n d pl most (zO acc) o (P (aU ns k c)))=some (.nx (W6 n d pl most (zO (acc++rs.pvs)) o' (P (aU ns k' c'))))
 | 0,k,c,hk,h0,hb=>by refine⟨.nil,k,c,by simp[Rows.ok],by simp[Rows.dep],by simp[Rows.cnt],h0,by omega,by omega,λP n S acc o xs hx _=>?_⟩;have:xs=[]:=List.length_eq_zero_iff.mp hx;subst this;exact⟨o,by simp[dz,Rows.pvs]⟩
 | m+1,k,c,hk,h0,hb=>by
  have t:∀P n,Spot P n->∀acc o,tT (aC Ga (aG (aj 0) (aeO 2)) (aeO 0)) aW (W6 n d pl most (zO acc) o (P (aU ns k c)))=some (decide (0<c),W6 n d pl most (zO acc) o (P (aU ns k c))):=λP n S acc o=>
   cj (l:=.sh (.bl (decide (0<c)))) (p:=.bl (decide (0<c))) (bC (x:=.sh (.int c)) (y:=.sh (.int 0)) (O1:=W6 n d pl most (zO acc) o (P (aU ns k c))) (pG (n:=n) (k:=2) (l:=.sh (.ptr n)) (m:=.sh (.int 2)) (O1:=W6 n d pl most (zO acc) o (P (aU ns k c))) rfl rfl rfl rfl (S.g _) rfl) rfl rfl) rfl rfl
  by_cases hp:0<c
  . obtain⟨r,k1,c1,er,okr,dr,cr,p1,ka,kb⟩:=H k (c-1) hk (by omega) (by omega);obtain⟨rs,k2,c2,oks,ds,cs,p2,kc,kd,ih⟩:=zG (most:=most) H m k1 c1 (by omega) p1 (by omega);refine⟨.cons r rs,k2,c2,by simp only[Rows.ok]; exact⟨okr,oks⟩,by simp only[Rows.dep]; omega,by simp only[Rows.cnt]; omega,p2,by omega,by omega,λP n S acc o xs hx ha=>?_⟩
    match xs,hx with
    | x::xs,hx=>
     obtain⟨o',e'⟩:=ih P n S (acc++[r.pv]) (zS x) xs (by simpa using hx) (by simp; omega);refine⟨o',fP (O1:=W6 n d pl most (zO acc) (zS x) (P (aU ns k c))) rfl ((cZ ((t P n S acc (zS x)).trans (by rw[acv hp]))).trans (aB (O':=W6 n d pl most (zO acc) (zS x) (P (aU ns k (c-1)))) ?_ ?_)) (e'.trans (by simp[Rows.pvs]))⟩
     . refine(LK (x:=.sh (.int (c-1))) (j:=2) (n:=n) (k:=2) (o:=.sh (.ptr n)) (y:=.sh (.int 2)) (O1:=W6 n d pl most (zO acc) (zS x) (P (aU ns k c))) (O2:=W6 n d pl most (zO acc) (zS x) (P (aU ns k c))) (O3:=W6 n d pl most (zO acc) (zS x) (P (aU ns k c))) (bC (x:=.sh (.int c)) (y:=.sh (.int 1)) (O1:=W6 n d pl most (zO acc) (zS x) (P (aU ns k c))) (pG (n:=n) (k:=2) (l:=.sh (.ptr n)) (m:=.sh (.int 2)) (O1:=W6 n d pl most (zO acc) (zS x) (P (aU ns k c))) rfl rfl rfl rfl (S.g _) rfl) rfl rfl) rfl rfl rfl rfl rfl (S.g _) rfl).trans ?_;show some (Fl.nx ⟨_,(P (aU ns k c)).set n (some (aU ns k (c-1)))⟩)=_;rw[S.s]
     . exact fL (ws0:=acc) (ws:=acc) (l:=.sh r.pv) (p:=r.pv) (O1:=W6 n d pl most (zO acc) (zS x) (P (aU ns k1 c1))) rfl (aL (ps:=[.ptr n,.int d,b8 pl]) (ls:=[.sh (.ptr n),.sh (.int d),.sh (b8 pl)]) (O1:=W6 n d pl most (zO acc) (zS x) (P (aU ns k (c-1)))) rfl rfl rfl rfl (er P n S)) rfl rfl (by omega) rfl
  . obtain⟨rs,k2,c2,oks,ds,cs,p2,kc,kd,ih⟩:=zG (most:=most) H m k c hk h0 hb;refine⟨rs,k2,c2,oks,ds,cs,p2,kc,kd,λP n S acc o xs hx ha=>?_⟩
    match xs,hx with
    | x::xs,hx=>
     obtain⟨o',e'⟩:=ih P n S acc (zS x) xs (by simpa using hx) (by omega);exact⟨o',fP (O1:=W6 n d pl most (zO acc) (zS x) (P (aU ns k c))) rfl ((bI ((t P n S acc (zS x)).trans (by rw[acu hp]))).trans rfl) e'⟩
theorem Ka {ns:List Int} {pl:List Str} {f j:Nat} {d most:Int} (hn:ns.length<=63) (hm:0<most) (hm2:most<900) (H:∀k c,0<=k->0<=c->k+2000*c<=50000000->Oj ns j (λn mu=>iH f [.ptr n,.int d,b8 pl] mu) k c) {k c:Int} (hk:0<=k) (h0:0<=c) (hb:k+2000*c<=50001000):
 Ol ns j (λn mu=>dN (f+1) [.ptr n,.int d,b8 pl,.int most] mu) k c:=by
 obtain⟨w,hw0,hw1,ew⟩:=fD (ns:=ns) (k:=k) (m:=most) hn hk (by omega) hm;obtain⟨rs,k',c',ok,dp,ct,hp',ka,kb,e⟩:=zG (most:=.int most) H w.toNat (k+1) c (by omega) h0 (by omega);refine⟨rs,k',c',λP n S=>?_,ok,dp,ct,hp',by omega,by omega⟩;obtain⟨o',e'⟩:=e P n S [] none (iJ 0 w.toNat) lA (by simp; omega);let E0:=W6 n d pl (.int most) (zO []) none (P (aU ns k c));have ir:=jm (a:=aa (az aQ (aa (aj 0) (aa (aj 3) ao))) ao) (O:=E0) (O1:=W6 n d pl (.int most) (zO []) none (P (aU ns (k+1) c))) (l:=.sh (.int w)) (n:=w) (aH (aL (ps:=[.ptr n,.int most]) (ls:=[.sh (.ptr n),.sh (.int most)]) (O1:=E0) rfl rfl rfl rfl (ew P n c S)) rfl) rfl (by omega) (by omega);exact aR (O:=⟨[zS (.ptr n),zI d,zS (b8 pl),zI most,none,o'],P (aU ns k' c')⟩) (aB (O':=E0) rfl (aB ((gf ir).trans e') rfl))
theorem Mw {ns:List Int} {pl:List Str} (hn:ns.length<=63) (hp:qQ pl):∀(j f:Nat) (k c:Int),2*j+1<=f->0<=k->0<=c->k+2000*c<=50000000->Oj ns (j+1) (λn mu=>iH f [.ptr n,.int (4-j),b8 pl] mu) k c
 | 0,f+1,k,c,_,hk,h0,hb=>Mv hn hp (λh=>absurd h (by decide)) hk h0 hb
 | j+1,f+2,k,c,hf,hk,h0,hb=>Mv hn hp (λ_ k c a1 a2 a4=>by rw[show (4:Int)-((j+1:Nat):Int)+1=4-(j:Int) from by omega];exact Ka hn (by decide) (by decide) (λk c=>Mw hn hp j f k c (by omega)) a1 a2 a4) hk h0 hb
theorem Su {ns:List Int} {pl:List Str} (hn:ns.length<=63) (hp:qQ pl) {most k c:Int} (hm:0<most) (hm2:most<900) (hk:0<=k) (h0:0<=c) (hb:k+2000*c<=50000000):Ol ns 5 (λn mu=>dN 40 [.ptr n,.int 0,b8 pl,.int most] mu) k c:=
 Ka (f:=39) hn hm hm2 (λk c a1 a2 a3=>Mw hn hp 4 39 k c (by decide) a1 a2 a3) hk h0 (by omega)
abbrev LET:Str := "abcdefghijklmnopqrstuvwxyz"
def pZ (i:Int):Str:=⟨#[LET.cps.toList.getD i.toNat 0]⟩
theorem qR (i:Int):(pZ i).length=1:=rfl
theorem Kc {i:Int} (h0:0<=i) (h1:i<26):uI (.str LET) (.int i)=zT (pZ i):=by
 have hl:LET.cps.toList.length=26:=by decide +kernel
 obtain⟨c,h2,h3⟩:=tU (l:=LET.cps.toList) (i:=i) h0 (by omega);show (if LET.length<=100000 then (eQ LET.cps.toList i).map (λc=>Lc.sh (.str ⟨#[c]⟩)) else none)=_;rw[acq (by decide +kernel),h2];unfold pZ;rw[abJ,h3];rfl
theorem El (z:Str) (lo hi:Option Int):(dM z lo hi).length<=z.length:=by unfold dM;show ((z.cps.toList.drop _).take _).toArray.size<=z.cps.size;rw[aaF,abW,List.length_drop];have:z.cps.toList.length=z.cps.size:=abm;omega
abbrev nZ:List Str:=["set", "put", "out", "call", "if", "while", "else", "end", "ranks", "under", "may", "box", "list", "def", "main"]
theorem Yd {i:Int} (h0:0<=i) (h1:i<15):uI (.lst (nZ.map .str)) (.int i)=some (.sh (.str (nZ.getD i.toNat ""))):=by obtain⟨p,h2,h3⟩:=tU (l:=nZ.map PV.str) (i:=i) h0 h1;rw[aa2]at h3;obtain⟨x,hx,rfl⟩:=acz h3;show (eQ (nZ.map PV.str) i).map _=_;rw[h2,abJ,hx];rfl
theorem Vz (i:Nat) (hi:i<15):Gn (nZ.getD i ""):=by
 have h:∀x∈nZ,1<=x.length/\x.length<=8/\∀c∈x.cps.toList,97<=c/\c<=122:=by decide +kernel
 rw[abJ];have e:nZ[i]?=some nZ[i]:=aaK hi;rw[e];exact h _ (abf e)
def uX (x:Str):Prop:=∀c∈x.cps.toList,Lw c
theorem Em {a b:Str}:(a++b).cps.toList=a.cps.toList++b.cps.toList:=by show (a.cps++b.cps).toList=_;exact Array.toList_append
theorem v5 {a b:Str} (h:uX a) (g:uX b):uX (a++b):=λc hc=>by rw[Em]at hc;exact(abq.mp hc).elim (h c) (g c)
theorem Kd {i:Int} (h0:0<=i) (h1:i<26):uX (pZ i):=λc hc=>by
 have hl:LET.cps.toList.length=26:=by decide +kernel
 have ha:∀c∈LET.cps.toList,97<=c/\c<=122:=by decide +kernel
 have e:c=LET.cps.toList.getD i.toNat 0:=by simpa [pZ] using hc
 have hi:i.toNat<LET.cps.toList.length:=by omega
 rw[e,abJ,aaK hi];exact ha _ (List.getElem_mem hi)
theorem En {z:Str} {lo hi:Option Int} (h:uX z):uX (dM z lo hi):=λc hc=>by
 have hc:c∈(z.cps.toList.drop (HT.sIx z.length 0 lo)).take (HT.sIx z.length z.length hi-HT.sIx z.length 0 lo):=by simpa [dM] using hc
 exact h c (List.mem_of_mem_drop (List.mem_of_mem_take hc))
theorem QC:∀{ls:List Str},(∀x∈ls,uX x)->uX (Str.join "" ls)
 | [],_=>λc hc=>by have:c∈([]:List Nat):=hc;cases this
 | [x],h=>h x aaz
 | x::y::xs,h=>by
  show uX (x ++ "" ++ Str.join "" (y::xs));have e0:uX ("" : Str):=λc hc=>by have:c∈([]:List Nat):=hc;cases this
  exact v5 (v5 (h x aaz) e0) (QC λz hz=>h z (aaA _ hz))
theorem Sv {ls:List Str} (h:∀x∈ls,uX x):uX (Txt.join "" ls):=by unfold Txt.join;rw[StrLaws.glued_eq_join];exact QC h
theorem QD (z:Str) (lo:Option Int) {h:Int} (h0:0<=h):(dM z lo (some h)).length<=h.toNat:=by
 unfold dM;show ((z.cps.toList.drop _).take _).toArray.size<=_;rw[aaF,abW];have:HT.sIx z.length z.length (some h)<=h.toNat:=by simp only[HT.sIx]; split<;>omega
 omega
theorem Sw (z:Str) {l h:Int} (h0:0<=l) (h1:l<=h):(dM z (some l) (some h)).length<=(h-l).toNat:=by unfold dM;show ((z.cps.toList.drop _).take _).toArray.size<=_;rw[aaF,abW];simp only[HT.sIx];split<;>split<;>omega
theorem Ke:∀xs:List Str,(∀x∈xs,x.length=1)->(xs.map (·.length)).sum=xs.length
 | [],_=>rfl
 | x::xs,h=>by rw[aaV,List.sum_cons,h x aaz,Ke xs λy hy=>h y (aaA _ hy),aaC];omega
theorem Sx {a b:Str} (h:a.length+b.length<=100000):aY (.str a) (.str b)=zT (a++b):=by show (if a.length+b.length<=100000 then _ else _)=_;rw[acq h]
theorem Kf {f:EF} {lo hi:OF} {O O1 O2 O3:Ev} {l:Lc} {z:Str} {a b:Option Int} (h1:f O=some (l,O1)) (hl:l.pv=.str z) (h2:lo O1=some (a,O2)) (h3:hi O2=some (b,O3)) (hz:z.length<=100000):fH f lo hi O=some (.sh (.str (dM z a b)),O3):=by unfold fH;rw[h1,aay];dsimp only;rw[h2,aay];dsimp only;rw[h3,aay,hl];dsimp only;rw[acq hz]
theorem xr {f:EF} {O O1:Ev} {l:Lc} {i:Int} (h:f O=some (l,O1)) (hl:l.pv=.int i):cD f O=some (some i,O1):=by unfold cD;rw[h,aay,hl]
theorem Bp {f:Nat->Str} (h:∀i,i<8->Gn (f i)):qQ ((List.range 8).map f):=⟨by simp,λx hx=>by obtain⟨i,hi,rfl⟩:=aa0.mp hx;exact h i (List.mem_range.mp hi)⟩
theorem Eo {f:PV->PV} {g:Nat->Str} (h:∀i:Nat,f (.int (0+(i:Int)))=.str (g i)):(iJ 0 8).map f=((List.range 8).map g).map .str:=by unfold iJ;rw[abn,abn];exact abB λi _=>h i
theorem VB {ns:List Int} {k:Int} (hn:ns.length<=63) (h0:0<=k) (h1:k<90000000):∃(pl:List Str) (k':Int),qQ pl/\k<=k'/\k'<=k+20/\∀c,Dr ns (λn mu=>rG [.ptr n] mu) k c k' c (.own (b8 pl)):=by
 obtain⟨w,w0,w1,ew⟩:=fD (m:=3) hn h0 (by omega) (by decide);obtain⟨t,t0,t1,et⟩:=fD (m:=26) (k:=k+1) hn (by omega) (by omega) (by decide);let E:Nat->Option Lc->Option Lc->Option Lc->Option Lc->Option Lc->Option Lc->Option Lc->Option Lc->Mu->Ev:=λn o4 o5 o6 o7 o8 o9 o10 o11 mu=>⟨[zS (.ptr n),zT LET,zI w,zI t,o4,o5,o6,o7,o8,o9,o10,o11],mu⟩;have head:∀P n c,Spot P n->∀(g:SF) R,g (E n none none none none none none none none (P (aU ns (k+1+1) c)))=R->aF (aM 1 (aeP "abcdefghijklmnopqrstuvwxyz")) (aF (aM 2 (az aQ (aa (aj 0) (aa (aeO 3) ao)))) (aF (aM 3 (az aQ (aa (aj 0) (aa (aeO 26) ao)))) g)) (env0 12 [.ptr n] (P (aU ns k c)))=R:=λP n c S g R hg=>
  aB (O':=⟨[zS (.ptr n),zT LET,none,none,none,none,none,none,none,none,none,none],P (aU ns k c)⟩) rfl (aB (O':=⟨[zS (.ptr n),zT LET,zI w,none,none,none,none,none,none,none,none,none],P (aU ns (k+1) c)⟩) (bK (aL (ps:=[.ptr n,.int 3]) rfl rfl rfl rfl (ew P n c S)) rfl rfl) (aB (O':=E n none none none none none none none none (P (aU ns (k+1+1) c))) (bK (aL (ps:=[.ptr n,.int 26]) rfl rfl rfl rfl (et P n c S)) rfl rfl) hg))
 have tq:∀(i:Int) n o4 o5 o6 o7 o8 o9 o10 o11 mu,tT (aC eqP (aj 2) (aeO i)) aW (E n o4 o5 o6 o7 o8 o9 o10 o11 mu)=some (decide (w=i),E n o4 o5 o6 o7 o8 o9 o10 o11 mu):=λi n o4 o5 o6 o7 o8 o9 o10 o11 mu=>De rfl;by_cases h2:w=2
 . refine⟨(List.range 8).map λi:Nat=>nZ.getD ((t+(0+(i:Int)))%15).toNat "",k+1+1,Bp λi hi=>Vz _ (by have:=aa7 (t+(0+(i:Int))) (b:=15) (by decide); have:=abh (t+(0+(i:Int))) (b:=15) (by decide); omega),by omega,by omega,λc P n S=>?_⟩;let mu:=P (aU ns (k+1+1) c);have comp:=lJ (b:=aJ 0) (te:=aG (aj 1) (aC gR (aC aY (aj 2) (aj 0)) (aeO 15))) (mu:=mu) (λO=>∃o,O=⟨[o,zL (nZ.map .str),zI t],mu⟩) (λO ⟨o,e⟩=>by rw[e]) (λp=>match p with | .int i=>.str (nZ.getD ((t+i)%15).toNat "") | _=>.non) (xs:=iJ 0 8) (O:=⟨[none,zL (nZ.map .str),zI t],mu⟩) ⟨none,rfl⟩ (by rw[lA]; decide)
    (by rintro y hy O ⟨o,rfl⟩;obtain⟨i,hi,rfl⟩:=vN hy;refine⟨⟨[zI (0+i),zL (nZ.map .str),zI t],mu⟩,rfl,.sh (.str (nZ.getD ((t+(0+i))%15).toNat "")),⟨[zI (0+i),zL (nZ.map .str),zI t],mu⟩,?_,rfl,_,rfl⟩;exact fV (p:=.lst (nZ.map .str)) (q:=.int ((t+(0+i))%15)) (l:=.sh (.lst (nZ.map .str))) (m:=.sh (.int ((t+(0+i))%15))) rfl rfl (bC (bC rfl rfl (mY _ _)) rfl (jd (by decide))) rfl (λn h=>by cases h) (Yd (abh _ (by decide)) (aa7 _ (by decide))))
    (by rintro y hy O O1 ⟨o,rfl⟩ h;obtain⟨i,hi,rfl⟩:=vN hy;cases h;exact⟨_,rfl⟩)
   rw[Eo (g:=λi:Nat=>nZ.getD ((t+(0+(i:Int)))%15).toNat "") λi=>rfl]at comp;let F:Option Lc->Ev:=λo=>E n o none none none none none none none mu;refine aR (O:=F (zL (nZ.map .str))) (head P n c S _ _ (jh (tq 2 _ _ _ _ _ _ _ _ _ _) (acv h2) ?_));refine aB (O':=F (some (.own (.lst [.str "set",.str "put",.str "out",.str "call",.str "if",.str "while",.str "else"])))) rfl (aB (O':=F (some (.own (.lst [.str "set",.str "put",.str "out",.str "call",.str "if",.str "while",.str "else",.str "end",.str "ranks",.str "under",.str "may",.str "box",.str "list"])))) rfl (aB (O':=F (zO (nZ.map .str))) rfl (bO ?_)));exact(gG (m:=1) (ixs:=[4,3]) (jm (l:=.sh (.int 8)) (n:=8) (O1:=F (zO (nZ.map .str))) rfl rfl (by decide) (by decide)) comp).trans rfl
 . obtain⟨z,z0,z1,ez⟩:=fD (m:=8) (k:=k+1+1) hn (by omega) (by omega) (by decide);obtain⟨a,a0,a1,ea⟩:=fD (m:=1+z) (k:=k+1+1+1) hn (by omega) (by omega) (by omega);obtain⟨ls,k2,hl,hg,ka,kb,ec⟩:=uV (ns:=ns) PV.str (λx=>x.length=1/\uX x) 1 (by decide) (aG (aj 1) (az aQ (aa (aj 2) (aa (aeO 26) ao)))) (λ_=>some (.sh (.str LET))) (λn=>some (.sh (.ptr n))) 98000000 (λk h0 h1=>by obtain⟨r,r0,r1,er⟩:=fD (ns:=ns) (m:=26) (k:=k) hn h0 (by omega) (by decide);exact⟨pZ r,k+1,⟨rfl,Kd r0 r1⟩,by omega,by omega,λP n c S o=>⟨.sh (.str (pZ r)),fV (p:=.str LET) (q:=.int r) (l:=.sh (.str LET)) (m:=.sh (.int r)) (O1:=⟨[o,zT LET,zS (.ptr n)],P (aU ns k c)⟩) rfl rfl (aL (ps:=[.ptr n,.int 26]) (ls:=[.sh (.ptr n),.sh (.int 26)]) (O1:=⟨[o,zT LET,zS (.ptr n)],P (aU ns k c)⟩) rfl rfl rfl rfl (er P n c S)) rfl (λn h=>by cases h) (Kc r0 r1),rfl⟩⟩) 8 (k+1+1+1+1) (by omega) (by omega)
   let base:Str:=Txt.join "" ls;have hg':=hg;have hg:∀x∈ls,x.length=1:=λx hx=>(hg' x hx).1;have bw:uX base:=Sv λx hx=>(hg' x hx).2;have bl:base.length<=8:=by have:=wR (z := "") (xs:=ls);rw[Ke ls hg,show ("" : Str).length=0 from by decide +kernel]at this;show (Txt.join "" ls).length<=8;omega
   let F:Nat->Option Lc->Option Lc->Option Lc->Mu->Ev:=λn o9 o10 o11 mu=>E n none (zI (1+z)) (zI a) (zL (ls.map .str)) (zT base) o9 o10 o11 mu;have mid:∀P n c,Spot P n->∀(f1 g:SF) R,g (F n none none none (P (aU ns k2 c)))=R->aF (bT (tT (aC eqP (aj 2) (aeO 2)) aW) f1 bM) (aF (aM 5 (aC aY (aeO 1) (az aQ (aa (aj 0) (aa (aeO 8) ao))))) (aF (aM 6 (az aQ (aa (aj 0) (aa (aj 5) ao)))) (aF (aM 7 (cT (fu (aa (aeO 8) ao)) 1 [1,0] (aJ 0) bY (aG (aj 1) (az aQ (aa (aj 2) (aa (aeO 26) ao)))))) (aF (aM 8 (mQ (aeP "") (aa (aj 7) ao))) g)))) (E n none none none none none none none none (P (aU ns (k+1+1) c)))=R:=λP n c S f1 g R hg'=>by
    refine(gm (tq 2 _ _ _ _ _ _ _ _ _ _) (acu h2)).trans ?_;let E5:=E n none (zI (1+z)) none none none none none none (P (aU ns (k+1+1+1) c));refine aB (O':=E5) (bK (bC (x:=.sh (.int 1)) (y:=.sh (.int z)) (O1:=E n none none none none none none none none (P (aU ns (k+1+1) c))) rfl (aL (ps:=[.ptr n,.int 8]) (ls:=[.sh (.ptr n),.sh (.int 8)]) (O1:=E n none none none none none none none none (P (aU ns (k+1+1) c))) rfl rfl rfl rfl (ez P n c S)) (mY _ _)) rfl rfl) ?_;let E6:=E n none (zI (1+z)) (zI a) none none none none none (P (aU ns (k+1+1+1+1) c));refine aB (O':=E6) (bK (aL (ps:=[.ptr n,.int (1+z)]) (ls:=[.sh (.ptr n),.sh (.int (1+z))]) (O1:=E5) rfl rfl rfl rfl (ea P n c S)) rfl rfl) ?_;let E7:=E n none (zI (1+z)) (zI a) (zO (ls.map .str)) none none none none (P (aU ns k2 c));have cc:cT (fu (aa (aeO 8) ao)) 1 [1,0] (aJ 0) bY (aG (aj 1) (az aQ (aa (aj 2) (aa (aeO 26) ao)))) E6=some (.own (.lst (ls.map .str)),E n none (zI (1+z)) (zI a) none none none none none (P (aU ns k2 c))):=
     (gG (m:=1) (ixs:=[1,0]) (jm (l:=.sh (.int 8)) (n:=8) (O1:=E6) rfl rfl (by decide) (by decide)) (ec P n c S none [] (iJ 0 8) lA (by decide))).trans rfl
    refine aB (O':=E7) (bK cc rfl rfl) ?_;refine aB (O':=F n none none none (P (aU ns k2 c))) (bK (l:=.sh (.str base)) (O1:=E n none (zI (1+z)) (zI a) (zL (ls.map .str)) none none none none (P (aU ns k2 c))) (Bj (l:=.sh (.str "")) (m:=.sh (.lst (ls.map .str))) (O1:=E7) rfl rfl rfl rfl (strs_map ls) ?_) rfl rfl) hg';rw[Ke ls hg,show ("" : Str).length=0 from by decide +kernel];omega
   by_cases hw1:w=1
   . refine⟨(List.range 8).map λi:Nat=>pZ t++dM base none (some ((t+(0+(i:Int)))%8)),k2,Bp λi hi=>⟨by rw[PySem.Str.length_append,qR]; omega,by
      rw[PySem.Str.length_append,qR];have b0:=abh (t+(0+(i:Int))) (b:=8) (by decide);have b1:=aa7 (t+(0+(i:Int))) (b:=8) (by decide);have:=QD base none b0;omega,v5 (Kd t0 t1) (En bw)⟩,by omega,by omega,λc P n S=>?_⟩
     let mu:=P (aU ns k2 c);have comp:=lJ (b:=aJ 0) (te:=aC aY (aG (aj 1) (aj 2)) (fH (aj 3) d9 (cD (aC gR (aC aY (aj 2) (aj 0)) (aeO 8))))) (mu:=mu) (λO=>∃o,O=⟨[o,zT LET,zI t,zT base],mu⟩) (λO ⟨o,e⟩=>by rw[e]) (λp=>match p with | .int i=>.str (pZ t++dM base none (some ((t+i)%8))) | _=>.non) (xs:=iJ 0 8) (O:=⟨[none,zT LET,zI t,zT base],mu⟩) ⟨none,rfl⟩ (by rw[lA]; decide)
      (by rintro y hy O ⟨o,rfl⟩;obtain⟨i,hi,rfl⟩:=vN hy;let G:Ev:=⟨[zI (0+i),zT LET,zI t,zT base],mu⟩;refine⟨G,rfl,.sh (.str (pZ t++dM base none (some ((t+(0+i))%8)))),G,?_,rfl,_,rfl⟩;have cl:=El base none (some ((t+(0+(i:Int)))%8));exact bC (x:=.sh (.str (pZ t))) (y:=.sh (.str (dM base none (some ((t+(0+i))%8))))) (O1:=G) (fV (p:=.str LET) (q:=.int t) (l:=.sh (.str LET)) (m:=.sh (.int t)) (O1:=G) rfl rfl rfl rfl (λn h=>by cases h) (Kc t0 t1)) (Kf (l:=.sh (.str base)) (O1:=G) (O2:=G) rfl rfl rfl (xr (l:=.sh (.int ((t+(0+i))%8))) (bC (bC rfl rfl (mY _ _)) rfl (jd (by decide))) rfl) (by omega)) (Sx (by rw[qR]; omega)))
      (by rintro y hy O O1 ⟨o,rfl⟩ h;obtain⟨i,hi,rfl⟩:=vN hy;cases h;exact⟨_,rfl⟩)
     rw[Eo (g:=λi:Nat=>pZ t++dM base none (some ((t+(0+(i:Int)))%8))) λi=>rfl]at comp;refine aR (O:=F n none none none mu) (head P n c S _ _ (mid P n c S _ _ _ (jh (tq 1 _ _ _ _ _ _ _ _ _ _) (acv hw1) (bO ?_))));exact(gG (m:=1) (ixs:=[1,3,8]) (jm (l:=.sh (.int 8)) (n:=8) (O1:=F n none none none mu) rfl rfl (by decide) (by decide)) comp).trans rfl
   . let g:Int->Str:=λi=>dM base none (some a)++pZ ((t+5*i)%26)++dM base (some (a+1)) (some (1+z));have gl:∀i,Gn (g i):=λi=>by
      have b0:=abh (t+5*i) (b:=26) (by decide);have b1:=aa7 (t+5*i) (b:=26) (by decide);have c1:=QD base none (h:=a) (by omega);have c2:=Sw base (l:=a+1) (h:=1+z) (by omega) (by omega);refine⟨?_,?_,v5 (v5 (En bw) (Kd b0 b1)) (En bw)⟩
      . show 1<=(dM base none (some a)++pZ ((t+5*i)%26)++dM base (some (a+1)) (some (1+z))).length;rw[PySem.Str.length_append,PySem.Str.length_append,qR];omega
      . show (dM base none (some a)++pZ ((t+5*i)%26)++dM base (some (a+1)) (some (1+z))).length<=8;rw[PySem.Str.length_append,PySem.Str.length_append,qR];omega
     refine⟨(List.range 8).map λi:Nat=>g (0+(i:Int)),k2,Bp λi _=>gl _,by omega,by omega,λc P n S=>?_⟩;let mu:=P (aU ns k2 c);have loop:∀(xs:List PV) (acc:List PV) (o10 o11:Option Lc),(∀x∈xs,∃i:Nat,i<8/\x=.int (0+(i:Int)))->acc.length+xs.length<=100->∃p10 p11,dz (aJ 10) (aF (aM 11 (aG (aj 1) (aC gR (aC aY (aj 3) (aC jJ (aeO 5) (aj 10))) (aeO 26)))) (cY 9 (aC aY (aC aY (fH (aj 8) d9 (cD (aj 6))) (aj 11)) (fH (aj 8) (cD (aC aY (aj 6) (aeO 1))) (cD (aj 5)))))) xs (F n (zO acc) o10 o11 mu)=some (.nx (F n (zO (acc++xs.map λx=>match x with | .int i=>.str (g i) | _=>.non)) p10 p11 mu)):=by
      intro xs;induction xs with
      | nil=>intro acc o10 o11 _ _; exact⟨o10,o11,by simp[dz]⟩
      | cons x xs ih=>
       intro acc o10 o11 hx ha;rw[aaC]at ha;obtain⟨i,hi,rfl⟩:=hx x aaz;obtain⟨p10,p11,e⟩:=ih (acc++[.str (g (0+(i:Int)))]) (zI (0+i)) (some (.sh (.str (pZ ((t+5*(0+(i:Int)))%26))))) (λy hy=>hx y (aaA _ hy)) (by simp; omega);let G:=F n (zO acc) (zI (0+i)) (some (.sh (.str (pZ ((t+5*(0+(i:Int)))%26))))) mu;let G0:=F n (zO acc) (zI (0+i)) o11 mu;have c1:=El base none (some a);have c2:=El base (some (a+1)) (some (1+z));have s1:aM 11 (aG (aj 1) (aC gR (aC aY (aj 3) (aC jJ (aeO 5) (aj 10))) (aeO 26))) G0=some (.nx G):=
        bK (fV (p:=.str LET) (q:=.int ((t+5*(0+i))%26)) (l:=.sh (.str LET)) (m:=.sh (.int ((t+5*(0+i))%26))) (O1:=G0) (O2:=G0) rfl rfl (bC (bC rfl (bC rfl rfl (Jd (by decide) (by decide))) (mY _ _)) rfl (jd (by decide))) rfl (λn h=>by cases h) (Kc (abh _ (by decide)) (aa7 _ (by decide)))) rfl rfl
       have x1:fH (aj 8) d9 (cD (aj 6)) G=some (.sh (.str (dM base none (some a))),G):=Kf (l:=.sh (.str base)) (O1:=G) (O2:=G) rfl rfl rfl (xr (l:=.sh (.int a)) rfl rfl) (by omega);have x2:fH (aj 8) (cD (aC aY (aj 6) (aeO 1))) (cD (aj 5)) G=some (.sh (.str (dM base (some (a+1)) (some (1+z)))),G):=Kf (l:=.sh (.str base)) (O1:=G) (O2:=G) rfl rfl (xr (l:=.sh (.int (a+1))) rfl rfl) (xr (l:=.sh (.int (1+z))) rfl rfl) (by omega);have x3:aC aY (aC aY (fH (aj 8) d9 (cD (aj 6))) (aj 11)) (fH (aj 8) (cD (aC aY (aj 6) (aeO 1))) (cD (aj 5))) G=some (.sh (.str (g (0+(i:Int)))),G):=
        bC (x:=.sh (.str (dM base none (some a)++pZ ((t+5*(0+(i:Int)))%26)))) (y:=.sh (.str (dM base (some (a+1)) (some (1+z))))) (O1:=G) (bC (x:=.sh (.str (dM base none (some a)))) (y:=.sh (.str (pZ ((t+5*(0+(i:Int)))%26)))) (O1:=G) x1 rfl (Sx (by rw[qR]; omega))) x2 (Sx (by rw[PySem.Str.length_append,qR]; omega))
       refine⟨p10,p11,fP (O1:=G0) rfl (aB s1 (fL (ws0:=acc) (ws:=acc) (l:=.sh (.str (g (0+(i:Int))))) (O1:=G) rfl x3 rfl rfl (by omega) rfl)) (e.trans (by simp))⟩
     obtain⟨p10,p11,el⟩:=loop (iJ 0 8) [] none none (λx hx=>by obtain⟨i,hi,rfl⟩:=vN hx;exact⟨i,hi,rfl⟩) (by decide)
     rw[Eo (g:=λi:Nat=>g (0+(i:Int))) λi=>rfl]at el;refine aR (O:=F n none p10 p11 mu) (head P n c S _ _ (mid P n c S _ _ _ ((gm (tq 1 _ _ _ _ _ _ _ _ _ _) (acu hw1)).trans ?_)));refine aB (O':=F n (zO []) none none mu) rfl (aB ((gf (xs:=iJ 0 8) (jm (l:=.sh (.int 8)) (n:=8) (O1:=F n (zO []) none none mu) rfl rfl (by decide) (by decide))).trans el) rfl)
def Bq (r:Option Str):Prop:=∀x,r=some x->Gn x
theorem Sy {a b c i:Int} (h0:0<=i) (h1:i<3):∃q,(q=a\/q=b\/q=c)/\uI (.lst [.int a,.int b,.int c]) (.int i)=zI q:=by
 have h:i=0\/i=1\/i=2:=by omega
 rcases h with rfl | rfl | rfl
 . exact⟨a,.inl rfl,rfl⟩
 . exact⟨b,.inr (.inl rfl),rfl⟩
 . exact⟨c,.inr (.inr rfl),rfl⟩
abbrev Kg (a b c:Int):EF:=aG (aP (aa (aeO a) (aa (aeO b) (aa (aeO c) ao)))) (az aQ (aa (aj 0) (aa (aeO 3) ao)))
theorem Kh {ns:List Int} {k a b c:Int} (hn:ns.length<=63) (h0:0<=k) (h1:k<90000000):∃q,(q=a\/q=b\/q=c)/\∀P n cc vs,Spot P n->Kg a b c ⟨zS (.ptr n)::vs,P (aU ns k cc)⟩=some (.sh (.int q),⟨zS (.ptr n)::vs,P (aU ns (k+1) cc)⟩):=by obtain⟨r,r0,r1,er⟩:=fD (ns:=ns) (m:=3) hn h0 (by omega) (by decide);obtain⟨q,hq,eq⟩:=Sy (a:=a) (b:=b) (c:=c) r0 r1;exact⟨q,hq,λP n cc vs S=>fV (p:=.lst [.int a,.int b,.int c]) (q:=.int r) (l:=.own (.lst [.int a,.int b,.int c])) (m:=.sh (.int r)) (O1:=⟨zS (.ptr n)::vs,P (aU ns k cc)⟩) rfl rfl (aL (ps:=[.ptr n,.int 3]) (ls:=[.sh (.ptr n),.sh (.int 3)]) (O1:=⟨zS (.ptr n)::vs,P (aU ns k cc)⟩) rfl rfl rfl rfl (er P n cc S)) rfl (λn h=>by cases h) eq⟩
theorem Af {ns:List Int} {k a b c:Int} (hn:ns.length<=63) (h0:0<=k) (h1:k<90000000) (ha:0<a) (hb:0<b) (hc:0<c) (hm:a<=c/\b<=c/\c<=100):∃m:Nat,(m:Int)<c/\∀P n cc vs,Spot P n->fu (aa (az aQ (aa (aj 0) (aa (Kg a b c) ao))) ao) ⟨zS (.ptr n)::vs,P (aU ns k cc)⟩=some (iJ 0 m,⟨zS (.ptr n)::vs,P (aU ns (k+1+1) cc)⟩):=by
 obtain⟨q,hq,eq⟩:=Kh (a:=a) (b:=b) (c:=c) hn h0 h1;have hq':0<q/\q<=c:=by rcases hq with rfl | rfl | rfl<;>omega
 obtain⟨r,r0,r1,er⟩:=fD (ns:=ns) (m:=q) (k:=k+1) hn (by omega) (by omega) hq'.1;refine⟨r.toNat,by omega,λP n cc vs S=>jm (l:=.sh (.int r)) (n:=r) (aH (aL (ps:=[.ptr n,.int q]) (ls:=[.sh (.ptr n),.sh (.int q)]) (O1:=⟨zS (.ptr n)::vs,P (aU ns (k+1) cc)⟩) (aH (O1:=⟨zS (.ptr n)::vs,P (aU ns k cc)⟩) rfl (aH (eq P n cc vs S) rfl)) rfl rfl rfl (er P n cc S)) rfl) rfl (by omega) (by omega)⟩
abbrev PG (n:Nat) (pl:List Str) (o2 o3 o4 o5 o6 o7 o8 o9 o10:Option Lc) (mu:Mu):Ev:=⟨[zS (.ptr n),zS (b8 pl),o2,o3,o4,o5,o6,o7,o8,o9,o10],mu⟩
abbrev lO:EF:=az cI (aa (aj 0) (aa (aj 1) ao))
abbrev xG:EF:=az j9 (aa (aj 0) (aa (aj 1) ao))
theorem pq {ns:List Int} {pl:List Str} {k:Int} {x:Str} {c:Int} (ex:∀c,Dr ns (λn mu=>cI [.ptr n,b8 pl] mu) k c (k+1) c (.sh (.str x))) {P:PV->Mu} {n:Nat} (S:Spot P n) (vs:List (Option Lc)):lO ⟨zS (.ptr n)::zS (b8 pl)::vs,P (aU ns k c)⟩=some (.sh (.str x),⟨zS (.ptr n)::zS (b8 pl)::vs,P (aU ns (k+1) c)⟩):=
 aL (ps:=[.ptr n,b8 pl]) (ls:=[.sh (.ptr n),.sh (b8 pl)]) (O1:=⟨zS (.ptr n)::zS (b8 pl)::vs,P (aU ns k c)⟩) rfl rfl rfl rfl (ex c P n S)
theorem Ep {ns:List Int} {pl:List Str} {k k':Int} {r:Option Str} {c:Int} (ex:∀c,Dr ns (λn mu=>j9 [.ptr n,b8 pl] mu) k c k' c (.sh (eZ r))) {P:PV->Mu} {n:Nat} (S:Spot P n) (vs:List (Option Lc)):xG ⟨zS (.ptr n)::zS (b8 pl)::vs,P (aU ns k c)⟩=some (.sh (eZ r),⟨zS (.ptr n)::zS (b8 pl)::vs,P (aU ns k' c)⟩):=
 aL (ps:=[.ptr n,b8 pl]) (ls:=[.sh (.ptr n),.sh (b8 pl)]) (O1:=⟨zS (.ptr n)::zS (b8 pl)::vs,P (aU ns k c)⟩) rfl rfl rfl rfl (ex c P n S)
structure Om (b:Bx):Prop where
 size:b.size<=8
 name:Gn b.name
 rank:Bq b.rank
def Uk (g:Str×Str×Str):Prop:=Gn g.1/\Gn g.2.1/\Gn g.2.2
def QF (q:Str×Option Str):Prop:=Gn q.1/\Bq q.2
section
variable {ns:List Int} {pl:List Str} (hn:ns.length<=63) (hp:qQ pl)
include hn hp
theorem SJ (m:Nat) (hm:m<=100) {k c:Int} (hk:0<=k) (hc:0<=c) (hb:k+2000*c<=30000000):∃(as:List Bx) (k':Int),as.length=m/\(∀a∈as,Om a)/\k<=k'/\k'<=k+5*m/\∀P n,Spot P n->∀xs o3,xs.length=m->∃p3,dz (aJ 3) (cY 2 (bQ (aa lO (aa (eB max2 (aa (aeO 0) (aa (aC oK (az aQ (aa (aj 0) (aa (aeO 13) ao))) (aeO 4)) ao))) (aa xG ao))))) xs (PG n pl (zO []) o3 none none none none none none none (P (aU ns k c)))=some (.nx (PG n pl (zO (as.map Bx.pv)) p3 none none none none none none none (P (aU ns k' c)))):=by
 obtain⟨as,k',c',hl,hg,ka,hc',cc,kb,e⟩:=uW (ns:=ns) Bx.pv Om (λ_=>0) 5 (by decide) (aJ 3) (cY 2 (bQ (aa lO (aa (eB max2 (aa (aeO 0) (aa (aC oK (az aQ (aa (aj 0) (aa (aeO 13) ao))) (aeO 4)) ao))) (aa xG ao))))) (λn acc mu O=>∃o3,O=PG n pl (zO acc) o3 none none none none none none none mu) 40000000 (λk c hk hc hb=>by
  obtain⟨x,hx,ex⟩:=ik (ns:=ns) (k:=k) hn hk (by omega) hp;obtain⟨r,r0,r1,er⟩:=fD (ns:=ns) (m:=13) (k:=k+1) hn (by omega) (by omega) (by decide);obtain⟨y,k2,hy,ka,kb,ey⟩:=Ek (ns:=ns) (k:=k+1+1) hn hp (by omega) (by omega);refine⟨⟨x,(max 0 (r-4)).toNat,y⟩,k2,c,⟨by show (max 0 (r-4)).toNat<=8; omega,hx,hy⟩,by omega,hc,by omega,by omega,λP n S acc O xx hJ hacc=>?_⟩;obtain⟨o3,rfl⟩:=hJ;let G:Int->Ev:=λk=>PG n pl (zO acc) (zS xx) none none none none none none none (P (aU ns k c));have sz:(((max 0 (r-4)).toNat:Nat):Int)=(if r-4>0 then r-4 else 0):=by split<;>omega
  refine⟨G k,PG n pl (zO (acc++[Bx.pv ⟨x,(max 0 (r-4)).toNat,y⟩])) (zS xx) none none none none none none none (P (aU ns k2 c)),rfl,?_,_,rfl⟩;have mx:eB max2 (aa (aeO 0) (aa (aC oK (az aQ (aa (aj 0) (aa (aeO 13) ao))) (aeO 4)) ao)) (G (k+1))=some (.sh (.int (((max 0 (r-4)).toNat:Nat):Int)),G (k+1+1)):=by rw[sz];exact uZ (ls:=[.sh (.int 0),.sh (.int (r-4))]) (ps:=[.int 0,.int (r-4)]) (aH (O1:=G (k+1)) rfl (aH (bC (x:=.sh (.int r)) (y:=.sh (.int 4)) (aL (ps:=[.ptr n,.int 13]) (ls:=[.sh (.ptr n),.sh (.int 13)]) (O1:=G (k+1)) rfl rfl rfl rfl (er P n c S)) rfl rfl) rfl)) rfl rfl
  exact fL (ws0:=acc) (ws:=acc) (l:=.sh (Bx.pv ⟨x,(max 0 (r-4)).toNat,y⟩)) (O1:=G k2) rfl (eY (ls:=[.sh (.str x),.sh (.int (((max 0 (r-4)).toNat:Nat):Int)),.sh (eZ y)]) (aH (pq ex S _) (aH mx (aH (Ep ey S _) rfl))) rfl rfl) rfl rfl (by omega) rfl) m k c hk hc (by omega)
 have cz:(as.map λ_=>(0:Int)).sum=0:=by
  clear e hl hg cc;induction as with
  | nil=>rfl
  | cons a as ih=>simpa using ih
 rw[cz]at cc;have:c'=c:=by omega
 subst this;refine⟨as,k',hl,hg,ka,by omega,λP n S xs o3 hx=>?_⟩;obtain⟨O',e1,p3,rfl⟩:=e P n S [] _ xs hx (by simp; omega) ⟨o3,rfl⟩;exact⟨p3,by simpa using e1⟩
theorem Oo (BX:Option Lc) (m:Nat) (hm:m<=100) {k c:Int} (hk:0<=k) (hc:0<=c) (hb:k+2000*c<=30000000):∃(as:List (Str×Str×Str)) (k':Int),as.length=m/\(∀a∈as,Uk a)/\k<=k'/\k'<=k+3*m/\∀P n,Spot P n->∀xs o3,xs.length=m->∃p3 p5,dz (aJ 3) (aF (aM 5 lO) (cY 4 (bQ (aa (aj 5) (aa lO (aa lO ao)))))) xs (PG n pl BX o3 (zO []) none none none none none none (P (aU ns k c)))=some (.nx (PG n pl BX p3 (zO (as.map mj)) p5 none none none none none (P (aU ns k' c)))):=by
 obtain⟨as,k',c',hl,hg,ka,hc',cc,kb,e⟩:=uW (ns:=ns) mj Uk (λ_=>0) 3 (by decide) (aJ 3) (aF (aM 5 lO) (cY 4 (bQ (aa (aj 5) (aa lO (aa lO ao)))))) (λn acc mu O=>∃o3 o5,O=PG n pl BX o3 (zO acc) o5 none none none none none mu) 40000000 (λk c hk hc hb=>by obtain⟨x,hx,ex⟩:=ik (ns:=ns) (k:=k) hn hk (by omega) hp;obtain⟨y,hy,ey⟩:=ik (ns:=ns) (k:=k+1) hn (by omega) (by omega) hp;obtain⟨z,hz,ez⟩:=ik (ns:=ns) (k:=k+1+1) hn (by omega) (by omega) hp;refine⟨(x,y,z),k+1+1+1,c,⟨hx,hy,hz⟩,by omega,hc,by omega,by omega,λP n S acc O xx hJ hacc=>?_⟩;obtain⟨o3,o5,rfl⟩:=hJ;let G:Option Lc->Int->Ev:=λo5 k=>PG n pl BX (zS xx) (zO acc) o5 none none none none none (P (aU ns k c));refine⟨G o5 k,PG n pl BX (zS xx) (zO (acc++[mj (x,y,z)])) (zT x) none none none none none (P (aU ns (k+1+1+1) c)),rfl,?_,_,_,rfl⟩;refine aB (O':=G (zT x) (k+1)) (bK (pq ex S _) rfl rfl) ?_;exact fL (ws0:=acc) (ws:=acc) (l:=.sh (mj (x,y,z))) (O1:=G (zT x) (k+1+1+1)) rfl (eY (ls:=[.sh (.str x),.sh (.str y),.sh (.str z)]) (aH (O1:=G (zT x) (k+1)) rfl (aH (pq ey S _) (aH (pq ez S _) rfl))) rfl rfl) rfl rfl (by omega) rfl) m k c hk hc (by omega)
 have cz:(as.map λ_=>(0:Int)).sum=0:=by
  clear e hl hg cc;induction as with
  | nil=>rfl
  | cons a as ih=>simpa using ih
 rw[cz]at cc;have:c'=c:=by omega
 subst this;refine⟨as,k',hl,hg,ka,by omega,λP n S xs o3 hx=>?_⟩;obtain⟨O',e1,p3,p5,rfl⟩:=e P n S [] _ xs hx (by simp; omega) ⟨o3,none,rfl⟩;exact⟨p3,p5,by simpa using e1⟩
end
mutual
theorem VD:∀r:Row,r.ls.length<=3*r.cnt
 | .set x e=>by simp[Row.ls,Row.cnt]
 | .put x e f=>by simp[Row.ls,Row.cnt]
 | .out x e w=>by simp[Row.ls,Row.cnt]
 | .call x f es=>by simp[Row.ls,Row.cnt]
 | .ifr e a b=>by have h1:=nC a;have h2:=nC b;rw[zE];simp only[Row.cnt];omega
 | .wh e a=>by have h1:=nC a;rw[zF];simp only[Row.cnt];omega
theorem nC:∀rs:Rows,rs.ls.length<=3*rs.cnt
 | .nil=>by simp[Rows.ls,Rows.cnt]
 | .cons r rs=>by have h1:=VD r;have h2:=nC rs;simp only[Rows.ls,Rows.cnt,aaH];omega
end
structure sU (f:Fn):Prop where
 ok:f.ok
 name:Gn f.name
 rank:Bq f.rank
 par:∀q∈f.params,QF q
 dep:f.rows.dep<=5
def Fn.cost (f:Fn):Int:=(f.rows.cnt:Int)
theorem Ul {α τ:Type} {ns:List Int} (img:α->PV) (good:α->Prop) (b:Int) (hb:0<=b) (bn:BF) (body:SF) (J:τ->Nat->List PV->Mu->Ev->Prop) (K:Int)
 (H:∀k,0<=k->k<=K->∃(a:α) (k':Int),good a/\k<=k'/\k'<=k+b/\∀P n c,Spot P n->∀s acc O x,J s n acc (P (aU ns k c)) O->acc.length<1000->∃O1 O2,bn x O=some O1/\body O1=some (.nx O2)/\J s n (acc++[img a]) (P (aU ns k' c)) O2):
 ∀(m:Nat) (k:Int),0<=k->k+b*m<=K->∃(as:List α) (k':Int),as.length=m/\(∀a∈as,good a)/\k<=k'/\k'<=k+b*m/\∀P n c,Spot P n->∀s acc O xs,xs.length=m->acc.length+m<=1000->J s n acc (P (aU ns k c)) O->∃O',dz bn body xs O=some (.nx O')/\J s n (acc++as.map img) (P (aU ns k' c)) O'
 | 0,k,h0,hK=>by refine⟨[],k,rfl,λa h=>(by cases h),by omega,by simp,λP n c S s acc O xs hx _ hJ=>?_⟩;have:xs=[]:=List.length_eq_zero_iff.mp hx;subst this;exact⟨O,rfl,by simpa using hJ⟩
 | m+1,k,h0,hK=>by
  rw[ph]at hK;have bm:0<=b*(m:Int):=Int.mul_nonneg hb (by omega);obtain⟨a,k1,ga,ka,kb,ea⟩:=H k h0 (by omega);obtain⟨as,k2,hl,hg,kc,kd,ih⟩:=Ul img good b hb bn body J K H m k1 (by omega) (by omega);refine⟨a::as,k2,by simp[hl],λy hy=>?_,by omega,by rw[ph]; omega,λP n c S s acc O xs hx hacc hJ=>?_⟩
  . rcases aaI.mp hy with rfl | hy
    . exact ga
    . exact hg y hy
  . match xs,hx with
    | x::xs,hx=>
     obtain⟨O1,O2,e1,e2,hJ2⟩:=ea P n c S s acc O x hJ (by omega);obtain⟨O3,e3,hJ3⟩:=ih P n c S s (acc++[img a]) O2 xs (by simpa using hx) (by simp; omega) hJ2;exact⟨O3,fP e1 e2 e3,by simpa using hJ3⟩
section
variable {ns:List Int} {pl:List Str} (hn:ns.length<=63) (hp:qQ pl)
include hn hp
theorem Mx {most k c:Int} (hm:0<most) (hm2:most<900) (hk:0<=k) (hc:0<=c) (hb:k+2000*c<=40000000):∃(rs:Rows) (k' c':Int),rs.ok/\rs.dep<=5/\c'+(rs.cnt:Int)=c/\0<=c'/\k<=k'/\k'+2000*c'<=k+2000*c+1/\∀(P:PV->Mu) (n:Nat),Spot P n->∀(fm:EF) (k0:Int) (vs:List (Option Lc)),fm ⟨zS (.ptr n)::zS (b8 pl)::vs,P (aU ns k0 c)⟩=some (.sh (.int most),⟨zS (.ptr n)::zS (b8 pl)::vs,P (aU ns k c)⟩)->az (dN 40) (aa (aj 0) (aa (aeO 0) (aa (aj 1) (aa fm ao)))) ⟨zS (.ptr n)::zS (b8 pl)::vs,P (aU ns k0 c)⟩=some (.own (.lst rs.pvs),⟨zS (.ptr n)::zS (b8 pl)::vs,P (aU ns k' c')⟩):=by obtain⟨rs,k',c',e,ok,dp,ct,hc',ka,kb⟩:=Su (ns:=ns) (pl:=pl) hn hp (most:=most) (k:=k) (c:=c) hm hm2 hk hc (by omega);refine⟨rs,k',c',ok,dp,ct,hc',ka,by omega,λP n S fm k0 vs em=>?_⟩;let G:Int->Ev:=λk=>⟨zS (.ptr n)::zS (b8 pl)::vs,P (aU ns k c)⟩;exact aL (ps:=[.ptr n,.int 0,b8 pl,.int most]) (ls:=[.sh (.ptr n),.sh (.int 0),.sh (b8 pl),.sh (.int most)]) (O1:=G k) (aH (O1:=G k0) rfl (aH (O1:=G k0) rfl (aH (O1:=G k0) rfl (aH em rfl)))) rfl rfl rfl (e P n S)
abbrev Ye:SF:=(aF (aM 7 lO)
 (aF (aM 8 (aP ao))
 (aF (jw (fu (aa (az aQ (aa (aj 0) (aa (aeO 5) ao))) ao)) (aJ 9)
 (aF (aM 10 lO)
 (cY 8 (bQ (aa (aj 10) (aa xG ao))))))
 (cY 6 (bQ (aa (aj 7) (aa xG (aa (aj 8) (aa (az (dN 40) (aa (aj 0) (aa (aeO 0) (aa (aj 1) (aa (aeO 4) ao))))) ao)))))))))
theorem QG (m:Nat) (hm:m<=100) {k:Int} (hk:0<=k) (hb:k<=30000000):∃(as:List (Str×Option Str)) (k':Int),as.length=m/\(∀a∈as,QF a)/\k<=k'/\k'<=k+3*m/\∀P n c,Spot P n->∀(BX GR FN o3 o5 o7 o9 o10:Option Lc) xs,xs.length=m->∃p9 p10,dz (aJ 9) (aF (aM 10 lO) (cY 8 (bQ (aa (aj 10) (aa xG ao))))) xs (PG n pl BX o3 GR o5 FN o7 (zO []) o9 o10 (P (aU ns k c)))=some (.nx (PG n pl BX o3 GR o5 FN o7 (zO (as.map jf)) p9 p10 (P (aU ns k' c)))):=by
 obtain⟨as,k',hl,hg,ka,kb,e⟩:=Ul (ns:=ns) (τ:=Option Lc×Option Lc×Option Lc×Option Lc×Option Lc×Option Lc) jf QF 3 (by decide) (aJ 9) (aF (aM 10 lO) (cY 8 (bQ (aa (aj 10) (aa xG ao))))) (λs n acc mu O=>∃o9 o10,O=PG n pl s.1 s.2.1 s.2.2.1 s.2.2.2.1 s.2.2.2.2.1 s.2.2.2.2.2 (zO acc) o9 o10 mu) 40000000 (λk hk hb=>by obtain⟨x,hx,ex⟩:=ik (ns:=ns) (k:=k) hn hk (by omega) hp;obtain⟨y,k2,hy,ka,kb,ey⟩:=Ek (ns:=ns) (k:=k+1) hn hp (by omega) (by omega);refine⟨(x,y),k2,⟨hx,hy⟩,by omega,by omega,λP n c S s acc O xx hJ hacc=>?_⟩;obtain⟨BX,o3,GR,o5,FN,o7⟩:=s;obtain⟨o9,o10,rfl⟩:=hJ;let G:Option Lc->Int->Ev:=λo10 k=>PG n pl BX o3 GR o5 FN o7 (zO acc) (zS xx) o10 (P (aU ns k c));refine⟨G o10 k,PG n pl BX o3 GR o5 FN o7 (zO (acc++[jf (x,y)])) (zS xx) (zT x) (P (aU ns k2 c)),rfl,?_,_,_,rfl⟩;refine aB (O':=G (zT x) (k+1)) (bK (pq ex S _) rfl rfl) ?_;exact fL (ws0:=acc) (ws:=acc) (l:=.sh (jf (x,y))) (O1:=G (zT x) k2) rfl (eY (ls:=[.sh (.str x),.sh (eZ y)]) (aH (O1:=G (zT x) (k+1)) rfl (aH (Ep ey S _) rfl)) rfl rfl) rfl rfl (by omega) rfl) m k hk (by omega)
 refine⟨as,k',hl,hg,ka,kb,λP n c S BX GR FN o3 o5 o7 o9 o10 xs hx=>?_⟩;obtain⟨O',e1,p9,p10,rfl⟩:=e P n c S (BX,o3,GR,o5,FN,o7) [] _ xs hx (by simp; omega) ⟨o9,o10,rfl⟩;exact⟨p9,p10,by simpa using e1⟩
theorem SM (BX GR:Option Lc) (m:Nat) (hm:m<=100) {k c:Int} (hk:0<=k) (hc:0<=c) (hc40:c<=40) (hb:k+2000*c<=20000000):∃(as:List Fn) (k' c':Int),as.length=m/\(∀a∈as,sU a)/\k<=k'/\0<=c'/\c'+(as.map Fn.cost).sum=c/\k'+2000*c'<=k+2000*c+40*m/\∀P n,Spot P n->∀xs o3 o5,xs.length=m->∃p3 p5 p7 p8 p9 p10,dz (aJ 3) Ye xs (PG n pl BX o3 GR o5 (zO []) none none none none (P (aU ns k c)))=some (.nx (PG n pl BX p3 GR p5 (zO (as.map Fn.pv)) p7 p8 p9 p10 (P (aU ns k' c')))):=by
 have H:∀k c,0<=k->0<=c->k+2000*c<=25000000->∃(a:Fn) (k' c':Int),(c<=40->sU a)/\k<=k'/\0<=c'/\c'+Fn.cost a=c/\k'+2000*c'<=k+2000*c+40/\∀P n,Spot P n->∀acc O x,(∃o3 o5 o7 o8 o9 o10,O=PG n pl BX o3 GR o5 (zO acc) o7 o8 o9 o10 (P (aU ns k c)))->acc.length<1000->∃O1 O2,aJ 3 x O=some O1/\Ye O1=some (.nx O2)/\∃o3 o5 o7 o8 o9 o10,O2=PG n pl BX o3 GR o5 (zO (acc++[Fn.pv a])) o7 o8 o9 o10 (P (aU ns k' c')):=λk c hk hc hb=>by obtain⟨x,hx,ex⟩:=ik (ns:=ns) (k:=k) hn hk (by omega) hp;obtain⟨r,r0,r1,er⟩:=fD (ns:=ns) (m:=5) (k:=k+1) hn (by omega) (by omega) (by decide);obtain⟨ps,k2,pll,hps,ka,kb,eps⟩:=QG (ns:=ns) (pl:=pl) hn hp r.toNat (by omega) (k:=k+1+1) (by omega) (by omega);obtain⟨y,k3,hy,ka3,kb3,ey⟩:=Ek (ns:=ns) (k:=k2) hn hp (by omega) (by omega);obtain⟨rs,k4,c4,okr,dpr,ctr,hc4,ka4,kb4,ers⟩:=Mx (ns:=ns) (pl:=pl) hn hp (most:=4) (k:=k3) (c:=c) (by decide) (by decide) (by omega) hc (by omega);have hlr:=nC rs;refine⟨⟨x,y,ps,rs⟩,k4,c4,λh40=>⟨⟨okr,by show rs.dep<=20; omega,by show rs.ls.length<=1000; omega,by show ps.length<=4; omega⟩,hx,hy,hps,dpr⟩,by omega,hc4,ctr,by omega,λP n S acc O xx hJ hacc=>?_⟩;obtain⟨o3,o5,o7,o8,o9,o10,rfl⟩:=hJ;let G:Option Lc->Option Lc->Option Lc->Option Lc->Int->Int->Ev:=λo7 o8 o9 o10 k c=>PG n pl BX (zS xx) GR o5 (zO acc) o7 o8 o9 o10 (P (aU ns k c));obtain⟨p9,p10,ep⟩:=eps P n c S BX GR (zO acc) (zS xx) o5 (zT x) o9 o10 (iJ 0 r.toNat) lA;refine⟨G o7 o8 o9 o10 k c,PG n pl BX (zS xx) GR o5 (zO (acc++[Fn.pv ⟨x,y,ps,rs⟩])) (zT x) (zL (ps.map jf)) p9 p10 (P (aU ns k4 c4)),rfl,?_,_,_,_,_,_,_,rfl⟩;refine aB (O':=G (zT x) o8 o9 o10 (k+1) c) (bK (pq ex S _) rfl rfl) ?_;refine aB (O':=G (zT x) (zO []) o9 o10 (k+1) c) rfl ?_;have ir:=jm (a:=aa (az aQ (aa (aj 0) (aa (aeO 5) ao))) ao) (O:=G (zT x) (zO []) o9 o10 (k+1) c) (O1:=G (zT x) (zO []) o9 o10 (k+1+1) c) (l:=.sh (.int r)) (n:=r) (aH (aL (ps:=[.ptr n,.int 5]) (ls:=[.sh (.ptr n),.sh (.int 5)]) (O1:=G (zT x) (zO []) o9 o10 (k+1) c) rfl rfl rfl rfl (er P n c S)) rfl) rfl (by omega) (by omega);refine aB ((gf ir).trans ep) ?_;exact fL (ws0:=acc) (ws:=acc) (l:=.sh (Fn.pv ⟨x,y,ps,rs⟩)) (O1:=G (zT x) (zL (ps.map jf)) p9 p10 k4 c4) rfl (eY (ls:=[.sh (.str x),.sh (eZ y),.sh (.lst (ps.map jf)),.own (.lst rs.pvs)]) (aH (O1:=G (zT x) (zO (ps.map jf)) p9 p10 k2 c) rfl (aH (Ep ey S _) (aH (O1:=G (zT x) (zL (ps.map jf)) p9 p10 k3 c) rfl (aH (ers P n S (aeO 4) k3 _ rfl) rfl)))) rfl rfl) rfl rfl (by omega) rfl
 have L:∀(m:Nat) (k c:Int),0<=k->0<=c->c<=40->k+2000*c+40*m<=25000000->∃(as:List Fn) (k' c':Int),as.length=m/\(∀a∈as,sU a)/\k<=k'/\0<=c'/\c'+(as.map Fn.cost).sum=c/\k'+2000*c'<=k+2000*c+40*m/\∀P n,Spot P n->∀acc O xs,xs.length=m->acc.length+m<=1000->(∃o3 o5 o7 o8 o9 o10,O=PG n pl BX o3 GR o5 (zO acc) o7 o8 o9 o10 (P (aU ns k c)))->∃O',dz (aJ 3) Ye xs O=some (.nx O')/\∃o3 o5 o7 o8 o9 o10,O'=PG n pl BX o3 GR o5 (zO (acc++as.map Fn.pv)) o7 o8 o9 o10 (P (aU ns k' c')):=by
  intro m;induction m with
  | zero=>
   intro k c hk hc hc40 hb;refine⟨[],k,c,rfl,λa h=>(by cases h),by omega,hc,by simp,by simp,λP n S acc O xs hx _ hJ=>?_⟩;have:xs=[]:=List.length_eq_zero_iff.mp hx;subst this;exact⟨O,rfl,by simpa using hJ⟩
  | succ m ih=>
   intro k c hk hc hc40 hb;obtain⟨a,k1,c1,ga,ka,hc1,cc,kb,ea⟩:=H k c hk hc (by omega);have ca:0<=Fn.cost a:=Int.natCast_nonneg _;obtain⟨as,k2,c2,hl,hg,kc,hc2,cc2,kd,e⟩:=ih k1 c1 (by omega) hc1 (by omega) (by omega);refine⟨a::as,k2,c2,by simp[hl],λy hy=>?_,by omega,hc2,by rw[aaV,List.sum_cons]; omega,by omega,λP n S acc O xs hx hacc hJ=>?_⟩
   . rcases aaI.mp hy with rfl | hy
     . exact ga hc40
     . exact hg y hy
   . match xs,hx with
     | x::xs,hx=>
      obtain⟨O1,O2,e1,e2,hJ2⟩:=ea P n S acc O x hJ (by omega);obtain⟨O3,e3,hJ3⟩:=e P n S (acc++[Fn.pv a]) O2 xs (by simpa using hx) (by simp; omega) hJ2;exact⟨O3,fP e1 e2 e3,by simpa using hJ3⟩
 obtain⟨as,k',c',hl,hg,ka,hc',cc,kb,e⟩:=L m k c hk hc hc40 (by omega);refine⟨as,k',c',hl,hg,ka,hc',cc,kb,λP n S xs o3 o5 hx=>?_⟩;obtain⟨O',e1,p3,p5,p7,p8,p9,p10,rfl⟩:=e P n S [] _ xs hx (by simp; omega) ⟨o3,o5,none,none,none,none,rfl⟩;exact⟨p3,p5,p7,p8,p9,p10,by simpa using e1⟩
end
def Yg (q:Str×Str):Prop:=Gn q.1/\Gn q.2
structure Yh (bs:List Bx) (gs:List (Str×Str×Str)) (fs:List Fn) (rs:Rows) (c:Int):Prop where
 bl:bs.length<=12
 bo:∀b∈bs,Om b
 gl:gs.length<=6
 go:∀g∈gs,Uk g
 fl:fs.length<=6
 fo:∀f∈fs,sU f
 ro:rs.ok
 rd:rs.dep<=5
 ct:(fs.map Fn.cost).sum+(rs.cnt:Int)<=c
section
variable {ns:List Int} {pl:List Str} (hn:ns.length<=63) (hp:qQ pl)
include hn hp
theorem Oq {k c:Int} (hk:0<=k) (hc:0<=c) (hc40:c<=40) (hb:k<=1000000):∃bs gs fs rs k' c',Yh bs gs fs rs c/\Dr ns (λn mu=>qN [.ptr n,b8 pl] mu) k c k' c' (.sh (.tup [.lst (bs.map Bx.pv),.lst (gs.map mj),.lst (fs.map Fn.pv),.lst (Rows.pvs rs)])):=by
 obtain⟨m1,hm1,i1⟩:=Af (ns:=ns) (k:=k) (a:=3) (b:=5) (c:=13) hn hk (by omega) (by decide) (by decide) (by decide) (by decide);obtain⟨bs,k1,bl,bo,ka1,kb1,e1⟩:=SJ (ns:=ns) (pl:=pl) hn hp m1 (by omega) (k:=k+1+1) (c:=c) (by omega) hc (by omega);let BX:Option Lc:=zO (bs.map Bx.pv);obtain⟨m2,hm2,i2⟩:=Af (ns:=ns) (k:=k1) (a:=2) (b:=2) (c:=7) hn (by omega) (by omega) (by decide) (by decide) (by decide) (by decide);obtain⟨gs,k2,gl,go,ka2,kb2,e2⟩:=Oo (ns:=ns) (pl:=pl) hn hp BX m2 (by omega) (k:=k1+1+1) (c:=c) (by omega) hc (by omega);let GR:Option Lc:=zO (gs.map mj);obtain⟨m3,hm3,i3⟩:=Af (ns:=ns) (k:=k2) (a:=2) (b:=3) (c:=7) hn (by omega) (by omega) (by decide) (by decide) (by decide) (by decide);obtain⟨fs,k3,c3,fl,fo,ka3,hc3,cc3,kb3,e3⟩:=SM (ns:=ns) (pl:=pl) hn hp BX GR m3 (by omega) (k:=k2+1+1) (c:=c) (by omega) hc hc40 (by omega);obtain⟨q,hq,eq⟩:=Kh (ns:=ns) (k:=k3) (a:=5) (b:=9) (c:=41) hn (by omega) (by omega);have hq':0<q/\q<900:=by rcases hq with rfl | rfl | rfl<;>omega
 obtain⟨rs,k4,c4,okr,dpr,ctr,hc4,ka4,kb4,ers⟩:=Mx (ns:=ns) (pl:=pl) hn hp (most:=q) (k:=k3+1) (c:=c3) hq'.1 hq'.2 (by omega) hc3 (by omega);refine⟨bs,gs,fs,rs,k4,c4,⟨by omega,bo,by omega,go,by omega,fo,okr,dpr,by omega⟩,λP n S=>?_⟩;obtain⟨p3,f1⟩:=e1 P n S (iJ 0 m1) none lA;obtain⟨q3,q5,f2⟩:=e2 P n S (iJ 0 m2) p3 lA;obtain⟨r3,r5,r7,r8,r9,r10,f3⟩:=e3 P n S (iJ 0 m3) q3 q5 lA;let FN:Lc:=.own (.lst (fs.map Fn.pv));refine aR (O:=PG n pl (zL (bs.map Bx.pv)) r3 (zL (gs.map mj)) r5 (zL (fs.map Fn.pv)) r7 r8 r9 r10 (P (aU ns k4 c4))) ?_;refine aB (O':=PG n pl (zO []) none none none none none none none none (P (aU ns k c))) rfl ?_;refine aB ((gf (i1 P n c _ S)).trans f1) ?_;refine aB (O':=PG n pl BX p3 (zO []) none none none none none none (P (aU ns k1 c))) rfl ?_;refine aB ((gf (i2 P n c _ S)).trans f2) ?_;refine aB (O':=PG n pl BX q3 GR q5 (zO []) none none none none (P (aU ns k2 c))) rfl ?_;refine aB ((gf (i3 P n c _ S)).trans f3) (bO ?_);let G0:=PG n pl BX r3 GR r5 (some FN) r7 r8 r9 r10 (P (aU ns k3 c3));let G1:=PG n pl (zL (bs.map Bx.pv)) r3 GR r5 (some FN) r7 r8 r9 r10 (P (aU ns k3 c3));let G2:=PG n pl (zL (bs.map Bx.pv)) r3 (zL (gs.map mj)) r5 (some FN) r7 r8 r9 r10 (P (aU ns k3 c3));let G3:=PG n pl (zL (bs.map Bx.pv)) r3 (zL (gs.map mj)) r5 (zL (fs.map Fn.pv)) r7 r8 r9 r10 (P (aU ns k3 c3));exact eY (ls:=[.sh (.lst (bs.map Bx.pv)),.sh (.lst (gs.map mj)),.sh (.lst (fs.map Fn.pv)),.own (.lst rs.pvs)]) (aH (O1:=G1) rfl (aH (O1:=G2) rfl (aH (O1:=G3) rfl (aH (ers P n S (Kg 5 9 41) k3 _ (eq P n c3 _ S)) rfl)))) rfl rfl
structure xH (T:Tl):Prop where
 nl:T.names.length<=8/\1<=T.names.length
 no:∀x∈T.names,Gn x
 pl:T.pairs.length<=64
 po:∀q∈T.pairs,Yg q
 pg:Yh T.boxes T.grants T.funs T.rows 40
abbrev TE (n:Nat) (pl:List Str) (o2 o3 o4 o5:Option Lc) (mu:Mu):Ev:=⟨[zS (.ptr n),zS (b8 pl),o2,o3,o4,o5],mu⟩
theorem VF {k c:Int} (hk:0<=k) (hc:0<=c) (hc40:c<=40) (hb:k<=1000):∃(T:Tl) (k' c':Int),xH T/\Dr ns (λn mu=>rH [.ptr n,b8 pl] mu) k c k' c' (.sh T.pv):=by
 obtain⟨r,r0,r1,er⟩:=fD (ns:=ns) (m:=8) (k:=k) hn hk (by omega) (by decide);obtain⟨nms,k1,hl,hg,ka,kb,ec⟩:=uV (ns:=ns) PV.str (λx=>Gn x) 1 (by decide) (az cI (aa (aj 1) (aa (aj 2) ao))) (λn=>some (.sh (.ptr n))) (λ_=>some (.sh (b8 pl))) 98000000 (λk h0 h1=>by obtain⟨x,hx,ex⟩:=ik (ns:=ns) (k:=k) hn h0 (by omega) hp;exact⟨x,k+1,hx,by omega,by omega,λP n c S o=>⟨.sh (.str x),aL (ps:=[.ptr n,b8 pl]) (ls:=[.sh (.ptr n),.sh (b8 pl)]) (O1:=⟨[o,zS (.ptr n),zS (b8 pl)],P (aU ns k c)⟩) rfl rfl rfl rfl (ex c P n S),rfl⟩⟩) (1+r).toNat (k+1) (by omega) (by omega)
 let NM:Option Lc:=zO (nms.map .str);obtain⟨m,hm,im⟩:=Af (ns:=ns) (k:=k1) (a:=3) (b:=9) (c:=65) hn (by omega) (by omega) (by decide) (by decide) (by decide) (by decide);obtain⟨prs,k2,c2,pll,po,ka2,hc2,cc2,kb2,ep⟩:=uW (ns:=ns) j4 Yg (λ_=>0) 2 (by decide) (aJ 4) (aF (aM 5 lO) (cY 3 (bQ (aa (aj 5) (aa lO ao))))) (λn acc mu O=>∃o4 o5,O=TE n pl NM (zO acc) o4 o5 mu) 40000000 (λk c hk hc hb=>by obtain⟨x,hx,ex⟩:=ik (ns:=ns) (k:=k) hn hk (by omega) hp;obtain⟨y,hy,ey⟩:=ik (ns:=ns) (k:=k+1) hn (by omega) (by omega) hp;refine⟨(x,y),k+1+1,c,⟨hx,hy⟩,by omega,hc,by omega,by omega,λP n S acc O xx hJ hacc=>?_⟩;obtain⟨o4,o5,rfl⟩:=hJ;let G:Option Lc->Int->Ev:=λo5 k=>TE n pl NM (zO acc) (zS xx) o5 (P (aU ns k c));refine⟨G o5 k,TE n pl NM (zO (acc++[j4 (x,y)])) (zS xx) (zT x) (P (aU ns (k+1+1) c)),rfl,?_,_,_,rfl⟩;refine aB (O':=G (zT x) (k+1)) (bK (pq ex S _) rfl rfl) ?_;exact fL (ws0:=acc) (ws:=acc) (l:=.sh (j4 (x,y))) (O1:=G (zT x) (k+1+1)) rfl (eY (ls:=[.sh (.str x),.sh (.str y)]) (aH (O1:=G (zT x) (k+1)) rfl (aH (pq ey S _) rfl)) rfl rfl) rfl rfl (by omega) rfl) m (k1+1+1) c (by omega) hc (by omega)
 have cz:(prs.map λ_=>(0:Int)).sum=0:=by
  clear ep pll po cc2;induction prs with
  | nil=>rfl
  | cons a as ih=>simpa using ih
 rw[cz]at cc2;have:c2=c:=by omega
 subst this;obtain⟨bs,gs,fs,rs,k3,c3,pg,e3⟩:=Oq (ns:=ns) (pl:=pl) hn hp (k:=k2) (c:=c2) (by omega) hc hc40 (by omega);refine⟨⟨nms,prs,bs,gs,fs,rs⟩,k3,c3,⟨by show nms.length<=8/\1<=nms.length; omega,hg,by show prs.length<=64; omega,po,⟨pg.bl,pg.bo,pg.gl,pg.go,pg.fl,pg.fo,pg.ro,pg.rd,by have:=pg.ct; show (fs.map Fn.cost).sum+(rs.cnt:Int)<=(40:Int); omega⟩⟩,λP n S=>?_⟩;obtain⟨O',f2,p4,p5,rfl⟩:=ep P n S [] _ (iJ 0 m) lA (by simp; omega) ⟨none,none,rfl⟩;let PR:Lc:=.own (.lst (prs.map j4));refine aR (O:=TE n pl (zL (nms.map .str)) (zL (prs.map j4)) p4 p5 (P (aU ns k3 c3))) ?_;let E0:=TE n pl none none none none (P (aU ns k c2));have ir:=jm (a:=aa (aC aY (aeO 1) (az aQ (aa (aj 0) (aa (aeO 8) ao)))) ao) (O:=E0) (O1:=TE n pl none none none none (P (aU ns (k+1) c2))) (l:=.sh (.int (1+r))) (n:=1+r) (aH (bC (x:=.sh (.int 1)) (y:=.sh (.int r)) (O1:=E0) rfl (aL (ps:=[.ptr n,.int 8]) (ls:=[.sh (.ptr n),.sh (.int 8)]) (O1:=E0) rfl rfl rfl rfl (er P n c2 S)) (mY _ _)) rfl) rfl (by omega) (by omega);have cc:cT (fu (aa (aC aY (aeO 1) (az aQ (aa (aj 0) (aa (aeO 8) ao)))) ao)) 1 [0,1] (aJ 0) bY (az cI (aa (aj 1) (aa (aj 2) ao))) E0=some (.own (.lst (nms.map .str)),TE n pl none none none none (P (aU ns k1 c2))):=
  (gG (m:=1) (ixs:=[0,1]) ir (ec P n c2 S none [] (iJ 0 (1+r).toNat) lA (by simp; omega))).trans rfl
 refine aB (O':=TE n pl NM none none none (P (aU ns k1 c2))) (bK cc rfl rfl) ?_;refine aB (O':=TE n pl NM (zO []) none none (P (aU ns k1 c2))) rfl ?_;refine aB ((gf (im P n c2 _ S)).trans f2) (bO ?_);let G1:=TE n pl (zL (nms.map .str)) (some PR) p4 p5 (P (aU ns k2 c2));let G2:=TE n pl (zL (nms.map .str)) (zL (prs.map j4)) p4 p5 (P (aU ns k2 c2));exact eY (ls:=[.sh (.lst (nms.map .str)),.sh (.lst (prs.map j4)),.sh (.tup [.lst (bs.map Bx.pv),.lst (gs.map mj),.lst (fs.map Fn.pv),.lst (Rows.pvs rs)])]) (aH (O1:=G1) rfl (aH (O1:=G2) rfl (aH (aL (ps:=[.ptr n,b8 pl]) (ls:=[.sh (.ptr n),.sh (b8 pl)]) (O1:=G2) rfl rfl rfl rfl (e3 P n S)) rfl))) rfl rfl
end
theorem spot {mu:Mu}:Spot (λx=>mu++[some x]) mu.length:=⟨λx=>by simp,λx y=>by simp⟩
theorem VG {v:Int} (h0:0<=v) (h1:v<1000000000000):(toString v:Str).length<=17:=by have h:=int_text_length_le10 (a:=v) (k:=12) (by decide) (by omega);show (Str.ofString (toString v)).cps.size<=17;rw[Str.ofString_eq_toList];show ((toString v).toList.map Char.toNat).toArray.size<=17;rw[aaF,aaT,String.length_toList];omega
def v6 (ws:List Str):Prop:=∀w∈ws,w.length<=17
theorem v6.lw {ws:List Str} (h:v6 ws):lw ws<=18*ws.length:=by
 induction ws with
 | nil=>simp[Law.lw]
 | cons w ws ih=>
  have h1:=h w aaz;have h2:=ih λx hx=>h x (aaA _ hx);rw[gP,aaC];omega
theorem v6.app {a b:List Str} (h:v6 a) (g:v6 b):v6 (a++b):=λw hw=>(abq.mp hw).elim (h w) (g w)
theorem v6.cons {x:Str} {b:List Str} (h:x.length<=17) (g:v6 b):v6 (x::b):=λw hw=>by
 rcases aaI.mp hw with rfl | hw
 . exact h
 . exact g w hw
theorem v6.nil:v6 []:=λw hw=>by cases hw
theorem Ht:∀e:aV,e.ok->v6 e.ws
 | .num v,ok=>.cons (VG ok.1 ok.2) .nil
 | .box x,ok=>.cons (Gn.le ok) .nil
 | .at x e,ok=>.cons (by decide +kernel) (.cons (Gn.le ok.1) (Ht e ok.2))
 | .sg s a b,ok=>.cons (by rw[ok.1.len]; decide) ((Ht a ok.2.1).app (Ht b ok.2.2))
theorem Ex.lw {e:aV} (h:Ex e):Law.lw e.ws<=342:=by have:=(Ht e h.1).lw;have:=h.2.2;omega
theorem Yi {es:List aV} (h:∀e∈es,Ex e):lw (fZ es)<=342*es.length:=by
 induction es with
 | nil=>simp[fZ,lw]
 | cons e es ih=>
  have h1:=(h e aaz).lw;have h2:=ih λx hx=>h x (aaA _ hx);rw[nA,Qv,aaC];omega
theorem kh:("set" : Str).length=3/\("put" : Str).length=3/\("out" : Str).length=3/\("call" : Str).length=4/\("if" : Str).length=2/\("while" : Str).length=5/\("else" : Str).length=4/\("end" : Str).length=3/\("ranks" : Str).length=5/\("under" : Str).length=5/\("may" : Str).length=3/\("box" : Str).length=3/\("list" : Str).length=4/\("def" : Str).length=3/\("?" : Str).length=1:=by decide +kernel
theorem zH {ws:List Str}:tw [ws]=lw ws:=by simp[tw]
theorem uy:lw []=0:=rfl
theorem Kl:tw []=0:=rfl
theorem Er:tw pW<=10/\tw gK<=10:=by decide +kernel
mutual
theorem Yj:∀r:Row,r.ok->tw r.ls<=1500*r.cnt
 | .set x e,ok=>by obtain⟨w1,w2,w3,w4,w5,w6,_⟩:=kh;simp only[Row.ok]at ok;have h:=ok.2.lw;have z1:=Gn.le ok.1;simp only[Row.ls,Row.cnt,zH,Row.hd,gP,w1];omega
 | .put x e f,ok=>by obtain⟨w1,w2,w3,w4,w5,w6,_⟩:=kh;simp only[Row.ok]at ok;have h:=ok.2.1.lw;have h':=ok.2.2.lw;have z1:=Gn.le ok.1;simp only[Row.ls,Row.cnt,zH,Row.hd,gP,Qv,w2];omega
 | .out x e w,ok=>by obtain⟨w1,w2,w3,w4,w5,w6,_⟩:=kh;simp only[Row.ok]at ok;have h:=ok.2.2.lw;have z1:=Gn.le ok.1;have z2:=Gn.le ok.2.1;simp only[Row.ls,Row.cnt,zH,Row.hd,gP,w3];omega
 | .call x f es,ok=>by obtain⟨w1,w2,w3,w4,w5,w6,_⟩:=kh;simp only[Row.ok]at ok;have h:=Yi ok.2.2.2;have z1:=Gn.le ok.1;have z2:=Gn.le ok.2.1;simp only[Row.ls,Row.cnt,zH,Row.hd,gP,w4];omega
 | .ifr e a b,ok=>by obtain⟨w1,w2,w3,w4,w5,w6,w7,w8,_⟩:=kh;simp only[Row.ok]at ok;have h:=ok.1.lw;have ha:=sX a ok.2.1;have hb:=sX b ok.2.2;obtain⟨t1,t2⟩:=Er;rw[xn];simp only[Row.cnt,sW,vZ,gP,uy,Kl,w5,w7,w8];omega
 | .wh e a,ok=>by obtain⟨w1,w2,w3,w4,w5,w6,w7,w8,_⟩:=kh;simp only[Row.ok]at ok;have h:=ok.1.lw;have ha:=sX a ok.2;obtain⟨t1,t2⟩:=Er;rw[xq];simp only[Row.cnt,sW,vZ,gP,uy,Kl,w6,w8];omega
theorem sX:∀rs:Rows,rs.ok->tw rs.ls<=1500*rs.cnt
 | .nil,_=>by simp[Rows.ls,Rows.cnt,tw]
 | .cons r rs,ok=>by simp only[Rows.ok]at ok;have h1:=Yj r ok.1;have h2:=sX rs ok.2;simp only[Rows.ls,Rows.cnt,vZ];omega
end
theorem Es {r:Option Str} (h:Bq r):(cJ r).length<=17:=by
 cases r with
 | none=>show ("?" : Str).length<=17; rw[kh.2.2.2.2.2.2.2.2.2.2.2.2.2.2]; decide
 | some x=>exact(h x rfl).le
theorem Km {α:Type} {f:α->List Str} {b:Nat} {l:List α} (h:∀a∈l,lw (f a)<=b):tw (l.map f)<=b*l.length:=by
 induction l with
 | nil=>simp[tw]
 | cons a l ih=>
  have h1:=h a aaz;have h2:=ih λx hx=>h x (aaA _ hx);rw[aaV,sW,aaC,Nat.mul_add,Nat.mul_one];omega
theorem VH {ps:List (Str×Option Str)} (h:∀q∈ps,QF q):lw (jE ps)<=36*ps.length:=by
 induction ps with
 | nil=>simp[jE,lw]
 | cons q ps ih=>
  have h1:=h q aaz;have h2:=ih λx hx=>h x (aaA _ hx);have h3:=Es h1.2;have h4:=Gn.le h1.1;rw[uU,gP,gP,aaC];omega
theorem QH {fs:List Fn} (h:∀f∈fs,sU f):(tw (dg fs):Int)<=300*fs.length+1500*(fs.map Fn.cost).sum/\((dg fs).length:Int)<=2*fs.length+3*(fs.map Fn.cost).sum/\0<=(fs.map Fn.cost).sum:=by
 induction fs with
 | nil=>simp[dg,tw]
 | cons f fs ih=>
  have hf:=h f aaz;obtain⟨i1,i2,i3⟩:=ih λx hx=>h x (aaA _ hx);have e0:dg (f::fs)=f.ls++dg fs:=by simp[dg]
  have h1:=VH hf.par;have h2:=hf.ok.par;have h3:=sX f.rows hf.ok.rows;have h4:=nC f.rows;have h5:=Gn.le hf.name;have h6:=Es hf.rank;have h7:=kh.2.2.2.2.2.2.2.2.2.2.2.2.2.1;obtain⟨t1,t2⟩:=Er;have c0:Fn.cost f=(f.rows.cnt:Int):=rfl;have e1:tw f.ls<=300+1500*f.rows.cnt:=by simp only[Fn.ls,sW,vZ,gP,uy,Kl,h7,kh.2.2.2.2.2.2.2.1];omega
  have e2:f.ls.length<=2+3*f.rows.cnt:=by simp only[Fn.ls,aaC,aaH,abS];omega
  rw[e0,vZ,aaH,aaV,List.sum_cons,aaC,c0];refine⟨by omega,by omega,by omega⟩
theorem Ko {T:Tl} (h:xH T):T.ok:=by
 have hf:=QH h.pg.fo;have hr:=sX T.rows h.pg.ro;have hl:=nC T.rows;have ct:=h.pg.ct;obtain⟨f1,f2,f3⟩:=hf;have a1:=h.nl;have a2:=h.pl;have a3:=h.pg.bl;have a4:=h.pg.gl;have a5:=h.pg.fl;have n1:lw T.names<=18*T.names.length:=v6.lw λx hx=>(h.no x hx).le;obtain⟨w1,w2,w3,w4,w5,w6,w7,w8,w9,w10,w11,w12,w13,w14,w15⟩:=kh;have p1:tw (T.pairs.map jb)<=42*T.pairs.length:=Km λq hq=>by have:=h.po q hq;simp only[jb,gP,uy,w10];have:=Gn.le this.1;have:=Gn.le (h.po q hq).2;omega
 have g1:tw (T.grants.map nY)<=58*T.grants.length:=Km λq hq=>by obtain⟨x1,x2,x3⟩:=h.pg.go q hq;have x1:=x1.le;have x2:=x2.le;have x3:=x3.le;simp only[nY,gP,uy,w11];omega
 have b1:tw (T.boxes.map Bx.l)<=60*T.boxes.length:=Km λb hb=>by
  have hb':=h.pg.bo b hb;have x1:=Gn.le hb'.name;have x2:=Es hb'.rank;have x3:=hb'.size;by_cases hz:b.size=0
  . have:b.l=[("box" : Str),b.name,cJ b.rank]:=acq hz;rw[this];simp only[gP,uy,w12];omega
  . have:b.l=[("list" : Str),b.name,toString (b.size:Int),cJ b.rank]:=acr hz;have x4:=(digit (z:=b.size) (by omega) x3).2.2;rw[this];simp only[gP,uy,w13,x4];omega
 refine⟨by omega,by omega,by omega,by omega,λb hb=>(h.pg.bo b hb).size,λf hf=>(h.pg.fo f hf).ok,by omega,h.pg.ro,by have:=h.pg.rd; omega,by omega,?_⟩;simp only[Tl.lines,vZ,zH,gP,w9,aaH,aaT,aaC,abS];omega
theorem Yk {α β:Type}:∀l:List (α×β),(l.map (·.1)).zip (l.map (·.2))=l
 | []=>rfl
 | x::l=>by rw[aaV,aaV,abD,Yk l]
theorem VJ (h1:fo O=some (o,O1)) (ho:o.pv=.ptr n) (hm:O1.mu[n]?=some (some (.lst ws0))) (h2:fv O1=some (y,O2)) (hy:y.pv=p) (hm2:O2.mu[n]?=some (some (.lst ws))) (hz:ws.length<100000) (e:O2.mu.set n (some (.lst (ws++[p])))=mu):kO fo fv O=some (.nx ⟨O2.vs,mu⟩):=by unfold kO;rw[h1,aay,ho];dsimp only;rw[hm];rw[h2,aay,hm2];dsimp only;rw[acq hz,hy,e]
theorem My (h:f O=some (.own p,O1)):jn f O=some (.sh (.ptr O1.mu.length),⟨O1.vs,O1.mu++[some p]⟩):=by unfold jn;rw[h];rfl
theorem Et (h1:fv O=some (y,O1)) (hy:y.pv=p) (h2:fo O1=some (x,O2)) (hx:x.pv=.ptr n) (hm:O2.mu[n]?=some (some (jB C l))) (hl:l.length<1000):Ac C f fo fv O=some (.nx ⟨O2.vs,O2.mu.set n (some (jB C (qY f p l)))⟩):=by unfold Ac;rw[h1,aay,h2,aay,hx];dsimp only;rw[hm];unfold jB;dsimp only;rw[acq ⟨rfl,by rw[aaT]; exact hl⟩,Yk,hy]
theorem QJ (h2:fo O=some (x,O1)) (hx:x.pv=.ptr n) (hm:O1.mu[n]?=some (some (jB C l))) (hp:qX l f=some p):oO C f fo O=some (.sh p,O1):=by unfold oO;rw[h2,aay,hx];dsimp only;rw[hm];unfold jB;dsimp only;rw[acq rfl,Yk,hp];rfl
theorem Ag (h1:fo O=some (x,O1)) (hx:x.pv=.ptr n) (hm:O1.mu[n]?=some (some (jB C l))) (hc:(l.map (·.1)).contains m=false) (h2:a O1=some (ls,O2)) (hps:ls.map Lc.pv=ps) (h3:g (.ptr n::ps) O2.mu=some (r,mu2)):eE C m g fo a O=some (r,⟨O2.vs,mu2⟩):=by unfold eE;rw[h1,aay,hx];dsimp only;rw[hm];unfold jB;dsimp only;rw[acq ⟨rfl,hc⟩,h2,aay,hps,h3];rfl
theorem VL (h:a O=some (ls,O1)) (hps:ls.map Lc.pv=ps) (h2:g (.ptr O1.mu.length::ps) (O1.mu++[some (jB C [])])=some (.sh .non,mu2)):Ad C g a O=some (.sh (.ptr O1.mu.length),⟨O1.vs,mu2⟩):=by unfold Ad;rw[h,aay,hps];rw[show g (.ptr O1.mu.length::ps) (O1.mu++[some (.obj C [] [])])=_ from h2];rfl
theorem qT {k:Nat} (h:xs[k]?=some p):eQ xs (k:Int)=some p:=by have hk:=(aaD.mp h).1;unfold eQ xR;rw[acq (by omega),acq (by omega)];exact h
theorem Eu (h:c O=some (true,O1)) (g:f O1=some (.nx O2)):mW (n+1) c f O=mW n c f O2:=by
 show jx c f (n+1) O=jx c f n O2
 conv=>lhs; unfold jx
 rw[h,aay];rw[acq rfl,g,aay]
theorem Ew (h:c O=some (false,O1)):mW (n+1) c f O=some (.nx O1):=by show jx c f (n+1) O=_;unfold jx;rw[h,aay];rfl
theorem Kq (h:f O=some (a,O)) (h2:a=false->g O=some (true,O)):dR f g O=some (true,O):=by
 cases a with
 | true=>unfold dR; rw[h]; rfl
 | false=>unfold dR; rw[h]; exact h2 rfl
def uz (k:Str) (c:Nat):Bool:=!(Builtin.Str.occurrences k ⟨#[c]⟩ 0 k.length 1).isEmpty
abbrev Um:Str := "abcdefghijklmnopqrstuvwxyz"
abbrev Dg:Str := "0123456789"
theorem lets (h1:97<=c) (h2:c<=122):uz Um c=true/\uz Dg c=false:=by
 have h:∀i:Fin 26,uz Um (97+i.val)=true/\uz Dg (97+i.val)=false:=by decide +kernel
 have:=h ⟨c-97,by omega⟩;rw[show 97+(c-97)=c from by omega]at this;exact this
theorem aaw (h1:48<=c) (h2:c<=57):uz Dg c=true:=by
 have h:∀i:Fin 10,uz Dg (48+i.val)=true:=by decide +kernel
 have:=h ⟨c-48,by omega⟩;rw[show 48+(c-48)=c from by omega]at this;exact this
def zJ (n:Int) (x:Str):Bool:=decide ((1:Int)<=x.length)&&decide ((x.length:Int)<=n)
theorem Br (hx:x.length<=100000):pF xW xW (eC (PV.int 1)) (eB du (aa (aj 0) ao)) (eC (PV.int n)) ⟨zT x::o,mu⟩=some (.sh (.bl (zJ n x)),⟨zT x::o,mu⟩):=by
 simp[pF,eC,eB,RJ,aa,ao,aj,Ev.set,Lc.pv,xW,xV,hx,zJ];by_cases h:(1:Int)<=x.length
 . simp[h]
 . simp[h]
theorem zK {α:Type} (f:α->Bool):∀cs:List α,boolsOf (cs.map λc=>.bl (f c))=some (cs.map f)
 | []=>rfl
 | c::cs=>by show (boolsOf (cs.map λc=>.bl (f c))).map _=_;rw[zK f cs];rfl
theorem all_map {α:Type} (f:α->Bool) (cs:List α):(cs.map f).all id=cs.all f:=by simp[List.all_map]
theorem Kr (hx:x.length<=100000):eB all1 (aa (cT (gj (aj 0) cX) 1 [] (aJ 0) bY (aC oY (aj 0) (aeP k))) ao) ⟨[zT x],mu⟩=some (.sh (.bl (x.cps.toList.all (uz k))),⟨[zT x],mu⟩):=by
 have comp:fY (aJ 0) bY (aC oY (aj 0) (aeP k)) (x.cps.toList.map λc=>.str ⟨#[c]⟩) ⟨[none],mu⟩ []=some (x.cps.toList.map λc=>.bl (uz k c),mu):=by
  have:=lJ (b:=aJ 0) (te:=aC oY (aj 0) (aeP k)) (λO=>∃o,O=⟨[o],mu⟩) (λO ⟨o,e⟩=>by rw[e]) (λp=>match p with | .str y=>.bl (uz k (y.cps.toList.getD 0 0)) | _=>.non)
   (xs:=x.cps.toList.map λc=>.str ⟨#[c]⟩) ⟨none,rfl⟩ (by rw[aaT,abm]; exact hx) ?_ ?_
  . rw[this,abn];rfl
  . rintro y hy O ⟨o,rfl⟩;obtain⟨c,_,rfl⟩:=aa0.mp hy;exact⟨_,rfl,_,_,rfl,rfl,_,rfl⟩
  . rintro y hy O O1 ⟨o,rfl⟩ h;cases h;exact⟨_,rfl⟩
 have e3:cT (gj (aj 0) cX) 1 [] (aJ 0) bY (aC oY (aj 0) (aeP k)) ⟨[zT x],mu⟩=some (.own (.lst (x.cps.toList.map λc=>.bl (uz k c))),⟨[zT x],mu⟩):=by show (fY (aJ 0) bY (aC oY (aj 0) (aeP k)) (x.cps.toList.map λc=>.str ⟨#[c]⟩) ⟨[none],mu⟩ []).map _=_;rw[comp];rfl
 unfold eB aa;rw[e3];show ((boolsOf (x.cps.toList.map λc=>.bl (uz k c))).map _).map _=_;rw[zK,abR,abR,all_map]
def nameB (x:Str):Bool:=zJ 8 x&&x.cps.toList.all (uz Um)
theorem Mz (hx:x.length<=100000):gA [.str x] mu=some (.sh (.bl (nameB x)),mu):=by
 refine aR (O:=⟨[zT x],mu⟩) (bO ?_);show rP _ _ (⟨[zT x],mu⟩:Ev)=_;unfold rP;rw[Br hx,aay];cases hl:zJ 8 x with
 | true=>
  show eB all1 _ _=_;rw[show (eC yZ)=aeP Um from rfl,Kr hx];simp[nameB,hl]
 | false=>simp[nameB,hl,Lc.pv]
theorem Gn.b (h:Gn x):nameB x=true:=by unfold nameB zJ;rw[acv (by have:=h.1; omega),acv (by have:=h.2.1; omega),List.all_eq_true.mpr λc hc=>(lets (h.2.2 c hc).1 (h.2.2 c hc).2).1];rfl
theorem Gn.name (h:Gn x):gA [.str x] mu=some (.sh (.bl true),mu):=by rw[Mz (by have:=h.le; omega),h.b]
theorem Gs (h2:x.length<=12) (h:x.cps.toList.all (uz Dg)=false):iD [.str x] mu=some (.sh (.bl false),mu):=by
 have t:dR (dH (tT (pF xW xW (aeO 1) (eB du (aa (aj 0) ao)) (aeO 12)) aW)) (dH (tT (eB all1 (aa (cT (gj (aj 0) cX) 1 [] (aJ 0) bY (aC oY (aj 0) (eC uM))) ao)) dq)) ⟨[zT x],mu⟩=some (true,⟨[zT x],mu⟩):=by have c1:=Br (x:=x) (o:=[]) (mu:=mu) (n:=12) (by omega);have c2:=Kr (k:=Dg) (x:=x) (mu:=mu) (by omega);rw[h]at c2;refine Kq (jA (cj c1 rfl rfl)) (λ_=>jA (cj (b:=false) c2 rfl rfl))
 exact aR (O:=⟨[zT x],mu⟩) (cW ((cZ t).trans rfl))
theorem Ot {x:Str} (e:x.cps.toList=c::r) (h2:x.length<=12) (h:∀c∈x.cps.toList,48<=c/\c<=57) (h0:x = "0" \/ c≠48):iD [.str x] mu=some (.sh (.bl true),mu):=by
 have hl:1<=x.length:=by show 1<=x.cps.size;rw[<-abm,e];simp
 have t:dR (dH (tT (pF xW xW (aeO 1) (eB du (aa (aj 0) ao)) (aeO 12)) aW)) (dH (tT (eB all1 (aa (cT (gj (aj 0) cX) 1 [] (aJ 0) bY (aC oY (aj 0) (eC uM))) ao)) dq)) ⟨[zT x],mu⟩=some (false,⟨[zT x],mu⟩):=by have c1:=Br (x:=x) (o:=[]) (mu:=mu) (n:=12) (by omega);have c2:=Kr (k:=Dg) (x:=x) (mu:=mu) (by omega);rw[List.all_eq_true.mpr λc hc=>aaw (h c hc).1 (h c hc).2]at c2;rw[show zJ 12 x=true from by unfold zJ; rw[acv (by omega),acv (by omega)]; rfl]at c1;exact kJ (jA (b:=true) (cj c1 rfl rfl)) (jA (b:=true) (cj c2 rfl rfl))
 refine aR (O:=⟨[zT x],mu⟩) (aB ((bI t).trans rfl) (bO ?_));have q:aC eqP (aj 0) (aeP "0") ⟨[zT x],mu⟩=some (.sh (.bl (x == "0")),⟨[zT x],mu⟩):=rfl;unfold Ig;rw[q,aay];by_cases hx:x = "0"
 . rw[beq_iff_eq.mpr hx];rfl
 . rw[acw.mpr hx];have hc:=h0.resolve_left hx;refine bC (x:=.sh (.str ⟨#[c]⟩)) (y:=.sh (.str "0")) (O1:=⟨[zT x],mu⟩) (fV (p:=.str x) (q:=.int 0) rfl rfl rfl rfl (λn h=>by cases h) ?_) rfl ?_
   . show (if x.length<=100000 then (eQ x.cps.toList 0).map (λc=>Lc.sh (.str ⟨#[c]⟩)) else none)=_;rw[acq (by omega),e,show eQ (c::r) 0=some c from qT rfl];rfl
   . show some (Lc.sh (.bl (!((⟨#[c]⟩:Str) == "0"))))=_;have:((⟨#[c]⟩:Str) == "0")=false:=acw.mpr λq=>hc (by have:=congrArg (λz:Str=>z.cps.toList) q;have this:[c]=[48]:=this;simpa using this)
     rw[this];rfl
theorem VM:∀m:Nat,0<m->∃ch r,Nat.toDigits 10 m=ch::r/\ch.toNat≠48:=by
 intro m;induction m using Nat.strongRecOn with
 | _ m ih=>
  intro h0;by_cases h:m<10
  . rw[Nat.toDigits_of_lt_base h];have:∀i:Fin 10,0<i.val->(Nat.digitChar i.val).toNat≠48:=by decide
    exact⟨_,_,rfl,this ⟨m,h⟩ h0⟩
  . have hm:m%10<10:=Nat.mod_lt m (by decide);have t:Nat.toDigits 10 (m/10)++Nat.toDigits 10 (m%10)=Nat.toDigits 10 (10*(m/10)+m%10):=Nat.toDigits_append_toDigits (by decide) (by omega) hm;rw[Nat.div_add_mod]at t;obtain⟨ch,r,e,hc⟩:=ih (m/10) (by omega) (by omega);rw[<-t,e];exact⟨ch,_,rfl,hc⟩
theorem Ah (h0:0<=v) (h1:v<1000000000000):∃c r,(toString v:Str).cps.toList=c::r/\(toString v:Str).length<=12/\(∀c∈(toString v:Str).cps.toList,48<=c/\c<=57)/\((toString v:Str) = "0" \/ c≠48)/\PySem.intText? (toString v:Str)=some v:=by
 obtain⟨m,rfl⟩:=Int.eq_ofNat_of_zero_le h0;have es:=W.KIN.signs_num m;have hd:PySem.NumText.AllDigits (PySem.Str.ofString (toString ((m:Nat):Int))).cps.toList:=by intro c hc;rw[es]at hc;obtain⟨ch,hch,e⟩:=aa0.mp hc;have r:=PyProof.Rows.digit_range (Nat.isDigit_of_mem_toDigits (by decide) (by decide) hch);rw[<-e];exact r
 have hl:(PySem.Str.ofString (toString ((m:Nat):Int))).length<=12:=by show (PySem.Str.ofString (toString ((m:Nat):Int))).cps.size<=12;rw[<-abm,es,aaT];exact PySem.toDigits_len_pow (by decide) (by decide) (by omega)
 have hne:(PySem.Str.ofString (toString ((m:Nat):Int))).cps.toList≠[]:=by rw[es];intro e;have h:=PySem.toDigits_len_ge 10 m;rw[List.map_eq_nil_iff.mp e]at h;exact absurd h (by decide)
 have ev:=PySem.intText_digits hd hne (aaX hl (by decide));rw[es,W.KIN.val_back]at ev;by_cases hm:m=0
 . subst hm;exact⟨48,[],by decide +kernel,hl,hd,.inl (by decide +kernel),ev⟩
 . obtain⟨ch,r,e,hc⟩:=VM m (by omega);refine⟨ch.toNat,r.map Char.toNat,?_,hl,hd,.inr hc,ev⟩;rw[es,e];rfl
theorem MF:∀{a b x y:List Nat},c∉a->c∉b->a++c::x=b++c::y->a=b/\x=y
 | [],[],x,y,_,_,h=>by simpa using h
 | [],b::bs,x,y,_,hb,h=>by simp only[abH,abk,List.cons.injEq]at h;exact(hb (by rw[h.1]; exact aaz)).elim
 | a::as,[],x,y,ha,_,h=>by simp only[abH,abk,List.cons.injEq]at h;exact(ha (by rw[h.1]; exact aaz)).elim
 | a::as,b::bs,x,y,ha,hb,h=>by simp only[abk,List.cons.injEq]at h;obtain⟨e1,e2⟩:=MF (λq=>ha (aaA _ q)) (λq=>hb (aaA _ q)) h.2;exact⟨by rw[h.1,e1],e2⟩
theorem MJ {a b:Str} (h:a.cps.toList=b.cps.toList):a=b:=Str.ext' (Array.toList_inj.mp h)
theorem uA (c:Nat) (a b:Str) (r:List Str):(Str.join ⟨#[c]⟩ (a::b::r)).cps.toList=a.cps.toList++c::(Str.join ⟨#[c]⟩ (b::r)).cps.toList:=by show (a++⟨#[c]⟩++Str.join ⟨#[c]⟩ (b::r)).cps.toList=_;rw[Em,Em];simp
theorem Ks:∀{as bs:List Str},as≠[]->bs≠[]->(∀a∈as,c∉a.cps.toList)->(∀b∈bs,c∉b.cps.toList)->Str.join ⟨#[c]⟩ as=Str.join ⟨#[c]⟩ bs->as=bs
 | [],_,h,_,_,_,_=>(h rfl).elim
 | _::_,[],_,h,_,_,_=>(h rfl).elim
 | [a],[b],_,_,_,_,h=>by have h:a=b:=h;rw[h]
 | [a],b::b2::r,_,_,ha,_,h=>by have h:a=Str.join ⟨#[c]⟩ (b::b2::r):=h;have:=ha a aaz;rw[h,uA]at this;exact(this (by simp)).elim
 | a::a2::r,[b],_,_,_,hb,h=>by have h:Str.join ⟨#[c]⟩ (a::a2::r)=b:=h;have:=hb b aaz;rw[<-h,uA]at this;exact(this (by simp)).elim
 | a::a2::r,b::b2::s,_,_,ha,hb,h=>by have e:=congrArg (λz:Str=>z.cps.toList) h;rw[uA,uA]at e;obtain⟨e1,e2⟩:=MF (ha a aaz) (hb b aaz) e;have:=Ks (List.cons_ne_nil _ _) (List.cons_ne_nil _ _) (λz hz=>ha z (aaA _ hz)) (λz hz=>hb z (aaA _ hz)) (MJ e2);rw[MJ e1,this]
theorem Dh (h0:ws≠[]) (h:∀a∈ws,c∉a.cps.toList):Txt.split (Txt.join ⟨#[c]⟩ ws) ⟨#[c]⟩=ws:=by
 have e:Txt.join ⟨#[c]⟩ ws=Str.join ⟨#[c]⟩ ws:=StrLaws.glued_eq_join _ _;have j:=StrLaws.join_split (Txt.join ⟨#[c]⟩ ws) ⟨#[c]⟩;have f:=StrLaws.split_free (Txt.join ⟨#[c]⟩ ws) c;refine Ks (λq=>?_) h0 (λa ha=>f a ha) h (j.trans e);unfold Txt.split at q;split at q
 . cases q
 . split at q
   . cases q
   . rw[StrLaws.partsBetween_eq]at q;obtain⟨p,r,e⟩:=StrLaws.partsFrom_ne (Txt.join ⟨#[c]⟩ ws) (⟨#[c]⟩:Str).length 0 (Builtin.Str.occurrences (Txt.join ⟨#[c]⟩ ws) ⟨#[c]⟩ 0 (Txt.join ⟨#[c]⟩ ws).length ((Txt.join ⟨#[c]⟩ ws).length+1));rw[e]at q;cases q
theorem MK {k:Nat} (hk:0<k) (h:k<=xs.length) (e:xs[xs.length-k]?=some p):eQ xs (-(k:Int))=some p:=by unfold eQ xR;rw[acr (by omega),acq (by omega)];rw[show ((-(k:Int))+(xs.length:Int)).toNat=xs.length-k from by omega];exact e
theorem Zj {b a:PV}:eQ (qs++[b,a]) (-1)=some a:=MK (by decide) (by simp) (by rw[aaH,aaW (by simp)];simp)
theorem Zk {b a:PV}:eQ (qs++[b,a]) (-2)=some b:=MK (by decide) (by simp) (by rw[aaH,aaW (by simp)];simp)
theorem Yl:pD (qs++[b,a]) none (some (-2))=qs:=by
 unfold pD HT.sIx;dsimp only;rw[acq (by decide),List.drop_zero,aaH];have e:((-2:Int)+((qs.length+[b,a].length:Nat):Int)).toNat-0=qs.length:=by show ((-2:Int)+((qs.length+2:Nat):Int)).toNat-0=qs.length;omega
 rw[e];exact List.take_left' rfl
theorem Ey:∀ys:List Str,wK (gB 150) (.str x) (ys.map .str)=some (ys.any λy=>y==x)
 | []=>rfl
 | y::ys=>by show ((gB 150 (.str y) (.str x)).bind λb=>(wK (gB 150) (.str x) (ys.map .str)).map λc=>b||c)=_;rw[Ey ys];rfl
theorem Di {ys:List Str}:oY (.str x) (.tup (ys.map .str))=zS (.bl (ys.any λy=>y==x)):=by show (wK (gB 150) (.str x) (ys.map .str)).map _=_;rw[Ey];rfl
theorem VN {ys:List Str}:N5 (.str x) (.tup (ys.map .str))=zS (.bl (!(ys.any λy=>y==x))):=by show (wK (gB 150) (.str x) (ys.map .str)).map _=_;rw[Ey];rfl
theorem Gn.head (h:Gn x):∃c r,x.cps.toList=c::r/\Lw c:=by
 cases e:x.cps.toList with
 | nil=>
  have:=h.1;have h2:x.length=0:=by show x.cps.size=0; rw[<-abm,e]; rfl
  omega
 | cons c r=>exact⟨c,r,rfl,h.2.2 c (by rw[e]; exact aaz)⟩
theorem Gn.ne (h:Gn x) (hy:y.cps.toList.all (λc=>decide (97<=c))=false):(x==y)=false:=acw.mpr λe=>by subst e;rw[List.all_eq_true.mpr λc hc=>acv (h.2.2 c hc).1]at hy;cases hy
theorem Gn.notin (h:Gn x):(eF.any λy=>y==x)=false:=by
 rw[List.any_eq_false];intro y hy;have:∀y∈eF,y.cps.toList.all (λc=>decide (97<=c))=false:=by decide +kernel
 have e:=h.ne (this y hy);intro q;rw[beq_iff_eq.mp q,acx]at e;cases e
theorem Gn.nonum (h:Gn x):iD [.str x] mu=some (.sh (.bl false),mu):=Gs (by have:=h.2.1; omega) (by obtain⟨c,r,e,hc⟩:=h.head;rw[e,List.all_cons,(lets hc.1 hc.2).2];rfl)
abbrev P2 (w:Str) (n:Nat) (mu:Mu):Ev:=⟨[zT w,zS (.ptr n)],mu⟩
theorem SN (h0:0<=v) (h1:v<1000000000000):fC [.str (toString v),.ptr n] mu=some (.sh (aV.num v).pv,mu):=by obtain⟨c,r,e,hl,hd,hz,hv⟩:=Ah h0 h1;have hn:=Ot (mu:=mu) e hl hd hz;have t:tT (az iD (aa (aj 0) ao)) dq (P2 (toString v) n mu)=some (true,P2 (toString v) n mu):=cj (aL rfl rfl rfl rfl hn) rfl rfl;refine aR (O:=P2 (toString v) n mu) (cW ((cZ t).trans (bO ?_)));refine eY (ls:=[.sh (.str "num"),.sh (.int v)]) (aH rfl (aH (uZ rfl rfl ?_) rfl)) rfl rfl;show (if (toString v:Str).length<=640 then (PySem.intText? (toString v:Str)).map λn=>Lc.sh (.int n) else none)=_;rw[acq (by omega),hv];rfl
theorem QK (h:iD [.str w] mu=some (.sh (.bl false),mu)):tT (az iD (aa (aj 0) ao)) dq (P2 w n mu)=some (false,P2 w n mu):=cj (aL rfl rfl rfl rfl h) rfl rfl
theorem Ku (h:Gn x):fC [.str x,.ptr n] mu=some (.sh (aV.box x).pv,mu):=by have t:tT (az gA (aa (aj 0) ao)) dq (P2 x n mu)=some (true,P2 x n mu):=cj (aL rfl rfl rfl rfl h.name) rfl rfl;exact aR (O:=P2 x n mu) (aB ((bI (QK h.nonum)).trans rfl) (cW ((cZ t).trans rfl)))
theorem MN (hn:w.length<=12) (h1:w.cps.toList.all (uz Dg)=false) (h2:nameB w=false) (hm:mu[n]?=some (some (.lst (qs++[b,a])))) (hg:g (P2 w n mu)=R):(aF (bT (tT (az iD (aa (aj 0) ao)) dq)
 (bB (bQ (aa (aeP "num") (aa (eB Hm (aa (aj 0) ao)) ao))))
 bM)
 (aF (bT (tT (az gA (aa (aj 0) ao)) dq)
 (bB (bQ (aa (aeP "box") (aa (aj 0) ao))))
 bM)
 (aF (bT (tT (aC jX (N8 (aj 1)) (aeO 2)) aW)
 (bB (eC .non))
 bM) g))) (P2 w n mu)=R:=by
 have t:tT (az gA (aa (aj 0) ao)) dq (P2 w n mu)=some (false,P2 w n mu):=cj (aL (ps:=[.str w]) (O1:=P2 w n mu) rfl rfl rfl rfl (by rw[Mz (by omega),h2])) rfl rfl;have t2:tT (aC jX (N8 (aj 1)) (aeO 2)) aW (P2 w n mu)=some (false,P2 w n mu):=by
  refine cj (l:=.sh (.bl false)) (bC (x:=.sh (.int ((qs++[b,a]).length:Nat))) ?_ rfl ?_) rfl rfl
  . show (match mu[n]? with | some (some (.lst ws))=>some (Lc.sh (.int (ws.length:Nat)),P2 w n mu) | _=>none)=_;rw[hm]
  . show some (Lc.sh (.bl (decide (((qs++[b,a]).length:Int)<2))))=_;rw[acu (by simp; omega)]
 exact aB ((bI (QK (Gs hn h1))).trans rfl) (aB ((bI t).trans rfl) (aB ((bI t2).trans rfl) hg))
theorem Uo (hm:mu[n]?=some (some (.lst (qs++[b,a])))):aG (aj 1) (qD (aeO 1)) (P2 w n mu)=some (.sh a,P2 w n mu):=pG rfl rfl rfl rfl hm Zj
theorem Up (hm:mu[n]?=some (some (.lst (qs++[b,a])))):aG (aj 1) (qD (aeO 2)) (P2 w n mu)=some (.sh b,P2 w n mu):=pG rfl rfl rfl rfl hm Zk
theorem VP (hm:mu[n]?=some (some (.lst (qs++[e.pv,(aV.box x).pv])))):fC [.str "@",.ptr n] mu=some (.sh (aV.at x e).pv,mu):=by
 refine aR (O:=P2 "@" n mu) (MN (by decide +kernel) (by decide +kernel) (by decide +kernel) hm ?_);have i1:=Uo (w := "@") hm;have t:iy (tT (aC eqP (aj 0) (aeP "@")) aW) (tT (aC eqP (aG (aG (aj 1) (qD (aeO 1))) (aeO 0)) (aeP "box")) aW) (P2 "@" n mu)=some (true,P2 "@" n mu):=
  vP (oW (a := "@") rfl (by decide +kernel)) (oW (a := "box") (fV i1 rfl rfl rfl (λn h=>by cases h) rfl) (by decide +kernel))
 refine cW ((cZ t).trans (bO ?_));exact eY (aH rfl (aH (fV i1 rfl rfl rfl (λn h=>by cases h) rfl) (aH (Up hm) rfl))) rfl rfl
theorem VV (hs:Sg s) (hm:mu[n]?=some (some (.lst (qs++[b.pv,a.pv])))):fC [.str s,.ptr n] mu=some (.sh (aV.sg s a b).pv,mu):=by
 have hk:s.length<=12/\s.cps.toList.all (uz Dg)=false/\nameB s=false/\(s == "@")=false/\(eF.any λy=>y==s)=true:=by rcases hs with rfl | rfl | rfl | rfl | rfl<;>decide +kernel
 obtain⟨k1,k2,k3,k4,k5⟩:=hk;refine aR (O:=P2 s n mu) (MN k1 k2 k3 hm ?_);have t:iy (tT (aC eqP (aj 0) (aeP "@")) aW) (tT (aC eqP (aG (aG (aj 1) (qD (aeO 1))) (aeO 0)) (aeP "box")) aW) (P2 s n mu)=some (false,P2 s n mu):=
  LC (gU rfl k4) (λh=>by cases h) (λ_=>⟨rfl,rfl⟩)
 have t2:tT (aC oY (aj 0) (eC (.tup (eF.map .str)))) aW (P2 s n mu)=some (true,P2 s n mu):=cj (l:=.sh (.bl true)) (bC rfl rfl (by rw[<-k5]; exact Di)) rfl rfl;refine aB ((bI t).trans rfl) (cW ((cZ t2).trans (bO ?_)));exact eY (aH rfl (aH (Uo hm) (aH (Up hm) rfl))) rfl rfl
abbrev zM:SF:=(aF (Cp 1 (tV 1 (aM 3 (az fC (aa (aj 2) (aa (aj 1) ao))))))
 (aF (bT (tT (aC qy (aj 3) (eC .non)) aW)
 (bB (eC .non))
 bM)
 (aF (bT (dR (tT (aC eqP (aj 2) (aeP "@")) aW) (tT (aC oY (aj 2) (eC (.tup (eF.map .str)))) aW))
 (aM 1 (uJ (fH (aj 1) d9 (cD (qD (aeO 2))))))
 bM)
 (cY 1 (aj 3)))))
abbrev X4 (A:Option Lc) (ps:List PV) (o2 o3:Option Lc) (mu:Mu):Ev:=⟨[A,zO ps,o2,o3],mu⟩
def Ym (w:Str):Bool:=(w == "@")||eF.any λy=>y==w
theorem MP (h:fC [.str w,.ptr mu.length] (mu++[some (.lst ps)])=some (.sh (.tup r),mu++[some (.lst ps)])):
 Cp 1 (tV 1 (aM 3 (az fC (aa (aj 2) (aa (aj 1) ao))))) (X4 A ps (zT w) o3 mu)=some (.nx (X4 A ps (zT w) (zS (.tup r)) (mu++[none]))):=by
 have a0:aa (aj 2) (aa (aj 1) ao) (⟨[A,zS (.ptr mu.length),zT w,o3],mu++[some (.lst ps)]⟩:Ev)=some ([.sh (.str w),.sh (.ptr mu.length)],⟨[A,zS (.ptr mu.length),zT w,o3],mu++[some (.lst ps)]⟩):=rfl;have hc:=aL a0 rfl rfl rfl h;have e:aM 3 (az fC (aa (aj 2) (aa (aj 1) ao))) ⟨[A,zS (.ptr mu.length),zT w,o3],mu++[some (.lst ps)]⟩=some (.nx ⟨[A,zS (.ptr mu.length),zT w,zS (.tup r)],mu++[some (.lst ps)]⟩):=
  bK hc rfl rfl
 have hs:sealV 1 (X4 A ps (zT w) o3 mu)=some ⟨[A,zS (.ptr mu.length),zT w,o3],mu++[some (.lst ps)]⟩:=rfl;have ho:openV 1 ⟨[A,zS (.ptr mu.length),zT w,zS (.tup r)],mu++[some (.lst ps)]⟩=some (X4 A ps (zT w) (zS (.tup r)) (mu++[none])):=by
  have hg:(mu++[some (PV.lst ps)])[mu.length]?=some (some (.lst ps)):=by rw[aaW (aaE _),abV]; rfl
  unfold openV;dsimp only[List.getElem?_cons_succ,List.getElem?_cons_zero];rw[hg];have:(mu++[some (PV.lst ps)]).set mu.length none=mu++[none]:=by simp
  rw[this];rfl
 unfold Cp tV;rw[hs,aay,e,aay];dsimp only;rw[ho];rfl
theorem Bs (h:fC [.str w,.ptr mu.length] (mu++[some (.lst ps)])=some (.sh (.tup r),mu++[some (.lst ps)])) (h1:(w == "@")=false) (h2:(eF.any λy=>y==w)=false) (hz:ps.length<1000):
 zM (X4 A ps (zT w) o3 mu)=some (.nx (X4 A (ps++[.tup r]) (zT w) (zS (.tup r)) (mu++[none]))):=by
 refine aB (MP h) (aB rfl ?_);have t2:tT (aC oY (aj 2) (eC (.tup (eF.map .str)))) aW (X4 A ps (zT w) (zS (.tup r)) (mu++[none]))=some (false,X4 A ps (zT w) (zS (.tup r)) (mu++[none])):=cj (l:=.sh (.bl false)) (bC rfl rfl (by rw[<-h2]; exact Di)) rfl rfl;refine aB ((bI (kJ (gU rfl h1) t2)).trans rfl) ?_;exact fL rfl rfl rfl rfl (by omega) rfl
theorem Kv (h:fC [.str w,.ptr mu.length] (mu++[some (.lst (qs++[b,a]))])=some (.sh (.tup r),mu++[some (.lst (qs++[b,a]))])) (h1:Ym w=true) (hf:jz qs=true) (hz:qs.length<1000):
 zM (X4 A (qs++[b,a]) (zT w) o3 mu)=some (.nx (X4 A (qs++[.tup r]) (zT w) (zS (.tup r)) (mu++[none]))):=by
 refine aB (MP h) (aB rfl ?_);let E:=X4 A (qs++[b,a]) (zT w) (zS (.tup r)) (mu++[none]);have t:dR (tT (aC eqP (aj 2) (aeP "@")) aW) (tT (aC oY (aj 2) (eC (.tup (eF.map .str)))) aW) E=some (true,E):=by
  refine Kq (Cm (bC rfl rfl rfl) rfl) λq=>?_;have h2:(eF.any λy=>y==w)=true:=by unfold Ym at h1;rw[q]at h1;exact h1
  exact cj (l:=.sh (.bl true)) (bC rfl rfl (by rw[<-h2]; exact Di)) rfl rfl
 have sl:uJ (fH (aj 1) d9 (cD (qD (aeO 2)))) E=some (.own (.lst qs),E):=by refine RT (O1:=E.peek) ?_ hf;show some (Lc.own (.lst (pD (qs++[b,a]) none (some (-2)))),E.peek)=_;rw[Yl]
 refine aB ((cZ t).trans (bK sl rfl rfl)) ?_;exact fL rfl rfl rfl rfl (by omega) rfl
theorem xJ:∀e:aV,iB e.pv=true
 | .num v=>rfl
 | .box x=>rfl
 | .at x e=>by show (true&&(true&&(iB e.pv&&true)))=true;rw[xJ e]; rfl
 | .sg s a b=>by show (true&&(iB a.pv&&(iB b.pv&&true)))=true;rw[xJ a,xJ b]; rfl
theorem xK:∀{ps qs:List PV},jz ps=true->jz qs=true->jz (ps++qs)=true
 | [],qs,_,h=>h
 | p::ps,qs,h1,h2=>by have h1:(iB p&&jz ps)=true:=h1;rw[abX]at h1;show (iB p&&jz (ps++qs))=true;rw[h1.1,xK h1.2 h2]; rfl
theorem Kw (e:aV):jz [e.pv]=true:=by show (iB e.pv&&true)=true;rw[xJ e]; rfl
abbrev ss (ws:List Str):List PV:=ws.map .str
theorem v7 {rest:List PV} (h:zM (X4 A ps (zT w) o3 mu)=some (.nx O)) (h2:dz (aJ 2) zM rest O=R):dz (aJ 2) zM (.str w::rest) (X4 A ps o2 o3 mu)=R:=fP rfl h h2
theorem Uq {rest:List PV} (h:mu=mu2):dz (aJ 2) zM rest (X4 A ps o2 o3 mu)=dz (aJ 2) zM rest (X4 A ps o2 o3 mu2):=by rw[h]
theorem Dj:∀(e:aV) (rest:List PV) (ps:List PV) (o2 o3:Option Lc) (mu:Mu),e.ok->jz ps=true->ps.length+e.ws.length<1000->
 ∃p2 p3 k,dz (aJ 2) zM (ss e.ws.reverse++rest) (X4 A ps o2 o3 mu)=dz (aJ 2) zM rest (X4 A (ps++[e.pv]) p2 p3 (mu++List.replicate k none))
 | .num v,rest,ps,o2,o3,mu,ok,hf,hl=>by
  have hp:=SN (n:=mu.length) (mu:=mu++[some (.lst ps)]) ok.1 ok.2;obtain⟨c,r,e,hl',hd,hz,hv⟩:=Ah ok.1 ok.2;have nn:∀y:Str,y.cps.toList.all (λc=>decide (48<=c/\c<=57))=false->((toString v:Str)==y)=false:=λy hy=>acw.mpr λq=>by rw[q]at hd;rw[List.all_eq_true.mpr λc hc=>acv (hd c hc)]at hy;cases hy
  have hnot:(eF.any λy=>y==(toString v:Str))=false:=by
   rw[List.any_eq_false];intro y hy q;have:∀y∈eF,y.cps.toList.all (λc=>decide (48<=c/\c<=57))=false:=by decide +kernel
   have e:=nn y (this y hy);rw[beq_iff_eq.mp q,acx]at e;cases e
  have tu:=Bs (A:=A) (o3:=o3) hp (nn _ (by decide +kernel)) hnot (by omega);exact⟨_,_,1,v7 tu rfl⟩
 | .box x,rest,ps,o2,o3,mu,ok,hf,hl=>by have tu:=Bs (A:=A) (o3:=o3) (ps:=ps) (mu:=mu) (Ku ok) (ok.ne (by decide +kernel)) ok.notin (by omega);exact⟨_,_,1,v7 tu rfl⟩
 | .at x e,rest,ps,o2,o3,mu,ok,hf,hl=>by
  simp only[aV.ws,aaC]at hl;obtain⟨gx,ok⟩:Gn x/\e.ok:=ok;obtain⟨p2,p3,k,ih⟩:=Dj e (.str x::.str "@" :: rest) ps o2 o3 mu ok hf (by omega);have w:ss (aV.at x e).ws.reverse++rest=ss e.ws.reverse++(.str x::.str "@" :: rest):=by simp[aV.ws]
  rw[w];have h1:=Bs (A:=A) (ps:=ps++[e.pv]) (mu:=mu++List.replicate k none) (o3:=p3) (Ku gx) (gx.ne (by decide +kernel)) gx.notin (by simp; omega);have e1:ps++[e.pv]++[PV.tup [.str "box",.str x]]=ps++[e.pv,(aV.box x).pv]:=by rw[aaZ]; rfl
  rw[e1]at h1;have hg:∀m:Mu,(m++[some (PV.lst (ps++[e.pv,(aV.box x).pv]))])[m.length]?=some (some (PV.lst (ps++[e.pv,(aV.box x).pv]))):=λm=>by rw[aaW (aaE _),abV]; rfl
  have h2:=Kv (A:=A) (w := "@") (mu:=mu++List.replicate k none++[none]) (o3:=some (.sh (.tup [.str "box",.str x]))) (VP (hg _)) (by decide +kernel) hf (by omega);exact⟨_,_,k+2,ih.trans (v7 h1 (v7 h2 (Uq (by rw[List.replicate_succ',List.replicate_succ'];simp))))⟩
 | .sg s a b,rest,ps,o2,o3,mu,ok,hf,hl=>by
  simp only[aV.ws,aaC,aaH]at hl;have oka:=ok.2.1;have okb:=ok.2.2;have w:ss (aV.sg s a b).ws.reverse++rest=ss b.ws.reverse++(ss a.ws.reverse++(.str s::rest)):=by simp[aV.ws]
  rw[w];obtain⟨p2,p3,k,ih⟩:=Dj b (ss a.ws.reverse++(.str s::rest)) ps o2 o3 mu okb hf (by omega);obtain⟨q2,q3,j,ih2⟩:=Dj a (.str s::rest) (ps++[b.pv]) p2 p3 (mu++List.replicate k none) oka (xK hf (Kw b)) (by simp; omega);have hs:Ym s=true:=by rcases ok.1 with rfl | rfl | rfl | rfl | rfl<;>decide +kernel
  have hg:∀m:Mu,(m++[some (PV.lst (ps++[b.pv,a.pv]))])[m.length]?=some (some (PV.lst (ps++[b.pv,a.pv]))):=λm=>by rw[aaW (aaE _),abV]; rfl
  have h2:=Kv (A:=A) (mu:=mu++List.replicate k none++List.replicate j none) (o3:=q3) (VV ok.1 (hg _)) hs hf (by omega);have e1:ps++[b.pv]++[a.pv]=ps++[b.pv,a.pv]:=by rw[aaZ]; rfl
  rw[e1]at ih2;exact⟨_,_,k+j+1,ih.trans (ih2.trans (v7 h2 (Uq (by rw[List.replicate_succ',aaZ mu,List.replicate_append_replicate];simp))))⟩
theorem MT:∀(es:List aV) (rest:List PV) (ps:List PV) (o2 o3:Option Lc) (mu:Mu),(∀e∈es,e.ok)->jz ps=true->ps.length+(fZ es).length<1000->
 ∃p2 p3 k,dz (aJ 2) zM (ss (fZ es).reverse++rest) (X4 A ps o2 o3 mu)=dz (aJ 2) zM rest (X4 A (ps++(es.map aV.pv).reverse) p2 p3 (mu++List.replicate k none))
 | [],rest,ps,o2,o3,mu,ok,hf,hl=>⟨o2,o3,0,by simp[fZ]⟩
 | e::es,rest,ps,o2,o3,mu,ok,hf,hl=>by
  rw[nA,aaH]at hl;have w:ss (fZ (e::es)).reverse++rest=ss (fZ es).reverse++(ss e.ws.reverse++rest):=by rw[nA]; simp
  have pl:es.length<=(fZ es).length:=by
   clear ok hf hl w;induction es with
   | nil=>simp
   | cons e es ih=>
    have:=Mm e;rw[nA,aaH,aaC];omega
  have fl:jz (es.map aV.pv).reverse=true:=by
   clear ok hf hl w pl;induction es with
   | nil=>rfl
   | cons e es ih=>
    rw[aaV,List.reverse_cons];exact xK ih (Kw e)
  rw[w];obtain⟨p2,p3,k,ih⟩:=MT es (ss e.ws.reverse++rest) ps o2 o3 mu (λx hx=>ok x (aaA _ hx)) hf (by omega);obtain⟨q2,q3,j,ih2⟩:=Dj e rest (ps++(es.map aV.pv).reverse) p2 p3 (mu++List.replicate k none) (ok e aaz) (xK hf fl) (by simp; omega);refine⟨q2,q3,k+j,(ih.trans ih2).trans ?_⟩;rw[aaZ mu,List.replicate_append_replicate,aaZ ps,aaV,List.reverse_cons]
theorem QL (ok:∀e∈es,e.ok) (hl:(fZ es).length<1000):∃k,j0 [wl (fZ es)] mu=some (.own (.lst (es.map aV.pv)),mu++List.replicate k none):=by obtain⟨p2,p3,k,h⟩:=MT es [] [] none none mu ok rfl (by simpa using hl);refine⟨k,aR (O:=⟨[zS (wl (fZ es)),zS (.lst (es.map aV.pv).reverse),p2,p3],mu++List.replicate k none⟩) ?_⟩;refine aB rfl ?_;have it:Oa (aj 0) (X4 (zS (wl (fZ es))) [] none none mu)=some ((ss (fZ es)).reverse,X4 (zS (wl (fZ es))) [] none none mu):=rfl;rw[aa1,abH,show ss (fZ es).reverse=(ss (fZ es)).reverse from List.map_reverse]at h;refine aB ((gf it).trans h) (bO ?_);show some (Lc.own (.lst (es.map aV.pv).reverse.reverse),_)=_;rw[List.reverse_reverse];rfl
def LN (L:List (List Str)) (p:Nat):PV:=jB "Lines" [("lines",.lst (ll L)),("at",.int (p:Int))]
def wd (L:List (List Str)) (p:Nat):List Str:=(L[p]?).getD [""]
abbrev A1 (a:Nat) (mu:Mu):Ev:=⟨[zS (.ptr a)],mu⟩
section
variable {L:List (List Str)} {p a:Nat} {mu:Mu}
theorem Ky (hm:mu[a]?=some (some (LN L p))):oO "Lines" "at" (aj 0) ⟨zS (.ptr a)::vs,mu⟩=some (.sh (.int (p:Int)),⟨zS (.ptr a)::vs,mu⟩):=QJ rfl rfl hm rfl
theorem Gu (hm:mu[a]?=some (some (LN L p))):oO "Lines" "lines" (aj 0) ⟨zS (.ptr a)::vs,mu⟩=some (.sh (.lst (ll L)),⟨zS (.ptr a)::vs,mu⟩):=QJ rfl rfl hm rfl
theorem Ou (hm:mu[a]?=some (some (LN L p))):tT (aC jX (oO "Lines" "at" (aj 0)) (eB du (aa (oO "Lines" "lines" (aj 0)) ao))) aW (A1 a mu)=some (decide (p<L.length),A1 a mu):=by
 refine cj (l:=.sh (.bl (decide (p<L.length)))) (bC (y:=.sh (.int (L.length:Nat))) (Ky hm) (uZ (aH (Gu hm) rfl) rfl ?_) ?_) rfl rfl
 . show some (Lc.sh (.int ((ll L).length:Nat)))=_;rw[aaT]
 . show some (Lc.sh (.bl (decide ((p:Int)<(L.length:Int)))))=_;congr 3;simp
theorem SQ (hm:mu[a]?=some (some (LN L p))):cO [.ptr a] mu=some (.own (wl (wd L p)),mu):=by
 by_cases h:p<L.length
 . have e:=aaK h;refine aR (O:=A1 a mu) (cW ((cZ ((Ou hm).trans (by rw[acv h]))).trans (bO ?_)));unfold wd;rw[e];refine uZ (ls:=[.sh (wl L[p])]) (aH (fV (Gu hm) rfl (Ky hm) rfl (λn h=>by cases h) ?_) rfl) rfl rfl;show (eQ (ll L) (p:Int)).map _=_;rw[qT (by rw[aa2,e]; rfl)];rfl
 . have e:L[p]?=none:=abw (by omega);unfold wd;rw[e];exact aR (O:=A1 a mu) (aB ((bI ((Ou hm).trans (by rw[acu h]))).trans rfl) rfl)
theorem SX (hm:mu[a]?=some (some (LN L p))):fB [.ptr a] mu=some (.sh .non,mu.set a (some (LN L (p+1)))):=by have h:=Et (C := "Lines") (f := "at") (fo:=aj 0) (fv:=aC aY (oO "Lines" "at" (aj 0)) (aeO 1)) (bC (O1:=A1 a mu) (Ky hm) rfl rfl) rfl rfl rfl hm (by simp);exact vO (O:=A1 a (mu.set a (some (LN L (p+1))))) h
theorem nO (hm:mu[a]?=some (some (LN L p))):eE "Lines" "words" cO (aj 0) ao ⟨zS (.ptr a)::vs,mu⟩=some (.own (wl (wd L p)),⟨zS (.ptr a)::vs,mu⟩):=Ag (C := "Lines") (m := "words") (O2:=⟨zS (.ptr a)::vs,mu⟩) rfl rfl hm (by simp only[aaV]; decide +kernel) rfl rfl (SQ hm)
theorem v8 (hm:mu[a]?=some (some (LN L p))):jG (eE "Lines" "go_on" fB (aj 0) ao) ⟨zS (.ptr a)::vs,mu⟩=some (.nx ⟨zS (.ptr a)::vs,mu.set a (some (LN L (p+1)))⟩):=Aa (Ag (C := "Lines") (m := "go_on") (O2:=⟨zS (.ptr a)::vs,mu⟩) rfl rfl hm (by simp only[aaV]; decide +kernel) rfl rfl (SX hm))
theorem V0 {w:Str} (hw:w = "else" \/ w = "end") (hm:mu[a]?=some (some (LN L p))) (hl:wd L p=[w]):lZ [.ptr a,.str w] mu=some (.sh .non,mu.set a (some (LN L (p+1)))):=by
 let E:Ev:=⟨[zS (.ptr a),zT w],mu⟩;have t:tT (aC gC (eE "Lines" "words" cO (aj 0) ao) (aP (aa (aj 1) ao))) aW E=some (false,E):=by have:=nO (vs:=[zT w]) hm;rw[hl]at this;refine cj (l:=.sh (.bl false)) (bC this rfl ?_) rfl rfl;rcases hw with rfl | rfl<;>rfl
 exact vO (aB ((bI t).trans rfl) (v8 hm))
theorem V1 (hm:mu[a]?=some (some (LN L p))) (hp:p=L.length):iR [.ptr a] mu=some (.sh .non,mu):=
 vO (O:=A1 a mu) ((bI ((Ou hm).trans (by rw[acu (by omega)]))).trans rfl)
end
theorem Kz {N:Nat} (h:f O=some (l,O1)) (hl:l.pv=wl ws) (hg:∀x∈ws,g [.str x] O1.mu=some (.sh (.bl true),O1.mu)) (hn:ws.length<=1000):eB all1 (aa (cT (gj f cX) 1 [] (aJ 0) bY (az g (aa (aj 0) ao))) ao) O=some (.sh (.bl true),O1):=by
 have comp:fY (aJ 0) bY (az g (aa (aj 0) ao)) (ws.map .str) ⟨[none],O1.mu⟩ []=some ((ws.map PV.str).map λ_=>.bl true,O1.mu):=by
  refine lJ (λO=>∃o,O=⟨[o],O1.mu⟩) (λO ⟨o,e⟩=>by rw[e]) (λ_=>.bl true) ⟨none,rfl⟩ (by simp; omega) ?_ ?_
  . rintro x hx O ⟨o,rfl⟩;obtain⟨w,hw',rfl⟩:=aa0.mp hx;exact⟨⟨[zT w],O1.mu⟩,rfl,.sh (.bl true),⟨[zT w],O1.mu⟩,aL rfl rfl rfl rfl (hg w hw'),rfl,_,rfl⟩
  . rintro x hx O O2 ⟨o,rfl⟩ h;cases h;exact⟨_,rfl⟩
 have ec:=gG (m:=1) (ixs:=[]) (rM (g:=cX) h (by rw[hl]; rfl)) comp;refine uZ (aH ec rfl) rfl ?_;show (boolsOf ((ws.map PV.str).map λ_=>.bl true)).map _=_;rw[zK (λ_=>true)];simp
theorem uB (h:∀x∈ws,Gn x) (hn:ws.length<=1000):dZ [wl ws] mu=some (.sh (.bl true),mu):=
 aR (bO (Kz (N:=0) (O1:=⟨[zS (wl ws)],mu⟩) rfl rfl (λx hx=>(h x hx).name) hn))
theorem Ez (h:Bq r):lK [.str (cJ r)] mu=some (.sh (.bl true),mu):=by
 let E:Ev:=⟨[zT (cJ r)],mu⟩;refine aR (O:=E) (bO ?_);show Ig _ _ E=_;unfold Ig;cases r with
 | none=>rfl
 | some x=>
  have e:aC eqP (aj 0) (aeP "?") E=some (.sh (.bl (x == "?")),E):=rfl;rw[e,(h x rfl).ne (by decide +kernel),aay];exact aL rfl rfl rfl rfl (h x rfl).name
theorem uC (h:Bq r):fU [.str (cJ r)] mu=some (.sh (eZ r),mu):=by
 cases r with
 | none=>rfl
 | some x=>
  let E:Ev:=⟨[zT x],mu⟩;have t:tT (aC eqP (aj 0) (aeP "?")) aW E=some (false,E):=gU rfl ((h x rfl).ne (by decide +kernel));refine aR (O:=E) (bO ?_);show Lj _ _ _ E=_;unfold Lj;rw[t];rfl
theorem Ur (h:(decide (1<=x.length)&&decide (x.length<=8)&&x.cps.toList.all λc=>decide (97<=c)&&decide (c<=122))=true):Gn x:=by simp only[abX,decide_eq_true_eq,List.all_eq_true]at h;exact⟨h.1.1,h.1.2,h.2⟩
abbrev W1 (ws:List Str) (mu:Mu):Ev:=⟨[zS (wl ws)],mu⟩
theorem Bt {k:Nat} (h:ws[k]?=some x):aG (aj 0) (eC (.int (k:Int))) ⟨zS (wl ws)::vs,mu⟩=some (.sh (.str x),⟨zS (wl ws)::vs,mu⟩):=fV rfl rfl rfl rfl (λn h=>by cases h) (by show (eQ (ws.map PV.str) (k:Int)).map _=_;rw[qT (by rw[aa2,h]; rfl)];rfl)
theorem vC (h:ws[0]?=some x) (hb:(!(x==y))=b):tT (aC gC (aG (aj 0) (aeO 0)) (aeP y)) aW ⟨zS (wl ws)::vs,mu⟩=some (b,⟨zS (wl ws)::vs,mu⟩):=
 cj (l:=.sh (.bl b)) (bC (Bt h) rfl (by rw[<-hb]; rfl)) rfl rfl
theorem w_eq (h:ws[0]?=some x) (hb:(x==y)=b):tT (aC eqP (aG (aj 0) (aeO 0)) (aeP y)) aW ⟨zS (wl ws)::vs,mu⟩=some (b,⟨zS (wl ws)::vs,mu⟩):=
 cj (l:=.sh (.bl b)) (bC (Bt h) rfl (by rw[<-hb]; rfl)) rfl rfl
theorem Ov (h:f O=some (true,O)):dR f g O=some (true,O):=Kq h λe=>by cases e
theorem Ow (h:f O=some (false,O)):iy f g O=some (false,O):=LC h (λh=>by cases h) λ_=>⟨rfl,rfl⟩
theorem V2 (h:Yg q):j7 [wl (jb q)] mu=some (.sh (j4 q),mu):=by
 let E:=W1 (jb q) mu;have hn:∀x∈jb q,Gn x:=by
  intro x hx;simp only[jb,aaI,abo,or_false]at hx;rcases hx with rfl | rfl | rfl
  . exact Ur (by decide +kernel)
  . exact h.1
  . exact h.2
 have t1:tT (aC gC (aG (aj 0) (aeO 0)) (aeP "under")) aW E=some (false,E):=vC (x := "under") rfl (by decide +kernel);have t2:tT (aC gC (eB du (aa (aj 0) ao)) (aeO 3)) aW E=some (false,E):=rfl;have t3:dH (tT (az dZ (aa (aj 0) ao)) dq) E=some (false,E):=jA (b:=true) (cj (aL rfl rfl rfl rfl (uB hn (by simp[jb]))) rfl rfl);exact aR (O:=E) (aB ((bI (kJ t1 (kJ t2 t3))).trans rfl) rfl)
theorem S5 (h:Uk q):jC [wl (nY q)] mu=some (.sh (mj q),mu):=by
 let E:=W1 (nY q) mu;have hn:∀x∈nY q,Gn x:=by
  intro x hx;simp only[nY,aaI,abo,or_false]at hx;rcases hx with rfl | rfl | rfl | rfl
  . exact Ur (by decide +kernel)
  . exact h.1
  . exact h.2.1
  . exact h.2.2
 have t1:tT (aC gC (aG (aj 0) (aeO 0)) (aeP "may")) aW E=some (false,E):=vC (x := "may") rfl (by decide +kernel);have t2:tT (aC gC (eB du (aa (aj 0) ao)) (aeO 4)) aW E=some (false,E):=rfl;have t3:dH (tT (az dZ (aa (aj 0) ao)) dq) E=some (false,E):=jA (b:=true) (cj (aL rfl rfl rfl rfl (uB hn (by simp[nY]))) rfl rfl);exact aR (O:=E) (aB ((bI (kJ t1 (kJ t2 t3))).trans rfl) rfl)
theorem V3 {x:Str} (h:ws[0]?=some x) (hx:(x == "under")=false):j7 [wl ws] mu=some (.sh .non,mu):=
 aR (O:=W1 ws mu) (cW ((cZ (Ov (vC h (by rw[hx]; rfl)))).trans rfl))
theorem S6 {x:Str} (h:ws[0]?=some x) (hx:(x == "may")=false):jC [wl ws] mu=some (.sh .non,mu):=
 aR (O:=W1 ws mu) (cW ((cZ (Ov (vC h (by rw[hx]; rfl)))).trans rfl))
theorem Yn {x:Str} (h:ws[0]?=some x) (hx:(x == "box")=false) (hy:(x == "list")=false):lM [wl ws] mu=some (.sh .non,mu):=
 aR (O:=W1 ws mu) (aB ((bI (Ow (w_eq h hx))).trans rfl) (cW ((cZ (Ov (vC h (by rw[hy]; rfl)))).trans rfl)))
theorem QM {z:Nat} (h1:1<=z) (h2:z<=8):(m9.any λy=>y==(toString (z:Int):Str))=true/\(toString (z:Int):Str).length<=640/\PySem.intText? (toString (z:Int):Str)=some (z:Int):=by
 obtain⟨c,r,_,hl,_,_,hv⟩:=Ah (v:=(z:Int)) (by omega) (by omega);have hz:z=1\/z=2\/z=3\/z=4\/z=5\/z=6\/z=7\/z=8:=by omega
 rcases hz with rfl | rfl | rfl | rfl | rfl | rfl | rfl | rfl<;>decide +kernel
theorem Yo {b:Bx} {mu:Mu} (h:Om b):lM [wl b.l] mu=some (.sh b.pv,mu):=by
 have rt:=uC (mu:=mu) h.rank;have ri:=Ez (mu:=mu) h.rank;have hn:=h.name.name (mu:=mu);by_cases hz:b.size=0
 . have hl:b.l=[("box" : Str),b.name,cJ b.rank]:=acq hz;rw[hl];let E:=W1 [("box" : Str),b.name,cJ b.rank] mu;have t1:tT (aC eqP (aG (aj 0) (aeO 0)) (aeP "box")) aW E=some (true,E):=w_eq (x := "box") rfl (by decide +kernel);have t2:tT (aC eqP (eB du (aa (aj 0) ao)) (aeO 3)) aW E=some (true,E):=rfl;have t3:tT (az gA (aa (aG (aj 0) (aeO 1)) ao)) dq E=some (true,E):=cj (l:=.sh (.bl true)) (aL (ps:=[.str b.name]) (ls:=[.sh (.str b.name)]) (O1:=E) rfl rfl rfl rfl hn) rfl rfl;have t4:tT (az lK (aa (aG (aj 0) (aeO 2)) ao)) dq E=some (true,E):=cj (l:=.sh (.bl true)) (aL (ps:=[.str (cJ b.rank)]) (ls:=[.sh (.str (cJ b.rank))]) (O1:=E) rfl rfl rfl rfl ri) rfl rfl;refine aR (O:=E) (cW ((cZ (vP (b:=true) t1 (vP (b:=true) t2 (vP (b:=true) t3 t4)))).trans (bO ?_)));refine(eY (ls:=[.sh (.str b.name),.sh (.int 0),.sh (eZ b.rank)]) (O1:=E) (aH (O1:=E) rfl (aH (O1:=E) rfl (aH (aL (ps:=[.str (cJ b.rank)]) (ls:=[.sh (.str (cJ b.rank))]) (O1:=E) rfl rfl rfl rfl rt) rfl))) rfl rfl).trans ?_;unfold Bx.pv;rw[hz];rfl
 . have hl:b.l=[("list" : Str),b.name,toString (b.size:Int),cJ b.rank]:=acr hz;rw[hl];obtain⟨z1,z2,z3⟩:=QM (z:=b.size) (by omega) h.size;let E:=W1 [("list" : Str),b.name,toString (b.size:Int),cJ b.rank] mu;have t0:tT (aC eqP (aG (aj 0) (aeO 0)) (aeP "box")) aW E=some (false,E):=w_eq (x := "list") rfl (by decide +kernel);have t1:tT (aC gC (aG (aj 0) (aeO 0)) (aeP "list")) aW E=some (false,E):=vC (x := "list") rfl (by decide +kernel);have t2:tT (aC gC (eB du (aa (aj 0) ao)) (aeO 4)) aW E=some (false,E):=rfl;have t5:tT (aC N5 (aG (aj 0) (aeO 2)) (eC (.tup (m9.map .str)))) aW E=some (false,E):=cj (l:=.sh (.bl false)) (bC (x:=.sh (.str (toString (b.size:Int)))) (y:=.sh (.tup (m9.map .str))) (O1:=E) rfl rfl (by rw[show (false:Bool)=!(m9.any λy=>y==(toString (b.size:Int):Str)) from by rw[z1]; rfl]; exact VN)) rfl rfl;have t3:dH (tT (az gA (aa (aG (aj 0) (aeO 1)) ao)) dq) E=some (false,E):=jA (b:=true) (cj (l:=.sh (.bl true)) (aL (ps:=[.str b.name]) (ls:=[.sh (.str b.name)]) (O1:=E) rfl rfl rfl rfl hn) rfl rfl);have t4:dH (tT (az lK (aa (aG (aj 0) (aeO 3)) ao)) dq) E=some (false,E):=jA (b:=true) (cj (l:=.sh (.bl true)) (aL (ps:=[.str (cJ b.rank)]) (ls:=[.sh (.str (cJ b.rank))]) (O1:=E) rfl rfl rfl rfl ri) rfl rfl);refine aR (O:=E) (aB (O':=E) ((bI (Ow t0)).trans rfl) (aB (O':=E) ((bI (kJ (b:=false) t1 (kJ (b:=false) t2 t5))).trans rfl) (aB (O':=E) ((bI (kJ (b:=false) t3 t4)).trans rfl) (bO ?_))));refine eY (ls:=[.sh (.str b.name),.sh (.int (b.size:Int)),.sh (eZ b.rank)]) (O1:=E) (aH (O1:=E) rfl (aH (O1:=E) (uZ (ls:=[.sh (.str (toString (b.size:Int)))]) (ps:=[.str (toString (b.size:Int))]) (O1:=E) rfl rfl ?_) (aH (aL (ps:=[.str (cJ b.rank)]) (ls:=[.sh (.str (cJ b.rank))]) (O1:=E) rfl rfl rfl rfl rt) rfl))) rfl rfl;show (if (toString (b.size:Int):Str).length<=640 then (PySem.intText? (toString (b.size:Int):Str)).map λn=>Lc.sh (.int n) else none)=_;rw[acq z2,z3];rfl
theorem Yp (hn:n=(ps.length:Int)+1):pD (x::(ps++qs)) (some 1) (some n)=ps:=by
 subst hn;unfold pD HT.sIx;dsimp only;rw[acr (by omega),acr (by omega)];have h1:min (1:Int).toNat (x::(ps++qs)).length=1:=by simp
 have h2:min ((ps.length:Int)+1).toNat (x::(ps++qs)).length=ps.length+1:=by simp<;>omega
 rw[h1,h2,List.drop_succ_cons,List.drop_zero,Nat.add_sub_cancel];exact List.take_left' rfl
theorem KD (hn:n=(ps.length:Int)+1):pD (x::(ps++qs)) (some n) none=qs:=by
 subst hn;unfold pD HT.sIx;dsimp only;rw[acr (by omega)];have h2:min ((ps.length:Int)+1).toNat (x::(ps++qs)).length=ps.length+1:=by simp<;>omega
 rw[h2,List.drop_succ_cons,List.drop_left' rfl];exact ab2 (by simp<;>omega)
theorem Dk {lo hi:OF} (h1:f O=some (l,O1)) (hl:l.pv=.lst z) (h2:lo O1=some (a,O2)) (h3:hi O2=some (b,O3)):fH f lo hi O=some (.own (.lst (pD z a b)),O3):=by unfold fH;rw[h1,aay];rw[h2,aay];rw[h3,aay,hl]
theorem or3 (h1:f O=some (false,O)) (h2:g O=some (false,O1)) (h3:h O1=some (false,O2)):dR f (dR g h) O=some (false,O2):=by
 have e:dR g h O=some (false,O2):=by unfold dR;rw[h2,aay];exact h3
 show (f O).bind _=_;rw[h1,aay];exact e
theorem Yq (h:ws[0]?=some x) (hx:dW.lookup x=none):iG [wl ws] mu=some (.sh .non,mu):=by
 let E:Ev:=⟨[zS (wl ws),none,none,none],mu⟩;have t:tT (aC (Mj false "ROW_NAMES" dW) (aG (aj 0) (aeO 0)) (eC (.fn "ROW_NAMES"))) aW E=some (true,E):=by refine cj (l:=.sh (.bl true)) (bC (Bt h) rfl ?_) rfl rfl;show (if ("ROW_NAMES" : Str) = "ROW_NAMES" then some (Lc.sh (.bl ((dW.lookup x).isSome==false))) else none)=_;rw[acq rfl,hx];rfl
 exact aR (O:=E) (cW ((cZ t).trans rfl))
theorem v9 (hk:dW.lookup k=some m) (hn:(nms.length:Int)=m) (gn:∀x∈nms,Gn x) (ok:∀e∈es,e.ok) (hl:(fZ es).length<900) (he:(k == "call")=true\/((k == "call")=false/\fO.lookup k=some (es.length:Int)))
 (hr:∀mu:Mu,Bo [.str k,wl nms,.lst (es.map aV.pv)] mu=some (.sh p,mu)) (hm:nms.length<=10):∃j,iG [wl (k::(nms++fZ es))] mu=some (.sh p,mu++List.replicate j none):=by
 obtain⟨j,hj⟩:=QL ok (by omega);refine⟨j,?_⟩;let ws:=k::(nms++fZ es);let E:Option Lc->Option Lc->Option Lc->Mu->Ev:=λa b c mu=>⟨[zS (wl ws),a,b,c],mu⟩;let st:Option Lc:=zI (1+m);let ex:PV:=.lst (es.map aV.pv);let mu':=mu++List.replicate j none;have t:tT (aC (Mj false "ROW_NAMES" dW) (aG (aj 0) (aeO 0)) (eC (.fn "ROW_NAMES"))) aW (E none none none mu)=some (false,E none none none mu):=by refine cj (l:=.sh (.bl false)) (bC (Bt rfl) rfl ?_) rfl rfl;show (if ("ROW_NAMES" : Str) = "ROW_NAMES" then some (Lc.sh (.bl ((dW.lookup k).isSome==false))) else none)=_;rw[acq rfl,hk];rfl
 have s1:aM 1 (aC aY (aeO 1) (aC (Jm "ROW_NAMES" dW) (eC (.fn "ROW_NAMES")) (aG (aj 0) (aeO 0)))) (E none none none mu)=some (.nx (E st none none mu)):=by refine bK (bC (y:=.sh (.int m)) rfl (bC rfl (Bt rfl) ?_) rfl) rfl rfl;show (if ("ROW_NAMES" : Str) = "ROW_NAMES" then (dW.lookup k).map λn=>Lc.sh (.int n) else none)=_;rw[acq rfl,hk];rfl
 have ew:wl ws=.lst (.str k::(nms.map .str++(fZ es).map .str)):=by simp[ws]
 have s2:aM 2 (fH (aj 0) (cD (aeO 1)) (cD (aj 1))) (E st none none mu)=some (.nx (E st (some (.own (wl nms))) none mu)):=by refine bK (O1:=E st none none mu) ?_ rfl rfl;refine(Dk (l:=.sh (wl ws)) (O3:=E st none none mu) rfl ew rfl rfl).trans ?_;rw[Yp (by rw[aaT]; omega)]
 have sl:fH (aj 0) (cD (aj 1)) d9 (E st (some (.own (wl nms))) none mu)=some (.own (wl (fZ es)),E st (some (.own (wl nms))) none mu):=by refine(Dk (l:=.sh (wl ws)) (O3:=E st (some (.own (wl nms))) none mu) rfl ew rfl rfl).trans ?_;rw[KD (by rw[aaT]; omega)]
 have s3:aM 3 (az j0 (aa (fH (aj 0) (cD (aj 1)) d9) ao)) (E st (some (.own (wl nms))) none mu)=some (.nx (E st (some (.own (wl nms))) (some (.own ex)) mu')):=
  bK (aL (aH sl rfl) rfl rfl rfl hj) rfl rfl
 let F:=E st (some (.own (wl nms))) (some (.own ex)) mu';let G:=E st (zS (wl nms)) (some (.own ex)) mu';let G2:=E st (zS (wl nms)) (zS ex) mu';have t1:tT (aC jX (eB du (aa (aj 0) ao)) (aj 1)) aW F=some (false,F):=by refine cj (l:=.sh (.bl false)) (bC rfl rfl ?_) rfl rfl;show some (Lc.sh (.bl (decide (((ws.map PV.str).length:Int)<1+m))))=_;rw[acu (by simp[ws]; omega)]
 have t2:dH (tT (az dZ (aa (aj 2) ao)) dq) F=some (false,G):=jA (b:=true) (cj (aL rfl rfl rfl rfl (uB gn (by omega))) rfl rfl);have t3:tT (aC qy (aj 3) (eC .non)) aW G=some (false,G2):=rfl;have tt:dR (tT (aC jX (eB du (aa (aj 0) ao)) (aj 1)) aW) (dR (dH (tT (az dZ (aa (aj 2) ao)) dq)) (tT (aC qy (aj 3) (eC .non)) aW)) F=some (false,G2):=or3 t1 t2 t3
 have t4:iy (tT (aC gC (aG (aj 0) (aeO 0)) (aeP "call")) aW) (tT (aC gC (eB du (aa (aj 3) ao)) (aC (Jm "ROW_EXPRESSIONS" fO) (eC (.fn "ROW_EXPRESSIONS")) (aG (aj 0) (aeO 0)))) aW) G2=some (false,G2):=by
  rcases he with hc | ⟨hc,he⟩
  . exact Ow (vC rfl (by rw[hc]; rfl))
  . refine vP (b:=true) (vC rfl (by rw[hc]; rfl)) ?_;refine cj (l:=.sh (.bl false)) (bC (y:=.sh (.int (es.length:Int))) rfl (bC rfl (Bt rfl) ?_) ?_) rfl rfl
    . show (if ("ROW_EXPRESSIONS" : Str) = "ROW_EXPRESSIONS" then (fO.lookup k).map λn=>Lc.sh (.int n) else none)=_;rw[acq rfl,he];rfl
    . show some (Lc.sh (.bl (!(((es.map aV.pv).length:Int)==(es.length:Int)))))=_;rw[aaT,acx];rfl
 refine aR (O:=G2) (aB ((bI t).trans rfl) (aB s1 (aB s2 (aB s3 (aB ((bI tt).trans rfl) (aB ((bI t4).trans rfl) (bO ?_)))))));exact aL (aH (Bt rfl) rfl) rfl rfl rfl (hr mu')
def Row.p0:Row->PV
 | .ifr e _ _=>.tup [.str "if",e.pv]
 | .wh e _=>.tup [.str "while",e.pv]
 | r=>r.pv
theorem pA:fZ [e]=e.ws:=by simp[fZ]
theorem M3:fZ [e,f]=e.ws++f.ws:=by simp[fZ]
theorem KH:∀r:Row,r.ok->∃j,iG [wl r.hd] mu=some (.sh r.p0,mu++List.replicate j none)
 | .set x e,ok=>by have l1:=ok.2.2.2;obtain⟨j,h⟩:=v9 (k := "set") (m:=1) (p:=(Row.set x e).p0) (by decide +kernel) rfl (λy hy=>by rw[abx.mp hy]; exact ok.1) (λy hy=>by rw[abx.mp hy]; exact ok.2.1) (by rw[pA]; omega) (.inr ⟨by decide +kernel,rfl⟩) (λmu=>by simp only[Row.p0]; rfl) (by simp);rw[pA]at h;exact⟨j,h⟩
 | .put x e f,ok=>by
  have l1:=ok.2.1.2.2;have l2:=ok.2.2.2.2;obtain⟨j,h⟩:=v9 (k := "put") (m:=1) (es:=[e,f]) (p:=(Row.put x e f).p0) (by decide +kernel) rfl (λy hy=>by rw[abx.mp hy]; exact ok.1) (λy hy=>by
   simp only[aaI,abo,or_false]at hy;rcases hy with rfl | rfl
   . exact ok.2.1.1
   . exact ok.2.2.1) (by rw[M3,aaH]; omega) (.inr ⟨by decide +kernel,rfl⟩) (λmu=>by simp only[Row.p0]; rfl) (by simp)
  rw[M3]at h;exact⟨j,h⟩
 | .out x e w,ok=>by
  have l1:=ok.2.2.2.2;obtain⟨j,h⟩:=v9 (k := "out") (m:=2) (nms:=[x,w]) (p:=(Row.out x e w).p0) (by decide +kernel) rfl (λy hy=>by
   simp only[aaI,abo,or_false]at hy;rcases hy with rfl | rfl
   . exact ok.1
   . exact ok.2.1) (λy hy=>by rw[abx.mp hy]; exact ok.2.2.1) (by rw[pA]; omega) (.inr ⟨by decide +kernel,rfl⟩) (λmu=>by simp only[Row.p0]; rfl) (by simp)
  rw[pA]at h;exact⟨j,h⟩
 | .call x f es,ok=>by
  have l1:=Vw ok.2.2.2;have l2:=ok.2.2.1;exact v9 (k := "call") (m:=2) (nms:=[x,f]) (by decide +kernel) rfl (λy hy=>by
   simp only[aaI,abo,or_false]at hy;rcases hy with rfl | rfl
   . exact ok.1
   . exact ok.2.1) (λy hy=>(ok.2.2.2 y hy).1) (by omega) (.inl (by decide +kernel)) (λmu=>by simp only[Row.p0]; rfl) (by simp)
 | .ifr e a b,ok=>by have l1:=ok.1.2.2;obtain⟨j,h⟩:=v9 (k := "if") (nms:=[]) (p:=(Row.ifr e a b).p0) (by decide +kernel) rfl (λy hy=>by cases hy) (λy hy=>by rw[abx.mp hy]; exact ok.1.1) (by rw[pA]; omega) (.inr ⟨by decide +kernel,rfl⟩) (λmu=>by simp only[Row.p0]; rfl) (by simp);rw[pA]at h;exact⟨j,h⟩
 | .wh e a,ok=>by have l1:=ok.1.2.2;obtain⟨j,h⟩:=v9 (k := "while") (nms:=[]) (p:=(Row.wh e a).p0) (by decide +kernel) rfl (λy hy=>by cases hy) (λy hy=>by rw[abx.mp hy]; exact ok.1.1) (by rw[pA]; omega) (.inr ⟨by decide +kernel,rfl⟩) (λmu=>by simp only[Row.p0]; rfl) (by simp);rw[pA]at h;exact⟨j,h⟩
theorem Av {xs:List PV} {lo:Option Int} (hn:xs.length=n) (h:sliceRange (sliceBounds lo none (some 2) n).1 (sliceBounds lo none (some 2) n).2.1 (sliceBounds lo none (some 2) n).2.2=l):pk xs lo none (some 2)=l.filterMap λi=>xs[i]?:=by unfold pk;rw[hn,h]
theorem pk1 {d n r:PV}:∀ps:List (Str×Option Str),ps.length<=4->pk (d::n::r::(jE ps).map .str) (some 1) none (some 2)=n::ps.map (λq=>.str q.1)/\pk (d::n::r::(jE ps).map .str) (some 2) none (some 2)=r::ps.map (λq=>.str (cJ q.2))
 | [],_=>⟨(Av (n:=3) (l:=[1]) rfl (by decide)).trans rfl,(Av (n:=3) (l:=[2]) rfl (by decide)).trans rfl⟩
 | [a0],_=>⟨(Av (n:=5) (l:=[1,3]) rfl (by decide)).trans rfl,(Av (n:=5) (l:=[2,4]) rfl (by decide)).trans rfl⟩
 | [a0,a1],_=>⟨(Av (n:=7) (l:=[1,3,5]) rfl (by decide)).trans rfl,(Av (n:=7) (l:=[2,4,6]) rfl (by decide)).trans rfl⟩
 | [a0,a1,a2],_=>⟨(Av (n:=9) (l:=[1,3,5,7]) rfl (by decide)).trans rfl,(Av (n:=9) (l:=[2,4,6,8]) rfl (by decide)).trans rfl⟩
 | [a0,a1,a2,a3],_=>⟨(Av (n:=11) (l:=[1,3,5,7,9]) rfl (by decide)).trans rfl,(Av (n:=11) (l:=[2,4,6,8,10]) rfl (by decide)).trans rfl⟩
 | a::b::c::d::e::r,h=>absurd h (by simp)
theorem Dl {lo hi st:OF} (h1:f O=some (l,O1)) (hl:l.pv=.lst ps) (h2:lo O1=some (a,O2)) (h3:hi O2=some (b,O3)) (h4:st O3=some (some n,O4)) (hn:0<n):wW f lo hi st O=some (.own (.lst (pk ps a b (some n))),O4):=by unfold wW;rw[h1,aay,h2,aay,h3,aay,h4,aay,hl];show (if some n≠some 0 then _ else _)=_;rw[acq (by intro q; injection q with q; omega)]
abbrev H4 (ws:List Str) (a b c:Option Lc) (mu:Mu):Ev:=⟨[zS (wl ws),a,b,c],mu⟩
theorem V4 {x:Str} (h:ws[0]?=some x) (hx:(x == "def")=false):iC [wl ws] mu=some (.sh .non,mu):=by let n1:Option Lc:=zO (pk (ws.map .str) (some 1) none (some 2));let n2:Option Lc:=zO (pk (ws.map .str) (some 2) none (some 2));have s1:aM 1 (wW (aj 0) (cD (aeO 1)) d9 (cD (aeO 2))) (H4 ws none none none mu)=some (.nx (H4 ws n1 none none mu)):=bK (Dl rfl rfl rfl rfl rfl (by decide)) rfl rfl;have s2:aM 2 (wW (aj 0) (cD (aeO 2)) d9 (cD (aeO 2))) (H4 ws n1 none none mu)=some (.nx (H4 ws n1 n2 none mu)):=bK (Dl rfl rfl rfl rfl rfl (by decide)) rfl rfl;exact aR (O:=H4 ws n1 n2 none mu) (aB s1 (aB s2 (cW ((cZ (Ov (vC h (by rw[hx]; rfl)))).trans rfl))))
theorem S7:pD (x::l) (some 1) none=l:=KD (ps:=[]) rfl
theorem V5 (hf:sU f):iC [wl ("def" :: f.name::cJ f.rank::jE f.params)] mu=some (.sh (.tup [.str f.name,eZ f.rank,.ptr mu.length]),mu++[some (.lst (f.params.map jf))]):=by
 let ws:List Str := "def" :: f.name::cJ f.rank::jE f.params;obtain⟨k1,k2⟩:=pk1 f.params hf.ok.par;let na:List Str:=f.name::f.params.map (·.1);let ra:List Str:=cJ f.rank::f.params.map (λq=>cJ q.2);have en:(PV.str f.name::f.params.map (λq=>PV.str q.1))=na.map .str:=by simp[na]
 have er:(PV.str (cJ f.rank)::f.params.map (λq=>PV.str (cJ q.2)))=ra.map .str:=by simp[ra]
 rw[en]at k1;rw[er]at k2;have s1:aM 1 (wW (aj 0) (cD (aeO 1)) d9 (cD (aeO 2))) (H4 ws none none none mu)=some (.nx (H4 ws (some (.own (wl na))) none none mu)):=by refine bK (O1:=H4 ws none none none mu) ((Dl rfl rfl rfl rfl rfl (by decide)).trans ?_) rfl rfl;exact congrArg (λl=>some (Lc.own (.lst l),H4 ws none none none mu)) k1
 have s2:aM 2 (wW (aj 0) (cD (aeO 2)) d9 (cD (aeO 2))) (H4 ws (some (.own (wl na))) none none mu)=some (.nx (H4 ws (some (.own (wl na))) (some (.own (wl ra))) none mu)):=by refine bK (O1:=H4 ws (some (.own (wl na))) none none mu) ((Dl rfl rfl rfl rfl rfl (by decide)).trans ?_) rfl rfl;exact congrArg (λl=>some (Lc.own (.lst l),H4 ws (some (.own (wl na))) none none mu)) k2
 let F:=H4 ws (some (.own (wl na))) (some (.own (wl ra))) none mu;let G:=H4 ws (zS (wl na)) (some (.own (wl ra))) none mu;let G2:=H4 ws (zS (wl na)) (zS (wl ra)) none mu;have t1:tT (aC gC (aG (aj 0) (aeO 0)) (aeP "def")) aW F=some (false,F):=vC (x := "def") rfl (by decide +kernel);have t2:dH (tT (aj 1) dq) F=some (false,G):=rfl;have t3:tT (aC gC (eB du (aa (aj 1) ao)) (eB du (aa (aj 2) ao))) aW G=some (false,G2):=by
  refine cj (l:=.sh (.bl false)) (bC rfl rfl ?_) rfl rfl;show some (Lc.sh (.bl (!(((na.map PV.str).length:Int)==((ra.map PV.str).length:Int)))))=_;have:(na.map PV.str).length=(ra.map PV.str).length:=by simp[na,ra]
  rw[this,acx];rfl
 have tt:dR (tT (aC gC (aG (aj 0) (aeO 0)) (aeP "def")) aW) (dR (dH (tT (aj 1) dq)) (tT (aC gC (eB du (aa (aj 1) ao)) (eB du (aa (aj 2) ao))) aW)) F=some (false,G2):=or3 t1 t2 t3
 have pl:=hf.ok.par;have u1:dH (tT (az dZ (aa (aj 1) ao)) dq) G2=some (false,G2):=jA (b:=true) (cj (aL rfl rfl rfl rfl (uB (λx hx=>by
  rcases aaI.mp hx with rfl | hx
  . exact hf.name
  . obtain⟨q,hq,rfl⟩:=aa0.mp hx;exact(hf.par q hq).1) (by simp[na]; omega))) rfl rfl)
 have u2:dH (tT (eB all1 (aa (cT (gj (aj 2) cX) 1 [] (aJ 0) bY (az lK (aa (aj 0) ao))) ao)) dq) G2=some (false,G2):=jA (b:=true) (cj (Kz (N:=0) rfl rfl (λx hx=>by
  rcases aaI.mp hx with rfl | hx
  . exact Ez hf.rank
  . obtain⟨q,hq,rfl⟩:=aa0.mp hx;exact Ez (hf.par q hq).2) (by simp[ra]; omega)) rfl rfl)
 have hz:oN (f.params.map λq=>.str q.1) (f.params.map λq=>.str (cJ q.2))=f.params.map λq=>.tup [.str q.1,.str (cJ q.2)]:=by unfold oN;rw[List.zipWith_map,List.zipWith_self]
 have iz:tY (fH (aj 1) (cD (aeO 1)) d9) (fH (aj 2) (cD (aeO 1)) d9) G2=some (f.params.map λq=>.tup [.str q.1,.str (cJ q.2)],G2):=by
  have x1:fH (aj 1) (cD (aeO 1)) d9 G2=some (.own (.lst (f.params.map λq=>.str q.1)),G2):=by refine(Dk (z:=.str f.name::f.params.map (λq=>.str q.1)) (O3:=G2) rfl (by rw[en]; rfl) rfl rfl).trans ?_;rw[S7]
  have x2:fH (aj 2) (cD (aeO 1)) d9 G2=some (.own (.lst (f.params.map λq=>.str (cJ q.2))),G2):=by refine(Dk (z:=.str (cJ f.rank)::f.params.map (λq=>.str (cJ q.2))) (O3:=G2) rfl (by rw[er]; rfl) rfl rfl).trans ?_;rw[S7]
  unfold tY;rw[x1,aay];rw[x2,aay];show some (oN _ _,G2)=_;rw[hz]
 have comp:fY (eX 2 (bh (aJ 0) (bh (aJ 1) eV))) bY (bQ (aa (aj 0) (aa (az fU (aa (aj 1) ao)) ao))) (f.params.map λq=>.tup [.str q.1,.str (cJ q.2)]) ⟨[none,none],mu⟩ []=some (f.params.map jf,mu):=by
  have go:∀(ps:List (Str×Option Str)) (acc:List PV) (o1 o2:Option Lc),(∀q∈ps,QF q)->acc.length+ps.length<=100->fY (eX 2 (bh (aJ 0) (bh (aJ 1) eV))) bY (bQ (aa (aj 0) (aa (az fU (aa (aj 1) ao)) ao))) (ps.map λq=>.tup [.str q.1,.str (cJ q.2)]) ⟨[o1,o2],mu⟩ acc=some (acc++ps.map jf,mu):=by
   intro ps;induction ps with
   | nil=> simp[fY]
   | cons q ps ih=>
    intro acc o1 o2 hp hl;rw[aaC]at hl;let K:Ev:=⟨[zT q.1,zT (cJ q.2)],mu⟩;have e:bQ (aa (aj 0) (aa (az fU (aa (aj 1) ao)) ao)) K=some (.sh (jf q),K):=eY (aH rfl (aH (aL rfl rfl rfl rfl (uC (hp q aaz).2)) rfl)) rfl rfl;show (bQ (aa (aj 0) (aa (az fU (aa (aj 1) ao)) ao)) K).bind (λv=>if acc.length<100000 then fY (eX 2 (bh (aJ 0) (bh (aJ 1) eV))) bY (bQ (aa (aj 0) (aa (az fU (aa (aj 1) ao)) ao))) (ps.map λq=>.tup [.str q.1,.str (cJ q.2)]) v.2 (acc++[v.1.pv]) else none)=_;rw[e,aay,acq (by omega)];refine(ih (acc++[jf q]) (zT q.1) (zT (cJ q.2)) (λx hx=>hp x (aaA _ hx)) (by simp; omega)).trans ?_;simp
  simpa using go f.params [] none none hf.par (by simp; omega)
 let PP:PV:=.lst (f.params.map jf);have s3:aM 3 (cT (tY (fH (aj 1) (cD (aeO 1)) d9) (fH (aj 2) (cD (aeO 1)) d9)) 2 [] (eX 2 (bh (aJ 0) (bh (aJ 1) eV))) bY (bQ (aa (aj 0) (aa (az fU (aa (aj 1) ao)) ao)))) G2=some (.nx (H4 ws (zS (wl na)) (zS (wl ra)) (some (.own PP)) mu)):=
  bK ((gG iz comp).trans rfl) rfl rfl
 let Z:=H4 ws (zS (wl na)) (zS (wl ra)) (zS (.ptr mu.length)) (mu++[some PP]);have se:sealV 3 (H4 ws (zS (wl na)) (zS (wl ra)) (some (.own PP)) mu)=some Z:=rfl;refine aR (O:=Z) (aB s1 (aB s2 (aB ((bI tt).trans rfl) (aB ((bI (kJ u1 u2)).trans rfl) (aB s3 ?_)))));unfold tV;refine bO (eY (ls:=[.sh (.str f.name),.sh (eZ f.rank),.sh (.ptr mu.length)]) (O1:=Z) (aH (O1:=Z) ?_ (aH (O1:=Z) (aL (ps:=[.str (cJ f.rank)]) (ls:=[.sh (.str (cJ f.rank))]) (O1:=Z) (aH ?_ rfl) rfl rfl rfl (uC hf.rank)) rfl)) rfl rfl)
 . exact fV rfl rfl rfl rfl (λn h=>by cases h) (by show (eQ (na.map PV.str) 0).map _=_;rw[show eQ (na.map PV.str) 0=some (.str f.name) from qT rfl];rfl)
 . exact fV rfl rfl rfl rfl (λn h=>by cases h) (by show (eQ (ra.map PV.str) 0).map _=_;rw[show eQ (ra.map PV.str) 0=some (.str (cJ f.rank)) from qT rfl];rfl)
structure dO (L:List (List Str)) (a:Nat) (mu mu':Mu) (p':Nat):Prop where
 le:mu.length<=mu'.length
 now:mu'[a]?=some (some (LN L p'))
 old:∀n,n<mu.length->n≠a->mu'[n]?=mu[n]?
structure lF (lo:Nat) (mu mu':Mu):Prop where
 le:mu.length<=mu'.length
 old:∀n,lo<=n->n<mu.length->mu'[n]?=mu[n]?
theorem dO.keep {a lo:Nat} (h:dO L a mu mu' p) (ha:a<lo):lF lo mu mu':=⟨h.le,λn h1 h2=>h.old n h2 (by omega)⟩
theorem lF.trans {lo:Nat} (h:lF lo mu mu1) (g:lF lo mu1 mu2):lF lo mu mu2:=⟨aaX h.le g.le,λn h1 h2=>(g.old n h1 (aaG h2 h.le)).trans (h.old n h1 h2)⟩
theorem dO.trans (h:dO L a mu mu1 p) (g:dO L a mu1 mu2 q):dO L a mu mu2 q:=⟨aaX h.le g.le,g.now,λn h1 h2=>(g.old n (aaG h1 h.le) h2).trans (h.old n h1 h2)⟩
theorem dO.app (hm:mu[a]?=some (some (LN L p))) (l:Mu):dO L a mu (mu++l) p:=by have ha:=(aaD.mp hm).1;exact⟨by simp,by rw[abr ha]; exact hm,λn h1 _=>abr h1⟩
theorem dO.set (hm:mu[a]?=some (some (LN L p))) (q:Nat):dO L a mu (mu.set a (some (LN L q))) q:=by have ha:=(aaD.mp hm).1;exact⟨by simp,by rw[aa5 ha],λn h1 h2=>abe (Ne.symm h2)⟩
def jr (lo:Nat) (mu:Mu) (K:Nat) (qs ps:List PV):Prop:=∀mu2:Mu,(∀n,lo<=n->n<mu.length->mu2[n]?=mu[n]?)->∀k,K<=k->qs.map (cH mu2 k)=ps
theorem jr.ext {lo:Nat} {K:Nat} (h:jr lo mu K qs ps) (g:lF lo mu mu'):jr lo mu' K qs ps:=λmu2 h2 k hk=>h mu2 (λn h3 h4=>(h2 n h3 (aaG h4 g.le)).trans (g.old n h3 h4)) k hk
theorem jr.low {lo lo':Nat} {K:Nat} (h:jr lo mu K qs ps) (g:lo'<=lo):jr lo' mu K qs ps:=λmu2 h2 k hk=>h mu2 (λn h3 h4=>h2 n (aaX g h3) h4) k hk
theorem jr.up {lo:Nat} {K K':Nat} (h:jr lo mu K qs ps) (g:K<=K'):jr lo mu K' qs ps:=λmu2 h2 k hk=>h mu2 h2 k (by omega)
theorem jr.nil {lo:Nat} {K:Nat}:jr lo mu K [] []:=λ_ _ _ _=>rfl
theorem jr.app {lo:Nat} {K:Nat} (h:jr lo mu K qs ps) (g:jr lo mu K rs ts):jr lo mu K (qs++rs) (ps++ts):=λmu2 h2 k hk=>by rw[abt,h mu2 h2 k hk,g mu2 h2 k hk]
def Fx (p:PV):Prop:=∀(mu:Mu) k,cH mu k p=p
theorem Fx.str:Fx (.str x):=λ_ k=>by cases k<;>rfl
theorem Fx.int:Fx (.int x):=λ_ k=>by cases k<;>rfl
theorem Fx.non:Fx .non:=λ_ k=>by cases k<;>rfl
theorem wg {ps:List PV} (h:∀p∈ps,Fx p) (mu:Mu) (k:Nat):ps.map (cH mu k)=ps:=by
 conv=>rhs; rw[<-List.map_id ps]
 exact abB λp hp=>h p hp mu k
theorem Fx.tup {ps:List PV} (h:∀p∈ps,Fx p):Fx (.tup ps):=λmu k=>by
 cases k with
 | zero=>rfl
 | succ k=>show PV.tup (ps.map (cH mu k))=_; rw[wg h]
theorem Fx.lst {ps:List PV} (h:∀p∈ps,Fx p):Fx (.lst ps):=λmu k=>by
 cases k with
 | zero=>rfl
 | succ k=>show PV.lst (ps.map (cH mu k))=_; rw[wg h]
theorem nQ {P:PV->Prop}:∀p∈([]:List PV),P p:=λp hp=>by cases hp
theorem dJ {P:PV->Prop} (h:P a) (g:∀p∈l,P p):∀p∈a::l,P p:=λp hp=>by
 rcases aaI.mp hp with rfl | hp
 . exact h
 . exact g p hp
theorem mq:∀e:aV,Fx e.pv
 | .num v=>.tup (dJ .str (dJ .int nQ))
 | .box x=>.tup (dJ .str (dJ .str nQ))
 | .at x e=>.tup (dJ .str (dJ .str (dJ (mq e) nQ)))
 | .sg s a b=>.tup (dJ .str (dJ (mq a) (dJ (mq b) nQ)))
theorem Ai:Fx (eZ r):=by
 cases r with
 | none=>exact .non
 | some x=>exact .str
def wj (lo:Nat) (mu:Mu) (p:PV):Prop:=∃s t,p=.tup (.str s::t)/\((["if", "while"]:List Str).any (λy=>y==s)=true->∃e n u,t=e::.ptr n::u/\lo<=n/\n<mu.length/\∃ws,mu[n]?=some (some (.lst ws))/\ws.length<=200)
theorem wj.ext {lo:Nat} (h:wj lo mu p) (g:lF lo mu mu'):wj lo mu' p:=by obtain⟨s,t,e,h⟩:=h;refine⟨s,t,e,λhs=>?_⟩;obtain⟨e,n,u,h1,h2,h3,ws,h4,h5⟩:=h hs;exact⟨e,n,u,h1,h2,aaG h3 g.le,ws,(g.old n h2 h3).trans h4,h5⟩
theorem wj.low {lo lo':Nat} (h:wj lo mu p) (g:lo'<=lo):wj lo' mu p:=by obtain⟨s,t,e,h⟩:=h;refine⟨s,t,e,λhs=>?_⟩;obtain⟨e,n,u,h1,h2,h3⟩:=h hs;exact⟨e,n,u,h1,by omega,h3⟩
theorem wj.non {lo:Nat} (h:wj lo mu p):qW p=false:=by obtain⟨s,t,rfl,_⟩:=h;rfl
def Blk (lo:Nat) (mu:Mu) (nn:Nat) (rs:Rows):Prop:=lo<=nn/\nn<mu.length/\∃qs,mu[nn]?=some (some (.lst qs))/\qs.length<=200/\jr lo mu (3*rs.dep) qs rs.pvs/\∀q∈qs,wj lo mu q
theorem Blk.ext {lo:Nat} (h:Blk lo mu nn rs) (g:lF lo mu mu'):Blk lo mu' nn rs:=by obtain⟨h1,h2,qs,h3,h4,h5,h6⟩:=h;exact⟨h1,aaG h2 g.le,qs,(g.old nn h1 h2).trans h3,h4,h5.ext g,λq hq=>(h6 q hq).ext g⟩
theorem Blk.low {lo lo':Nat} (h:Blk lo mu nn rs) (g:lo'<=lo):Blk lo' mu nn rs:=by obtain⟨h1,h2,qs,h3,h4,h5,h6⟩:=h;exact⟨by omega,h2,qs,h3,h4,h5.low g,λq hq=>(h6 q hq).low g⟩
theorem Blk.see {lo:Nat} (h:Blk lo mu nn rs) (g:∀n,lo<=n->n<mu.length->mu2[n]?=mu[n]?) (hk:3*rs.dep+2<=k):cH mu2 k (.ptr nn)=.lst rs.pvs:=by obtain⟨h1,h2,qs,h3,h4,h5,h6⟩:=h;obtain⟨j,rfl⟩:∃j,k=j+2:=⟨k-2,by omega⟩;show (match mu2[nn]? with | some (some p)=>cH mu2 (j+1) p | _=>.ptr nn)=_;rw[g nn h1 h2,h3];show PV.lst (qs.map (cH mu2 j))=_;rw[h5 mu2 g j (by omega)]
theorem xM (h:L.drop p=w::r):wd L p=w:=by
 have:L[p]?=some w:=by have e:=congrArg (λl:List (List Str)=>l[0]?) h;simpa using e
 unfold wd;rw[this];rfl
theorem jc {L:List (List Str)} (h:L.drop p=a++r):L.drop (p+a.length)=r:=by rw[<-List.drop_drop,h,List.drop_left' rfl]
theorem uD {L:List (List Str)} (h:L.drop p=w::r):L.drop (p+1)=r:=jc (a:=[w]) h
def Stop (L:List (List Str)) (p:Nat):Prop:=∃x,(wd L p)[0]?=some x/\dW.lookup x=none
abbrev R2 (a:Nat) (acc:List PV) (o:Option Lc) (mu:Mu):Ev:=⟨[zS (.ptr a),zO acc,o],mu⟩
abbrev Yr:TF:=tT (aC wM (aj 2) (eC .non)) aW
abbrev ZD (n:Nat):SF:=aM 2 (az (fW n) (aa (aj 0) ao))
abbrev rwL (n:Nat):SF:=aF (cY 1 (aj 2)) (ZD n)
theorem row_end (hm:mu[a]?=some (some (LN L p))) (hs:Stop L p):fW (n+1) [.ptr a] mu=some (.sh .non,mu):=by obtain⟨x,h1,h2⟩:=hs;let E:Ev:=⟨[zS (.ptr a),none,none],mu⟩;let F:Ev:=⟨[zS (.ptr a),some (.sh .non),none],mu⟩;have s:aM 1 (az iG (aa (eE "Lines" "words" cO (aj 0) ao) ao)) E=some (.nx F):=bK (aL (aH (nO hm) rfl) rfl rfl rfl (Yq h1 h2)) rfl rfl;exact aR (O:=F) (aB s (cW rfl))
theorem Gv {r:Row} {rest:List (List Str)} (ok:r.ok) (hm:mu[a]?=some (some (LN L p))) (hd:L.drop p=r.hd::rest) (j:Nat) (hj:iG [wl r.hd] mu=some (.sh r.p0,mu++List.replicate j none)) (hg:g ⟨[zS (.ptr a),zS r.p0,none],(mu++List.replicate j none).set a (some (LN L (p+1)))⟩=R):
 (aF (aM 1 (az iG (aa (eE "Lines" "words" cO (aj 0) ao) ao)))
 (aF (bT (tT (aC qy (aj 1) (eC .non)) aW)
 (bB (eC .non))
 bM)
 (aF (jG (eE "Lines" "go_on" fB (aj 0) ao)) g))) ⟨[zS (.ptr a),none,none],mu⟩=R:=by
 let E:Ev:=⟨[zS (.ptr a),none,none],mu⟩;let F:Ev:=⟨[zS (.ptr a),zS r.p0,none],mu++List.replicate j none⟩;have hw:=xM hd;have s:aM 1 (az iG (aa (eE "Lines" "words" cO (aj 0) ao) ao)) E=some (.nx F):=by have mw:=nO (vs:=[none,none]) hm;rw[hw]at mw;exact bK (aL (aH mw rfl) rfl rfl rfl hj) rfl rfl
 have hn:qW r.p0=false:=by cases r<;>simp only[Row.p0]<;>rfl
 have t:tT (aC qy (aj 1) (eC .non)) aW F=some (false,F):=cj (bC rfl rfl (by show some (Lc.sh (.bl (qW r.p0)))=_; rw[hn])) rfl rfl;exact aB s (aB ((bI t).trans rfl) (aB (v8 (dO.app hm _).now) hg))
structure Ys (L:List (List Str)) (a:Nat) (mu:Mu) (p:Nat) (rs:Rows) (qs:List PV) (mu':Mu):Prop where
 st:dO L a mu mu' (p+rs.ls.length)
 see:jr mu.length mu' (3*rs.dep) qs rs.pvs
 opn:∀q∈qs,wj mu.length mu' q
 len:qs.length<=rs.ls.length
abbrev rdB (n:Nat):SF:=aF (jG (eE "Lines" "take" lZ (aj 0) (aa (aj 1) ao))) (jk 2)
theorem xN {w:Str} {rest:List (List Str)} (ha:a<mu.length) (hr:eH n [.ptr a] mu=some (.own (.lst qs),mu')) (R:Ys L a mu p rs qs mu') (hw:w = "else" \/ w = "end") (hd:L.drop p=rs.ls++[w]::rest) (hl:rs.ls.length<=200):
 ∃mu2 nn,cQ (n+1) [.ptr a,.str w] mu=some (.sh (.ptr nn),mu2)/\dO L a mu mu2 (p+rs.ls.length+1)/\Blk mu.length mu2 nn rs:=by
 have k0:=R.st.keep ha;let mu1:=mu'++[some (PV.lst qs)];have s1:dO L a mu' mu1 (p+rs.ls.length):=dO.app R.st.now _;have s2:dO L a mu1 (mu1.set a (some (LN L (p+rs.ls.length+1)))) (p+rs.ls.length+1):=dO.set s1.now _;have k1:=(s1.keep ha).trans (s2.keep ha);have hg:mu1[mu'.length]?=some (some (PV.lst qs)):=by show (mu'++[some (PV.lst qs)])[mu'.length]?=_;rw[aaW (aaE _),abV];rfl
 have hlen:mu1.length=mu'.length+1:=by show (mu'++[_]).length=_; simp
 have hne:mu'.length≠a:=by have:=k0.le; omega
 refine⟨mu1.set a (some (LN L (p+rs.ls.length+1))),mu'.length,?_,(R.st.trans s1).trans s2,⟨k0.le,?_,qs,?_,?_,R.see.ext k1,λq hq=>(R.opn q hq).ext k1⟩⟩
 . let E:Ev:=⟨[zS (.ptr a),zT w,none],mu⟩;let F:Ev:=⟨[zS (.ptr a),zT w,zS (.ptr mu'.length)],mu1⟩;have hs:aM 2 (jn (az (eH n) (aa (aj 0) ao))) E=some (.nx F):=bK (My (aL rfl rfl rfl rfl hr)) rfl rfl;have hw':=xM (jc hd);have ht:jG (eE "Lines" "take" lZ (aj 0) (aa (aj 1) ao)) F=some (.nx ⟨[zS (.ptr a),zT w,zS (.ptr mu'.length)],mu1.set a (some (LN L (p+rs.ls.length+1)))⟩):=
    Aa (Ag (C := "Lines") (m := "take") (O2:=F) rfl rfl s1.now (by simp only[aaV]; decide +kernel) rfl rfl (V0 hw s1.now hw'))
   have e:cQ (n+1)=cN 3 (aF (aM 2 (jn (az (eH n) (aa (aj 0) ao)))) (rdB n)):=by rw[cQ]
   exact aR (O:=⟨[zS (.ptr a),zT w,none],mu1.set a (some (LN L (p+rs.ls.length+1)))⟩) (aB hs (aB ht rfl))
 . rw[abQ];omega
 . rw[abe (Ne.symm hne)];exact hg
 . have:=R.len;omega
theorem V7 {r:Row} (h:r.leaf):r.p0=r.pv:=by cases r<;>simp_all [Row.leaf,Row.p0]
theorem wk {r:Row} (h:r.leaf):Fx r.pv:=by
 cases r with
 | set x e=> exact .tup (dJ .str (dJ .str (dJ (mq e) nQ)))
 | put x e f=> exact .tup (dJ .str (dJ .str (dJ (mq e) (dJ (mq f) nQ))))
 | out x e w=> exact .tup (dJ .str (dJ .str (dJ (mq e) (dJ .str nQ))))
 | call x f es=> exact .tup (dJ .str (dJ .str (dJ .str (dJ (.lst λp hp=>by obtain⟨e,_,rfl⟩:=aa0.mp hp;exact mq e) nQ))))
 | ifr e a b=>simp[Row.leaf]at h
 | wh e a=>simp[Row.leaf]at h
structure ZF (L:List (List Str)) (a:Nat) (mu:Mu) (p:Nat) (r:Row) (q:PV) (mu':Mu):Prop where
 st:dO L a mu mu' (p+r.ls.length)
 see:jr mu.length mu' (3*r.dep) [q] [r.pv]
 opn:wj mu.length mu' q
theorem Aj {L:List (List Str)} {a n p:Nat} {mu:Mu} {rest:List (List Str)} (r:Row) (hf:r.leaf) (ok:r.ok) (hm:mu[a]?=some (some (LN L p))) (hd:L.drop p=r.ls++rest):∃q mu',fW (n+1) [.ptr a] mu=some (.sh q,mu')/\ZF L a mu p r q mu':=by
 obtain⟨s,t,e1,e2,e3,e4,e5⟩:=zB r hf;obtain⟨j,hj⟩:=KH (mu:=mu) r ok;rw[e4]at hd;have s1:dO L a mu (mu++List.replicate j none) p:=dO.app hm _;have s2:=dO.set s1.now (p+1);refine⟨r.pv,_,?_,⟨by rw[e4]; exact s1.trans s2,λmu2 _ k _=>by rw[aaV,abz,wk hf],⟨s,t,e1,λh=>?_⟩⟩⟩
 . have hb:=Gv (g:=(aF (bT (tT (aC eqP (aG (aj 1) (aeO 0)) (aeP "if")) aW)
   (aF (aM 2 (az (cQ n) (aa (aj 0) (aa (aeP "else") ao))))
   (bB (aC aY (aj 1) (bQ (aa (aj 2) (aa (az (cQ n) (aa (aj 0) (aa (aeP "end") ao))) ao))))))
   bM)
   (aF (bT (tT (aC eqP (aG (aj 1) (aeO 0)) (aeP "while")) aW)
   (bB (aC aY (aj 1) (bQ (aa (az (cQ n) (aa (aj 0) (aa (aeP "end") ao))) ao))))
   bM)
   (jk 1)))) ok hm hd j hj (R:=some (.rt (.sh r.pv) ⟨[zS (.ptr a),none,none],(mu++List.replicate j none).set a (some (LN L (p+1)))⟩)) ?_
   . rw[fW];refine aR (O:=⟨[zS (.ptr a),none,none],(mu++List.replicate j none).set a (some (LN L (p+1)))⟩) ?_;exact hb
   . rw[V7 hf,e1];let E:Ev:=⟨[zS (.ptr a),zS (.tup (.str s::t)),none],(mu++List.replicate j none).set a (some (LN L (p+1)))⟩;have i0:aG (aj 1) (aeO 0) E=some (.sh (.str s),E):=fV (p:=.tup (.str s::t)) (q:=.int 0) rfl rfl rfl rfl (λn h=>by cases h) (by show (eQ (.str s::t) 0).map _=_; rw[at0]; rfl);exact aB (O':=E) ((bI (gU i0 e2)).trans rfl) (aB (O':=E) ((bI (gU i0 e3)).trans rfl) rfl)
 . exfalso;simp only[List.any_cons,List.any_nil,Bool.or_false,Bool.or_eq_true,beq_iff_eq]at h;rcases h with h | h
   . rw[<-h,acx]at e2; cases e2
   . rw[<-h,acx]at e3; cases e3
abbrev Yt (n:Nat):SF:=(aF (bT (tT (aC eqP (aG (aj 1) (aeO 0)) (aeP "if")) aW)
 (aF (aM 2 (az (cQ n) (aa (aj 0) (aa (aeP "else") ao))))
 (bB (aC aY (aj 1) (bQ (aa (aj 2) (aa (az (cQ n) (aa (aj 0) (aa (aeP "end") ao))) ao))))))
 bM)
 (aF (bT (tT (aC eqP (aG (aj 1) (aeO 0)) (aeP "while")) aW)
 (bB (aC aY (aj 1) (bQ (aa (az (cQ n) (aa (aj 0) (aa (aeP "end") ao))) ao))))
 bM)
 (jk 1)))
theorem M4 {L:List (List Str)} {a n p:Nat} {mu mu':Mu} {rest:List (List Str)} {r:Row} {q:PV} {vs:List (Option Lc)} (ok:r.ok) (hm:mu[a]?=some (some (LN L p))) (hd:L.drop p=r.hd::rest) {j:Nat} (hj:iG [wl r.hd] mu=some (.sh r.p0,mu++List.replicate j none)) (hg:Yt n ⟨[zS (.ptr a),zS r.p0,none],(mu++List.replicate j none).set a (some (LN L (p+1)))⟩=some (.rt (.sh q) ⟨vs,mu'⟩)):fW (n+1) [.ptr a] mu=some (.sh q,mu'):=by have hb:=Gv (g:=Yt n) ok hm hd j hj hg;rw[fW];refine aR (O:=⟨vs,mu'⟩) ?_;exact hb
abbrev Y3 (a:Nat) (q:PV) (o:Option Lc) (mu:Mu):Ev:=⟨[zS (.ptr a),zS q,o],mu⟩
theorem hd1 {a:Nat} {s:Str} {t:List PV} {o:Option Lc} {mu:Mu}:aG (aj 1) (aeO 0) (Y3 a (.tup (.str s::t)) o mu)=some (.sh (.str s),Y3 a (.tup (.str s::t)) o mu):=fV (p:=.tup (.str s::t)) (q:=.int 0) rfl rfl rfl rfl (λn h=>by cases h) (by show (eQ (.str s::t) 0).map _=_; rw[at0]; rfl)
theorem Dm {L:List (List Str)} {p:Nat} {w:Str} {rest:List (List Str)} (hw:w = "else" \/ w = "end") (h:L.drop p=[w]::rest):Stop L p:=⟨w,by rw[xM h]; rfl,by rcases hw with rfl | rfl<;>decide +kernel⟩
mutual
theorem Yu {L:List (List Str)} {a:Nat}:∀(r:Row) (n p:Nat) (mu:Mu) (rest:List (List Str)),r.ok->3*r.dep<=n->mu[a]?=some (some (LN L p))->L.drop p=r.ls++rest->r.ls.length<=190->∃q mu',fW (n+1) [.ptr a] mu=some (.sh q,mu')/\ZF L a mu p r q mu'
 | .set x e,n,p,mu,rest,ok,_,hm,hd,_=>Aj _ (by simp[Row.leaf]) ok hm hd
 | .put x e f,n,p,mu,rest,ok,_,hm,hd,_=>Aj _ (by simp[Row.leaf]) ok hm hd
 | .out x e w,n,p,mu,rest,ok,_,hm,hd,_=>Aj _ (by simp[Row.leaf]) ok hm hd
 | .call x f es,n,p,mu,rest,ok,_,hm,hd,_=>Aj _ (by simp[Row.leaf]) ok hm hd
 | .ifr e A B,n,p,mu,rest,ok,hn,hm,hd,hl=>by
  obtain⟨j,hj⟩:=KH (mu:=mu) (.ifr e A B) ok;rw[zE]at hl;have hd0:L.drop p=(Row.ifr e A B).hd::(A.ls++[("else" : Str)]::(B.ls++[("end" : Str)]::rest)):=by rw[hd,xn]; simp[Row.hd,pW,gK]
  have hdep:(Row.ifr e A B).dep=max A.dep B.dep+1:=by simp[Row.dep]
  simp only[Row.ok]at ok;have ha:=(aaD.mp hm).1;let mu1:=(mu++List.replicate j none).set a (some (LN L (p+1)));have s0:dO L a mu (mu++List.replicate j none) p:=dO.app hm _;have s1:dO L a mu mu1 (p+1):=s0.trans (dO.set s0.now (p+1));have hd1':=uD hd0;obtain⟨m,rfl⟩:∃m,n=m+3:=⟨n-3,by omega⟩;obtain⟨qa,ma,ea,RA⟩:=wu A m (p+1) mu1 ([("else" : Str)]::(B.ls++[("end" : Str)]::rest)) ok.2.1 (by omega) s1.now hd1' (Dm (.inl rfl) (jc hd1')) (by omega);have ha1:a<mu1.length:=aaG ha s1.le;obtain⟨mu2,n1,eb,s2,b1⟩:=xN ha1 ea RA (.inl rfl) hd1' (by omega);have hd2:=uD (jc hd1');obtain⟨qb,mb,eB,RB⟩:=wu B m (p+1+A.ls.length+1) mu2 ([("end" : Str)]::rest) ok.2.2 (by omega) s2.now hd2 (Dm (.inr rfl) (jc hd2)) (by omega);have ha2:a<mu2.length:=aaG ha1 s2.le;obtain⟨mu3,n2,ec,s3,b2⟩:=xN ha2 eB RB (.inr rfl) hd2 (by omega);have k3:lF mu1.length mu2 mu3:=s3.keep ha1;have b1':Blk mu.length mu3 n1 A:=(b1.ext k3).low s1.le;have b2':Blk mu.length mu3 n2 B:=b2.low (aaX s1.le s2.le);have e1:(Row.ifr e A B).p0=.tup (.str "if" :: [e.pv]):=by simp only[Row.p0]
  have e2:(Row.ifr e A B).pv=.tup [.str "if",e.pv,.lst A.pvs,.lst B.pvs]:=by simp only[Row.pv]
  refine⟨.tup [.str "if",e.pv,.ptr n1,.ptr n2],mu3,M4 (vs:=[zS (.ptr a),some (.sh (.tup (.str "if" :: [e.pv]))),zS (.ptr n1)]) (by simp only[Row.ok]; exact ok) hm hd0 hj ?_,⟨?_,λmu4 h4 k hk=>?_,⟨"if",[e.pv,.ptr n1,.ptr n2],rfl,λ_=>⟨e.pv,n1,[.ptr n2],rfl,b1'.1,b1'.2.1,?_⟩⟩⟩⟩
  . rw[e1];let E:=Y3 a (.tup (.str "if" :: [e.pv])) none mu1;let F:=Y3 a (.tup (.str "if" :: [e.pv])) (zS (.ptr n1)) mu2;let G:=Y3 a (.tup (.str "if" :: [e.pv])) (zS (.ptr n1)) mu3;have ss1:aM 2 (az (cQ (m+3)) (aa (aj 0) (aa (aeP "else") ao))) E=some (.nx F):=bK (l:=.sh (.ptr n1)) (O1:=Y3 a (.tup (.str "if" :: [e.pv])) none mu2) (aL (ps:=[.ptr a,.str "else"]) (ls:=[.sh (.ptr a),.sh (.str "else")]) (O1:=E) rfl rfl rfl rfl eb) rfl rfl;refine cW ((cZ (O1:=E) (oW hd1 (by decide +kernel))).trans (aB ss1 (bO ?_)));exact bC (x:=.sh (.tup (.str "if" :: [e.pv]))) (y:=.sh (.tup [.ptr n1,.ptr n2])) (O1:=F) (O2:=G) rfl (eY (ls:=[.sh (.ptr n1),.sh (.ptr n2)]) (O1:=G) (aH (O1:=F) rfl (aH (aL (ps:=[.ptr a,.str "end"]) (ls:=[.sh (.ptr a),.sh (.str "end")]) (O1:=F) rfl rfl rfl rfl ec) rfl)) rfl rfl) rfl
  . have e3:p+(Row.ifr e A B).ls.length=p+1+A.ls.length+1+B.ls.length+1:=by rw[zE]; omega
    rw[e3];exact(s1.trans s2).trans s3
  . rw[hdep]at hk;obtain⟨i,rfl⟩:∃i,k=i+1:=⟨k-1,by omega⟩;show [PV.tup [cH mu4 i (.str "if"),cH mu4 i e.pv,cH mu4 i (.ptr n1),cH mu4 i (.ptr n2)]]=_;rw[Fx.str,mq e,b1'.see h4 (by omega),b2'.see h4 (by omega),e2]
  . obtain⟨_,_,qs,h1,h2,_⟩:=b1';exact⟨qs,h1,h2⟩
 | .wh e A,n,p,mu,rest,ok,hn,hm,hd,hl=>by
  obtain⟨j,hj⟩:=KH (mu:=mu) (.wh e A) ok;rw[zF]at hl;have hd0:L.drop p=(Row.wh e A).hd::(A.ls++[("end" : Str)]::rest):=by rw[hd,xq]; simp[Row.hd,gK]
  have hdep:(Row.wh e A).dep=A.dep+1:=by simp[Row.dep]
  simp only[Row.ok]at ok;have ha:=(aaD.mp hm).1;let mu1:=(mu++List.replicate j none).set a (some (LN L (p+1)));have s0:dO L a mu (mu++List.replicate j none) p:=dO.app hm _;have s1:dO L a mu mu1 (p+1):=s0.trans (dO.set s0.now (p+1));have hd1':=uD hd0;obtain⟨m,rfl⟩:∃m,n=m+3:=⟨n-3,by omega⟩;obtain⟨qa,ma,ea,RA⟩:=wu A m (p+1) mu1 ([("end" : Str)]::rest) ok.2 (by omega) s1.now hd1' (Dm (.inr rfl) (jc hd1')) (by omega);have ha1:a<mu1.length:=aaG ha s1.le;obtain⟨mu2,n1,eb,s2,b1⟩:=xN ha1 ea RA (.inr rfl) hd1' (by omega);have b1':Blk mu.length mu2 n1 A:=b1.low s1.le;have e1:(Row.wh e A).p0=.tup (.str "while" :: [e.pv]):=by simp only[Row.p0]
  have e2:(Row.wh e A).pv=.tup [.str "while",e.pv,.lst A.pvs]:=by simp only[Row.pv]
  refine⟨.tup [.str "while",e.pv,.ptr n1],mu2,M4 (vs:=[zS (.ptr a),some (.sh (.tup (.str "while" :: [e.pv]))),none]) (by simp only[Row.ok]; exact ok) hm hd0 hj ?_,⟨?_,λmu4 h4 k hk=>?_,⟨"while",[e.pv,.ptr n1],rfl,λ_=>⟨e.pv,n1,[],rfl,b1'.1,b1'.2.1,?_⟩⟩⟩⟩
  . rw[e1];let E:=Y3 a (.tup (.str "while" :: [e.pv])) none mu1;let G:=Y3 a (.tup (.str "while" :: [e.pv])) none mu2;refine aB (O':=E) ((bI (gU hd1 (by decide +kernel))).trans rfl) (cW ((cZ (O1:=E) (oW hd1 (by decide +kernel))).trans (bO ?_)));exact bC (x:=.sh (.tup (.str "while" :: [e.pv]))) (y:=.sh (.tup [.ptr n1])) (O1:=E) (O2:=G) rfl (eY (ls:=[.sh (.ptr n1)]) (O1:=G) (aH (aL (ps:=[.ptr a,.str "end"]) (ls:=[.sh (.ptr a),.sh (.str "end")]) (O1:=E) rfl rfl rfl rfl eb) rfl) rfl rfl) rfl
  . have e3:p+(Row.wh e A).ls.length=p+1+A.ls.length+1:=by rw[zF]; omega
    rw[e3];exact s1.trans s2
  . rw[hdep]at hk;obtain⟨i,rfl⟩:∃i,k=i+1:=⟨k-1,by omega⟩;show [PV.tup [cH mu4 i (.str "while"),cH mu4 i e.pv,cH mu4 i (.ptr n1)]]=_;rw[Fx.str,mq e,b1'.see h4 (by omega),e2]
  . obtain⟨_,_,qs,h1,h2,_⟩:=b1';exact⟨qs,h1,h2⟩
theorem M5 {L:List (List Str)} {a:Nat}:∀(rs:Rows) (n p m:Nat) (mu:Mu) (rest:List (List Str)) (acc:List PV) (o:Option Lc),rs.ok->3*rs.dep<=n->mu[a]?=some (some (LN L p))->L.drop p=rs.ls++rest->Stop L (p+rs.ls.length)->rs.ls.length<=190->rs.ls.length<m->acc.length+rs.ls.length<=1000->
 ∃qs mu' O2,ZD (n+1) (R2 a acc o mu)=some (.nx O2)/\mW m Yr (rwL (n+1)) O2=some (.nx (R2 a (acc++qs) (some (.sh .non)) mu'))/\Ys L a mu p rs qs mu'
 | .nil,n,p,m,mu,rest,acc,o,_,_,hm,_,hs,_,hl,_=>by
  obtain⟨m,rfl⟩:∃k,m=k+1:=⟨m-1,by omega⟩;have e0:(Rows.nil).ls.length=0:=by simp[Rows.ls]
  rw[e0,Nat.add_zero]at hs;have t:Yr (R2 a acc (some (.sh .non)) mu)=some (false,R2 a acc (some (.sh .non)) mu):=rfl;refine⟨[],mu,R2 a acc (some (.sh .non)) mu,bK (l:=.sh .non) (O1:=R2 a acc o mu) (aL (ps:=[.ptr a]) (ls:=[.sh (.ptr a)]) (O1:=R2 a acc o mu) rfl rfl rfl rfl (row_end hm hs)) rfl rfl,?_,⟨?_,?_,λq hq=>(by cases hq),by simp⟩⟩
  . rw[aa1];exact Ew t
  . rw[e0,Nat.add_zero];exact⟨aaE _,hm,λ_ _ _=>rfl⟩
  . have:(Rows.nil).pvs=[]:=by simp[Rows.pvs]
    rw[this];exact .nil
 | .cons r rs,n,p,m,mu,rest,acc,o,ok,hn,hm,hd,hs,hl,hk,hc=>by
  obtain⟨m,rfl⟩:∃k,m=k+1:=⟨m-1,by omega⟩;simp only[Rows.ok]at ok;have hdp:(Rows.cons r rs).dep=max r.dep rs.dep:=by simp[Rows.dep]
  have el:(Rows.cons r rs).ls=r.ls++rs.ls:=by simp[Rows.ls]
  have ep:(Rows.cons r rs).pvs=[r.pv]++rs.pvs:=by simp[Rows.pvs]
  have hpos:1<=r.ls.length:=by cases r<;>simp[Row.ls]
  rw[el,aaH]at hl hk hc;rw[el,aaZ]at hd;rw[el,aaH,<-Nat.add_assoc]at hs;obtain⟨q,mu1,e1,R1⟩:=Yu r n p mu (rs.ls++rest) ok.1 (by omega) hm hd (by omega);obtain⟨qs,mu2,O2,e2,e3,R3⟩:=M5 rs n (p+r.ls.length) m mu1 rest (acc++[q]) (zS q) ok.2 (by omega) R1.st.now (jc hd) hs (by omega) (by omega) (by rw[aaH]; simp; omega);have ha:=(aaD.mp hm).1;have k2:lF mu.length mu1 mu2:=R3.st.keep ha;refine⟨q::qs,mu2,R2 a acc (zS q) mu1,bK (l:=.sh q) (O1:=R2 a acc o mu1) (aL (ps:=[.ptr a]) (ls:=[.sh (.ptr a)]) (O1:=R2 a acc o mu) rfl rfl rfl rfl e1) rfl rfl,?_,⟨?_,?_,?_,?_⟩⟩
  . have t:Yr (R2 a acc (zS q) mu1)=some (true,R2 a acc (zS q) mu1):=cj (l:=.sh (.bl true)) (bC (x:=.sh q) (y:=.sh .non) (O1:=R2 a acc (zS q) mu1) rfl rfl (by show some (Lc.sh (.bl (!qW q)))=_; rw[R1.opn.non]; rfl)) rfl rfl;rw[Eu t (aB (O':=R2 a (acc++[q]) (zS q) mu1) (fL (ws0:=acc) (ws:=acc) (l:=.sh q) (O1:=R2 a acc (zS q) mu1) rfl rfl rfl rfl (by omega) rfl) e2),e3];rw[aaZ];rfl
  . rw[el,aaH,<-Nat.add_assoc];exact R1.st.trans R3.st
  . rw[ep,hdp];exact((R1.see.ext k2).up (by omega)).app ((R3.see.low R1.st.le).up (by omega))
  . intro x hx;rcases aaI.mp hx with rfl | hx
    . exact R1.opn.ext k2
    . exact(R3.opn x hx).low R1.st.le
  . rw[el,aaH,aaC];have:=R3.len;omega
theorem wu {L:List (List Str)} {a:Nat}:∀(rs:Rows) (n p:Nat) (mu:Mu) (rest:List (List Str)),rs.ok->3*rs.dep<=n->mu[a]?=some (some (LN L p))->L.drop p=rs.ls++rest->Stop L (p+rs.ls.length)->rs.ls.length<=190->∃qs mu',eH (n+2) [.ptr a] mu=some (.own (.lst qs),mu')/\Ys L a mu p rs qs mu'
 | rs,n,p,mu,rest,ok,hn,hm,hd,hs,hl=>by obtain⟨qs,mu',O2,e1,e2,R⟩:=M5 rs n p 200 mu rest [] none ok hn hm hd hs hl (by omega) (by simp; omega);refine⟨qs,mu',?_,R⟩;rw[eH];refine aR (O:=⟨[zS (.ptr a),none,some (.sh .non)],mu'⟩) ?_;rw[abH]at e2;exact aB (O':=R2 a [] none mu) rfl (aB e1 (aB e2 rfl))
end
theorem S8 (hv:O.vs[i]?=some (zS (.fn nm))) (hT:T.lookup nm=some g) (h:az g a O=R):tZ T i a O=R:=by unfold tZ;rw[hv];dsimp only;rw[hT];exact h
abbrev hdT:List (Str×GF):=[("pair_told",j7),("grant_told",jC),("box_told",lM)]
abbrev hdE:EF:=tZ hdT 1 (aa (eE "Lines" "words" cO (aj 0) ao) ao)
abbrev hdS:SF:=aM 3 hdE
abbrev ZJ:TF:=tT (aC wM (aj 3) (eC .non)) aW
abbrev ZK:SF:=jG (eE "Lines" "go_on" fB (aj 0) ao)
abbrev hdL:SF:=aF (cY 2 (aj 3)) (aF ZK hdS)
abbrev R4 (a:Nat) (nm:Str) (acc:List PV) (o:Option Lc) (mu:Mu):Ev:=⟨[zS (.ptr a),zS (.fn nm),zO acc,o],mu⟩
theorem M6 (hT:hdT.lookup nm=some g) (hm:mu[a]?=some (some (LN L p))) (h:g [wl (wd L p)] mu=some (.sh v,mu)):hdS (R4 a nm acc o mu)=some (.nx (R4 a nm acc (zS v) mu)):=
 bK (S8 rfl hT (aL (aH (nO hm) rfl) rfl rfl rfl h)) rfl rfl
theorem Dn {α:Type} (hT:hdT.lookup nm=some g) (line:α->List Str) (val:α->PV):∀(xs:List α) (p m:Nat) (mu:Mu) (rest:List (List Str)) (acc:List PV) (o:Option Lc),(∀x∈xs,∀mu:Mu,g [wl (line x)] mu=some (.sh (val x),mu))->(∀x∈xs,qW (val x)=false)->mu[a]?=some (some (LN L p))->L.drop p=xs.map line++rest->(∀mu:Mu,g [wl (wd L (p+xs.length))] mu=some (.sh .non,mu))->xs.length<m->acc.length+xs.length<=1000->
 ∃O2 mu',hdS (R4 a nm acc o mu)=some (.nx O2)/\mW m ZJ hdL O2=some (.nx (R4 a nm (acc++xs.map val) (some (.sh .non)) mu'))/\dO L a mu mu' (p+xs.length)
 | [],p,m,mu,rest,acc,o,_,_,hm,_,hs,hk,_=>by obtain⟨m,rfl⟩:∃k,m=k+1:=⟨m-1,by simp at hk; omega⟩;refine⟨_,mu,M6 hT hm (hs mu),?_,⟨aaE _,hm,λ_ _ _=>rfl⟩⟩;rw[abz,aa1];exact Ew rfl
 | x::xs,p,m,mu,rest,acc,o,hg,hn,hm,hd,hs,hk,hl=>by
  obtain⟨m,rfl⟩:∃k,m=k+1:=⟨m-1,by omega⟩;have e1:p+(x::xs).length=p+1+xs.length:=by rw[aaC]; omega
  rw[e1]at hs;have s1:dO L a mu (mu.set a (some (LN L (p+1)))) (p+1):=dO.set hm _;obtain⟨O2,mu',i1,i2,i3⟩:=Dn hT line val xs (p+1) m _ rest (acc++[val x]) (zS (val x)) (λy hy=>hg y (aaA _ hy)) (λy hy=>hn y (aaA _ hy)) s1.now (uD hd) hs (by omega) (by rw[aaH]; simp; omega);have h1:=hg x aaz mu;rw[<-xM hd]at h1;refine⟨_,mu',M6 hT hm h1,?_,by rw[e1]; exact s1.trans i3⟩;have t:ZJ (R4 a nm acc (zS (val x)) mu)=some (true,R4 a nm acc (zS (val x)) mu):=cj (l:=.sh (.bl true)) (bC rfl rfl (by show some (Lc.sh (.bl (!qW (val x))))=_; rw[hn x aaz]; rfl)) rfl rfl;have st:hdL (R4 a nm acc (zS (val x)) mu)=some (.nx O2):=aB (fL rfl rfl rfl rfl (by omega) rfl) (aB (v8 hm) i1);rw[Eu t st,i2,aaZ];rfl
theorem Bu {α:Type} {rest:List (List Str)} (hT:hdT.lookup nm=some g) (line:α->List Str) (val:α->PV) (xs:List α) (hg:∀x∈xs,∀mu:Mu,g [wl (line x)] mu=some (.sh (val x),mu)) (hn:∀x∈xs,qW (val x)=false) (hm:mu[a]?=some (some (LN L p))) (hd:L.drop p=xs.map line++rest) (hs:∀mu:Mu,g [wl (wd L (p+xs.length))] mu=some (.sh .non,mu)) (hl:xs.length<=190):
 ∃mu',dY [.ptr a,.fn nm] mu=some (.own (.lst (xs.map val)),mu')/\dO L a mu mu' (p+xs.length):=by
 obtain⟨O2,mu',i1,i2,i3⟩:=Dn hT line val xs p 200 mu rest [] none hg hn hm hd hs (by omega) (by simp; omega);exact⟨mu',aR (O:=⟨[zS (.ptr a),zS (.fn nm),none,some (.sh .non)],mu'⟩) (aB (O':=R4 a nm [] none mu) rfl (aB i1 (aB i2 rfl))),i3⟩
def M7 (lo hi:Nat) (mu:Mu) (q:PV) (f:Fn):Prop:=∃n1 n2,q=.tup [.str f.name,eZ f.rank,.ptr n1,.ptr n2]/\lo<=n1/\n1<hi/\n2<hi/\n1<mu.length/\mu[n1]?=some (some (.lst (f.params.map jf)))/\Blk lo mu n2 f.rows
theorem M7.ext {lo hi:Nat} (h:M7 lo hi mu q f) (g:lF lo mu mu'):M7 lo hi mu' q f:=by obtain⟨n1,n2,h1,h2,h3,h4,h5,h6,h7⟩:=h;exact⟨n1,n2,h1,h2,h3,h4,aaG h5 g.le,(g.old n1 h2 h5).trans h6,h7.ext g⟩
theorem M7.see {lo hi:Nat} (h:M7 lo hi mu q f) (hf:f.rows.dep<=5) (g:∀n,lo<=n->n<mu.length->mu2[n]?=mu[n]?) (hk:20<=k):cH mu2 k q=f.pv:=by
 obtain⟨n1,n2,rfl,h2,h3,h4,h5,h6,h7⟩:=h;obtain⟨j,rfl⟩:∃j,k=j+3:=⟨k-3,by omega⟩;have e1:cH mu2 (j+2) (.ptr n1)=.lst (f.params.map jf):=by
  show (match mu2[n1]? with | some (some p)=>cH mu2 (j+1) p | _=>.ptr n1)=_;rw[g n1 h2 h5,h6];exact Fx.lst (λp hp=>by obtain⟨x,_,rfl⟩:=aa0.mp hp;exact Fx.tup (dJ .str (dJ Ai nQ))) mu2 (j+1)
 show PV.tup [cH mu2 (j+2) (.str f.name),cH mu2 (j+2) (eZ f.rank),cH mu2 (j+2) (.ptr n1),cH mu2 (j+2) (.ptr n2)]=_;rw[Fx.str,Ai,e1,h7.see g (by omega)];rfl
inductive nD (lo hi:Nat) (mu:Mu):List PV->List Fn->Prop where
 | nil:nD lo hi mu [] []
 | cons {q:PV} {f:Fn} {qs:List PV} {fs:List Fn} (h:M7 lo hi mu q f) (t:nD lo hi mu qs fs):nD lo hi mu (q::qs) (f::fs)
theorem nD.ext {lo hi:Nat} (g:lF lo mu mu'):∀{qs:List PV} {fs:List Fn},nD lo hi mu qs fs->nD lo hi mu' qs fs
 | _,_,.nil=>.nil
 | _,_,.cons h t=>.cons (h.ext g) (t.ext g)
theorem nD.wide {lo lo' hi hi':Nat} (h0:lo'<=lo) (h1:hi<=hi'):∀{qs:List PV} {fs:List Fn},nD lo hi mu qs fs->nD lo' hi' mu qs fs
 | _,_,.nil=>.nil
 | _,_,.cons ⟨n1,n2,h,h2,h3,h4,h5,h6,h7⟩ t=>.cons ⟨n1,n2,h,by omega,by omega,by omega,h5,h6,h7.low h0⟩ (t.wide h0 h1)
theorem nD.see {lo hi:Nat} (g:∀n,lo<=n->n<mu.length->mu2[n]?=mu[n]?) (hk:20<=k):∀{qs:List PV} {fs:List Fn},nD lo hi mu qs fs->(∀f∈fs,f.rows.dep<=5)->qs.map (cH mu2 k)=fs.map Fn.pv
 | _,_,.nil,_=>rfl
 | _,_,.cons h t,hf=>by rw[aaV,aaV,h.see (hf _ aaz) g hk,t.see g hk λf hf'=>hf f (aaA _ hf')]
theorem nD.len {lo hi:Nat}:∀{qs:List PV} {fs:List Fn},nD lo hi mu qs fs->qs.length=fs.length
 | _,_,.nil=>rfl
 | _,_,.cons _ t=>by rw[aaC,aaC,t.len]
abbrev fnE:EF:=az iC (aa (eE "Lines" "words" cO (aj 0) ao) ao)
abbrev Yv:SF:=aM 2 fnE
abbrev ZL:TF:=tT (aC wM (aj 2) (eC .non)) aW
abbrev ZM:EF:=aC aY (aj 2) (bQ (aa (az (cQ 40) (aa (aj 0) (aa (aeP "end") ao))) ao))
abbrev ZP:SF:=aF ZK (aF (cY 1 ZM) Yv)
theorem M8 (hm:mu[a]?=some (some (LN L p))) (h:iC [wl (wd L p)] mu=some (.sh v,mu')):Yv (R2 a acc o mu)=some (.nx (R2 a acc (zS v) mu')):=
 bK (aL (aH (nO hm) rfl) rfl rfl rfl h) rfl rfl
theorem Gw:∀(fs:List Fn) (p m:Nat) (mu:Mu) (rest:List (List Str)) (acc:List PV) (o:Option Lc),(∀f∈fs,sU f)->mu[a]?=some (some (LN L p))->L.drop p=dg fs++rest->(∀mu:Mu,iC [wl (wd L (p+(dg fs).length))] mu=some (.sh .non,mu))->(dg fs).length<=190->fs.length<m->acc.length+fs.length<=1000->
 ∃qs O2 mu',Yv (R2 a acc o mu)=some (.nx O2)/\mW m ZL ZP O2=some (.nx (R2 a (acc++qs) (some (.sh .non)) mu'))/\dO L a mu mu' (p+(dg fs).length)/\nD mu.length mu'.length mu' qs fs
 | [],p,m,mu,rest,acc,o,_,hm,_,hs,_,hk,_=>by obtain⟨m,rfl⟩:∃k,m=k+1:=⟨m-1,by simp at hk; omega⟩;refine⟨[],_,mu,M8 hm (hs mu),?_,⟨aaE _,hm,λ_ _ _=>rfl⟩,.nil⟩;rw[aa1];exact Ew rfl
 | f::fs,p,m,mu,rest,acc,o,hf,hm,hd,hs,hc,hk,hl=>by
  rw[aaC]at hk hl;obtain⟨m,rfl⟩:∃k,m=k+1:=⟨m-1,by omega⟩;have e0:dg (f::fs)=f.ls++dg fs:=by simp[dg]
  have ff:=hf f aaz;have el:f.ls.length=f.rows.ls.length+2:=by simp[Fn.ls]
  rw[e0,aaH]at hc;rw[e0,aaH,<-Nat.add_assoc]at hs;rw[e0,aaZ]at hd;have hd0:L.drop p=(("def" : Str)::f.name::cJ f.rank::jE f.params)::(f.rows.ls++[("end" : Str)]::(dg fs++rest)):=by rw[hd]; simp[Fn.ls]
  have hh:=V5 (mu:=mu) ff;rw[<-xM hd0]at hh;let hp:PV:=.tup [.str f.name,eZ f.rank,.ptr mu.length];let mu1:=mu++[some (PV.lst (f.params.map jf))];have s1:dO L a mu mu1 p:=dO.app hm _;have s2:dO L a mu (mu1.set a (some (LN L (p+1)))) (p+1):=s1.trans (dO.set s1.now _);have ha:=(aaD.mp hm).1;have l1:mu1.length=mu.length+1:=by show (mu++[_]).length=_; simp
  have l2:(mu1.set a (some (LN L (p+1)))).length=mu.length+1:=by rw[abQ,l1]
  have g1:(mu1.set a (some (LN L (p+1))))[mu.length]?=some (some (.lst (f.params.map jf))):=by rw[abe (by omega)];rw[aaW (aaE _),abV];rfl
  have hd1:=uD hd0;obtain⟨qr,mr,er,RR⟩:=wu f.rows 37 (p+1) _ ([("end" : Str)]::(dg fs++rest)) ff.ok.rows (by have:=ff.dep; omega) s2.now hd1 (Dm (.inr rfl) (jc hd1)) (by omega);obtain⟨mu3,nn,eb,s3,b3⟩:=xN (aaG ha s2.le) er RR (.inr rfl) hd1 (by omega);let fp:PV:=.tup [.str f.name,eZ f.rank,.ptr mu.length,.ptr nn];have hd2:=uD (jc hd1);have e2:p+f.ls.length=p+1+f.rows.ls.length+1:=by rw[el]; omega
  rw[e2]at hs;obtain⟨qs,O2,mu4,i1,i2,i3,i4⟩:=Gw fs (p+1+f.rows.ls.length+1) m mu3 rest (acc++[fp]) (zS hp) (λy hy=>hf y (aaA _ hy)) s3.now hd2 hs (by omega) (by omega) (by rw[aaH]; simp; omega);have k3:=s3.keep ha;have k4:=i3.keep ha;refine⟨fp::qs,_,mu4,M8 hm hh,?_,?_,?_⟩
  . have t:ZL (R2 a acc (zS hp) mu1)=some (true,R2 a acc (zS hp) mu1):=rfl;have ad:ZM (R2 a acc (zS hp) (mu1.set a (some (LN L (p+1)))))=some (.sh fp,R2 a acc (zS hp) mu3):=bC rfl (eY (aH (aL rfl rfl rfl rfl eb) rfl) rfl rfl) rfl;have st:ZP (R2 a acc (zS hp) mu1)=some (.nx O2):=aB (v8 s1.now) (aB (fL rfl ad rfl rfl (by omega) rfl) i1);rw[Eu t st,i2,aaZ];rfl
  . have e3:p+(dg (f::fs)).length=p+1+f.rows.ls.length+1+(dg fs).length:=by rw[e0,aaH,el]; omega
    rw[e3];exact(s2.trans s3).trans i3
  . have hx:mu.length<(mu1.set a (some (LN L (p+1)))).length:=by omega
    have q3:=k3.le;have q4:=k4.le;have bb:=(b3.ext (i3.keep (by omega))).low s2.le;refine .cons ⟨mu.length,nn,rfl,aaE _,by omega,bb.2.1,by omega,?_,bb⟩ (i4.wide (by omega) (aaE _));rw[k4.old mu.length (aaE _) (by omega),k3.old mu.length (aaE _) hx];exact g1
theorem V8 {rest:List (List Str)} (fs:List Fn) (hf:∀f∈fs,sU f) (hm:mu[a]?=some (some (LN L p))) (hd:L.drop p=dg fs++rest) (hs:∀mu:Mu,iC [wl (wd L (p+(dg fs).length))] mu=some (.sh .non,mu)) (hl:(dg fs).length<=190) (hk:fs.length<=190):
 ∃qs mu',ig [.ptr a] mu=some (.own (.lst qs),mu')/\dO L a mu mu' (p+(dg fs).length)/\nD mu.length mu'.length mu' qs fs:=by
 obtain⟨qs,O2,mu',i1,i2,i3,i4⟩:=Gw fs p 200 mu rest [] none hf hm hd hs hl (by omega) (by simp; omega);exact⟨qs,mu',aR (O:=⟨[zS (.ptr a),none,some (.sh .non)],mu'⟩) (aB (O':=R2 a [] none mu) rfl (aB i1 (aB i2 rfl))),i3,i4⟩
theorem S9 {rest:List (List Str)} (hm:mu[a]?=some (some (LN L p))) (hd:L.drop p=(("ranks" : Str)::nms)::rest) (hn:∀x∈nms,Gn x) (h0:nms≠[]) (hl:nms.length<=100):lD [.ptr a] mu=some (.own (wl nms),mu.set a (some (LN L (p+1)))):=by
 let W:List Str:=("ranks" : Str)::nms;let E:Lc->Mu->Ev:=λl mu=>⟨[zS (.ptr a),some l],mu⟩;have mw:=nO (vs:=[none]) hm;rw[xM hd]at mw;have s1:aM 1 (eE "Lines" "words" cO (aj 0) ao) ⟨[zS (.ptr a),none],mu⟩=some (.nx (E (.own (wl W)) mu)):=bK mw rfl rfl;let F:=E (.sh (wl W)) mu;have sl:∀mu,fH (aj 1) (cD (aeO 1)) d9 (E (.sh (wl W)) mu)=some (.own (wl nms),E (.sh (wl W)) mu):=λmu=>by refine(Dk (z:=.str "ranks" :: nms.map .str) (O3:=E (.sh (wl W)) mu) rfl rfl rfl rfl).trans ?_;rw[S7]
 have t1:tT (aC gC (aG (aj 1) (aeO 0)) (aeP "ranks")) aW (E (.own (wl W)) mu)=some (false,F):=by refine cj (bC (x:=.sh (.str "ranks")) (fV rfl rfl rfl rfl (λn h=>by cases h) ?_) rfl rfl) rfl rfl;show (eQ (W.map PV.str) 0).map _=_;rw[show eQ (W.map PV.str) 0=some (.str "ranks") from qT rfl];rfl
 have t2:tT (aC eqP (eB du (aa (aj 1) ao)) (aeO 1)) aW F=some (false,F):=by
  refine cj (l:=.sh (.bl false)) (bC rfl rfl ?_) rfl rfl;show some (Lc.sh (.bl (((W.map PV.str).length:Int)==1)))=_;have:(((W.map PV.str).length:Int)==1)=false:=acw.mpr (by have:0<nms.length:=List.length_pos_iff.mpr h0;simp[W];omega)
  rw[this]
 have t3:dH (tT (az dZ (aa (fH (aj 1) (cD (aeO 1)) d9) ao)) dq) F=some (false,F):=jA (b:=true) (cj (aL (aH (sl mu) rfl) rfl rfl rfl (uB hn (by omega))) rfl rfl);have tt:dR (tT (aC gC (aG (aj 1) (aeO 0)) (aeP "ranks")) aW) (dR (tT (aC eqP (eB du (aa (aj 1) ao)) (aeO 1)) aW) (dH (tT (az dZ (aa (fH (aj 1) (cD (aeO 1)) d9) ao)) dq))) (E (.own (wl W)) mu)=some (false,F):=by have e:=kJ t2 t3;show (tT (aC gC (aG (aj 1) (aeO 0)) (aeP "ranks")) aW (E (.own (wl W)) mu)).bind _=_;rw[t1,aay];exact e
 exact aR (aB s1 (aB ((bI tt).trans rfl) (aB (v8 hm) (bO (sl _)))))
def Cl (w:Str):Prop:=32∉w.cps.toList/\10∉w.cps.toList
theorem Cl.of (h:∀c∈w.cps.toList,33<=c):Cl w:=⟨λm=>absurd (h _ m) (by decide),λm=>absurd (h _ m) (by decide)⟩
theorem Cl.dec (h:w.cps.toList.all (λc=>decide (33<=c))=true):Cl w:=Cl.of λc hc=>of_decide_eq_true (List.all_eq_true.mp h c hc)
theorem Gn.cl (h:Gn w):Cl w:=Cl.of λc hc=>by have:=(h.2.2 c hc).1; omega
theorem QQ {v:Int} (h0:0<=v) (h1:v<1000000000000):Cl (toString v:Str):=by obtain⟨c,r,_,_,hd,_⟩:=Ah h0 h1;exact Cl.of λc hc=>by have:=(hd c hc).1; omega
theorem Hu (h:Bq r):Cl (cJ r):=by
 cases r with
 | none=>exact Cl.dec (by decide +kernel)
 | some x=>exact(h x rfl).cl
def lG (ws:List Str):Prop:=∀w∈ws,Cl w
theorem lG.nil:lG []:=λw hw=>by cases hw
theorem lG.cons (h:Cl w) (g:lG ws):lG (w::ws):=λx hx=>by
 rcases aaI.mp hx with rfl | hx
 . exact h
 . exact g x hx
theorem lG.app (h:lG a) (g:lG b):lG (a++b):=λx hx=>(abq.mp hx).elim (h x) (g x)
theorem n6:∀e:aV,e.ok->lG e.ws
 | .num v,ok=>.cons (QQ ok.1 ok.2) .nil
 | .box x,ok=>.cons (Gn.cl ok) .nil
 | .at x e,ok=>.cons (Cl.dec (by decide +kernel)) (.cons (Gn.cl ok.1) (n6 e ok.2))
 | .sg s a b,ok=>.cons (by rcases ok.1 with rfl | rfl | rfl | rfl | rfl<;>exact Cl.dec (by decide +kernel)) ((n6 a ok.2.1).app (n6 b ok.2.2))
theorem Yw (h:∀e∈es,Ex e):lG (fZ es):=by
 induction es with
 | nil=>exact .nil
 | cons e es ih=>
  exact(n6 e (h e aaz).1).app (ih λx hx=>h x (aaA _ hx))
def Gd (l:List Str):Prop:=l≠[]/\lG l
theorem Gd.cons (h:Cl w) (g:lG ws):Gd (w::ws):=⟨List.cons_ne_nil _ _,.cons h g⟩
theorem V9:Gd ["else"]:=.cons (Cl.dec (by decide +kernel)) .nil
theorem KJ:Gd ["end"]:=.cons (Cl.dec (by decide +kernel)) .nil
theorem jR {α:Type} {P:α->Prop} {a b:List α} (h:∀x∈a,P x) (g:∀x∈b,P x):∀x∈a++b,P x:=λx hx=>(abq.mp hx).elim (h x) (g x)
theorem mK {α:Type} {P:α->Prop} {a:α} (h:P a):∀x∈[a],P x:=λx hx=>by rw[abx.mp hx]; exact h
theorem all_cons {α:Type} {P:α->Prop} {a:α} {l:List α} (h:P a) (g:∀x∈l,P x):∀x∈a::l,P x:=jR (mK h) g
mutual
theorem Yx:∀r:Row,r.ok->∀l∈r.ls,Gd l
 | .set x e,ok=>by simp only[Row.ok]at ok;simp only[Row.ls];exact mK (.cons (Cl.dec (by decide +kernel)) (.cons ok.1.cl (n6 e ok.2.1)))
 | .put x e f,ok=>by simp only[Row.ok]at ok;simp only[Row.ls];exact mK (.cons (Cl.dec (by decide +kernel)) (.cons ok.1.cl ((n6 e ok.2.1.1).app (n6 f ok.2.2.1))))
 | .out x e w,ok=>by simp only[Row.ok]at ok;simp only[Row.ls];exact mK (.cons (Cl.dec (by decide +kernel)) (.cons ok.1.cl (.cons ok.2.1.cl (n6 e ok.2.2.1))))
 | .call x f es,ok=>by simp only[Row.ok]at ok;simp only[Row.ls];exact mK (.cons (Cl.dec (by decide +kernel)) (.cons ok.1.cl (.cons ok.2.1.cl (Yw ok.2.2.2))))
 | .ifr e a b,ok=>by simp only[Row.ok]at ok;rw[xn];exact all_cons (.cons (Cl.dec (by decide +kernel)) (n6 e ok.1.1)) (jR (jR (jR (sY a ok.2.1) (mK V9)) (sY b ok.2.2)) (mK KJ))
 | .wh e a,ok=>by simp only[Row.ok]at ok;rw[xq];exact all_cons (.cons (Cl.dec (by decide +kernel)) (n6 e ok.1.1)) (jR (sY a ok.2) (mK KJ))
theorem sY:∀rs:Rows,rs.ok->∀l∈rs.ls,Gd l
 | .nil,_=>by simp[Rows.ls]
 | .cons r rs,ok=>by simp only[Rows.ok]at ok;simp only[Rows.ls];exact jR (Yx r ok.1) (sY rs ok.2)
end
theorem il {α β:Type} {P:β->Prop} {f:α->β} {l:List α} (h:∀a∈l,P (f a)):∀x∈l.map f,P x:=λx hx=>by obtain⟨a,ha,rfl⟩:=aa0.mp hx;exact h a ha
theorem Yy {f:Fn} (h:sU f):∀l∈f.ls,Gd l:=by
 have hp:lG (jE f.params):=by
  have:=h.par;generalize f.params=ps at this;induction ps with
  | nil=>exact .nil
  | cons q ps ih=>
   rw[uU];exact .cons (this q aaz).1.cl (.cons (Hu (this q aaz).2) (ih λx hx=>this x (aaA _ hx)))
 exact all_cons (.cons (Cl.dec (by decide +kernel)) (.cons h.name.cl (.cons (Hu h.rank) hp))) (jR (sY f.rows h.ok.rows) (mK KJ))
theorem Tc {T:Tl} (h:xH T):∀l∈T.lines,Gd l:=by
 refine jR (jR (jR (jR (jR (mK (.cons (Cl.dec (by decide +kernel)) λw hw=>(h.no w hw).cl)) ?_) ?_) ?_) ?_) (sY _ h.pg.ro)
 . exact il λq hq=>.cons (Cl.dec (by decide +kernel)) (.cons (h.po q hq).1.cl (.cons (h.po q hq).2.cl .nil))
 . exact il λq hq=>.cons (Cl.dec (by decide +kernel)) (.cons (h.pg.go q hq).1.cl (.cons (h.pg.go q hq).2.1.cl (.cons (h.pg.go q hq).2.2.cl .nil)))
 . refine il λb hb=>?_;have hb':=h.pg.bo b hb;by_cases hz:b.size=0
   . have:b.l=[("box" : Str),b.name,cJ b.rank]:=acq hz;rw[this];exact .cons (Cl.dec (by decide +kernel)) (.cons hb'.name.cl (.cons (Hu hb'.rank) .nil))
   . have:b.l=[("list" : Str),b.name,toString (b.size:Int),cJ b.rank]:=acr hz;have hs:=hb'.size;rw[this];exact .cons (Cl.dec (by decide +kernel)) (.cons hb'.name.cl (.cons (QQ (by omega) (by omega)) (.cons (Hu hb'.rank) .nil)))
 . intro l hl;obtain⟨ls,hls,hl⟩:=List.mem_flatten.mp hl;obtain⟨f,hf,rfl⟩:=aa0.mp hls;exact Yy (h.pg.fo f hf) l hl
theorem M9 {c d:Nat} (hc:d≠c):∀{ws:List Str},(∀w∈ws,d∉w.cps.toList)->d∉(Str.join ⟨#[c]⟩ ws).cps.toList
 | [],_=>λm=>by have m:d∈([]:List Nat):=m;cases m
 | [x],h=>h x aaz
 | x::y::r,h=>λm=>by
  rw[uA]at m;rcases abq.mp m with m | m
  . exact h x aaz m
  . rcases aaI.mp m with m | m
    . exact hc m
    . exact M9 hc (λw hw=>h w (aaA _ hw)) m
theorem Ox:(" " : Str)=⟨#[32]⟩/\("\n" : Str)=⟨#[10]⟩:=by decide +kernel
theorem K9 {l:List Str} (h:Gd l):Txt.split (Txt.join " " l) " " = l:=by rw[Ox.1];exact Dh h.1 λw hw=>(h.2 w hw).1
theorem La {L:List (List Str)} (h:∀l∈L,Gd l) (h0:L≠[]):Txt.split (TX L) "\n" = L.map (Txt.join " "):=by
 unfold TX;rw[Ox.2];refine Dh (by simpa using h0) λw hw=>?_;obtain⟨l,hl,rfl⟩:=aa0.mp hw;have e:Txt.join " " l=Str.join ⟨#[32]⟩ l:=by rw[Ox.1]; exact StrLaws.glued_eq_join _ _
 rw[e];exact M9 (by decide) λw hw=>((h l hl).2 w hw).2
theorem KN {f:EF} {a:AF} {O O1 O2:Ev} {l m:Lc} {z w:Str} (h:f O=some (l,O1)) (hl:l.pv=.str z) (h2:a O1=some ([m],O2)) (hm:m.pv=.str w) (hw:(w.length==0)=false) (hz:z.length<=100000):rN f a O=some (.own (.lst ((Txt.split z w).map .str)),O2):=by unfold rN;rw[h,aay,h2,aay];show (match l.pv,[m.pv] with | .str z,[.str w]=>_ | _,_=>_)=_;rw[hl,hm];show (if (w.length==0)=false/\z.length<=100000 then _ else _)=_;rw[acq ⟨hw,hz⟩]
theorem Wa {L:List (List Str)} {a:Nat} {mu:Mu} (h:∀l∈L,Gd l) (h0:L≠[]) (hw:tw L+L.length<=100000) (hm:mu[a]?=some (some (jB "Lines" []))):gO [.ptr a,.str (TX L)] mu=some (.sh .non,mu.set a (some (LN L 0))):=by
 let E:Ev:=⟨[zS (.ptr a),zT (TX L)],mu⟩;have tl:(TX L).length<=100000:=by have:=wR (z := "\n") (xs:=L.map (Txt.join " "));have h1:=Mp L;rw[v4.2,aaT]at this;show (Txt.join "\n" (L.map (Txt.join " "))).length<=_;omega
 have sp:rN (aj 1) (aa (aeP "\n") ao) E=some (.own (.lst ((L.map (Txt.join " ")).map .str)),E):=by refine(KN (l:=.sh (.str (TX L))) (m:=.sh (.str "\n")) (z:=TX L) (w := "\n") (O1:=E) (O2:=E) rfl rfl rfl rfl (by decide +kernel) tl).trans ?_;rw[La h h0]
 have comp:fY (aJ 0) bY (rN (aj 0) (aa (aeP " ") ao)) ((L.map (Txt.join " ")).map .str) ⟨[none],mu⟩ []=some (ll L,mu):=by
  have:=lJ (b:=aJ 0) (te:=rN (aj 0) (aa (aeP " ") ao)) (mu:=mu) (λO=>∃o,O=⟨[o],mu⟩) (λO ⟨o,e⟩=>by rw[e]) (λp=>match p with | .str z=>.lst ((Txt.split z " ").map .str) | _=>.non) (xs:=(L.map (Txt.join " ")).map .str) (O:=⟨[none],mu⟩) ⟨none,rfl⟩ (by simp; omega) ?_ ?_
  . rw[this];refine congrArg (λl=>some (l,mu)) ?_;show List.map _ _=List.map wl L;rw[abn,abn];refine abB λw hw=>?_;show PV.lst ((Txt.split (Txt.join " " w) " ").map .str)=_;rw[K9 (h w hw)]
  . rintro x hx O ⟨o,rfl⟩;obtain⟨w,hw',rfl⟩:=aa0.mp hx;obtain⟨l,hl,rfl⟩:=aa0.mp hw';have jl:(Txt.join " " l).length<=100000:=by have:=wR (z := " ") (xs:=l);rw[v4.1,Oh]at this;have:=Uh hl;omega
    exact⟨⟨[some (.sh (.str (Txt.join " " l)))],mu⟩,rfl,.own (.lst ((Txt.split (Txt.join " " l) " ").map .str)),⟨[some (.sh (.str (Txt.join " " l)))],mu⟩,KN (l:=.sh (.str (Txt.join " " l))) (m:=.sh (.str " ")) (z:=Txt.join " " l) (w := " ") (O1:=⟨[some (.sh (.str (Txt.join " " l)))],mu⟩) (O2:=⟨[some (.sh (.str (Txt.join " " l)))],mu⟩) rfl rfl rfl rfl (by decide +kernel) jl,rfl,_,rfl⟩
  . rintro x hx O O2 ⟨o,rfl⟩ h;cases h;exact⟨_,rfl⟩
 have ec:=gG (m:=1) (ixs:=[]) (rM (g:=cX) (xs:=(L.map (Txt.join " ")).map .str) sp rfl) comp;have ha:=(aaD.mp hm).1;let F:Ev:=⟨[zS (.ptr a),zT (TX L)],mu.set a (some (jB "Lines" [("lines",.lst (ll L))]))⟩;have s1:=Et (C := "Lines") (f := "lines") (fo:=aj 0) (O:=E) (O1:=E) (O2:=E) (x:=.sh (.ptr a)) (p:=.lst (ll L)) (n:=a) (l:=[]) ec rfl rfl rfl hm (by simp);have hm2:F.mu[a]?=some (some (jB "Lines" [("lines",.lst (ll L))])):=aa5 ha;have s2:=Et (C := "Lines") (f := "at") (fo:=aj 0) (fv:=aeO 0) (O:=F) (O1:=F) (O2:=F) (y:=.sh (.int 0)) (x:=.sh (.ptr a)) (p:=.int 0) (n:=a) (l:=[("lines",.lst (ll L))]) rfl rfl rfl rfl hm2 (by simp);refine vO (O:=⟨[zS (.ptr a),zT (TX L)],mu.set a (some (LN L 0))⟩) (aB (O':=F) s1 (s2.trans ?_));show some (Fl.nx ⟨_,(mu.set a (some (jB "Lines" [("lines",.lst (ll L))]))).set a (some (LN L 0))⟩)=_;rw[abE]
def Fw (S:List Str) (l:List Str):Prop:=∃x,l[0]?=some x/\x∈S
def HF (S:List Str) (R:List (List Str)):Prop:=∀l,R.head?=some l->Fw S l
theorem HF.app {S:List Str} {A B:List (List Str)} (h:HF S A) (g:HF S B):HF S (A++B):=λl hl=>by
 cases A with
 | nil=>exact g l hl
 | cons a A=>exact h l hl
theorem HF.map {S:List Str} {α:Type} {f:α->List Str} {xs:List α} (h:∀x,Fw S (f x)):HF S (xs.map f):=λl hl=>by
 cases xs with
 | nil=>cases hl
 | cons x xs=>
  have e:f x=l:=by simpa using hl
  rw[<-e];exact h x
theorem HF.wd {S:List Str} {L R:List (List Str)} {p:Nat} (h:HF S R) (hd:L.drop p=R) (h0:("" : Str)∈S):Fw S (wd L p):=by
 cases R with
 | nil=>
  have:L[p]?=none:=by have:=List.drop_eq_nil_iff.mp hd;exact abw this
  unfold Law.wd;rw[this];exact⟨"",rfl,h0⟩
 | cons r R=>
  rw[xM hd];exact h r rfl
abbrev S4:List Str:=["set", "put", "out", "call", "if", "while", ""]
abbrev S3:List Str := "def" :: S4
abbrev S2:List Str := "box" :: "list" :: S3
abbrev S1:List Str := "may" :: S2
theorem Yz:∀r:Row,∃l t,r.ls=l::t/\Fw S4 l
 | .set x e=>⟨(Row.set x e).hd,[],by simp only[Row.ls], "set",rfl,by simp⟩
 | .put x e f=>⟨(Row.put x e f).hd,[],by simp only[Row.ls], "put",rfl,by simp⟩
 | .out x e w=>⟨(Row.out x e w).hd,[],by simp only[Row.ls], "out",rfl,by simp⟩
 | .call x f es=>⟨(Row.call x f es).hd,[],by simp only[Row.ls], "call",rfl,by simp⟩
 | .ifr e a b=>⟨_,_,xn, "if",rfl,by simp⟩
 | .wh e a=>⟨_,_,xq, "while",rfl,by simp⟩
theorem HF.sub {S S':List Str} {R:List (List Str)} (h:HF S R) (g:∀x∈S,x∈S'):HF S' R:=λl hl=>by obtain⟨x,h1,h2⟩:=h l hl;exact⟨x,h1,g x h2⟩
theorem Ak:∀rs:Rows,HF S4 rs.ls
 | .nil=>λl hl=>by simp[Rows.ls]at hl
 | .cons r rs=>λl hl=>by obtain⟨l',t,e,h⟩:=Yz r;simp only[Rows.ls,e,abk,List.head?_cons,Option.some.injEq]at hl;rw[<-hl];exact h
theorem EY (fs:List Fn):HF S3 (dg fs):=λl hl=>by
 cases fs with
 | nil=>simp[dg]at hl
 | cons f fs=>
  have e0:dg (f::fs)=f.ls++dg fs:=by simp[dg]
  rw[e0]at hl;simp only[Fn.ls,abk,List.head?_cons,Option.some.injEq]at hl;rw[<-hl];exact⟨"def",rfl,by simp⟩
theorem QR (b:Bx):Fw S2 b.l:=by
 unfold Bx.l;split
 . exact⟨"box",rfl,by simp⟩
 . exact⟨"list",rfl,by simp⟩
theorem not_of {S:List Str} {x y:Str} (h:S.all (λz=>!(z==y))=true) (hx:x∈S):(x==y)=false:=by have:=List.all_eq_true.mp h x hx;simpa using this
def xO (lo hi:Nat) (mu:Mu) (p:PV):Prop:=∃s t,p=.tup (.str s::t)/\((["if", "while"]:List Str).any (λy=>y==s)=true->∃e n u,t=e::.ptr n::u/\lo<=n/\n<hi/\n<mu.length/\∃ws,mu[n]?=some (some (.lst ws))/\ws.length<=200)
theorem wj.hi {lo:Nat} {mu:Mu} {p:PV} (h:wj lo mu p):xO lo mu.length mu p:=by obtain⟨s,t,e,h⟩:=h;refine⟨s,t,e,λhs=>?_⟩;obtain⟨e,n,u,h1,h2,h3,h4⟩:=h hs;exact⟨e,n,u,h1,h2,h3,h3,h4⟩
theorem xO.ext {lo hi:Nat} {mu mu':Mu} {p:PV} (h:xO lo hi mu p) (g:lF lo mu mu'):xO lo hi mu' p:=by obtain⟨s,t,e,h⟩:=h;refine⟨s,t,e,λhs=>?_⟩;obtain⟨e,n,u,h1,h2,h3,h4,ws,h5,h6⟩:=h hs;exact⟨e,n,u,h1,h2,h3,aaG h4 g.le,ws,(g.old n h2 h4).trans h5,h6⟩
theorem xO.low {lo lo' hi:Nat} {mu:Mu} {p:PV} (h:xO lo hi mu p) (g:lo'<=lo):xO lo' hi mu p:=by obtain⟨s,t,e,h⟩:=h;refine⟨s,t,e,λhs=>?_⟩;obtain⟨e,n,u,h1,h2,h3⟩:=h hs;exact⟨e,n,u,h1,by omega,h3⟩
def nR (lo:Nat) (mu:Mu) (n:Nat) (ps:List PV):Prop:=lo<=n/\n<mu.length/\mu[n]?=some (some (.lst ps))
theorem nR.ext {lo:Nat} {mu mu':Mu} {n:Nat} {ps:List PV} (h:nR lo mu n ps) (g:lF lo mu mu'):nR lo mu' n ps:=⟨h.1,aaG h.2.1 g.le,(g.old n h.1 h.2.1).trans h.2.2⟩
theorem nR.low {lo lo':Nat} {mu:Mu} {n:Nat} {ps:List PV} (h:nR lo mu n ps) (g:lo'<=lo):nR lo' mu n ps:=⟨aaX g h.1,h.2⟩
theorem nR.new {lo:Nat} {mu:Mu} {ps:List PV} (h:lo<=mu.length):nR lo (mu++[some (.lst ps)]) mu.length ps:=⟨h,by simp,by rw[aaW (aaE _),abV]; rfl⟩
structure Got (lo:Nat) (mu:Mu) (T:Tl) (n0 n1 n2 n3 n4 n5:Nat) (qs rs:List PV):Prop where
 c0:nR lo mu n0 (T.names.map .str)
 c1:nR lo mu n1 (T.pairs.map j4)
 c2:nR lo mu n2 (T.boxes.map Bx.pv)
 c3:nR lo mu n3 (T.grants.map mj)
 c4:nR lo mu n4 qs
 c5:nR lo mu n5 rs
 fs:nD lo n4 mu qs T.funs
 rl:rs.length<=200
 see:jr lo mu 15 rs T.rows.pvs
 opn:∀q∈rs,xO lo n5 mu q
 ord:n0<n4/\n1<n4/\n2<n4/\n3<n4/\n4<n5
theorem Got.ext {lo:Nat} {mu mu':Mu} {T:Tl} {n0 n1 n2 n3 n4 n5:Nat} {qs rs:List PV} (h:Got lo mu T n0 n1 n2 n3 n4 n5 qs rs) (g:lF lo mu mu'):Got lo mu' T n0 n1 n2 n3 n4 n5 qs rs:=⟨h.c0.ext g,h.c1.ext g,h.c2.ext g,h.c3.ext g,h.c4.ext g,h.c5.ext g,h.fs.ext g,h.rl,h.see.ext g,λq hq=>(h.opn q hq).ext g,h.ord⟩
def vD (n0 n1 n2 n3 n4 n5:Nat):PV:=.tup [.ptr n0,.ptr n1,.tup [.ptr n2,.ptr n3,.ptr n4,.ptr n5]]
theorem nR.see {lo:Nat} {mu:Mu} {n:Nat} {ps:List PV} (h:nR lo mu n ps) {mu2:Mu} (g:∀n,lo<=n->n<mu.length->mu2[n]?=mu[n]?) {k:Nat} {vs:List PV} (hv:ps.map (cH mu2 k)=vs):cH mu2 (k+2) (.ptr n)=.lst vs:=by show (match mu2[n]? with | some (some p)=>cH mu2 (k+1) p | _=>.ptr n)=_;rw[g n h.1 h.2.1,h.2.2];show PV.lst (ps.map (cH mu2 k))=_;rw[hv]
theorem Got.told {lo:Nat} {mu:Mu} {T:Tl} {n0 n1 n2 n3 n4 n5:Nat} {qs rs:List PV} (h:Got lo mu T n0 n1 n2 n3 n4 n5 qs rs) (hT:xH T) {mu2:Mu} (g:∀n,lo<=n->n<mu.length->mu2[n]?=mu[n]?):(∀k,30<=k->cH mu2 k (.ptr n0)=T.nmP/\cH mu2 k (.ptr n1)=T.prP/\cH mu2 k (.tup [.ptr n2,.ptr n3,.ptr n4,.ptr n5])=T.pgP)/\cH mu2 40 (vD n0 n1 n2 n3 n4 n5)=T.pv:=by
 have go:∀k,29<=k->cH mu2 k (.ptr n0)=T.nmP/\cH mu2 k (.ptr n1)=T.prP/\cH mu2 k (.ptr n2)=.lst (T.boxes.map Bx.pv)/\cH mu2 k (.ptr n3)=.lst (T.grants.map mj)/\cH mu2 k (.ptr n4)=.lst (T.funs.map Fn.pv)/\cH mu2 k (.ptr n5)=.lst T.rows.pvs:=λk hk=>by obtain⟨j,rfl⟩:∃j,k=j+2:=⟨k-2,by omega⟩;refine⟨h.c0.see g (wg (il λx _=>Fx.str) _ _),h.c1.see g (wg (il λx _=>Fx.tup (dJ .str (dJ .str nQ))) _ _),h.c2.see g (wg (il λx _=>Fx.tup (dJ .str (dJ .int (dJ Ai nQ)))) _ _),h.c3.see g (wg (il λx _=>Fx.tup (dJ .str (dJ .str (dJ .str nQ)))) _ _),h.c4.see g (h.fs.see g (by omega) λf hf=>(hT.pg.fo f hf).dep),h.c5.see g (h.see mu2 g j (by omega))⟩
 have pg:∀k,30<=k->cH mu2 k (.tup [.ptr n2,.ptr n3,.ptr n4,.ptr n5])=T.pgP:=λk hk=>by obtain⟨j,rfl⟩:∃j,k=j+1:=⟨k-1,by omega⟩;obtain⟨_,_,g2,g3,g4,g5⟩:=go j (by omega);show PV.tup [cH mu2 j (.ptr n2),cH mu2 j (.ptr n3),cH mu2 j (.ptr n4),cH mu2 j (.ptr n5)]=_;rw[g2,g3,g4,g5];rfl
 refine⟨λk hk=>⟨(go k (by omega)).1,(go k (by omega)).2.1,pg k hk⟩,?_⟩;show PV.tup [cH mu2 39 (.ptr n0),cH mu2 39 (.ptr n1),cH mu2 39 (.tup [.ptr n2,.ptr n3,.ptr n4,.ptr n5])]=_;rw[(go 39 (by decide)).1,(go 39 (by decide)).2.1,pg 39 (by decide)];rfl
abbrev Z8 (x:PV) (o1 o2 o3 o4 o5 o6 o7:Option Lc) (mu:Mu):Ev:=⟨[zS x,o1,o2,o3,o4,o5,o6,o7],mu⟩
theorem qU {i:Nat} {f:EF} {p:PV} {O O1 O':Ev} (h:f O=some (.own p,O1)) (hi:Nat.blt i O1.vs.length=true) (e:(⟨O1.vs,O1.mu++[some p]⟩:Ev).set i (zS (.ptr O1.mu.length))=O'):aM i (jn f) O=some (.nx O'):=bK (My h) hi e
theorem Td {x:Str} {L:List (List Str)} {q a:Nat} {mu m0 m1 m2 m3 m4 m5 m6:Mu} {p1 p2 p3 p4 p5 p6:PV} (ha:mu.length=a) (h1:gO [.ptr a,.str x] (mu++[some (jB "Lines" [])])=some (.sh .non,m0)) (h2:lD [.ptr a] m0=some (.own p1,m1)) (h3:dY [.ptr a,.fn "pair_told"] (m1++[some p1])=some (.own p2,m2)) (h4:dY [.ptr a,.fn "grant_told"] (m2++[some p2])=some (.own p3,m3)) (h5:dY [.ptr a,.fn "box_told"] (m3++[some p3])=some (.own p4,m4))
 (h6:ig [.ptr a] (m4++[some p4])=some (.own p5,m5)) (h7:eH 40 [.ptr a] (m5++[some p5])=some (.own p6,m6)) (hm:(m6++[some p6])[a]?=some (some (LN L q))) (h8:iR [.ptr a] (m6++[some p6])=some (.sh .non,m6++[some p6])):nU [.str x] mu=some (.sh (vD m1.length m2.length m4.length m3.length m5.length m6.length),m6++[some p6]):=by
 let P:Nat->Option Lc:=λn=>some (.sh (.ptr n));have s1:aM 1 (Ad "Lines" gO (aa (aj 0) ao)) (Z8 (.str x) none none none none none none none mu)=some (.nx (Z8 (.str x) (P a) none none none none none none m0)):=by subst ha;exact bK (VL (ps:=[.str x]) (ls:=[.sh (.str x)]) (O1:=Z8 (.str x) none none none none none none none mu) rfl rfl h1) rfl rfl
 have c2:az lD (aa (aj 1) ao) (Z8 (.str x) (P a) none none none none none none m0)=some (.own p1,Z8 (.str x) (P a) none none none none none none m1):=aL (ps:=[.ptr a]) (ls:=[.sh (.ptr a)]) (O1:=Z8 (.str x) (P a) none none none none none none m0) rfl rfl rfl rfl h2;have s2:aM 2 (jn (az lD (aa (aj 1) ao))) (Z8 (.str x) (P a) none none none none none none m0)=some (.nx (Z8 (.str x) (P a) (P m1.length) none none none none none (m1++[some p1]))):=qU c2 rfl rfl;have c3:az dY (aa (aj 1) (aa (eC (.fn "pair_told")) ao)) (Z8 (.str x) (P a) (P m1.length) none none none none none (m1++[some p1]))=some (.own p2,Z8 (.str x) (P a) (P m1.length) none none none none none m2):=aL (ps:=[.ptr a,.fn "pair_told"]) (ls:=[.sh (.ptr a),.sh (.fn "pair_told")]) (O1:=Z8 (.str x) (P a) (P m1.length) none none none none none (m1++[some p1])) rfl rfl rfl rfl h3;have s3:aM 3 (jn (az dY (aa (aj 1) (aa (eC (.fn "pair_told")) ao)))) (Z8 (.str x) (P a) (P m1.length) none none none none none (m1++[some p1]))=some (.nx (Z8 (.str x) (P a) (P m1.length) (P m2.length) none none none none (m2++[some p2]))):=qU c3 rfl rfl;have c4:az dY (aa (aj 1) (aa (eC (.fn "grant_told")) ao)) (Z8 (.str x) (P a) (P m1.length) (P m2.length) none none none none (m2++[some p2]))=some (.own p3,Z8 (.str x) (P a) (P m1.length) (P m2.length) none none none none m3):=aL (ps:=[.ptr a,.fn "grant_told"]) (ls:=[.sh (.ptr a),.sh (.fn "grant_told")]) (O1:=Z8 (.str x) (P a) (P m1.length) (P m2.length) none none none none (m2++[some p2])) rfl rfl rfl rfl h4;have s4:aM 4 (jn (az dY (aa (aj 1) (aa (eC (.fn "grant_told")) ao)))) (Z8 (.str x) (P a) (P m1.length) (P m2.length) none none none none (m2++[some p2]))=some (.nx (Z8 (.str x) (P a) (P m1.length) (P m2.length) (P m3.length) none none none (m3++[some p3]))):=qU c4 rfl rfl;have c5:az dY (aa (aj 1) (aa (eC (.fn "box_told")) ao)) (Z8 (.str x) (P a) (P m1.length) (P m2.length) (P m3.length) none none none (m3++[some p3]))=some (.own p4,Z8 (.str x) (P a) (P m1.length) (P m2.length) (P m3.length) none none none m4):=aL (ps:=[.ptr a,.fn "box_told"]) (ls:=[.sh (.ptr a),.sh (.fn "box_told")]) (O1:=Z8 (.str x) (P a) (P m1.length) (P m2.length) (P m3.length) none none none (m3++[some p3])) rfl rfl rfl rfl h5;have s5:aM 5 (jn (az dY (aa (aj 1) (aa (eC (.fn "box_told")) ao)))) (Z8 (.str x) (P a) (P m1.length) (P m2.length) (P m3.length) none none none (m3++[some p3]))=some (.nx (Z8 (.str x) (P a) (P m1.length) (P m2.length) (P m3.length) (P m4.length) none none (m4++[some p4]))):=qU c5 rfl rfl;have c6:az ig (aa (aj 1) ao) (Z8 (.str x) (P a) (P m1.length) (P m2.length) (P m3.length) (P m4.length) none none (m4++[some p4]))=some (.own p5,Z8 (.str x) (P a) (P m1.length) (P m2.length) (P m3.length) (P m4.length) none none m5):=aL (ps:=[.ptr a]) (ls:=[.sh (.ptr a)]) (O1:=Z8 (.str x) (P a) (P m1.length) (P m2.length) (P m3.length) (P m4.length) none none (m4++[some p4])) rfl rfl rfl rfl h6;have s6:aM 6 (jn (az ig (aa (aj 1) ao))) (Z8 (.str x) (P a) (P m1.length) (P m2.length) (P m3.length) (P m4.length) none none (m4++[some p4]))=some (.nx (Z8 (.str x) (P a) (P m1.length) (P m2.length) (P m3.length) (P m4.length) (P m5.length) none (m5++[some p5]))):=qU c6 rfl rfl;have c7:az (eH 40) (aa (aj 1) ao) (Z8 (.str x) (P a) (P m1.length) (P m2.length) (P m3.length) (P m4.length) (P m5.length) none (m5++[some p5]))=some (.own p6,Z8 (.str x) (P a) (P m1.length) (P m2.length) (P m3.length) (P m4.length) (P m5.length) none m6):=aL (ps:=[.ptr a]) (ls:=[.sh (.ptr a)]) (O1:=Z8 (.str x) (P a) (P m1.length) (P m2.length) (P m3.length) (P m4.length) (P m5.length) none (m5++[some p5])) rfl rfl rfl rfl h7;let Q:=Z8 (.str x) (P a) (P m1.length) (P m2.length) (P m3.length) (P m4.length) (P m5.length) (P m6.length) (m6++[some p6]);have s7:aM 7 (jn (az (eH 40) (aa (aj 1) ao))) (Z8 (.str x) (P a) (P m1.length) (P m2.length) (P m3.length) (P m4.length) (P m5.length) none (m5++[some p5]))=some (.nx Q):=qU c7 rfl rfl;have s8:jG (eE "Lines" "take_last" iR (aj 1) ao) Q=some (.nx Q):=Aa (Ag (C := "Lines") (m := "take_last") (x:=.sh (.ptr a)) (O1:=Q) (O2:=Q) (ls:=[]) (l:=[("lines",.lst (ll L)),("at",.int (q:Int))]) rfl rfl hm (by simp only[aaV,abz]; decide +kernel) rfl rfl h8);have s9:bB (bQ (aa (aj 2) (aa (aj 3) (aa (bQ (aa (aj 5) (aa (aj 4) (aa (aj 6) (aa (aj 7) ao))))) ao)))) Q=some (.rt (.sh (vD m1.length m2.length m4.length m3.length m5.length m6.length)) Q):=rfl;exact aR (O:=Q) (aB s1 (aB s2 (aB s3 (aB s4 (aB s5 (aB s6 (aB s7 (aB s8 s9))))))))
theorem Fb {T:Tl} (hT:xH T) (mu:Mu):∃mu' n0 n1 n2 n3 n4 n5 qs rs,nU [.str (TX T.lines)] mu=some (.sh (vD n0 n1 n2 n3 n4 n5),mu')/\lF 0 mu mu'/\Got mu.length mu' T n0 n1 n2 n3 n4 n5 qs rs:=by
 let L:=T.lines;let a:=mu.length;have ok:=Ko hT;have gd:=Tc hT;have hne:L≠[]:=by simp[L,Tl.lines]
 let m0:=(mu++[some (jB "Lines" [])]).set a (some (LN L 0));have g0:(mu++[some (jB "Lines" [])])[a]?=some (some (jB "Lines" [])):=by rw[aaW (aaE _),abV]; rfl
 have hi:=Wa (a:=a) gd hne ok.tx g0;have l0:m0.length=a+1:=by simp[m0,a]
 have h0:m0[a]?=some (some (LN L 0)):=aa5 (by simp[a]);have k00:∀n,n<a->m0[n]?=mu[n]?:=λn hn=>by rw[abe (by omega),abr hn]
 have dA:L.drop 0=(("ranks" : Str)::T.names)::(T.pairs.map jb++(T.grants.map nY++(T.boxes.map Bx.l++(dg T.funs++(T.rows.ls++[]))))):=by simp[L,Tl.lines]
 have nl:=hT.nl;have er:=S9 h0 dA hT.no (λq=>by rw[q]at nl; simp at nl) (by omega);have t0:dO L a m0 (m0.set a (some (LN L 1))) 1:=dO.set h0 1;generalize hm1:m0.set a (some (LN L (0+1)))=m1 at er;have t0:dO L a m0 m1 1:=by rw[<-hm1]; exact t0
 let v0:List PV:=T.names.map .str;have u0:dO L a m1 (m1++[some (.lst v0)]) 1:=dO.app t0.now _;have dB:=uD dA;have pl:=hT.pl;have w1:HF S1 (T.grants.map nY++(T.boxes.map Bx.l++(dg T.funs++(T.rows.ls++[])))):=(HF.map λq=>⟨"may",rfl,by simp⟩).app (((HF.map QR).sub (by intro x hx; exact aaA _ hx)).app (((EY _).sub (by intro x hx; exact aaA _ (aaA _ (aaA _ hx)))).app (by rw[aa1]; exact(Ak _).sub (by intro x hx; exact aaA _ (aaA _ (aaA _ (aaA _ hx)))))));have w2:HF S2 (T.boxes.map Bx.l++(dg T.funs++(T.rows.ls++[]))):=(HF.map QR).app (((EY _).sub (by intro x hx; exact aaA _ (aaA _ hx))).app (by rw[aa1]; exact(Ak _).sub (by intro x hx; exact aaA _ (aaA _ (aaA _ hx)))));have w3:HF S3 (dg T.funs++(T.rows.ls++[])):=(EY _).app (by rw[aa1]; exact(Ak _).sub (by intro x hx; exact aaA _ hx));have w4:HF S4 (T.rows.ls++[]):=by rw[aa1]; exact Ak _
 have dC:=jc dB;rw[aaT]at dC;obtain⟨m2,e2,t2⟩:=Bu (nm := "pair_told") (g:=j7) (by rfl) jb j4 T.pairs (λx hx mu=>V2 (hT.po x hx)) (λx hx=>rfl) u0.now dB (λmu=>by obtain⟨x,hx,hm⟩:=w1.wd dC (by simp);exact V3 hx (not_of (by decide +kernel) hm)) (by omega)
 let v1:List PV:=T.pairs.map j4;have u2:dO L a m2 (m2++[some (.lst v1)]) (1+T.pairs.length):=dO.app t2.now _;have gl:=hT.pg.gl;have dD:=jc dC;rw[aaT]at dD;obtain⟨m3,e3,t3⟩:=Bu (nm := "grant_told") (g:=jC) (by rfl) nY mj T.grants (λx hx mu=>S5 (hT.pg.go x hx)) (λx hx=>rfl) u2.now dC (λmu=>by obtain⟨x,hx,hm⟩:=w2.wd dD (by simp);exact S6 hx (not_of (by decide +kernel) hm)) (by omega)
 let v3:List PV:=T.grants.map mj;have u3:dO L a m3 (m3++[some (.lst v3)]) (1+T.pairs.length+T.grants.length):=dO.app t3.now _;have bl:=hT.pg.bl;have dE:=jc dD;rw[aaT]at dE;obtain⟨m4,e4,t4⟩:=Bu (nm := "box_told") (g:=lM) (by rfl) Bx.l Bx.pv T.boxes (λx hx mu=>Yo (hT.pg.bo x hx)) (λx hx=>rfl) u3.now dD (λmu=>by obtain⟨x,hx,hm⟩:=w3.wd dE (by simp);exact Yn hx (not_of (by decide +kernel) hm) (not_of (by decide +kernel) hm)) (by omega)
 let v2:List PV:=T.boxes.map Bx.pv;have u4:dO L a m4 (m4++[some (.lst v2)]) (1+T.pairs.length+T.grants.length+T.boxes.length):=dO.app t4.now _;have fl:=hT.pg.fl;have ct:=hT.pg.ct;obtain⟨_,f2,f3⟩:=QH hT.pg.fo;have rl:=nC T.rows;have dF:=jc dE;obtain⟨qs,m5,e5,t5,F5⟩:=V8 T.funs hT.pg.fo u4.now dE (λmu=>by obtain⟨x,hx,hm⟩:=w4.wd dF (by simp);exact V4 hx (not_of (by decide +kernel) hm)) (by omega) (by omega)
 have u5:dO L a m5 (m5++[some (.lst qs)]) (1+T.pairs.length+T.grants.length+T.boxes.length+(dg T.funs).length):=dO.app t5.now _;have dG:=jc dF;have hend:1+T.pairs.length+T.grants.length+T.boxes.length+(dg T.funs).length+T.rows.ls.length=L.length:=by simp[L,Tl.lines]; omega
 have stp:Stop L (1+T.pairs.length+T.grants.length+T.boxes.length+(dg T.funs).length+T.rows.ls.length):=by refine⟨"",?_,by decide +kernel⟩;rw[hend];unfold wd;rw[abw (aaE _)];rfl
 have rd:=hT.pg.rd;obtain⟨rs,m6,e6,R6⟩:=wu T.rows 38 _ _ [] hT.pg.ro (by omega) u5.now dF stp (by omega);have t6:=R6.st;have u6:dO L a m6 (m6++[some (.lst rs)]) (1+T.pairs.length+T.grants.length+T.boxes.length+(dg T.funs).length+T.rows.ls.length):=dO.app t6.now _;have a1:a<m1.length:=aaG (by omega) t0.le;have x5:dO L a (m5++[some (.lst qs)]) (m6++[some (.lst rs)]) _:=t6.trans u6;have x4:dO L a (m4++[some (.lst v2)]) (m6++[some (.lst rs)]) _:=(t5.trans u5).trans x5;have x3:dO L a (m3++[some (.lst v3)]) (m6++[some (.lst rs)]) _:=(t4.trans u4).trans x4;have x2:dO L a (m2++[some (.lst v1)]) (m6++[some (.lst rs)]) _:=(t3.trans u3).trans x3;have x1:dO L a (m1++[some (.lst v0)]) (m6++[some (.lst rs)]) _:=(t2.trans u2).trans x2;have x0:dO L a m0 (m6++[some (.lst rs)]) _:=(t0.trans u0).trans x1;have b1:a+1<=m1.length:=a1;have b2:a+1<=m2.length:=aaX b1 (aaX u0.le t2.le);have b3:a+1<=m3.length:=aaX b2 (aaX u2.le t3.le);have b4:a+1<=m4.length:=aaX b3 (aaX u3.le t4.le);have b5:a+1<=m5.length:=aaX b4 (aaX u4.le t5.le);have b6:a+1<=m6.length:=aaX b5 (aaX u5.le t6.le);have la:a<=a+1:=by omega
 refine⟨m6++[some (.lst rs)],m1.length,m2.length,m4.length,m3.length,m5.length,m6.length,qs,rs,?_,⟨?_,λn _ hn=>?_⟩,⟨((nR.new b1).ext (x1.keep (abl a))).low la,((nR.new b2).ext (x2.keep (abl a))).low la,((nR.new b4).ext (x4.keep (abl a))).low la,((nR.new b3).ext (x3.keep (abl a))).low la,((nR.new b5).ext (x5.keep (abl a))).low la,(nR.new b6).low la,?_,?_,?_,?_,?_⟩⟩
 . exact Td (L:=L) rfl hi er e2 e3 e4 e5 e6 u6.now (V1 u6.now hend)
 . have:=x0.le;omega
 . rw[x0.old n (by omega) (by omega)];exact k00 n hn
 . have y5:dO L a m5 (m6++[some (.lst rs)]) _:=u5.trans x5;have c4:=u4.le;exact(F5.ext (y5.keep (by omega))).wide (by omega) (aaE _)
 . have:=R6.len;omega
 . exact((R6.see.ext (u6.keep (by have:=u5.le; omega))).low (by have:=u5.le; omega)).up (by omega)
 . intro q hq;exact(((R6.opn q hq).hi).ext (u6.keep (by have:=u5.le; omega))).low (by have:=u5.le; omega)
 . have q1:=t2.le;have q2:=t3.le;have q3:=t4.le;have q4:=t5.le;have q5:=t6.le;rw[aaH]at q1 q2 q3 q4 q5;simp only[aaC,abS]at q1 q2 q3 q4 q5;refine⟨?_,?_,?_,?_,?_⟩<;>omega
def ie (k:Nat) (p:PV):Prop:=∀m,k<=m->∀mu:Mu,cg m [p,p] mu=some (.sh (.bl true),mu)
def vG (k:Nat) (ps:List PV):Prop:=∀p∈ps,ie k p
theorem ie.mono {k k':Nat} {p:PV} (h:ie k p) (l:k<=k'):ie k' p:=λm hm=>h m (by omega)
theorem vG.nil {k:Nat}:vG k []:=λp h=>by cases h
theorem vG.cons {k:Nat} {p:PV} {ps:List PV} (h:ie k p) (t:vG k ps):vG k (p::ps):=λq hq=>by
 rcases aaI.mp hq with rfl | hq
 . exact h
 . exact t q hq
theorem vG.map {α:Type} {k:Nat} {f:α->PV} {l:List α} (h:∀a∈l,ie k (f a)):vG k (l.map f):=λp hp=>by obtain⟨a,ha,rfl⟩:=aa0.mp hp;exact h a ha
theorem KQ {f g:EF} {E:Ev} {b:Bool} (hf:f E=some (.sh (.bl true),E)) (hg:g E=some (.sh (.bl b),E)):rP f g E=some (.sh (.bl b),E):=by unfold rP;rw[hf,aay];exact hg
abbrev Gx (p:PV) (o2 o3:Option Lc) (mu:Mu):Ev:=⟨[zS p,zS p,o2,o3],mu⟩
abbrev smB (n:Nat):SF:=(bT (dH (tT (az (cg n) (aa (aj 2) (aa (aj 3) ao))) dq))
 (bB (eC (.bl false)))
 bM)
theorem Nb {n:Nat} {X:PV} {mu:Mu}:∀(ps:List PV) (o2 o3:Option Lc),(∀p∈ps,∀mu:Mu,cg n [p,p] mu=some (.sh (.bl true),mu))->∃p2 p3,dz (eX 2 (bh (aJ 2) (bh (aJ 3) eV))) (smB n) (ps.map λp=>.tup [p,p]) (Gx X o2 o3 mu)=some (.nx (Gx X p2 p3 mu))
 | [],o2,o3,_=>⟨o2,o3,rfl⟩
 | p::ps,o2,o3,h=>by obtain⟨p2,p3,ih⟩:=Nb (X:=X) (mu:=mu) ps (zS p) (zS p) λq hq=>h q (aaA _ hq);let E:=Gx X (zS p) (zS p) mu;have t:dH (tT (az (cg n) (aa (aj 2) (aa (aj 3) ao))) dq) E=some (false,E):=jA (b:=true) (cj (l:=.sh (.bl true)) (aL (ps:=[p,p]) (ls:=[.sh p,.sh p]) (O1:=E) rfl rfl rfl rfl (h p aaz mu)) rfl rfl);exact⟨p2,p3,fP (O1:=E) rfl ((bI t).trans rfl) ih⟩
theorem QS {n:Nat} {ps:List PV} {mu:Mu} (k:Bool) (ih:∀p∈ps,∀mu:Mu,cg n [p,p] mu=some (.sh (.bl true),mu)):cg (n+1) [uK k ps,uK k ps] mu=some (.sh (.bl true),mu):=by
 let X:=uK k ps;let E:=Gx X none none mu;have t1:tT (Ji ["list", "tuple"] (aj 1)) dq E=some (true,E):=by cases k<;>exact cj (l:=.sh (.bl true)) rfl rfl rfl
 have t0:tT (Ji ["list", "tuple"] (aj 0)) dq E=some (true,E):=by cases k<;>exact cj (l:=.sh (.bl true)) rfl rfl rfl
 have t2:tT (aC gC (vL "list" (aj 0)) (vL "list" (aj 1))) aW E=some (false,E):=by cases k<;>exact cj (l:=.sh (.bl false)) rfl rfl rfl
 have l0:eB du (aa (aj 0) ao) E=some (.sh (.int (ps.length:Nat)),E):=by cases k<;>rfl
 have l1:eB du (aa (aj 1) ao) E=some (.sh (.int (ps.length:Nat)),E):=by cases k<;>rfl
 have t3:tT (aC gC (eB du (aa (aj 0) ao)) (eB du (aa (aj 1) ao))) aW E=some (false,E):=cj (l:=.sh (.bl false)) (bC l0 l1 (by show some (Lc.sh (.bl (!(((ps.length:Nat):Int)==((ps.length:Nat):Int)))))=_; rw[acx]; rfl)) rfl rfl;have iz:tY (aj 0) (aj 1) E=some (ps.map λp=>.tup [p,p],E):=by
  have hz:oN ps ps=ps.map λp=>.tup [p,p]:=by unfold oN;rw[List.zipWith_self]
  rw[<-hz];cases k<;>rfl
 obtain⟨p2,p3,el⟩:=Nb (X:=X) (mu:=mu) ps none none ih;have e:cg (n+1)=cg (n+1):=rfl;rw[cg];exact aR (O:=Gx X p2 p3 mu) (cW ((cZ t1).trans (aB (O':=E) ((bI (kJ (b:=false) (jA (b:=true) t0) t2)).trans rfl) (aB (O':=E) ((bI t3).trans rfl) (aB ((gf iz).trans el) rfl)))))
theorem Wb:ie 1 .non:=λm hm mu=>by obtain⟨m,rfl⟩:∃j,m=j+1:=⟨m-1,by omega⟩;let E:=Gx .non none none mu;rw[cg];exact aR (O:=E) (aB (O':=E) ((bI (cj (l:=.sh (.bl false)) rfl rfl rfl)).trans rfl) (cW rfl))
theorem Nf {i:Int}:ie 1 (.int i):=λm hm mu=>by
 obtain⟨m,rfl⟩:∃j,m=j+1:=⟨m-1,by omega⟩;let E:=Gx (.int i) none none mu;have e:aC eqP (aj 0) (aj 1) E=some (.sh (.bl true),E):=bC (x:=.sh (.int i)) (y:=.sh (.int i)) (O1:=E) rfl rfl (by show some (Lc.sh (.bl (i==i)))=_; rw[acx]);have nb:Ih (vL "bool" (aj 0)) E=some (.sh (.bl true),E):=by unfold Ih;rw[show vL "bool" (aj 0) E=some (.sh (.bl false),E) from N7 (p:=.int i) rfl rfl rfl,aay];rfl
 rw[cg];exact aR (O:=E) (aB (O':=E) ((bI (cj (l:=.sh (.bl false)) rfl rfl rfl)).trans rfl) (aB (O':=E) ((bI (cj (l:=.sh (.bl false)) rfl rfl rfl)).trans rfl) (cW ((cZ (cj (l:=.sh (.bl true)) rfl rfl rfl)).trans (bO (KQ (N7 (p:=.int i) rfl rfl rfl) (KQ nb e)))))))
theorem dj {s:Str}:ie 1 (.str s):=λm hm mu=>by obtain⟨m,rfl⟩:∃j,m=j+1:=⟨m-1,by omega⟩;let E:=Gx (.str s) none none mu;have e:aC eqP (aj 0) (aj 1) E=some (.sh (.bl true),E):=bC (x:=.sh (.str s)) (y:=.sh (.str s)) (O1:=E) rfl rfl (by show some (Lc.sh (.bl (s==s)))=_; rw[acx]);rw[cg];exact aR (O:=E) (aB (O':=E) ((bI (cj (l:=.sh (.bl false)) rfl rfl rfl)).trans rfl) (aB (O':=E) ((bI (cj (l:=.sh (.bl false)) rfl rfl rfl)).trans rfl) (aB (O':=E) ((bI (cj (l:=.sh (.bl false)) rfl rfl rfl)).trans rfl) (bO (KQ (N7 (p:=.str s) rfl rfl rfl) e)))))
theorem KR {r:Option Str}:ie 1 (eZ r):=by
 cases r with
 | none=>exact Wb
 | some x=>exact dj
theorem ie.tup {k:Nat} {ps:List PV} (h:vG k ps):ie (k+1) (.tup ps):=λm hm mu=>by obtain⟨m,rfl⟩:∃j,m=j+1:=⟨m-1,by omega⟩;exact QS false λq hq=>h q hq m (by omega)
theorem ie.lst {k:Nat} {ps:List PV} (h:vG k ps):ie (k+1) (.lst ps):=λm hm mu=>by obtain⟨m,rfl⟩:∃j,m=j+1:=⟨m-1,by omega⟩;exact QS true λq hq=>h q hq m (by omega)
theorem Do:∀e:aV,ie (e.dep+1) e.pv
 | .num v=>.tup (.cons dj (.cons Nf .nil))
 | .box x=>.tup (.cons dj (.cons dj .nil))
 | .at x e=>by have:=Do e;exact .tup (.cons (dj.mono (by simp only[aV.dep]; omega)) (.cons (dj.mono (by simp only[aV.dep]; omega)) (.cons (this.mono (by simp only[aV.dep]; omega)) .nil)))
 | .sg s a b=>by have h1:=Do a;have h2:=Do b;exact .tup (.cons (dj.mono (by simp only[aV.dep]; omega)) (.cons (h1.mono (by simp only[aV.dep]; omega)) (.cons (h2.mono (by simp only[aV.dep]; omega)) .nil)))
theorem Ex.eq {e:aV} (h:Ex e):ie 7 e.pv:=(Do e).mono (by have:=h.2.1; omega)
mutual
theorem YB:∀r:Row,r.ok->ie (2*r.dep+10) r.pv
 | .set x e,ok=>by simp only[Row.ok]at ok;simp only[Row.pv];exact(ie.tup (k:=7) (.cons (dj.mono (by omega)) (.cons (dj.mono (by omega)) (.cons ok.2.eq .nil)))).mono (by omega)
 | .put x e f,ok=>by simp only[Row.ok]at ok;simp only[Row.pv];exact(ie.tup (k:=7) (.cons (dj.mono (by omega)) (.cons (dj.mono (by omega)) (.cons ok.2.1.eq (.cons ok.2.2.eq .nil))))).mono (by omega)
 | .out x e w,ok=>by simp only[Row.ok]at ok;simp only[Row.pv];exact(ie.tup (k:=7) (.cons (dj.mono (by omega)) (.cons (dj.mono (by omega)) (.cons ok.2.2.eq (.cons (dj.mono (by omega)) .nil))))).mono (by omega)
 | .call x f es,ok=>by simp only[Row.ok]at ok;simp only[Row.pv];exact(ie.tup (k:=8) (.cons (dj.mono (by omega)) (.cons (dj.mono (by omega)) (.cons (dj.mono (by omega)) (.cons (.lst (.map λe he=>(ok.2.2.2 e he).eq)) .nil))))).mono (by omega)
 | .ifr e a b,ok=>by simp only[Row.ok]at ok;have h1:=sZ a ok.2.1;have h2:=sZ b ok.2.2;simp only[Row.pv,Row.dep];exact(ie.tup (k:=2*max a.dep b.dep+11) (.cons (dj.mono (by omega)) (.cons (ok.1.eq.mono (by omega)) (.cons ((ie.lst h1).mono (by omega)) (.cons ((ie.lst h2).mono (by omega)) .nil))))).mono (by omega)
 | .wh e a,ok=>by simp only[Row.ok]at ok;have h1:=sZ a ok.2;simp only[Row.pv,Row.dep];exact(ie.tup (k:=2*a.dep+11) (.cons (dj.mono (by omega)) (.cons (ok.1.eq.mono (by omega)) (.cons ((ie.lst h1).mono (by omega)) .nil)))).mono (by omega)
theorem sZ:∀rs:Rows,rs.ok->vG (2*rs.dep+10) rs.pvs
 | .nil,_=>by simp only[Rows.pvs]; exact .nil
 | .cons r rs,ok=>by simp only[Rows.ok]at ok;have h1:=YB r ok.1;have h2:=sZ rs ok.2;simp only[Rows.pvs,Rows.dep];exact .cons (h1.mono (by omega)) λq hq=>(h2 q hq).mono (by omega)
end
theorem QT {T:Tl} (h:xH T) (mu:Mu):cg 40 [T.pv,T.pv] mu=some (.sh (.bl true),mu):=by
 have n1:ie 2 T.nmP:=.lst (.map λx _=>dj);have p1:ie 3 T.prP:=.lst (.map λq _=>.tup (.cons dj (.cons dj .nil)));have b1:ie 3 (.lst (T.boxes.map Bx.pv)):=.lst (.map λb _=>.tup (.cons dj (.cons Nf (.cons KR .nil))));have g1:ie 3 (.lst (T.grants.map mj)):=.lst (.map λb _=>.tup (.cons dj (.cons dj (.cons dj .nil))));have f1:ie 25 (.lst (T.funs.map Fn.pv)):=.lst (.map λf hf=>by have hf':=h.pg.fo f hf;have hr:=sZ f.rows hf'.ok.rows;have hd:=hf'.dep;exact ie.tup (k:=23) (.cons (dj.mono (by omega)) (.cons (KR.mono (by omega)) (.cons ((ie.lst (k:=2) (.map λq _=>.tup (.cons dj (.cons KR .nil)))).mono (by omega)) (.cons ((ie.lst hr).mono (by omega)) .nil)))))
 have r1:ie 21 (.lst T.rows.pvs):=(ie.lst (sZ T.rows h.pg.ro)).mono (by have:=h.pg.rd; omega);have t1:ie 27 T.pv:=.tup (.cons (n1.mono (by omega)) (.cons (p1.mono (by omega)) (.cons (.tup (.cons (b1.mono (by omega)) (.cons (g1.mono (by omega)) (.cons f1 (.cons (r1.mono (by omega)) .nil))))) .nil)));exact t1 40 (by decide) mu
def LsOk (S:Nat->Prop) (B:Nat) (mu:Mu):Prop:=∀n,S n->∃ws,mu[n]?=some (some (.lst ws))/\ws.length<=B
structure Kp (hi:Nat) (mu mu':Mu):Prop where
 le:mu'.length=mu.length
 old:∀n,hi<=n->mu'[n]?=mu[n]?
theorem Kp.refl {hi:Nat} {mu:Mu}:Kp hi mu mu:=⟨rfl,λ_ _=>rfl⟩
theorem Kp.trans {hi:Nat} {mu mu1 mu2:Mu} (h:Kp hi mu mu1) (g:Kp hi mu1 mu2):Kp hi mu mu2:=⟨g.le.trans h.le,λn hn=>(g.old n hn).trans (h.old n hn)⟩
theorem LsOk.up {S:Nat->Prop} {B B':Nat} {mu:Mu} (h:LsOk S B mu) (g:B<=B'):LsOk S B' mu:=λn hn=>by obtain⟨ws,h1,h2⟩:=h n hn;exact⟨ws,h1,by omega⟩
theorem qd {S:Nat->Prop} {B hi n:Nat} {fo fv:EF} {vs:List (Option Lc)} {mu:Mu} {o y:Lc} (h1:fo ⟨vs,mu⟩=some (o,⟨vs,mu⟩)) (ho:o.pv=.ptr n) (h2:fv ⟨vs,mu⟩=some (y,⟨vs,mu⟩)) (hs:LsOk S B mu) (hn:S n) (hh:n<hi) (hB:B<9000):
 ∃mu',kO fo fv ⟨vs,mu⟩=some (.nx ⟨vs,mu'⟩)/\LsOk S (B+1) mu'/\Kp hi mu mu'/\∀m,m≠n->mu'[m]?=mu[m]?:=by
 obtain⟨ws,h3,h4⟩:=hs n hn;have hl:=(aaD.mp h3).1;refine⟨mu.set n (some (.lst (ws++[y.pv]))),VJ (O1:=⟨vs,mu⟩) (O2:=⟨vs,mu⟩) h1 ho h3 h2 rfl h3 (by omega) rfl,λm hm=>?_,⟨by simp,λm hm=>abe (by omega)⟩,λm hm=>abe (Ne.symm hm)⟩;by_cases e:m=n
 . subst e;exact⟨ws++[y.pv],aa5 hl,by simp; omega⟩
 . obtain⟨ws',h5,h6⟩:=hs m hm;exact⟨ws',by rw[abe (Ne.symm e)]; exact h5,by omega⟩
theorem KY {n:Nat} {ps:List PV} {b:BF} {body:SF} {O:Ev} (h:O.mu[n]?=some (some (.lst ps))):oR (some n) ps b body [] O=some (.nx O):=by
 have h:Holds (some n) ps O:=λm e=>by cases e; exact h
 unfold oR;rw[acq h]
theorem zN {n:Nat} {ps:List PV} {b:BF} {body:SF} {x:PV} {xs:List PV} {O O1 O2:Ev} {R:Option Fl} (h:O.mu[n]?=some (some (.lst ps))) (h1:b x O=some O1) (h2:body O1=some (.nx O2)) (h3:oR (some n) ps b body xs O2=R):oR (some n) ps b body (x::xs) O=R:=by
 have h:Holds (some n) ps O:=λm e=>by cases e; exact h
 conv=>lhs; unfold oR
 rw[acq h,h1,aay,h2,aay];exact h3
abbrev V6 (A o1 o2 o3 o4 o5:Option Lc) (mu:Mu):Ev:=⟨[A,o1,o2,o3,o4,o5],mu⟩
abbrev QV:EF:=bQ (aa (aeP "set") (aa (aeP "zz") (aa (bQ (aa (aeP "num") (aa (aeO 0) ao))) ao)))
abbrev ZQ:SF:=(aF (kO (aj 3) (bQ (aa (aeP "zz") (aa (eC .non) ao)))) (kO (aj 4) QV))
abbrev ZR:SF:=(bT (tT (aC oY (aG (aj 5) (aeO 0)) (bQ (aa (aeP "if") (aa (aeP "while") ao)))) aW) (kO (aG (aj 5) (aeO 2)) QV) bM)
theorem Ng {S:Nat->Prop} {A o5:Option Lc} {lo hi n4:Nat} {mu0:Mu} {qs:List PV} (hh:n4<=hi) (hS:∀n ws,n<hi->mu0[n]?=some (some (.lst ws))->ws.length<=300->S n):∀{xs:List PV} {fs:List Fn},nD lo n4 mu0 xs fs->(∀f∈fs,f.params.length<=4)->∀(B:Nat) (mu:Mu) (o1 o2 o3 o4:Option Lc),LsOk S B mu->B+2*xs.length<=5000->mu[n4]?=some (some (.lst qs))->
 ∃mu' p1 p2 p3 p4,oR (some n4) qs (eX 4 (bh (aJ 1) (bh (aJ 2) (bh (aJ 3) (bh (aJ 4) eV))))) ZQ xs (V6 A o1 o2 o3 o4 o5 mu)=some (.nx (V6 A p1 p2 p3 p4 o5 mu'))/\LsOk S (B+2*xs.length) mu'/\Kp hi mu mu'/\∀m,n4<=m->mu'[m]?=mu[m]?
 | _,_,.nil,_,B,mu,o1,o2,o3,o4,hl,_,h4=>⟨mu,o1,o2,o3,o4,KY h4,hl,.refl,λ_ _=>rfl⟩
 | _,_,.cons (q:=q) (f:=f) (qs:=xs) (fs:=fs) h t,hp,B,mu,o1,o2,o3,o4,hl,hB,h4=>by
  rw[aaC]at hB;obtain⟨n1,n2,rfl,g2,g3,g4,g5,g6,⟨b1,b2,rs,b3,b4,_⟩⟩:=h;have s1:S n1:=hS n1 _ (by omega) g6 (by have:=hp f aaz; simp; omega);have s2:S n2:=hS n2 _ (by omega) b3 (by omega);obtain⟨mu1,e1,l1,k1,x1⟩:=qd (vs:=[A,zT f.name,zS (eZ f.rank),zS (.ptr n1),zS (.ptr n2),o5]) (fo:=aj 3) (fv:=bQ (aa (aeP "zz") (aa (eC .non) ao))) (o:=.sh (.ptr n1)) (y:=.sh (.tup [.str "zz",.non])) (hi:=hi) (n:=n1) (mu:=mu) rfl rfl rfl hl s1 (by omega) (by omega);obtain⟨mu2,e2,l2,k2,x2⟩:=qd (vs:=[A,zT f.name,zS (eZ f.rank),zS (.ptr n1),zS (.ptr n2),o5]) (fo:=aj 4) (fv:=QV) (o:=.sh (.ptr n2)) (y:=.sh (.tup [.str "set",.str "zz",.tup [.str "num",.int 0]])) (hi:=hi) (n:=n2) (mu:=mu1) rfl rfl rfl l1 s2 (by omega) (by omega);have h42:mu2[n4]?=some (some (.lst qs)):=by rw[x2 n4 (by omega),x1 n4 (by omega)]; exact h4
  obtain⟨mu',p1,p2,p3,p4,e3,l3,k3,h43⟩:=Ng (A:=A) (o5:=o5) hh hS t (λf hf=>hp f (aaA _ hf)) (B+1+1) mu2 (zT f.name) (zS (eZ f.rank)) (zS (.ptr n1)) (zS (.ptr n2)) l2 (by omega) h42;refine⟨mu',p1,p2,p3,p4,zN h4 (O1:=V6 A (zT f.name) (zS (eZ f.rank)) (zS (.ptr n1)) (zS (.ptr n2)) o5 mu) rfl (aB e1 e2) e3,l3.up (by rw[aaC]; omega),(k1.trans k2).trans k3,λm hm=>by rw[h43 m hm,x2 m (by omega),x1 m (by omega)]⟩
theorem Fd {S:Nat->Prop} {A o1 o2 o3 o4:Option Lc} {lo hi n5:Nat} {mu0:Mu} {rs:List PV} (hh:n5<=hi) (hS:∀n ws,n<hi->mu0[n]?=some (some (.lst ws))->ws.length<=300->S n):∀(xs:List PV),(∀q∈xs,xO lo n5 mu0 q)->∀(B:Nat) (mu:Mu) (o5:Option Lc),LsOk S B mu->B+xs.length<=5000->mu[n5]?=some (some (.lst rs))->
 ∃mu' p5,oR (some n5) rs (aJ 5) ZR xs (V6 A o1 o2 o3 o4 o5 mu)=some (.nx (V6 A o1 o2 o3 o4 p5 mu'))/\LsOk S (B+xs.length) mu'/\Kp hi mu mu'/\mu'[n5]?=some (some (.lst rs))
 | [],_,B,mu,o5,hl,_,h5=>⟨mu,o5,KY h5,hl,.refl,h5⟩
 | q::xs,hq,B,mu,o5,hl,hB,h5=>by
  rw[aaC]at hB;obtain⟨s,t,rfl,ho⟩:=hq _ aaz;let E:=V6 A o1 o2 o3 o4 (zS (.tup (.str s::t))) mu;have i0:aG (aj 5) (aeO 0) E=some (.sh (.str s),E):=fV (p:=.tup (.str s::t)) (q:=.int 0) rfl rfl rfl rfl (λn h=>by cases h) (by show (eQ (.str s::t) 0).map _=_; rw[at0]; rfl);have tt:tT (aC oY (aG (aj 5) (aeO 0)) (bQ (aa (aeP "if") (aa (aeP "while") ao)))) aW E=some ((["if", "while"]:List Str).any (λy=>y==s),E):=cj (l:=.sh (.bl ((["if", "while"]:List Str).any (λy=>y==s)))) (bC (x:=.sh (.str s)) (y:=.sh (.tup ((["if", "while"]:List Str).map .str))) (O1:=E) i0 rfl Di) rfl rfl;cases hb:(["if", "while"]:List Str).any (λy=>y==s) with
  | false=>
   rw[hb]at tt;obtain⟨mu',p5,e3,l3,k3,h53⟩:=Fd (A:=A) (o1:=o1) (o2:=o2) (o3:=o3) (o4:=o4) hh hS xs (λq h=>hq q (aaA _ h)) B mu (zS (.tup (.str s::t))) hl (by omega) h5;exact⟨mu',p5,zN h5 (O1:=E) rfl ((bI tt).trans rfl) e3,l3.up (by rw[aaC]; omega),k3,h53⟩
  | true=>
   rw[hb]at tt;obtain⟨e,n,u,rfl,g1,g2,g3,ws,g4,g5⟩:=ho hb;have i2:aG (aj 5) (aeO 2) E=some (.sh (.ptr n),E):=fV (p:=.tup (.str s::e::.ptr n::u)) (q:=.int 2) rfl rfl rfl rfl (λn h=>by cases h) (by show (eQ (.str s::e::.ptr n::u) 2).map _=_; rw[show eQ (.str s::e::.ptr n::u) 2=some (.ptr n) from qT (k:=2) rfl]; rfl);obtain⟨mu1,e1,l1,k1,x1⟩:=qd (vs:=[A,o1,o2,o3,o4,zS (.tup (.str s::e::.ptr n::u))]) (fo:=aG (aj 5) (aeO 2)) (fv:=QV) (o:=.sh (.ptr n)) (y:=.sh (.tup [.str "set",.str "zz",.tup [.str "num",.int 0]])) (hi:=hi) (n:=n) (mu:=mu) i2 rfl rfl hl (hS n ws (by omega) g4 (by omega)) (by omega) (by omega);obtain⟨mu',p5,e3,l3,k3,h53⟩:=Fd (A:=A) (o1:=o1) (o2:=o2) (o3:=o3) (o4:=o4) hh hS xs (λq h=>hq q (aaA _ h)) (B+1) mu1 (zS (.tup (.str s::e::.ptr n::u))) l1 (by omega) (by rw[x1 n5 (by omega)]; exact h5);exact⟨mu',p5,zN h5 (O1:=E) rfl ((cZ tt).trans e1) e3,l3.up (by rw[aaC]; omega),k1.trans k3,h53⟩
theorem Te {T:Tl} (hT:xH T) {lo hi:Nat} {mu:Mu} {n0 n1 n2 n3 n4 n5:Nat} {qs rs:List PV} (h:Got lo mu T n0 n1 n2 n3 n4 n5 qs rs) (hh:n0<hi/\n1<hi/\n2<hi/\n3<hi/\n4<hi/\n5<hi):∃mu',nM [vD n0 n1 n2 n3 n4 n5] mu=some (.sh .non,mu')/\Kp hi mu mu':=by
 obtain⟨z0,z1,z2,z3,z4,z5⟩:=hh;let S:Nat->Prop:=λn=>n<hi/\∃ws,mu[n]?=some (some (.lst ws))/\ws.length<=300;have b0:LsOk S 300 mu:=λn hn=>hn.2;have hS:∀n ws,n<hi->mu[n]?=some (some (.lst ws))->ws.length<=300->S n:=λn ws g1 g2 g3=>⟨g1,ws,g2,g3⟩;have nl:=hT.nl;have pl:=hT.pl;have bl:=hT.pg.bl;have gl:=hT.pg.gl;have fl:=hT.pg.fl;have ql:=h.fs.len;have rl:=h.rl;have s0:=hS n0 _ z0 h.c0.2.2 (by simp; omega);have s1:=hS n1 _ z1 h.c1.2.2 (by simp; omega);have s2:=hS n2 _ z2 h.c2.2.2 (by simp; omega);have s3:=hS n3 _ z3 h.c3.2.2 (by simp; omega);have s4:=hS n4 _ z4 h.c4.2.2 (by omega);have s5:=hS n5 _ z5 h.c5.2.2 (by omega);obtain⟨q0,q1,q2,q3,q4⟩:=h.ord;let A:Option Lc:=zS (vD n0 n1 n2 n3 n4 n5);let V:=λmu=>V6 A none none none none none mu;obtain⟨m1,e1,l1,k1,x1⟩:=qd (vs:=[A,none,none,none,none,none]) (fo:=aG (aj 0) (aeO 0)) (fv:=aeP "zz") (o:=.sh (.ptr n0)) (y:=.sh (.str "zz")) (hi:=hi) (n:=n0) (mu:=mu) rfl rfl rfl b0 s0 z0 (by omega);obtain⟨m2,e2,l2,k2,x2⟩:=qd (vs:=[A,none,none,none,none,none]) (fo:=aG (aj 0) (aeO 1)) (fv:=bQ (aa (aeP "a") (aa (aeP "b") ao))) (o:=.sh (.ptr n1)) (y:=.sh (.tup [.str "a",.str "b"])) (hi:=hi) (n:=n1) (mu:=m1) rfl rfl rfl l1 s1 z1 (by omega);obtain⟨m3,e3,l3,k3,x3⟩:=qd (vs:=[A,none,none,none,none,none]) (fo:=aG (aG (aj 0) (aeO 2)) (aeO 0)) (fv:=bQ (aa (aeP "zz") (aa (aeO 0) (aa (eC .non) ao)))) (o:=.sh (.ptr n2)) (y:=.sh (.tup [.str "zz",.int 0,.non])) (hi:=hi) (n:=n2) (mu:=m2) rfl rfl rfl l2 s2 z2 (by omega);obtain⟨m4,e4,l4,k4,x4⟩:=qd (vs:=[A,none,none,none,none,none]) (fo:=aG (aG (aj 0) (aeO 2)) (aeO 1)) (fv:=bQ (aa (aeP "a") (aa (aeP "b") (aa (aeP "c") ao)))) (o:=.sh (.ptr n3)) (y:=.sh (.tup [.str "a",.str "b",.str "c"])) (hi:=hi) (n:=n3) (mu:=m3) rfl rfl rfl l3 s3 z3 (by omega);have x:∀m,n4<=m->m4[m]?=mu[m]?:=λm hm=>by rw[x4 m (by omega),x3 m (by omega),x2 m (by omega),x1 m (by omega)]
 obtain⟨m5,p1,p2,p3,p4,e5,l5,k5,x5⟩:=Ng (A:=A) (o5:=none) (qs:=qs) (abZ z4) hS h.fs (λf hf=>(hT.pg.fo f hf).ok.par) _ m4 none none none none l4 (by omega) ((x n4 (aaE _)).trans h.c4.2.2);obtain⟨m6,p5,e6,l6,k6,x6⟩:=Fd (A:=A) (o1:=p1) (o2:=p2) (o3:=p3) (o4:=p4) (rs:=rs) (abZ z5) hS rs h.opn _ m5 none l5 (by omega) (by rw[x5 n5 (by omega),x n5 (by omega)]; exact h.c5.2.2);obtain⟨m7,e7,l7,k7,x7⟩:=qd (vs:=[A,p1,p2,p3,p4,p5]) (fo:=aG (aG (aj 0) (aeO 2)) (aeO 2)) (fv:=bQ (aa (aeP "zz") (aa (eC .non) (aa (aP ao) (aa (aP ao) ao))))) (o:=.sh (.ptr n4)) (y:=.sh (.tup [.str "zz",.non,.lst [],.lst []])) (hi:=hi) (n:=n4) (mu:=m6) rfl rfl rfl l6 s4 z4 (by omega);obtain⟨m8,e8,l8,k8,x8⟩:=qd (vs:=[A,p1,p2,p3,p4,p5]) (fo:=aG (aG (aj 0) (aeO 2)) (aeO 3)) (fv:=QV) (o:=.sh (.ptr n5)) (y:=.sh (.tup [.str "set",.str "zz",.tup [.str "num",.int 0]])) (hi:=hi) (n:=n5) (mu:=m7) rfl rfl rfl l7 s5 z5 (by omega);have f5:wX (sI (aG (aG (aj 0) (aeO 2)) (aeO 2))) (eX 4 (bh (aJ 1) (bh (aJ 2) (bh (aJ 3) (bh (aJ 4) eV))))) ZQ (V m4)=some (.nx (V6 A p1 p2 p3 p4 none m5)):=by
  have ic:sI (aG (aG (aj 0) (aeO 2)) (aeO 2)) (V m4)=some (some n4,qs,V m4):=by unfold sI;rw[show aG (aG (aj 0) (aeO 2)) (aeO 2) (V m4)=some (.sh (.ptr n4),V m4) from rfl,aay];show (match m4[n4]? with | some (some (.lst ps))=>some (some n4,ps,V m4) | _=>none)=_;rw[x n4 (aaE _),h.c4.2.2]
  unfold wX;rw[ic,aay];exact e5
 have f6:wX (sI (aG (aG (aj 0) (aeO 2)) (aeO 3))) (aJ 5) ZR (V6 A p1 p2 p3 p4 none m5)=some (.nx (V6 A p1 p2 p3 p4 p5 m6)):=by
  have ic:sI (aG (aG (aj 0) (aeO 2)) (aeO 3)) (V6 A p1 p2 p3 p4 none m5)=some (some n5,rs,V6 A p1 p2 p3 p4 none m5):=by unfold sI;rw[show aG (aG (aj 0) (aeO 2)) (aeO 3) (V6 A p1 p2 p3 p4 none m5)=some (.sh (.ptr n5),V6 A p1 p2 p3 p4 none m5) from rfl,aay];show (match m5[n5]? with | some (some (.lst ps))=>some (some n5,ps,V6 A p1 p2 p3 p4 none m5) | _=>none)=_;rw[x5 n5 (by omega),x n5 (by omega),h.c5.2.2]
  unfold wX;rw[ic,aay];exact e6
 exact⟨m8,vO (O:=V6 A p1 p2 p3 p4 p5 m8) (aB e1 (aB e2 (aB e3 (aB e4 (aB f5 (aB f6 (aB e7 e8))))))),(((((((k1.trans k2).trans k3).trans k4).trans k5).trans k6).trans k7).trans k8)⟩
theorem Fe {T:Tl} (hT:xH T) {f:EF} {O O1:Ev} {l:Lc} {vs:List (Option Lc)} {mu:Mu} (e1:O1=⟨vs,mu⟩) (h:f O=some (l,O1)) (hl:cH mu 40 l.pv=T.pv) (h2:aj 2 O1=some (.sh T.pv,O1)) (hf:cH mu 40 T.pv=T.pv):jY (cg 40) (aa f (aa (aj 2) ao)) O=some (.sh (.bl true),O1):=by subst e1;exact Jl (ls:=[l,.sh T.pv]) (O1:=⟨vs,mu⟩) (ps:=[T.pv,T.pv]) (aH h (aH h2 rfl)) (by show [cH mu 40 l.pv,cH mu 40 T.pv]=_; rw[hl,hf]) (QT hT _) rfl
mutual
theorem YC:∀r:Row,Fx r.pv
 | .set x e=>wk (by simp[Row.leaf])
 | .put x e f=>wk (by simp[Row.leaf])
 | .out x e w=>wk (by simp[Row.leaf])
 | .call x f es=>wk (by simp[Row.leaf])
 | .ifr e a b=>by simp only[Row.pv];exact .tup (dJ .str (dJ (mq e) (dJ (.lst (tB a)) (dJ (.lst (tB b)) nQ))))
 | .wh e a=>by simp only[Row.pv];exact .tup (dJ .str (dJ (mq e) (dJ (.lst (tB a)) nQ)))
theorem tB:∀rs:Rows,∀p∈rs.pvs,Fx p
 | .nil=>by simp only[Rows.pvs]; exact nQ
 | .cons r rs=>by simp only[Rows.pvs]; exact dJ (YC r) (tB rs)
end
theorem Wc (T:Tl):Fx T.pv:=.tup (dJ (.lst (il λx _=>.str)) (dJ (.lst (il λx _=>.tup (dJ .str (dJ .str nQ)))) (dJ (.tup (dJ (.lst (il λx _=>.tup (dJ .str (dJ .int (dJ Ai nQ))))) (dJ (.lst (il λx _=>.tup (dJ .str (dJ .str (dJ .str nQ))))) (dJ (.lst (il λf _=>.tup (dJ .str (dJ Ai (dJ (.lst (il λx _=>.tup (dJ .str (dJ Ai nQ)))) (dJ (.lst (tB f.rows)) nQ)))))) (dJ (.lst (tB T.rows)) nQ))))) nQ)))
abbrev LE (S:PV) (o1 o2 o3 o4 o5:Option Lc) (mu:Mu):Ev:=⟨[zS S,o1,o2,o3,o4,o5],mu⟩
theorem We {S:PV} {T:Tl} (hT:xH T) {X:Str} {ma mb:Mu} {n:Nat} (h1:aM 1 (Cg (aa (aj 0) (aa (aeO 1) (aa (aG (aP (aa (aeO 8) (aa (aeO 12) (aa (aeO 16) (aa (aeO 40) ao))))) (aC gR (az j8 (aa (aj 0) (aa (aeO 0) ao))) (aeO 4))) (aa (aeO 4) (aa (aeO 3) ao)))))) (LE S none none none none none [])=some (.nx (LE S (zS (.ptr n)) none none none none ma)))
 (h2:aM 2 (az rH (aa (aj 1) (aa (az rG (aa (aj 1) ao)) ao))) (LE S (zS (.ptr n)) none none none none ma)=some (.nx (LE S (zS (.ptr n)) (zS T.pv) none none none mb))) (hX:TX T.lines=X):∃mu,Hn [S] []=some (.sh (.bl true),mu):=by
 have ok:=Ko hT;let N:Option Lc:=zS (.ptr n);let U_:Option Lc:=zS T.pv;let Y:Option Lc:=zT X;have h3:aM 3 (az oE (aa (az nJ (aa (aj 2) ao)) ao)) (LE S N U_ none none none mb)=some (.nx (LE S N U_ Y none none mb)):=by have jo:=Qy (mu:=mb) ok;rw[hX]at jo;exact bK (l:=.sh (.str X)) (O1:=LE S N U_ none none none mb) (aL (ps:=[.lst (ll T.lines)]) (ls:=[.own (.lst (ll T.lines))]) (O1:=LE S N U_ none none none mb) (aH (aL (ps:=[T.pv]) (ls:=[.sh T.pv]) (O1:=LE S N U_ none none none mb) rfl rfl rfl rfl (Oi_ ok)) rfl) rfl rfl rfl jo) rfl rfl
 obtain⟨m1,a0,a1,a2,a3,a4,a5,qa,ra,ea,ka,ga⟩:=Fb hT mb;obtain⟨m2,b0,b1,b2,b3,b4,b5,qb,rb,eb,kb,gb⟩:=Fb hT m1;rw[hX]at ea eb;let ga':=vD a0 a1 a2 a3 a4 a5;let gb':=vD b0 b1 b2 b3 b4 b5;have kk:lF mb.length m1 m2:=⟨kb.le,λn _ hn=>kb.old n (abO _) hn⟩;obtain⟨m3,es,k3⟩:=Te hT (ga.ext kk) ⟨ga.c0.2.1,ga.c1.2.1,ga.c2.2.1,ga.c3.2.1,ga.c4.2.1,ga.c5.2.1⟩;obtain⟨m4,c0,c1,c2,c3,c4,c5,qc,rc,ec,kc,gc⟩:=Fb hT m3;rw[hX]at ec;have fT:=Wc T;have h4:aM 4 (az nU (aa (aj 3) ao)) (LE S N U_ Y none none mb)=some (.nx (LE S N U_ Y (zS ga') none m1)):=bK (l:=.sh ga') (O1:=LE S N U_ Y none none m1) (aL (ps:=[.str X]) (ls:=[.sh (.str X)]) (O1:=LE S N U_ Y none none mb) rfl rfl rfl rfl ea) rfl rfl;have t5:dH (tT (jY (cg 40) (aa (aj 4) (aa (aj 2) ao))) dq) (LE S N U_ Y (zS ga') none m1)=some (false,LE S N U_ Y (zS ga') none m1):=jA (b:=true) (cj (l:=.sh (.bl true)) (Fe hT (l:=.sh ga') rfl rfl (ga.told hT λn _ _=>rfl).2 rfl (fT m1 40)) rfl rfl);have h6:aM 5 (az nU (aa (aj 3) ao)) (LE S N U_ Y (zS ga') none m1)=some (.nx (LE S N U_ Y (zS ga') (zS gb') m2)):=bK (l:=.sh gb') (O1:=LE S N U_ Y (zS ga') none m2) (aL (ps:=[.str X]) (ls:=[.sh (.str X)]) (O1:=LE S N U_ Y (zS ga') none m1) rfl rfl rfl rfl eb) rfl rfl;have h7:jG (az nM (aa (aj 4) ao)) (LE S N U_ Y (zS ga') (zS gb') m2)=some (.nx (LE S N U_ Y (zS ga') (zS gb') m3)):=Aa (aL (ps:=[ga']) (ls:=[.sh ga']) (O1:=LE S N U_ Y (zS ga') (zS gb') m2) rfl rfl rfl rfl es);let E:=LE S N U_ Y (zS ga') (zS gb') m3;have ob:∀n,m1.length<=n->n<m2.length->m3[n]?=m2[n]?:=λn h1 _=>k3.old n h1;obtain⟨w1,w2⟩:=gb.told hT ob;obtain⟨y0,y1,y2⟩:=w1 40 (by decide);have sh:jY vU (aa (aG (aj 5) (aeO 0)) (aa (aG (aj 5) (aeO 1)) (aa (aG (aj 5) (aeO 2)) ao))) E=some (.sh (.str X),E):=by have se:=Ss (T:=T) (mu:=m3.map λ_=>none) ok;rw[hX]at se;refine Jl (ls:=[.sh (.ptr b0),.sh (.ptr b1),.sh (.tup [.ptr b2,.ptr b3,.ptr b4,.ptr b5])]) (O1:=E) (ps:=[T.nmP,T.prP,T.pgP]) rfl ?_ se rfl;show [cH m3 40 (.ptr b0),cH m3 40 (.ptr b1),cH m3 40 (.tup [.ptr b2,.ptr b3,.ptr b4,.ptr b5])]=_;rw[y0,y1,y2]
 have t8:tT (aC gC (jY vU (aa (aG (aj 5) (aeO 0)) (aa (aG (aj 5) (aeO 1)) (aa (aG (aj 5) (aeO 2)) ao)))) (aj 3)) aW E=some (false,E):=cj (l:=.sh (.bl false)) (bC (x:=.sh (.str X)) (y:=.sh (.str X)) (O1:=E) sh rfl (by show some (Lc.sh (.bl (!(X==X))))=_; rw[acx]; rfl)) rfl rfl;let F:=LE S N U_ Y (zS ga') (zS gb') m4;have c9:az nU (aa (aj 3) ao) E=some (.sh (vD c0 c1 c2 c3 c4 c5),F):=aL (ps:=[.str X]) (ls:=[.sh (.str X)]) (O1:=E) rfl rfl rfl rfl ec;have s1:jY (cg 40) (aa (aj 5) (aa (aj 2) ao)) E=some (.sh (.bl true),E):=Fe hT (l:=.sh gb') rfl rfl w2 rfl (fT m3 40);have s2:jY (cg 40) (aa (az nU (aa (aj 3) ao)) (aa (aj 2) ao)) E=some (.sh (.bl true),F):=Fe hT (l:=.sh (vD c0 c1 c2 c3 c4 c5)) rfl c9 (gc.told hT λn _ _=>rfl).2 rfl (fT m4 40);refine⟨m4,aR (O:=F) (aB h1 (aB h2 (aB h3 (aB h4 (aB ((bI t5).trans rfl) (aB h6 (aB h7 (aB (O':=E) ((bI t8).trans rfl) (bO ?_)))))))))⟩;unfold rP;rw[s1,aay];exact s2
theorem law_true (ns:List Int) (hn:ns.length<=63):∃mu,Hn [.lst (ns.map PV.int)] []=some (.sh (.bl true),mu):=by
 obtain⟨d,ed⟩:=cell_eq (ns:=ns) (k:=0) hn (by decide) (by decide);obtain⟨c,hc,ec⟩:∃c:Int,(c=8\/c=12\/c=16\/c=40)/\uI (.lst [.int 8,.int 12,.int 16,.int 40]) (.int (d%4))=zI c:=by
  have h0:=abh d (b:=4) (by decide);have h1:=aa7 d (b:=4) (by decide);have h:d%4=0\/d%4=1\/d%4=2\/d%4=3:=by omega
  rcases h with h | h | h | h
  . exact⟨8,.inl rfl,by rw[h]; rfl⟩
  . exact⟨12,.inr (.inl rfl),by rw[h]; rfl⟩
  . exact⟨16,.inr (.inr (.inl rfl)),by rw[h]; rfl⟩
  . exact⟨40,.inr (.inr (.inr rfl)),by rw[h]; rfl⟩
 have hc':0<=c/\c<=40:=by rcases hc with rfl | rfl | rfl | rfl<;>decide
 obtain⟨pl,k1,hp,ka,kb,ep⟩:=VB (ns:=ns) (k:=1) hn (by decide) (by decide);obtain⟨T,k2,c2,ok,et⟩:=VF (ns:=ns) (pl:=pl) hn hp (k:=k1) (c:=c) (by omega) hc'.1 hc'.2 (by omega);let S:PV:=.lst (ns.map .int);let mu:Mu:=[];let E0:Ev:=LE S none none none none none mu;let E:Int->Int->Ev:=λk c=>LE S (zS (.ptr mu.length)) none none none none (mu++[some (aU ns k c)]);have ix:aG (aP (aa (aeO 8) (aa (aeO 12) (aa (aeO 16) (aa (aeO 40) ao))))) (aC gR (az j8 (aa (aj 0) (aa (aeO 0) ao))) (aeO 4)) E0=some (.sh (.int c),E0):=
  fV (p:=.lst [.int 8,.int 12,.int 16,.int 40]) (q:=.int (d%4)) (l:=.own (.lst [.int 8,.int 12,.int 16,.int 40])) (m:=.sh (.int (d%4))) (O1:=E0) rfl rfl (bC (x:=.sh (.int d)) (y:=.sh (.int 4)) (aL (ps:=[.lst (ns.map .int),.int 0]) (ls:=[.sh (.lst (ns.map .int)),.sh (.int 0)]) (O1:=E0) rfl rfl rfl rfl (ed mu)) rfl (jd (by decide))) rfl (λn h=>by cases h) ec
 refine We (X:=TX T.lines) ok (n:=mu.length) (ma:=mu++[some (aU ns 1 c)]) (mb:=mu++[some (aU ns k2 c2)]) ?_ ?_ rfl
 . exact bK (l:=.sh (.ptr mu.length)) (O1:=LE S none none none none none (mu++[some (aU ns 1 c)])) (Vq (ls:=[.sh (.lst (ns.map .int)),.sh (.int 1),.sh (.int c),.sh (.int 4),.sh (.int 3)]) (O1:=E0) (aH (O1:=E0) rfl (aH (O1:=E0) rfl (aH ix rfl))) rfl rfl rfl) rfl rfl
 . exact bK (l:=.sh T.pv) (O1:=E k2 c2) (aL (ps:=[.ptr mu.length,b8 pl]) (ls:=[.sh (.ptr mu.length),.own (b8 pl)]) (O1:=E k1 c) (aH (O1:=E 1 c) rfl (aH (aL (ps:=[.ptr mu.length]) (ls:=[.sh (.ptr mu.length)]) (O1:=E 1 c) rfl rfl rfl rfl (ep c (λx=>mu++[some x]) mu.length spot)) rfl)) rfl rfl rfl (et (λx=>mu++[some x]) mu.length spot)) rfl rfl
section
variable (K:FG) (x qq:Str) (st:Stmt) (f c:Addr)
abbrev ZS:Prop:=∃(oc kV dc pm cd ct:Value) (od an:Option Addr) (sl:Array (Option Value)),K.lookup f=some ⟨oc,od,.func (W.fnOf x qq (qt st) (jN st) (aN st) .none kV dc pm an cd ct),sl⟩/\W.codeIn K cd qq=true/\W.keepIn K (.ref f)=true
abbrev FD:Prop:=∃f,W.nsIn K mainGlobals x=some (some (.ref f))/\ZS K x x st f
abbrev FM:Prop:=∃f,W.findIn K (.ref c) x=some (some (.ref f))/\W.isFn K (.ref f)=true/\ZS K x qq st f
abbrev KC:Prop:=W.nsIn K mainGlobals x=some (some (.ref c))/\W.plainGet K c Str.empty=true/\W.hasDictIn K c=true/\W.plainOver K c=true/\W.findIn K (.ref c) "__setattr__" = some (some (.builtin "object.__setattr__"))/\W.makesIn K c=true/\W.keepIn K (.ref c)=true
abbrev HB (ps:List Str):Prop:=∀(kV doc pm:Value) (an:Option Addr) (cdv ct:Value) (us:List Value),us.length=ps.length->bindArgs (W.fnOf x qq (qt st) (jN st) (aN st) .none kV doc pm an cdv ct) ⟨us,[]⟩=pure (ps.zip us)
end
section
variable {K:FG} {h:Heap} {mg:Str->Option Value} {x qq:Str} {st:Stmt} {c:Addr} {ps:List Str}
theorem fQ (X:K.In h) (G:h.Ns mainGlobals mg) (d:FD K x st) (hb:HB x x st ps):bV K mg x st ps:=by obtain⟨f,a,_,_,_,_,_,_,_,_,_,l,e,k⟩:=d;exact⟨_,_,yD l e k,W.mg_of X G a,(yD l e k).binds hb⟩
theorem QW (d:FM K x qq st c) (hb:HB x qq st ps):Gi K c x qq st ps:=by obtain⟨f,a,i,_,_,_,_,_,_,_,_,_,l,e,k⟩:=d;exact⟨_,_,yD l e k,a,i,(yD l e k).binds hb⟩
theorem mkT (X:K.In h) (G:h.Ns mainGlobals mg) (d:KC K x c):wV K mg x c:=⟨d.1,⟨d.2.1,d.2.2.1,d.2.2.2.1,d.2.2.2.2.1⟩,W.mg_of X G d.1⟩
theorem ZV {l:List Str} (n:W.findIn K (.ref c) x=some none) (t:∀f∈l,lR K c f):∀f∈x::l,lR K c f:=by
 intro g hg;rcases aaI.mp hg with e | hg
 . rw[e]; exact n
 . exact t g hg
theorem nan:∀f∈([]:List Str),lR K c f:=λ_ h=>nomatch h
theorem bc {l:List Str} (X:K.In h) (G:h.Ns mainGlobals mg) (n:W.nsIn K mainGlobals x=some none) (t:Ly mg l):Ly mg (x::l):=by
 intro g hg;rcases aaI.mp hg with e | hg
 . rw[e]; exact W.mg_none_of X G n
 . exact t g hg
theorem bn:Ly mg []:=λ_ h=>nomatch h
end
local macro_rules | `(tactic| walk_at "b")=>`(tactic| (intro _ _ _ _ _ _ us hl; first | (obtain⟨_,e⟩:=FP hl; subst e; rfl) | (obtain⟨_,_,e⟩:=ln2 hl; subst e; rfl) | (obtain⟨_,_,_,e⟩:=Zr hl; subst e; rfl) | (obtain⟨_,_,_,_,e⟩:=ln4 hl; subst e; rfl)))
theorem all_mk {l:W.OpenLaw} {w:World} {K:FG} {h:Heap} {mg:Str->Option Value} {fa:Addr} (X:K.In h) (G:h.Ns mainGlobals mg) (hfa:mg "law" = some (.ref fa))
 (aeK:∃c,KC K "Lines" c/\(W.findIn K (.ref c) "lines" = some none/\W.findIn K (.ref c) "at" = some none)/\FM K "__init__" "Lines.__init__" kY c/\FM K "words" "Lines.words" qJ c/\FM K "go_on" "Lines.go_on" qK c/\FM K "take" "Lines.take" rT c/\FM K "take_last" "Lines.take_last" nj c)
 (aeF:FD K "is_name" uL)
 (aeM:FD K "read" Jp)
 (aec:FD K "read_ranks" uc)
 (aed:FD K "read_heads" ud)
 (adY:FD K "read_functions" oU)
 (aek:FD K "read_rows" qZ)
 (aeC:FD K "read_row" sJ)
 (aee:FD K "read_block" pJ)
 (ael:FD K "all_names" rm)
 (aeG:FD K "is_rank" yV)
 (aem:FD K "rank_told" u9)
 (adV:FD K "pair_told" vd)
 (adP:FD K "grant_told" ue)
 (ad1:FD K "box_told" wZ)
 (aen:FD K "head_told" nT)
 (aeD:FD K "row_told" xf)
 (aeJ:FD K "row_of" Bl)
 (aeo:FD K "is_number" rA)
 (adQ:FD K "expressions_told" ni)
 (aep:FD K "part_told" vf)
 (aeL:FD K "shown" qF)
 (aef:FD K "rank_shown" uf)
 (aeq:FD K "box_shown" vg)
 (adZ:FD K "function_shown" oV)
 (aeg:FD K "rows_shown" pK)
 (aer:FD K "row_shown" vh)
 (adR:FD K "expression_shown" jZ)
 (aes:FD K "_law_cell" vm)
 (aet:FD K "_law_next" vo)
 (aeu:FD K "_law_pool" mH)
 (aev:FD K "_law_pick" vp)
 (ad9:FD K "_law_number" rR)
 (adT:FD K "_law_expression" kW)
 (aew:FD K "_law_part" vq)
 (aex:FD K "_law_rows" rB)
 (aeE:FD K "_law_row" pL)
 (aey:FD K "_law_rank" vy)
 (ad3:FD K "_law_program" qG)
 (aez:FD K "_law_told" rC)
 (aeh:FD K "_law_words" ug)
 (aei:FD K "_law_plain" uh)
 (aej:FD K "_law_lines" pM)
 (aeA:FD K "_law_mark" vz)
 (ad4:FD K "_law_written" lC)
 (aea:FD K "_law_joined" oh)
 (aeB:FD K "_law_same" rD)
 (ad5:FD K "_law_spoiled" qH)
 (aeN:FD K "law" xg)
 (z0:W.nsIn K mainGlobals "ValueError" = some none)
 (z1:W.nsIn K mainGlobals "all" = some none)
 (z2:W.nsIn K mainGlobals "bool" = some none)
 (z3:W.nsIn K mainGlobals "int" = some none)
 (z4:W.nsIn K mainGlobals "isinstance" = some none)
 (z5:W.nsIn K mainGlobals "len" = some none)
 (z6:W.nsIn K mainGlobals "list" = some none)
 (z7:W.nsIn K mainGlobals "max" = some none)
 (z8:W.nsIn K mainGlobals "min" = some none)
 (z9:W.nsIn K mainGlobals "range" = some none)
 (z10:W.nsIn K mainGlobals "reversed" = some none)
 (z11:W.nsIn K mainGlobals "str" = some none)
 (z12:W.nsIn K mainGlobals "tuple" = some none)
 (z13:W.nsIn K mainGlobals "zip" = some none)
 (aeH:∃t,W.nsIn K mainGlobals "LETTERS" = some (some (.str "abcdefghijklmnopqrstuvwxyz" t)))
 (aeI:∃t,W.nsIn K mainGlobals "FIGURES" = some (some (.str "0123456789" t)))
 (t_SIZES:∃a dd its m sl,W.nsIn K mainGlobals "SIZES" = some (some (.ref a))/\K.lookup a=some ⟨.type "tuple",dd,.seq its m,sl⟩/\its.size<=sizeLine/\Vals (m9.map V.str) its.toList)
 (t_SIGNS:∃a dd its m sl,W.nsIn K mainGlobals "SIGNS" = some (some (.ref a))/\K.lookup a=some ⟨.type "tuple",dd,.seq its m,sl⟩/\its.size<=sizeLine/\Vals (eF.map V.str) its.toList)
 (d_ROW_NAMES:∃a es m,W.nsIn K mainGlobals "ROW_NAMES" = some (some (.ref a))/\K.lookup a=some ⟨.type "dict",none,.dict es m,#[]⟩/\DE w.params es.toList dW/\(a==sysModules)=false)
 (d_ROW_EXPRESSIONS:∃a es m,W.nsIn K mainGlobals "ROW_EXPRESSIONS" = some (some (.ref a))/\K.lookup a=some ⟨.type "dict",none,.dict es m,#[]⟩/\DE w.params es.toList fO/\(a==sysModules)=false)
 (HL:∀(ns:List Int),ns.length<=63->∃mu,Hn [.lst (ns.map PV.int)] []=some (.sh (.bl true),mu))
 : ∃fd:FuncData,(∀(s:Shared) (v:Value),BindsTo s fd ⟨[v],[]⟩ [("_law_script",v)])/\∀base:Heap,K.In base->base.Ns mainGlobals mg->oH l.prog w K mg base qe 87 fa fd ["_law_script"] (Hk K):=by
 obtain⟨acS,ad6,⟨n0,n1⟩,adU,ad7,ad8,aeb,adS⟩:=aeK;have acG:=mkT X G ad6;have acM:=ZV n0 (ZV n1 (nan));have B:Ly mg BL:=bc X G z0 (bc X G z1 (bc X G z2 (bc X G z3 (bc X G z4 (bc X G z5 (bc X G z6 (bc X G z7 (bc X G z8 (bc X G z9 (bc X G z10 (bc X G z11 (bc X G z12 (bc X G z13 (bn))))))))))))));have acI:∃t,mg "LETTERS" = some (.str "abcdefghijklmnopqrstuvwxyz" t):=aeH.imp λ_ y=>W.mg_of X G y;have acJ:∃t,mg "FIGURES" = some (.str "0123456789" t):=aeI.imp λ_ y=>W.mg_of X G y;have acL:Qn K mg "SIZES" m9:=by obtain⟨a,dd,its,m,sl,h1,h2,h3,h4⟩:=t_SIZES; exact⟨a,_,its,m,W.mg_of X G h1,h2,rfl,rfl,h3,h4⟩
 have acK:Qn K mg "SIGNS" eF:=by obtain⟨a,dd,its,m,sl,h1,h2,h3,h4⟩:=t_SIGNS; exact⟨a,_,its,m,W.mg_of X G h1,h2,rfl,rfl,h3,h4⟩
 have acE:Gk K w mg "ROW_NAMES" dW:=by obtain⟨a,es,m,h1,h2,h3,h4⟩:=d_ROW_NAMES; exact⟨a,h1,W.mg_of X G h1,Qm h2 h3 h4⟩
 have acB:Gk K w mg "ROW_EXPRESSIONS" fO:=by obtain⟨a,es,m,h1,h2,h3,h4⟩:=d_ROW_EXPRESSIONS; exact⟨a,h1,W.mg_of X G h1,Qm h2 h3 h4⟩
 have acF:vQ K mg "box_told" := by obtain⟨a,h1,_⟩:=ad1; exact⟨a,h1,W.mg_of X G h1⟩
 have acC:vQ K mg "grant_told" := by obtain⟨a,h1,_⟩:=adP; exact⟨a,h1,W.mg_of X G h1⟩
 have acD:vQ K mg "pair_told" := by obtain⟨a,h1,_⟩:=adV; exact⟨a,h1,W.mg_of X G h1⟩
 obtain⟨_,a,_,kV,dc,pm,cd,ct,_,an,_,lk,ce,kp⟩:=aeN;have e:=hfa.symm.trans (W.mg_of X G a);cases e;refine⟨W.fnOf "law" "law" (qt xg) (jN xg) (aN xg) .none kV dc pm an cd ct,λs v=>.of_eq rfl,λbase _ _=>?_⟩;have acW:=Od (P:=l.prog) (w:=w) (base:=base) B acI acJ acG acM acL acK acE acB acF acC acD (fQ X G aeF (by walk_at "b"));have adh:=Zc (zy (P:=l.prog) (w:=w) (base:=base) B acI acJ acG acM acL acK acE acB acF acC acD (QW adU (by walk_at "b"))) ad6.2.2.2.2.2.1 ad6.2.2.2.2.2.2;have adc:=yq (P:=l.prog) (w:=w) (base:=base) B acI acJ acG acM acL acK acE acB acF acC acD (QW adS (by walk_at "b"));have acP:=CG (P:=l.prog) (w:=w) (base:=base) B acI acJ acG acM acL acK acE acB acF acC acD (QW ad8 (by walk_at "b"));have acO:=CJ (P:=l.prog) (w:=w) (base:=base) B acI acJ acG acM acL acK acE acB acF acC acD (QW ad7 (by walk_at "b"));have acU:=JG (P:=l.prog) (w:=w) (base:=base) B acI acJ acG acM acL acK acE acB acF acC acD (fQ X G ael (by walk_at "b")) acW;have ada:=Oe (P:=l.prog) (w:=w) (base:=base) B acI acJ acG acM acL acK acE acB acF acC acD (fQ X G aeG (by walk_at "b")) acW;have acZ:=JH (P:=l.prog) (w:=w) (base:=base) B acI acJ acG acM acL acK acE acB acF acC acD (fQ X G aem (by walk_at "b"));have adu:=JK (P:=l.prog) (w:=w) (base:=base) B acI acJ acG acM acL acK acE acB acF acC acD (fQ X G aen (by walk_at "b")) acU ada acZ;have ac2:=Ef (P:=l.prog) (w:=w) (base:=base) B acI acJ acG acM acL acK acE acB acF acC acD (QW aeb (by walk_at "b")) acP acO;have adD:=JL (P:=l.prog) (w:=w) (base:=base) B acI acJ acG acM acL acK acE acB acF acC acD (fQ X G aeo (by walk_at "b"));have adE:=JM (P:=l.prog) (w:=w) (base:=base) B acI acJ acG acM acL acK acE acB acF acC acD (fQ X G aep (by walk_at "b")) acW adD;have adb:=yr (P:=l.prog) (w:=w) (base:=base) B acI acJ acG acM acL acK acE acB acF acC acD (fQ X G adQ (by walk_at "b")) adE;have adX:=Qu (P:=l.prog) (w:=w) (base:=base) B acI acJ acG acM acL acK acE acB acF acC acD (fQ X G aeJ (by walk_at "b"));have adg:=K5 (P:=l.prog) (w:=w) (base:=base) B acI acJ acG acM acL acK acE acB acF acC acD (fQ X G aeD (by walk_at "b")) acU adb adX;have adC:=vW (P:=l.prog) (w:=w) (base:=base) B acI acJ acG acM acL acK acE acB acF acC acD (fQ X G aee (by walk_at "b")) (fQ X G aek (by walk_at "b")) (fQ X G aeC (by walk_at "b")) acP ac2 acO adg 40;have ac1:=adC.1;have adk:=adC.2.1;have adL:=adC.2.2;have adm:=Al (P:=l.prog) (w:=w) (base:=base) B acI acJ acG acM acL acK acE acB acF acC acD (fQ X G adY (by walk_at "b")) acP acO adu ac1;have adx:=K7 (P:=l.prog) (w:=w) (base:=base) B acI acJ acG acM acL acK acE acB acF acC acD (fQ X G ad1 (by walk_at "b")) acW ada acZ;have ado:=GQ (P:=l.prog) (w:=w) (base:=base) B acI acJ acG acM acL acK acE acB acF acC acD (fQ X G adP (by walk_at "b")) acU;have adv:=JP (P:=l.prog) (w:=w) (base:=base) B acI acJ acG acM acL acK acE acB acF acC acD (fQ X G adV (by walk_at "b")) acU;have ade:=GX (P:=l.prog) (w:=w) (base:=base) B acI acJ acG acM acL acK acE acB acF acC acD (fQ X G aed (by walk_at "b")) acP acO adx ado adv;have adz:=GZ (P:=l.prog) (w:=w) (base:=base) B acI acJ acG acM acL acK acE acB acF acC acD (fQ X G aec (by walk_at "b")) acP acO acU;have adO:=Vv (P:=l.prog) (w:=w) (base:=base) B acI acJ acG acM acL acK acE acB acF acC acD (fQ X G aeM (by walk_at "b")) adh adc adm ade adz adk;have acX:=G4 (P:=l.prog) (w:=w) (base:=base) B acI acJ acG acM acL acK acE acB acF acC acD (fQ X G aef (by walk_at "b"));have adG:=JQ (P:=l.prog) (w:=w) (base:=base) B acI acJ acG acM acL acK acE acB acF acC acD (fQ X G aeq (by walk_at "b")) acX;have acR:=pU (P:=l.prog) (w:=w) (base:=base) B acI acJ acG acM acL acK acE acB acF acC acD (fQ X G adR (by walk_at "b")) 40;have ac6:=JR (P:=l.prog) (w:=w) (base:=base) B acI acJ acG acM acL acK acE acB acF acC acD (fQ X G aer (by walk_at "b")) acR;have acV:=vX (P:=l.prog) (w:=w) (base:=base) B acI acJ acG acM acL acK acE acB acF acC acD (fQ X G aeg (by walk_at "b")) ac6 40;have adn:=Am (P:=l.prog) (w:=w) (base:=base) B acI acJ acG acM acL acK acE acB acF acC acD (fQ X G adZ (by walk_at "b")) acX acV;have ad2:=R8 (P:=l.prog) (w:=w) (base:=base) B acI acJ acG acM acL acK acE acB acF acC acD (fQ X G aeL (by walk_at "b")) adG adn acV;have ac7:=JS (P:=l.prog) (w:=w) (base:=base) B acI acJ acG acM acL acK acE acB acF acC acD (fQ X G aes (by walk_at "b"));have acH:=JT (P:=l.prog) (w:=w) (base:=base) B acI acJ acG acM acL acK acE acB acF acC acD (fQ X G aet (by walk_at "b")) ac7;have adJ:=JV (P:=l.prog) (w:=w) (base:=base) B acI acJ acG acM acL acK acE acB acF acC acD (fQ X G aeu (by walk_at "b")) acH;have acN:=JW (P:=l.prog) (w:=w) (base:=base) B acI acJ acG acM acL acK acE acB acF acC acD (fQ X G aev (by walk_at "b")) acH;have ac3:=Eg (P:=l.prog) (w:=w) (base:=base) B acI acJ acG acM acL acK acE acB acF acC acD (fQ X G ad9 (by walk_at "b")) acH;have acQ:=qm (P:=l.prog) (w:=w) (base:=base) B acI acJ acG acM acL acK acE acB acF acC acD (fQ X G adT (by walk_at "b")) acH ac3 acN 40;have ac8:=JX (P:=l.prog) (w:=w) (base:=base) B acI acJ acG acM acL acK acE acB acF acC acD (fQ X G aew (by walk_at "b")) acQ acH;have adW:=yf (P:=l.prog) (w:=w) (base:=base) B acI acJ acG acM acL acK acE acB acF acC acD (fQ X G aex (by walk_at "b")) (fQ X G aeE (by walk_at "b")) acQ acH ac8 acN 40;have ac0:=adW.1;have ad0:=adW.2;have adl:=J0 (P:=l.prog) (w:=w) (base:=base) B acI acJ acG acM acL acK acE acB acF acC acD (fQ X G aey (by walk_at "b")) acH acN;have adp:=CK (P:=l.prog) (w:=w) (base:=base) B acI acJ acG acM acL acK acE acB acF acC acD (fQ X G ad3 (by walk_at "b")) acH acN adl ac0;have adK:=J1 (P:=l.prog) (w:=w) (base:=base) B acI acJ acG acM acL acK acE acB acF acC acD (fQ X G aez (by walk_at "b")) acH acN adp;have acT:=G6 (P:=l.prog) (w:=w) (base:=base) B acI acJ acG acM acL acK acE acB acF acC acD (fQ X G aeh (by walk_at "b"));have ac5:=G7 (P:=l.prog) (w:=w) (base:=base) B acI acJ acG acM acL acK acE acB acF acC acD (fQ X G aei (by walk_at "b")) acT;have acY:=vY (P:=l.prog) (w:=w) (base:=base) B acI acJ acG acM acL acK acE acB acF acC acD (fQ X G aej (by walk_at "b")) ac5 acT 40;have ac9:=J2 (P:=l.prog) (w:=w) (base:=base) B acI acJ acG acM acL acK acE acB acF acC acD (fQ X G aeA (by walk_at "b"));have adt:=CP (P:=l.prog) (w:=w) (base:=base) B acI acJ acG acM acL acK acE acB acF acC acD (fQ X G ad4 (by walk_at "b")) acY ac9;have adw:=Eh (P:=l.prog) (w:=w) (base:=base) B acI acJ acG acM acL acK acE acB acF acC acD (fQ X G aea (by walk_at "b"));have ac4:=yg (P:=l.prog) (w:=w) (base:=base) B acI acJ acG acM acL acK acE acB acF acC acD (fQ X G aeB (by walk_at "b")) 40;have adq:=CQ (P:=l.prog) (w:=w) (base:=base) B acI acJ acG acM acL acK acE acB acF acC acD (fQ X G ad5 (by walk_at "b"));exact Xz (Yc (P:=l.prog) (w:=w) (base:=base) B acI acJ acG acM acL acK acE acB acF acC acD (yD (st:=xg) lk ce kp) ac7 adw adJ ac4 adq adK adt adO ad2) HL
theorem walk {l:W.OpenLaw} {q:Program} {loose:List Str} {XP:(Str->Option Value)->Heap->Prop} {YP:World->Heap->Prop} {d:DefRec} {K:Params->FG} (hn:l.most=some 63) (hdf:d.params.defaults=[])
 (hY:∀(w:World) (h:Heap),YP w h->(K w.params).In h)
 (F:∀(w:World) (mg:Str->Option Value) (fa:Addr) (h:Heap),(K w.params).In h->h.Ns mainGlobals mg->mg d.name=some (.ref fa)->
   ∃fd:FuncData,(∀(s:Shared) (u:Value),BindsTo s fd ⟨[u],[]⟩ [("_law_script",u)])/\∀base:Heap,(K w.params).In base->base.Ns mainGlobals mg->oH l.prog w (K w.params) mg base qe 87 fa fd ["_law_script"] (Hk (K w.params))):
 W.WalkO q loose XP YP l.row.toRowW d [] (λf vs=>PySem.call f vs):=
 L2.walk_of (n:=63) (k:=87) (x := "_law_script") (CX:=λ_=>qe) (sp:=λw=>Hk (K w.params)) hn (by decide) hdf ⟨λ_=>rfl,by decide,by decide,rfl⟩ hY F (λ_ _ a ns hl _ hS=>⟨a,ns,rfl,hS,hl,λ_=>rfl⟩) λ_ _ _ _ _ z=>z
end Law
end
namespace PySem.W.Fast
def tw7147995025175805928:=0
def tw4493538138622796445:=0
def tw3981795937971656729:=0
def tw5154075750357517896:=0
def tw15043820637052026552:=0
def tw17642947921134895281:=0
def tw3926858924976023767:=0
def tw1831899252733348381:=0
def tw8648951940752649219:=0
def tw17867099684009367873:=0
def tw16519238447612412162:=0
def tw7994569962609156322:=0
def tw10142120944816305723:=0
def tw8372504426490139222:=0
def tw2502454292882799754:=0
def tw18193159696350702090:=0
def tw4351949170560256172:=0
def tw9458388721519265609:=0
def tw5931311994149823275:=0
def tw1091815448731492792:=0
def tw9511424672107252757:=0
def tw16967772510166779528:=0
def tw17840921724052942645:=0
def tw17128654367678660065:=0
def tw9619353834103160022:=0
def tw1622540408810762975:=0
def tw17931683381985695388:=0
def tw16019953652006580425:=0
def tw17015510468474522253:=0
end PySem.W.Fast
open PySem PySem.W PyProof.Rows
local macro_rules | `(tactic| walk_at "m")=>`(tactic| exact ⟨_,by k_is,by k_is,_,_,_,_,_,_,_,_,_,by k_is,by k_is,by k_is⟩)
local macro_rules | `(tactic| walk_at "d")=>`(tactic| exact ⟨_,by k_is,_,_,_,_,_,_,_,_,_,by k_is,by k_is,by k_is⟩)
set_option maxRecDepth 100000 in
set_option maxHeartbeats 0 in
theorem PySem.Challenge.cw_hushwise_k17_texts_read_holds : PySem.Challenge.rw_hushwise_k17_texts_read.Holds := by
 w_on; o_law; k_head; (case hw=>w_witness2)
 k_fill
 refine Law.walk (l:=PySem.Challenge.rw_hushwise_k17_texts_read) rfl rfl (fun w h Y=>W.kIn_of Y) ?F
 case F=>
  intro w mg fa h KX G hmg
  refine' Law.all_mk KX G hmg ?_ ?_ ?_ ?_ ?_ ?_ ?_ ?_ ?_ ?_ ?_ ?_ ?_ ?_ ?_ ?_ ?_ ?_ ?_ ?_ ?_ ?_ ?_ ?_ ?_ ?_ ?_ ?_ ?_ ?_ ?_ ?_ ?_ ?_ ?_ ?_ ?_ ?_ ?_ ?_ ?_ ?_ ?_ ?_ ?_ ?_ ?_ ?_ ?_ ?_ ?_ ?_ ?_ ?_ ?_ ?_ ?_ ?_ ?_ ?_ ?_ ?_ ?_ ?_ ?_ ?_ ?_ ?_ ?_ Law.law_true
  exact ⟨_,⟨by k_is,by k_is,by k_is,by k_is,by k_is,by k_is,by k_is⟩,⟨by k_is,by k_is⟩,by walk_at "m",by walk_at "m",by walk_at "m",by walk_at "m",by walk_at "m"⟩
  iterate 48 walk_at "d"
  iterate 14 k_is
  iterate 2 exact ⟨_,by k_is⟩
  exact ⟨_,_,_,_,_,by k_is,by k_is,Nat.le_of_ble_eq_true rfl,.cons ⟨_,rfl⟩ (.cons ⟨_,rfl⟩ (.cons ⟨_,rfl⟩ (.cons ⟨_,rfl⟩ (.cons ⟨_,rfl⟩ (.cons ⟨_,rfl⟩ (.cons ⟨_,rfl⟩ (.cons ⟨_,rfl⟩ (.nil))))))))⟩
  exact ⟨_,_,_,_,_,by k_is,by k_is,Nat.le_of_ble_eq_true rfl,.cons ⟨_,rfl⟩ (.cons ⟨_,rfl⟩ (.cons ⟨_,rfl⟩ (.cons ⟨_,rfl⟩ (.cons ⟨_,rfl⟩ (.nil)))))⟩
  refine ⟨_,_,_,by k_is,by k_is,?_,by rfl⟩
  exact And.intro ⟨_,rfl⟩ (And.intro rfl (And.intro ⟨_,rfl⟩ (And.intro ⟨_,rfl⟩ (And.intro rfl (And.intro ⟨_,rfl⟩ (And.intro ⟨_,rfl⟩ (And.intro rfl (And.intro ⟨_,rfl⟩ (And.intro ⟨_,rfl⟩ (And.intro rfl (And.intro ⟨_,rfl⟩ (And.intro ⟨_,rfl⟩ (And.intro rfl (And.intro ⟨_,rfl⟩ (And.intro ⟨_,rfl⟩ (And.intro rfl (And.intro ⟨_,rfl⟩ (True.intro))))))))))))))))))
  refine ⟨_,_,_,by k_is,by k_is,?_,by rfl⟩
  exact And.intro ⟨_,rfl⟩ (And.intro rfl (And.intro ⟨_,rfl⟩ (And.intro ⟨_,rfl⟩ (And.intro rfl (And.intro ⟨_,rfl⟩ (And.intro ⟨_,rfl⟩ (And.intro rfl (And.intro ⟨_,rfl⟩ (And.intro ⟨_,rfl⟩ (And.intro rfl (And.intro ⟨_,rfl⟩ (And.intro ⟨_,rfl⟩ (And.intro rfl (And.intro ⟨_,rfl⟩ (True.intro)))))))))))))))
