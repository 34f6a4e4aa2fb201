import PyProof.Rows.All
import Wide.All
import OpenK.AllK
import Wide.FinOn
import Lean
import PyProof.EqAt
import PyProof.EqKinds
import PyProof.TupleCall
import PyProof.NeKinds
import PyProof.StrBlockI
import PyProof.WalksEnum
import PyProof.EnumMake
import PyProof.ZipIter
import PyProof.Rows.SortStr
import PyProof.Rows.SetFrom
import PyProof.CollectWalk
import PyProof.SetRoads
import PyProof.DictWalks
import PyProof.SumWalk
import PyProof.Rows.SumGenD
import PyProof.DictItems
import KE.KRevIter
import PyProof.Rows.FStrParts
import PyProof.StationsW
import PyProof.ReprRoads
import PyProof.ReprLen
import PyProof.ReprStr
import PyProof.StrLawsRepr
import PyProof.FString
import KE.KIsAll
import KE.KEqDict
import PyProof.AutoSeq1
import PyProof.StrCalls
import PySem.Challenge.RW_hushwise_k26_turns
set_option Elab.async false
set_option linter.all false
set_option bootstrap.genMatcherCode false
set_option genSizeOf false
set_option compiler.extract_closed false
set_option maxRecDepth 100000
set_option maxHeartbeats 8000000
noncomputable section
abbrev FG:=PySem.W.Frag
section
open PySem PySem.Spec PyProof.Rows
abbrev aaa:=@Option.bind_some
abbrev aab:=@List.mem_cons_self
abbrev aac:=@Heap.get?_push_of_some
abbrev aad:=@List.length_map
abbrev aae:=@List.length_cons
abbrev aaf:=@Nat.le_refl
abbrev aag:=@List.mem_cons_of_mem
abbrev aah:=@List.append_assoc
abbrev aai:=@List.length_append
abbrev aan:=@List.getElem?_eq_some_iff
abbrev aao:=@List.mem_cons
abbrev aap:=@List.sublist_cons_self
abbrev aaq:=@Heap.lt_size
abbrev aar:=@List.size_toArray
abbrev aas:=@List.getElem?_append_right
abbrev aat:=@List.append_nil
abbrev aau:=@Heap.get?_push_size
abbrev aav:=@List.map_cons
abbrev aaw:=@List.getElem?_set_ne
abbrev aax:=@List.getElem?_set_self
abbrev aay:=@Nat.lt_of_lt_of_le
abbrev aaz:=@List.map_append
abbrev aaA:=@Bool.false_ne_true
abbrev aaB:=@Option.some.inj
abbrev aaC:=@List.getElem?_eq_getElem
abbrev aaD:=@List.mem_map
abbrev aaE:=@List.mem_append_right
abbrev aaF:=@List.mem_append
abbrev aaG:=@Nat.ne_of_lt
abbrev aaH:=@Int.emod_lt_of_pos
abbrev aaI:=@List.getElem?_append_left
abbrev aaJ:=@List.length_set
abbrev aaK:=@List.length_nil
abbrev aaL:=@Nat.le_trans
abbrev aaM:=@List.nodup_cons
abbrev aaN:=@List.getElem?_map
abbrev aaO:=@Int.emod_nonneg
abbrev aaP:=@List.map_congr_left
abbrev aaQ:=@PassesOwn.never
abbrev aaR:=@PySem.F.plainAttrs_list
abbrev aaS:=@List.lookup_cons
abbrev aaT:=@List.mem_append_left
abbrev aaU:=@List.filterMap_cons_none
abbrev aaV:=@List.not_mem_nil
abbrev aaW:=@List.perm_middle
abbrev aaX:=@List.mem_filterMap
abbrev aaY:=@List.map_map
abbrev aaZ:=@List.sublist_append_left
abbrev aa0:=@Nat.ne_of_gt
abbrev aa1:=@PySem.F.slot_list_append
abbrev aa2:=@PySem.F.type_list_append
abbrev aa3:=@Nat.zero_le
abbrev aa4:=@List.mem_singleton
abbrev aa5:=@List.zip_cons_cons
abbrev aa6:=@Nat.sub_self
abbrev aa7:=@List.set_set
abbrev aa8:=@List.prefix_refl
abbrev aa9:=@List.mem_of_getElem?
abbrev aba:=@Nat.lt_irrefl
abbrev abb:=@Nat.lt_succ_self
abbrev abd:=@List.cons_append
abbrev abe:=@List.of_mem_zip
abbrev abf:=@List.foldl_cons
abbrev abg:=@List.zip_append
abbrev abh:=@List.perm_append_comm
abbrev abi:=@List.nil_append
abbrev abj:=@F.slot_tuple_iterator_next
abbrev abk:=@Nat.le_of_succ_le
abbrev abl:=@Nat.lt_succ_of_lt
abbrev abm:=@List.sublist_append_right
abbrev abn:=@List.drop_eq_getElem_cons
abbrev abo:=@Heap.size_push
abbrev abp:=@PySem.boot_len
abbrev abq:=@PySem.mem_of_lookup
abbrev abr:=@Heap.SameBut.update
abbrev abt:=@List.find?_cons
abbrev abu:=@List.nodup_append
abbrev abv:=@List.Sublist.refl
abbrev abw:=@List.map_nil
abbrev abx:=@List.getD_eq_getElem?_getD
abbrev aby:=@List.length_reverse
abbrev abz:=@Option.map_some
abbrev abA:=@Nat.le_of_lt
abbrev abB:=@Option.isSome_iff_exists
abbrev abC:=@Nat.lt_of_le_of_lt
abbrev abD:=@List.nodup_nil
abbrev abE:=@Nat.le_succ
abbrev abF:=@Heap.get?_update_other
abbrev abG:=@Array.getElem?_eq_none
abbrev abH:=@List.find?_cons_of_pos
abbrev abI:=@List.find?_cons_of_neg
abbrev abJ:=@Nat.le_of_not_lt
abbrev abK:=@Nat.le_add_right
abbrev abL:=@Heap.get?_update_self
abbrev abM:=@F.slot_zip_next
abbrev abN:=@List.eq_nil_of_length_eq_zero
abbrev abO:=@List.filterMap_cons
abbrev abP:=@Array.length_toList
abbrev abQ:=@F.args_tuple_iterator_next_1
abbrev abR:=@F.entry_tuple_iterator_next
abbrev abS:=@W.kia_one
abbrev abT:=@Bool.false_eq_true
abbrev abU:=@List.prefix_append
abbrev abV:=@W.kia_tup
abbrev abW:=@Int.toNat_natCast
abbrev abX:=@List.length_range
abbrev abY:=@W.cellsFrom_some
abbrev abZ:=@List.length_take
abbrev ab0:=@Bool.and_eq_true
abbrev ab1:=@List.zipIdx_cons
abbrev ab2:=@Nat.succ.inj
abbrev ab3:=@List.drop_length
abbrev ab4:=@W.methodCall_KW
abbrev ab5:=@List.forIn_cons
abbrev ab6:=@wpAny_bind
abbrev ab7:=@if_pos
abbrev ab8:=@if_neg
abbrev ab9:=@wpAny_pure
abbrev aca:=@decide_eq_false
abbrev acb:=@decide_eq_true
abbrev acd:=@beq_eq_false_iff_ne
abbrev ace:=@beq_self_eq_true
end
namespace L2
open PySem PySem.Spec PyProof.Rows
variable {pins:List (Addr×Obj)} {E:Value->Shared->Prop} {s:Shared} {A:Around} {w:World} {P:Program}
abbrev Key:=Sum Int Str
def sE:Key->Value->Bool
 | .inl k,v=>Value.isInt k v
 | .inr x,v=>Value.isStrOf x v
def Vk (w:World):Key->Int
 | .inl k=>hashInt k
 | .inr x=>hashStr w x
theorem du:∀ {k:Key} {v:Value},sE k v=true->(∃ i t,k=Sum.inl i/\v=Value.int i t)\/(∃ x t,k=Sum.inr x/\v=Value.str x t)
 | .inl i,v,h=>by
  obtain ⟨t,e⟩:=Value.isInt_shape (k:=i) (v:=v) h
  exact .inl ⟨i,t,rfl,e⟩
 | .inr x,v,h=>by
  obtain ⟨t,e⟩:=Value.isStrOf_shape (x:=x) (v:=v) h
  exact .inr ⟨x,t,rfl,e⟩
theorem K1 (i:Int) (t:Tok):sE (.inl i) (.int i t)=true:=by simp [sE,Value.isInt]
theorem K3 (x:Str) (t:Tok):sE (.inr x) (.str x t)=true:=by simp [sE,Value.isStrOf]
theorem Vl (a b:Int):decide ((Sum.inl a:Key)=Sum.inl b)=(a==b):=by
 by_cases e:a=b
 . subst e; simp
 . have h:¬ (Sum.inl a:Key)=Sum.inl b:=fun q=>e (Sum.inl.inj q)
   rw [aca h]
   exact (acd.mpr e).symm
theorem Vm (a b:Str):decide ((Sum.inr a:Key)=Sum.inr b)=decide (a=b):=by
 by_cases e:a=b
 . subst e; simp
 . have h:¬ (Sum.inr a:Key)=Sum.inr b:=fun q=>e (Sum.inr.inj q)
   rw [aca h,aca e]
theorem Vn (a:Int) (b:Str):decide ((Sum.inl a:Key)=Sum.inr b)=false:=aca (fun q=>nomatch q)
theorem Vo (a:Str) (b:Int):decide ((Sum.inr a:Key)=Sum.inl b)=false:=aca (fun q=>nomatch q)
def cU (prog:Program) (w:World):PySem.KeyKind prog w Key where
 is:=sE
 hash:=Vk w
 inj:=fun v a b ha hb=>by
  rcases du ha with ⟨i,t,rfl,rfl⟩ | ⟨x,t,rfl,rfl⟩
  . rcases du hb with ⟨j,u,rfl,e⟩ | ⟨y,u,rfl,e⟩
    . injection e with e1 _; rw [e1]
    . exact nomatch e
  . rcases du hb with ⟨j,u,rfl,e⟩ | ⟨y,u,rfl,e⟩
    . exact nomatch e
    . injection e with e1 _; rw [e1]
 byValue:=fun k v h=>by
  rcases du h with ⟨i,t,rfl,rfl⟩ | ⟨x,t,rfl,rfl⟩<;>rfl
 pyHash:=fun hv h=>by
  rcases du hv with ⟨i,t,rfl,rfl⟩ | ⟨x,t,rfl,rfl⟩
  . exact wpAny_pyHash_int h
  . exact wpAny_pyHash_str h
 eqBool:=fun hu hv h=>by
  rcases du hu with ⟨i,t,rfl,rfl⟩ | ⟨x,t,rfl,rfl⟩
  . rcases du hv with ⟨j,u,rfl,rfl⟩ | ⟨y,u,rfl,rfl⟩
    . rw [Vl] at h; exact wpAny_eqBool_int h
    . rw [Vn] at h; exact SeqAt.EqAt.int_str i t y u _ _ _ _ h
  . rcases du hv with ⟨j,u,rfl,rfl⟩ | ⟨y,u,rfl,rfl⟩
    . rw [Vo] at h; exact SeqAt.EqAt.str_int x t j u _ _ _ _ h
    . rw [Vm] at h; exact wpAny_eqBool_str h
 «strs»:=fun k x t v h=>by
  rcases du h with ⟨i,u,rfl,e⟩ | ⟨y,u,rfl,e⟩
  . exact nomatch e
  . injection e with e1 _
    subst e1
    cases v<;>rfl
theorem Hn (prog:Program) (w:World) (i:Int) (t:Tok):(cU prog w).is (.inl i) (.int i t)=true:=K1 i t
theorem Ho (prog:Program) (w:World) (x:Str) (t:Tok):(cU prog w).is (.inr x) (.str x t)=true:=K3 x t
inductive V where
 | non | bl (b:Bool) | int (i:Int) | str (x:Str) | byt (b:Array UInt8) | flt (b:UInt64) | ref (a:Addr) | ty (n:String)
 deriving DecidableEq
def RelV:V->Value->Prop
 | .non,u=>u=Value.none
 | .bl b,u=>u=Value.bool b
 | .int i,u=>∃ t,u=Value.int i t
 | .str x,u=>∃ t,u=Value.str x t
 | .byt b,u=>∃ t,u=Value.bytes b t
 | .flt b,u=>∃ t,u=Value.float b t
 | .ref a,u=>u=Value.ref a
 | .ty n,u=>u=Value.type n
abbrev Vals:List V->List Value->Prop:=Paired RelV
theorem Vals.length {xs:List V} {us:List Value} (r:Vals xs us):xs.length=us.length:=Paired.length r
theorem Vals.get:∀ {xs:List V} {us:List Value} {i:Nat} {x:V},Vals xs us->xs[i]?=some x->∃ u,us[i]?=some u/\RelV x u
 | _,_,_,_,.nil,e=>by simp at e
 | _,_,0,_,.cons r _,e=>by simp at e; subst e; exact ⟨_,rfl,r⟩
 | _,_,i+1,x,.cons _ t,e=>by
  obtain ⟨u,h1,h2⟩:=Vals.get (i:=i) (x:=x) t (by simpa using e)
  exact ⟨u,by simpa using h1,h2⟩
theorem Vals.append:∀ {xs ys:List V} {us ws:List Value},Vals xs us->Vals ys ws->Vals (xs++ys) (us++ws)
 | _,_,_,_,.nil,s=>s
 | _,_,_,_,.cons r t,s=>.cons r (Vals.append t s)
theorem Vals.take:∀ {xs:List V} {us:List Value} (n:Nat),Vals xs us->Vals (xs.take n) (us.take n)
 | _,_,0,_=>.nil
 | _,_,_+1,.nil=>.nil
 | _,_,n+1,.cons r t=>.cons r (Vals.take n t)
theorem Vals.drop:∀ {xs:List V} {us:List Value} (n:Nat),Vals xs us->Vals (xs.drop n) (us.drop n)
 | _,_,0,r=>r
 | _,_,_+1,.nil=>.nil
 | _,_,n+1,.cons _ t=>Vals.drop n t
def lR:Option V->Option Value->Prop
 | some v,some u=>RelV v u
 | none,none=>True
 | _,_=>False
def KV {κ:Type}:List (κ×V)->List (κ×Value)->Prop:=Paired fun (p:κ×V) (q:κ×Value)=>p.1=q.1/\RelV p.2 q.2
def kV:Key->V
 | .inl i=>.int i
 | .inr x=>.str x
inductive HO where
 | lst (xs:List V)
 | tup (xs:List V)
 | dK (kvs:List (Key×V)) | dT (kvs:List (List Key×V))
 | set (S:Int->Bool) (n:Nat)
 | ins (C dx:Addr) (fs:List (Str×V))
 | own (x:Addr)
 | xd (fs:List (Str×V))
 | met (f x:Addr)
 | rng (lo hi:Int)
 | frz (o:Obj) (u:HO)
 | tbl (ps:Array Value)
 | ext (φ:Heap->Prop)
abbrev Hp:=Addr->Option HO
def upd (H:Hp) (a:Addr) (o:HO):Hp:=fun b=>if b=a then some o else H b
theorem bM {H:Hp} {a:Addr} {o:HO}:upd H a o a=some o:=by unfold upd; rw [ab7 rfl]
theorem cj {H:Hp} {a b:Addr} {o:HO} (h:b≠a):upd H a o b=H b:=by unfold upd; rw [ab8 h]
theorem Yc {H:Hp} {a b:Addr} {o u:HO} (h:H a=some o) (h':H b=some u) (d:o≠u):a≠b:=by
 intro e; subst e; rw [h] at h'; exact d (aaB h')
theorem dB {H:Hp} {a b:Addr} {o:HO} (h:H a=some o) (h':H b=none):a≠b:=by
 intro e; subst e; rw [h] at h'; cases h'
section
variable (P:Program) (w:World)
def gb (H:Hp) (h:Heap) (a:Addr):HO->Prop
 | .lst xs=>xs.length<=sizeLine/\∃ (its:List Value) (n:Nat),Vals xs its/\h.get? a=some { cls:=.type "list",data:=.seq its.toArray n }
 | .tup xs=>xs.length<=sizeLine/\∃ its:List Value,Vals xs its/\IsTup h a its.toArray
 | .dK kvs=>kvs.length<=sizeLine/\(a==sysModules)=false/\∃ vs,KV kvs vs/\h.DictOf (cU P w) a vs
 | .dT kvs=>kvs.length<=sizeLine/\(a==sysModules)=false/\∃ xs:List (List Key×Addr×Value),
  Paired (fun (p:List Key×V) (q:List Key×Addr×Value)=>p.1=q.1/\H q.2.1=some (.tup (p.1.map kV))/\RelV p.2 q.2.2) kvs xs/\
  ∃ o es ep,h.get? a=some o/\o.ExactDict/\o.data=.dict es ep/\es.toList=xs.map (entryOfKey (tupleKind (cU P w)))/\(xs.map (·.1)).Nodup
 | .set S n=>h.SetOf (intKind P w) a S n
 | .ins C dx fs=>H dx=some (.own a)/\fs.length<=1000/\dx≠a/\h.get? a=some (W.instObj C dx)/\
  ∃ mA,h.Ns1 dx mA/\(∀ f,lR (fs.lookup f) (mA f))/\PySem.Within mA (fs.map (·.1))
 | .own _=>∃ o,h.get? a=some o
 | .xd fs=>∃ mA,h.Ns1 a mA/\∀ f,lR (fs.lookup f) (mA f)
 | .rng lo hi=>∃ t u v,h.get? a=some { cls:=.type "range",data:=.fields #[.int lo t,.int hi u,.int 1 v] }
 | .frz o u=>h.get? a=some o/\gb H h a u
 | .tbl ps=>h.get? a=some { cls:=.none,data:=.fields ps }
 | .met f x=>h.get? a=some (W.methodObj (.ref f) (.ref x))
 | .ext φ=>φ h/\(∃ o,h.get? a=some o)/\∀ h1 h2:Heap,φ h1->(∀ o,h1.get? a=some o->h2.get? a=some o)->φ h2
def ir (H:Hp) (h:Heap):Prop:=∀ a o,H a=some o->gb P w H h a o
end
section
variable {P:Program} {w:World} {H H':Hp} {h h':Heap} {a:Addr} {o:HO}
theorem gb.lt (x:gb P w H h a o):a<h.objs.size:=by
 cases o with
 | lst xs=>obtain ⟨_,_,_,_,e⟩:=x; exact aaq e
 | tup xs=>obtain ⟨_,_,_,p⟩:=x; exact p.lt
 | dK kvs=>obtain ⟨_,_,_,_,o,_,_,e,_⟩:=x; exact aaq e
 | dT kvs=>obtain ⟨_,_,_,_,o,_,_,e,_⟩:=x; exact aaq e
 | set S n=>obtain ⟨o,_,_,_,e,_⟩:=x; exact aaq e
 | ins C dx fs=>obtain ⟨_,_,_,e,_⟩:=x; exact aaq e
 | own y=>obtain ⟨_,e⟩:=x; exact aaq e
 | xd fs=>obtain ⟨_,⟨_,_,_,e,_⟩,_⟩:=x; exact aaq e
 | rng lo hi=>obtain ⟨_,_,_,e⟩:=x; exact aaq e
 | frz ob u=>obtain ⟨e,_⟩:=x; exact aaq e
 | tbl ps=>exact aaq (show h.get? a=some _ from x)
 | met f y=>exact aaq (show h.get? a=some _ from x)
 | ext φ=>obtain ⟨_,⟨_,e⟩,_⟩:=x; exact aaq e
theorem Paired.mapP {α β:Type} {F G:α->β->Prop}:∀ {l₁:List α} {l₂:List β},Paired F l₁ l₂->(∀ a b,F a b->G a b)->Paired G l₁ l₂
 | _,_,.nil,_=>.nil
 | _,_,.cons r t,f=>.cons (f _ _ r) (Paired.mapP t f)
theorem gb.stay (x:gb P w H h a o) (k:∀ b u,(b=a\/H b=some (.own a))->h.get? b=some u->h'.get? b=some u)
 (ho:∀ b,H b=some (.own a)->H' b=some (.own a)) (ht:∀ b xs,H b=some (.tup xs)->H' b=some (.tup xs)):gb P w H' h' a o:=by
 induction o with
 | lst xs=>obtain ⟨z,its,n,r,e⟩:=x; exact ⟨z,its,n,r,k _ _ (.inl rfl) e⟩
 | tup xs=>obtain ⟨z,its,r,ob,e,c⟩:=x; exact ⟨z,its,r,ob,k _ _ (.inl rfl) e,c⟩
 | dK kvs=>obtain ⟨z,y,vs,r,ob,es,ep,e,c⟩:=x; exact ⟨z,y,vs,r,ob,es,ep,k _ _ (.inl rfl) e,c⟩
 | dT kvs=>
  obtain ⟨z,y,xs,r,ob,es,ep,e,c⟩:=x
  exact ⟨z,y,xs,Paired.mapP r fun p q z=>⟨z.1,ht _ _ z.2.1,z.2.2⟩,ob,es,ep,k _ _ (.inl rfl) e,c⟩
 | set S n=>obtain ⟨ob,es,ep,t,e,c⟩:=x; exact ⟨ob,es,ep,t,k _ _ (.inl rfl) e,c⟩
 | ins C dx fs=>
  obtain ⟨d,z,ne,e,mA,⟨od,es,ep,e2,c⟩,r⟩:=x
  exact ⟨ho _ d,z,ne,k _ _ (.inl rfl) e,mA,⟨od,es,ep,k _ _ (.inr d) e2,c⟩,r⟩
 | own y=>obtain ⟨ob,e⟩:=x; exact ⟨ob,k _ _ (.inl rfl) e⟩
 | xd fs=>obtain ⟨mA,⟨od,es,ep,e,c⟩,r⟩:=x; exact ⟨mA,⟨od,es,ep,k _ _ (.inl rfl) e,c⟩,r⟩
 | rng lo hi=>obtain ⟨t,u,v,e⟩:=x; exact ⟨t,u,v,k _ _ (.inl rfl) e⟩
 | frz ob u ih=>obtain ⟨e,q⟩:=x; exact ⟨k _ _ (.inl rfl) e,ih q⟩
 | tbl ps=>
  have e:h.get? a=some { cls:=.none,data:=.fields ps }:=x
  show h'.get? a=some { cls:=.none,data:=.fields ps }
  exact k a _ (.inl rfl) e
 | met f y=>
  have e:h.get? a=some (W.methodObj (.ref f) (.ref y)):=x
  show h'.get? a=some (W.methodObj (.ref f) (.ref y))
  exact k a _ (.inl rfl) e
 | ext φ=>obtain ⟨p,⟨o,e⟩,st⟩:=x; exact ⟨st _ _ p fun o q=>k _ _ (.inl rfl) q,⟨o,k _ _ (.inl rfl) e⟩,st⟩
theorem ir.lt (x:ir P w H h) (e:H a=some o):a<h.objs.size:=(x a o e).lt
theorem ir.fresh (x:ir P w H h) (e:h.objs.size<=a):H a=none:=by
 cases q:H a with
 | none=>rfl
 | some u=>exact absurd (aay (x.lt q) e) (aba _)
theorem ir.kept (x:ir P w H h) (k:∀ b u,h.get? b=some u->h'.get? b=some u):ir P w H h':=fun a o e=>
 (x a o e).stay (fun b u _ q=>k b u q) (fun _ q=>q) fun _ _ q=>q
theorem ir.laid (x:ir P w H h) (k:∀ b u,h.get? b=some u->h'.get? b=some u) (hp:h.objs.size<=a) (new:gb P w (upd H a o) h' a o):ir P w (upd H a o) h':=fun b u e=>by
 have hn:=x.fresh hp
 by_cases hb:b=a
 . subst hb; rw [bM] at e; cases e; exact new
 . rw [cj hb] at e
   exact (x b u e).stay (fun c v _ q=>k c v q) (fun c q=>by rw [cj (dB q hn)]; exact q) fun c xs q=>by rw [cj (dB q hn)]; exact q
end
def Rd (H:Hp) (a:Addr) (u:HO):Prop:=H a=some u\/∃ o,H a=some (.frz o u)
theorem Rd.ok {H:Hp} {h:Heap} {a:Addr} {u:HO} (r:Rd H a u) (x:ir P w H h):gb P w H h a u:=by
 rcases r with r | ⟨o,r⟩
 . exact x a u r
 . obtain ⟨_,q⟩:=x a _ r
   exact q
def K4:Option HO->Prop
 | some (.lst _)=>True
 | some (.dK _)=>True
 | some (.dT _)=>True
 | some (.set _ _)=>True
 | some (.ins _ _ _)=>True
 | some (.ext _)=>True
 | _=>False
section
variable {P:Program} {w:World} {H:Hp} {h h':Heap} {x e:Addr} {o':HO}
theorem ir.write (ok:ir P w H h) (mu:K4 (H x)) (he:e=x\/H e=some (.own x)) (k:∀ b u,b≠e->h.get? b=some u->h'.get? b=some u) (heo:∃ u,h'.get? e=some u)
 (new:gb P w (upd H x o') h' x o'):ir P w (upd H x o') h':=fun b u q=>by
 have nown:∀ c y,H c=some (.own y)->c≠x:=fun c y r z=>by subst z; rw [r] at mu; exact mu
 have ntup:∀ c xs,H c=some (.tup xs)->c≠x:=fun c xs r z=>by subst z; rw [r] at mu; exact mu
 by_cases hb:b=x
 . subst hb; rw [bM] at q; cases q; exact new
 . rw [cj hb] at q
   by_cases hbe:b=e
   . have q':H b=some (.own x):=by
      rcases he with z | z
      . exact absurd (hbe.trans z) hb
      . rw [hbe]; exact z
     rw [q] at q'; cases q'
     obtain ⟨v,hv⟩:=heo
     exact ⟨v,by rw [hbe]; exact hv⟩
   . refine (ok b u q).stay (fun c v hc r=>k c v ?_ r) (fun c r=>by rw [cj (nown c b r)]; exact r) fun c xs r=>by rw [cj (ntup c xs r)]; exact r
     rcases hc with rfl | hc
     . exact hbe
     . rintro rfl
       rcases he with z | z
       . exact nown c b hc z
       . rw [hc] at z; cases z; exact hb rfl
end
structure Un (fs ex:List Addr) (H H':Hp) (h h':Heap):Prop where
 keep:∀ b o,h.get? b=some o->H b=none->b∉fs->b∉ex->h'.get? b=some o
 slot:∀ b o,h.get? b=some o->H b=none->b∈fs->b∉ex->∃ sl,h'.get? b=some { o with slots:=sl }
 free:∀ b o,h.get? b=some o->H b=none->b∉ex->H' b=none
 there:∀ b o,h.get? b=some o->b∉ex->∃ o',h'.get? b=some o'
 tups:∀ b xs,H b=some (.tup xs)->H' b=some (.tup xs)
 frzs:∀ b o u,H b=some (.frz o u)->H' b=some (.frz o u)
 tbls:∀ b ps,H b=some (.tbl ps)->∃ more,H' b=some (.tbl (ps++more))
section
variable {fs fs' ex ex':List Addr} {H H1 H2:Hp} {h h1 h2 h':Heap} {a x e:Addr} {o:HO}
theorem Un.any (u:Un fs ex H H1 h h1) {b:Addr} {ob:Obj} (q:h.get? b=some ob) (n:H b=none) (hx:b∉ex):∃ sl,h1.get? b=some { ob with slots:=sl }:=by
 by_cases hb:b∈fs
 . exact u.slot b ob q n hb hx
 . exact ⟨ob.slots,u.keep b ob q n hb hx⟩
theorem Un.kept (k:∀ b u,h.get? b=some u->h'.get? b=some u):Un fs ex H H h h':=
 ⟨fun b ob q _ _ _=>k b ob q,fun b ob q _ _ _=>⟨ob.slots,k b ob q⟩,fun _ _ _ n _=>n,fun b ob q _=>⟨ob,k b ob q⟩,fun _ _ q=>q,fun _ _ _ q=>q,fun _ ps q=>⟨#[],by rw [q]; simp⟩⟩
theorem Un.refl:Un fs ex H H h h:=Un.kept fun _ _ q=>q
theorem Un.laid (k:∀ b u,h.get? b=some u->h'.get? b=some u) (hp:h.objs.size<=a) (hn:H a=none):Un fs ex H (upd H a o) h h' where
 keep:=fun b u q _ _ _=>k b u q
 slot:=fun b u q _ _ _=>⟨u.slots,k b u q⟩
 free:=fun b u q n _=>by rw [cj (aaG (aay (aaq q) hp))]; exact n
 there:=fun b u q _=>⟨u,k b u q⟩
 tups:=fun b xs q=>by rw [cj (dB q hn)]; exact q
 frzs:=fun b u xs q=>by rw [cj (dB q hn)]; exact q
 tbls:=fun b ps q=>⟨#[],by rw [cj (dB q hn),q]; simp⟩
theorem Un.write (mu:K4 (H x)) (he:e=x\/H e=some (.own x)) (k:∀ b u,b≠e->h.get? b=some u->h'.get? b=some u) (heo:∃ u,h'.get? e=some u):Un fs ex H (upd H x o) h h':=by
 have hx:∀ b,H b=none->b≠x:=fun b n z=>by subst z; rw [n] at mu; exact mu
 have hb:∀ b,H b=none->b≠e:=fun b n z=>by
  subst z
  rcases he with r | r
  . exact hx b n r
  . rw [n] at r; cases r
 have hm:∀ b u,H b=some u->¬ K4 (some u)->b≠x:=fun b u q nm z=>by subst z; rw [q] at mu; exact nm mu
 refine ⟨fun b u q n _ _=>k b u (hb b n) q,fun b u q n _ _=>⟨u.slots,k b u (hb b n) q⟩,fun b u q n _=>by rw [cj (hx b n)]; exact n,fun b u q _=>?_,
  fun b xs q=>by rw [cj (hm b _ q fun z=>z)]; exact q,fun b u xs q=>by rw [cj (hm b _ q fun z=>z)]; exact q,fun b ps q=>⟨#[],by rw [cj (hm b _ q fun z=>z),q]; simp⟩⟩
 by_cases hbe:b=e
 . subst hbe; exact heo
 . exact ⟨u,k b u hbe q⟩
end
def Ri (h:Heap) (H:Hp):List Addr:=(List.range h.objs.size).filter fun a=>(H a).isSome
def uG (h:Heap) (H:Hp):Heap:=W.hideAll h (Ri h H)
theorem K5 (h:Heap) (H:Hp):(uG h H).objs.size=h.objs.size:=W.hideAll_size _ _
theorem Oq {h:Heap} {H:Hp} {b:Addr} {o:Obj} (e:h.get? b=some o) (n:H b=none):(uG h H).get? b=some o:=
 W.hideAll_get _ e fun hm=>by
  have q:(H b).isSome=true:=(List.mem_filter.mp hm).2
  rw [n] at q; simp at q
theorem SM {h:Heap} {H:Hp} {b:Addr} {o:Obj} (e:(uG h H).get? b=some o):h.get? b=some o/\H b=none:=by
 have e':h.get? b=some o:=W.of_hideAll (Ri h H) e
 refine ⟨e',?_⟩
 cases q:H b with
 | none=>rfl
 | some x=>
  have hm:b∈Ri h H:=List.mem_filter.mpr ⟨List.mem_range.mpr (aaq e'),by simp [q]⟩
  have z:(uG h H).get? b=none:=W.hideAll_none (Ri h H) hm
  rw [z] at e; cases e
def SN (g h:Heap) (L:Addr):List (Addr×Obj):=(List.range h.objs.size).filterMap fun a=>if a=L\/(g.get? a).isSome=true then none else (h.get? a).map fun o=>(a,o)
def rest (g h:Heap) (L d:Addr):List (Addr×Obj):=(SN g h L).filter fun p=>decide (p.1≠d)
structure Mod (K:FG) (mg:Str->Option Value) (base:Heap):Prop where
 kin:K.In base
 glob:base.Ns mainGlobals mg
 blt:∃ mb,base.Ns builtinsNs mb/\∀ x:Str,x ≠ "__name__" -> mb x=bootBuiltins x
 nolimit:base.NoLimit
structure Cx where
 prog:Program
 w:World
 K:FG
 mg:Str->Option Value
 base:Heap
 A:Around
 N:List Str
 s₀:Shared
 H0:Hp
 env:Env
 outer:List Env
 stack:List Env
 ex:List Addr
 fn:Str->Bool
 calm:Bool
 pn:List (Addr×Obj)
 xe:Value->Shared->Prop
def frs (l:List Env):List Addr:=l.filterMap (·.frame)
abbrev Cx.fs (X:Cx):List Addr:=frs X.outer
def K6 (sc:Scope) (x:Str):Prop:=sc.names.lookup x=some .local\/sc.names.lookup x=some .cell\/sc.names.lookup x=some .free
def Loc (sc:Scope) (x:Str):Prop:=sc.names.lookup x=some .local\/sc.names.lookup x=some .cell
def Look (env:Env) (h:Heap) (m:Str->Option Value) (x:Str) (u:Value):Prop:=
 (env.kindOf x=some .local/\m x=some u)\/((env.kindOf x=some .cell\/env.kindOf x=some .free)/\∃ c,env.cells.lookup x=some c/\h.IsCell c (some u))
structure Cx.Ok (X:Cx):Prop where
 mod:Mod X.K X.mg X.base
 kind:X.env.scope.kind=.function
 glob:X.env.globals=mainGlobals
 blt:X.env.builtins=builtinsNs
 above:X.s₀.heap.objs.size<=X.env.locals
 inj:∀ x y c,X.env.cells.lookup x=some c->X.env.cells.lookup y=some c->x=y
 has:∀ x,(X.env.kindOf x=some .cell\/X.env.kindOf x=some .free)->∃ c,X.env.cells.lookup x=some c
 cab:∀ x c,X.fn x=true->X.env.cells.lookup x=some c->X.s₀.heap.objs.size<=c
 hd:X.calm=true->X.A.handled=none
 frames:X.A.frames=some X.stack
 stk:X.stack=X.outer\/(X.stack=X.env::X.outer/\X.env.frame=some X.env.locals)
 exf:∀ b∈X.ex,b≠X.env.locals/\∀ x c,X.env.cells.lookup x=some c->c≠b
 bs:∀ b o,X.base.get? b=some o->X.s₀.heap.get? b=some o/\X.H0 b=none
 bsz:X.base.objs.size<=X.s₀.heap.objs.size
 noex:∀ b o,X.base.get? b=some o->b∉X.ex
 exfs:∀ b∈X.ex,b∉X.fs
 funs:X.s₀.heap.FunFrames X.base X.outer
 frf:∀ b∈X.fs,X.H0 b=none
structure Inv (X:Cx) (pins:List (Addr×Obj)) (σ:List (Option V)) (H:Hp) (s:Shared):Prop where
 ok:X.Ok
 os:s.os=X.s₀.os
 bare:AllBare s.gens
 base:Un X.fs X.ex X.H0 H X.s₀.heap s.heap
 loc:∃ m,s.heap.Ns X.env.locals m/\∀ (i:Nat) (x:Str) (v:V),X.N[i]?=some x->σ[i]?=some (some v)->K6 X.env.scope x->∃ u,RelV v u/\Look X.env s.heap m x u
 cell:∀ x c,X.env.cells.lookup x=some c->∃ v,s.heap.IsCell c v
 free:H X.env.locals=none
 freeC:∀ x c,X.env.cells.lookup x=some c->H c=none
 pin:∀ p∈X.pn++pins,s.heap.get? p.1=some p.2/\H p.1=none/\p.1≠X.env.locals/\p.1∉X.fs/\∀ v,p.2.data≠.cell v
 hok:ir X.prog X.w H s.heap
 len:σ.length=X.N.length
section
variable {X:Cx} {pins:List (Addr×Obj)} {σ:List (Option V)} {H H':Hp} {s:Shared} {h':Heap}
theorem Cx.Ok.nofr (ok:X.Ok) {b:Addr} {o:Obj} (e:X.base.get? b=some o):b∉X.fs:=fun hb=>by
 have:=(ok.funs.mem hb).1
 rw [e] at this; cases this
theorem Inv.bs (I:Inv X pins σ H s):∀ b o,X.base.get? b=some o->s.heap.get? b=some o/\H b=none:=fun b o e=>
 ⟨I.base.keep b o (I.ok.bs b o e).1 (I.ok.bs b o e).2 (I.ok.nofr e) (I.ok.noex b o e),I.base.free b o (I.ok.bs b o e).1 (I.ok.bs b o e).2 (I.ok.noex b o e)⟩
theorem Inv.bk (I:Inv X pins σ H s):∀ b o,X.base.get? b=some o->s.heap.get? b=some o:=fun b o e=>(I.bs b o e).1
theorem Inv.mod (I:Inv X pins σ H s):Mod X.K X.mg X.base:=I.ok.mod
theorem Inv.kIn (I:Inv X pins σ H s):X.K.In s.heap:=I.ok.mod.kin.keeps I.bk
theorem Inv.lt (I:Inv X pins σ H s):X.env.locals<s.heap.objs.size:=let ⟨_,hn,_⟩:=I.loc; hn.lt
theorem Inv.sz (I:Inv X pins σ H s):X.s₀.heap.objs.size<=s.heap.objs.size:=aaL I.ok.above (abA I.lt)
theorem Inv.nofs (I:Inv X pins σ H s) {a:Addr} (h:s.heap.objs.size<=a):a∉X.fs:=fun hb=>by
 obtain ⟨_,o,ho,_⟩:=I.ok.funs.mem hb
 exact absurd (aay (aaq ho) (aaL I.sz h)) (aba _)
theorem Inv.cne (I:Inv X pins σ H s):∀ x c,X.env.cells.lookup x=some c->c≠X.env.locals:=fun x c e z=>by
 obtain ⟨v,o,ho,hd⟩:=I.cell x c e
 obtain ⟨m,⟨o',es,ep,ho',hd',_⟩,_⟩:=I.loc
 rw [z,ho'] at ho; cases ho; rw [hd'] at hd; cases hd
theorem Inv.funs (I:Inv X pins σ H s):s.heap.FunFrames X.base X.outer:=by
 have all:∀ (l:List Env),(∀ b∈frs l,b∈X.fs)->X.s₀.heap.FunFrames X.base l->s.heap.FunFrames X.base l:=by
  intro l
  induction l with
  | nil=>intro _ _; trivial
  | cons env r ih=>
   intro hs hl
   obtain ⟨hk,⟨L,o,hf,hn,ho,hd⟩,hr⟩:=hl
   have hL:L∈X.fs:=hs L (by unfold frs; rw [abO,hf]; exact aab)
   obtain ⟨sl,e⟩:=I.base.slot L o ho (I.ok.frf L hL) hL fun z=>I.ok.exfs L z hL
   exact ⟨hk,⟨L,_,hf,hn,e,hd⟩,ih (fun b hb=>hs b (by unfold frs; rw [abO,hf]; exact aag _ hb)) hr⟩
 exact all X.outer (fun _ hb=>hb) I.ok.funs
theorem Inv.stack (I:Inv X pins σ H s):s.heap.FunFrames X.base X.stack:=by
 rcases I.ok.stk with e | ⟨e,hf⟩
 . rw [e]; exact I.funs
 . rw [e]
   obtain ⟨m,hn,_⟩:=I.loc
   refine .cons (by rw [I.ok.kind]; decide) hf hn ?_ I.funs
   exact Heap.get?_none_of_le (aaL I.ok.bsz I.ok.above)
theorem Inv.stkSub (I:Inv X pins σ H s):∀ b∈frs X.stack,b∈X.env.locals::X.fs:=fun b hb=>by
 rcases I.ok.stk with e | ⟨e,hf⟩
 . rw [e] at hb; exact aag _ hb
 . rw [e] at hb
   unfold frs at hb
   rw [abO,hf] at hb
   exact hb
theorem Inv.stkFree (I:Inv X pins σ H s):∀ b∈frs X.stack,H b=none:=fun b hb=>by
 rcases aao.mp (I.stkSub b hb) with e | hb
 . rw [e]; exact I.free
 . obtain ⟨_,o,ho,_⟩:=I.ok.funs.mem hb
   exact I.base.free b o ho (I.ok.frf b hb) fun z=>I.ok.exfs b z hb
theorem Inv.step {g':Array GenState} {t':Nat} {d':Drawn} {ch:List Addr} (I:Inv X pins σ H s)
 (hch:∀ b∈ch,(b∈X.ex\/X.s₀.heap.objs.size<=b)/\b≠X.env.locals/\(∀ x c,X.env.cells.lookup x=some c->c≠b)/\∀ p∈X.pn++pins,p.1≠b)
 (keep:∀ b o,b≠X.env.locals->b∉X.fs->b∉ch->s.heap.get? b=some o->H b=none->h'.get? b=some o)
 (slot:∀ b o,b≠X.env.locals->b∈X.fs->b∉ch->s.heap.get? b=some o->H b=none->∃ sl,h'.get? b=some { o with slots:=sl }) (free:∀ b o,b∉ch->s.heap.get? b=some o->H b=none->H' b=none)
 (there:∀ b o,b∉ch->s.heap.get? b=some o->∃ o',h'.get? b=some o')
 (tups:∀ b xs,H b=some (.tup xs)->H' b=some (.tup xs)) (frzs:∀ b o u,H b=some (.frz o u)->H' b=some (.frz o u)) (tbls:∀ b ps,H b=some (.tbl ps)->∃ more,H' b=some (.tbl (ps++more)))
 (ns:∀ m,s.heap.Ns X.env.locals m->h'.Ns X.env.locals m) (hok:ir X.prog X.w H' h') (hg:AllBare g'):
 Inv X pins σ H' { s with heap:=h',gens:=g',drawn:=d',toks:=t' }:=by
 have neL:∀ b o,X.s₀.heap.get? b=some o->b≠X.env.locals:=fun b o e=>aaG (aay (aaq e) I.ok.above)
 have neC:∀ b o,X.s₀.heap.get? b=some o->b∉X.ex->b∉ch:=fun b o e hx hb=>by
  rcases (hch b hb).1 with z | z
  . exact hx z
  . exact absurd (aay (aaq e) z) (aba _)
 have cellK:∀ x c,X.env.cells.lookup x=some c->∀ v,s.heap.IsCell c v->h'.IsCell c v:=fun x c e v ⟨o,ho,hd⟩=>by
  have nch:c∉ch:=fun z=>(hch c z).2.2.1 x c e rfl
  by_cases hc:c∈X.fs
  . obtain ⟨sl,q⟩:=slot c o (I.cne x c e) hc nch ho (I.freeC x c e)
    exact ⟨_,q,hd⟩
  . exact ⟨o,keep c o (I.cne x c e) hc nch ho (I.freeC x c e),hd⟩
 refine ⟨I.ok,I.os,hg,⟨fun b o e n hb hx=>?_,fun b o e n hb hx=>?_,fun b o e n hx=>?_,fun b o e hx=>?_,fun b xs e=>tups b xs (I.base.tups b xs e),fun b o xs e=>frzs b o xs (I.base.frzs b o xs e),fun b ps e=>?_⟩,?_,fun x c e=>?_,?_,fun x c e=>?_,fun p hp=>?_,hok,I.len⟩
 . exact keep b o (neL b o e) hb (neC b o e hx) (I.base.keep b o e n hb hx) (I.base.free b o e n hx)
 . obtain ⟨sl,e1⟩:=I.base.slot b o e n hb hx
   obtain ⟨sl',e2⟩:=slot b _ (neL b o e) hb (neC b o e hx) e1 (I.base.free b o e n hx)
   exact ⟨sl',e2⟩
 . obtain ⟨o',e1⟩:=I.base.there b o e hx
   exact free b o' (neC b o e hx) e1 (I.base.free b o e n hx)
 . obtain ⟨o',e1⟩:=I.base.there b o e hx
   exact there b o' (neC b o e hx) e1
 . obtain ⟨m1,e1⟩:=I.base.tbls b ps e
   obtain ⟨m2,e2⟩:=tbls b _ e1
   exact ⟨m1++m2,by rw [e2,Array.append_assoc]⟩
 . obtain ⟨m,hn,hl⟩:=I.loc
   refine ⟨m,ns m hn,fun i x v e1 e2 e3=>?_⟩
   obtain ⟨u,r,l⟩:=hl i x v e1 e2 e3
   refine ⟨u,r,?_⟩
   rcases l with l | ⟨k,c,e,z⟩
   . exact .inl l
   . exact .inr ⟨k,c,e,cellK x c e _ z⟩
 . obtain ⟨v,z⟩:=I.cell x c e
   exact ⟨v,cellK x c e v z⟩
 . obtain ⟨m,⟨o,_,_,ho,_⟩,_⟩:=I.loc
   exact free _ o (fun z=>(hch _ z).2.1 rfl) ho I.free
 . obtain ⟨v,o,ho,hd⟩:=I.cell x c e
   exact free c o (fun z=>(hch c z).2.2.1 x c e rfl) ho (I.freeC x c e)
 . obtain ⟨e,n,ne,nf,d⟩:=I.pin p hp
   have nch:p.1∉ch:=fun z=>(hch p.1 z).2.2.2 p hp rfl
   exact ⟨keep p.1 p.2 ne nf nch e n,free p.1 p.2 nch e n,ne,nf,d⟩
theorem Inv.un {t':Nat} (I:Inv X pins σ H s) (u:Un X.fs [] H H' s.heap h') (hok:ir X.prog X.w H' h'):Inv X pins σ H' { s with heap:=h',toks:=t' }:=by
 obtain ⟨m,⟨o,es,ep,ho,r⟩,_⟩:=id I.loc
 obtain ⟨sl,hL⟩:=u.any ho I.free (by simp)
 exact I.step (g':=s.gens) (d':=s.drawn) (ch:=[]) (fun _ z=>nomatch z) (fun b o _ hb _ e n=>u.keep b o e n hb (by simp)) (fun b o _ hb _ e n=>u.slot b o e n hb (by simp)) (fun b o _ e n=>u.free b o e n (by simp)) (fun b o _ e=>u.there b o e (by simp)) u.tups u.frzs u.tbls (fun m' hm=>by
  obtain ⟨o',es',ep',ho',r'⟩:=hm
  rw [ho] at ho'; cases ho'
  exact ⟨_,es',ep',hL,r'⟩) hok I.bare
theorem Inv.call {g':Array GenState} {t':Nat} {d':Drawn} {ch:List Addr} (I:Inv X pins σ H s) (u:Un (frs X.stack) ch H H' s.heap h') (hok:ir X.prog X.w H' h') (hg:AllBare g')
 (hch:∀ b∈ch,(b∈X.ex\/X.s₀.heap.objs.size<=b)/\b≠X.env.locals/\(∀ x c,X.env.cells.lookup x=some c->c≠b)/\∀ p∈X.pn++pins,p.1≠b):
 Inv X pins σ H' { s with heap:=h',gens:=g',drawn:=d',toks:=t' }:=by
 obtain ⟨m,⟨o,es,ep,ho,r⟩,_⟩:=id I.loc
 obtain ⟨sl,hL⟩:=u.any ho I.free fun z=>(hch _ z).2.1 rfl
 exact I.step (ch:=ch) hch (fun b o hL hb hc e n=>u.keep b o e n (fun z=>(aao.mp (I.stkSub b z)).elim hL hb) hc) (fun b o _ _ hc e n=>u.any e n hc) (fun b o hc e n=>u.free b o e n hc) (fun b o hc e=>u.there b o e hc) u.tups u.frzs u.tbls (fun m' hm=>by
  obtain ⟨o',es',ep',ho',r'⟩:=hm
  rw [ho] at ho'; cases ho'
  exact ⟨_,es',ep',hL,r'⟩) hok hg
theorem Inv.turned {t':Nat} {it:Addr} (I:Inv X pins σ H s) (k:∀ b o,b≠it->s.heap.get? b=some o->h'.get? b=some o) (hn:H it=none) (hL:it≠X.env.locals)
 (h1:it∈X.ex\/X.s₀.heap.objs.size<=it) (h2:∀ x c,X.env.cells.lookup x=some c->c≠it) (h3:∀ p∈X.pn++pins,p.1≠it):Inv X pins σ H { s with heap:=h',toks:=t' }:=by
 have nit:∀ b u,H b=some u->b≠it:=fun b u e z=>by rw [z,hn] at e; cases e
 refine I.step (g':=s.gens) (d':=s.drawn) (ch:=[it]) (fun b hb=>?_) (fun b o _ _ hc e _=>k b o (fun z=>hc (by simp [z])) e) (fun b o _ _ hc e _=>⟨o.slots,k b o (fun z=>hc (by simp [z])) e⟩) (fun _ _ _ _ n=>n)
  (fun b o hc e=>⟨o,k b o (fun z=>hc (by simp [z])) e⟩) (fun _ _ e=>e) (fun _ _ _ e=>e) (fun b ps e=>⟨#[],by rw [e]; simp⟩) (fun m hm=>?_) (fun b u e=>?_) I.bare
 . have e:b=it:=by simpa using hb
   subst e
   exact ⟨h1,hL,h2,h3⟩
 . obtain ⟨o,es,ep,ho,r⟩:=hm
   exact ⟨o,es,ep,k _ o (Ne.symm hL) ho,r⟩
 . refine (I.hok b u e).stay (fun c v hc q=>k c v ?_ q) (fun _ q=>q) fun _ _ q=>q
   rcases hc with z | z
   . rw [z]; exact nit b u e
   . exact nit c _ z
theorem Inv.tok (I:Inv X pins σ H s) (t:Nat):Inv X pins σ H { s with toks:=t }:=I.un (h':=s.heap) (t':=t) Un.refl I.hok
theorem Inv.kept {t':Nat} (I:Inv X pins σ H s) (k:∀ b u,s.heap.get? b=some u->h'.get? b=some u):Inv X pins σ H { s with heap:=h',toks:=t' }:=I.un (Un.kept k) (I.hok.kept k)
theorem Inv.laid {a:Addr} {o:HO} {t':Nat} (I:Inv X pins σ H s) (k:∀ b u,s.heap.get? b=some u->h'.get? b=some u) (hp:s.heap.objs.size<=a) (new:gb X.prog X.w (upd H a o) h' a o):
 Inv X pins σ (upd H a o) { s with heap:=h',toks:=t' }:=I.un (Un.laid k hp (I.hok.fresh hp)) (I.hok.laid k hp new)
theorem Inv.write {x e:Addr} {o:HO} {t':Nat} (I:Inv X pins σ H s) (mu:K4 (H x)) (he:e=x\/H e=some (.own x)) (k:∀ b u,b≠e->s.heap.get? b=some u->h'.get? b=some u) (heo:∃ u,h'.get? e=some u)
 (new:gb X.prog X.w (upd H x o) h' x o):Inv X pins σ (upd H x o) { s with heap:=h',toks:=t' }:=I.un (Un.write mu he k heo) (I.hok.write mu he k heo new)
theorem Inv.pins_of {pins':List (Addr×Obj)} (I:Inv X pins σ H s) (h:∀ p∈pins',s.heap.get? p.1=some p.2/\H p.1=none/\p.1≠X.env.locals/\p.1∉X.fs/\∀ v,p.2.data≠.cell v):Inv X pins' σ H s:=
 ⟨I.ok,I.os,I.bare,I.base,I.loc,I.cell,I.free,I.freeC,fun p hp=>(aaF.mp hp).elim (fun z=>I.pin p (aaT _ z)) (h p),I.hok,I.len⟩
theorem Es {N:List Str} (hN:N.Nodup) {i j:Nat} {x:Str} (a:N[i]?=some x) (b:N[j]?=some x):i=j:=by
 obtain ⟨h1,e1⟩:=aan.mp a
 obtain ⟨h2,e2⟩:=aan.mp b
 exact (List.getElem_inj hN).mp (e1.trans e2.symm)
theorem K7 {M:Model} {i:Nat} {x:Str} {v:V} {u:Value} {Q:Unit->Shared->Prop} (I:Inv X pins σ H s) (hN:X.N.Nodup) (hi:X.N[i]?=some x) (hx:Loc X.env.scope x) (r:RelV v u)
 (h:∀ s',Inv X pins (σ.set i (some v)) H s'->(∃ a,Heap.SameBut a s.heap s'.heap/\(a=X.env.locals\/X.env.cells.lookup x=some a))->Q () s') (hf:X.fn x=true\/X.env.scope.names.lookup x=some .local:=by first | exact .inl rfl | exact .inr rfl | assumption):wpAny M A (storeName X.env x u) Q E s:=by
 obtain ⟨m,hn,hl⟩:=id I.loc
 have hcls:(X.env.scope.kind==.class||(X.env.scope.kind==.module&&X.env.locals != X.env.globals))=false:=by rw [I.ok.kind]; rfl
 have hiσ:i<σ.length:=by rw [I.len]; exact (aan.mp hi).1
 have cne:=I.cne
 have tracked:∀ {a:Addr} {h':Heap},(∃ o,s.heap.get? a=some o/\H a=none)->Heap.SameBut a s.heap h'->ir X.prog X.w H h':=fun {a h'} ha hs b ob e=>by
  obtain ⟨_,_,hfree⟩:=ha
  refine (I.hok b ob e).stay (fun c w' hc q=>(hs.2 c ?_).trans q) (fun _ q=>q) fun _ _ q=>q
  rintro rfl
  rcases hc with rfl | hc
  . rw [hfree] at e; cases e
  . rw [hfree] at hc; cases hc
 rcases hx with hk | hk
 . refine wpAny_storeName_local hk hn (fun h' hn' hs=>?_) hcls
   obtain ⟨oL,_,_,hoL,_⟩:=id hn
   refine h _ ⟨I.ok,I.os,I.bare,⟨fun b o e n hb hx=>?_,fun b o e n hb hx=>?_,I.base.free,fun b o e hx=>?_,I.base.tups,I.base.frzs,I.base.tbls⟩,⟨_,hn',fun j y v' e1 e2 e3=>?_⟩,fun y c e=>?_,I.free,I.freeC,fun p hp=>?_,tracked ⟨oL,hoL,I.free⟩ hs,by simpa using I.len⟩ ⟨_,hs,.inl rfl⟩
   . exact (hs.2 b (aaG (aay (aaq e) I.ok.above))).trans (I.base.keep b o e n hb hx)
   . obtain ⟨sl,e1⟩:=I.base.slot b o e n hb hx
     exact ⟨sl,(hs.2 b (aaG (aay (aaq e) I.ok.above))).trans e1⟩
   . obtain ⟨o',e1⟩:=I.base.there b o e hx
     exact ⟨o',(hs.2 b (aaG (aay (aaq e) I.ok.above))).trans e1⟩
   . by_cases hj:j=i
     . subst hj
       rw [hi] at e1; cases e1
       rw [aax hiσ] at e2
       cases e2
       exact ⟨u,r,.inl ⟨hk,by simp⟩⟩
     . rw [aaw (Ne.symm hj)] at e2
       obtain ⟨u',r',q⟩:=hl j y v' e1 e2 e3
       refine ⟨u',r',?_⟩
       rcases q with ⟨k,e⟩ | ⟨k,c,e,z⟩
       . refine .inl ⟨k,?_⟩
         have:y≠x:=fun e=>hj (Es hN e1 (e▸hi))
         simp [this,e]
       . exact .inr ⟨k,c,e,z.sameBut hs (cne y c e)⟩
   . obtain ⟨w',z⟩:=I.cell y c e
     exact ⟨w',z.sameBut hs (cne y c e)⟩
   . obtain ⟨e,n,ne,nf,d⟩:=I.pin p hp
     exact ⟨(hs.2 p.1 ne).trans e,n,ne,nf,d⟩
 . have hfn:X.fn x=true:=by
    rcases hf with z | z
    . exact z
    . rw [z] at hk; cases hk
   obtain ⟨c,hc⟩:=I.ok.has x (.inl hk)
   obtain ⟨w',z⟩:=I.cell x c hc
   refine wpAny_storeName_cell I.ok.kind hk hc z (fun h' hc' hs=>?_)
   obtain ⟨oc,hoc,hocd⟩:=id z
   refine h { s with heap:=h' } ⟨I.ok,I.os,I.bare,⟨fun b o e n hb hx=>?_,fun b o e n hb hx=>?_,I.base.free,fun b o e hx=>?_,I.base.tups,I.base.frzs,I.base.tbls⟩,⟨m,hn.sameBut hs (Ne.symm (cne x c hc)),fun j y v' e1 e2 e3=>?_⟩,fun y c' e=>?_,I.free,I.freeC,fun p hp=>?_,tracked ⟨oc,hoc,I.freeC x c hc⟩ hs,by simpa using I.len⟩ ⟨c,hs,.inr hc⟩
   . exact (hs.2 b (aaG (aay (aaq e) (I.ok.cab x c hfn hc)))).trans (I.base.keep b o e n hb hx)
   . obtain ⟨sl,e1⟩:=I.base.slot b o e n hb hx
     exact ⟨sl,(hs.2 b (aaG (aay (aaq e) (I.ok.cab x c hfn hc)))).trans e1⟩
   . obtain ⟨o',e1⟩:=I.base.there b o e hx
     exact ⟨o',(hs.2 b (aaG (aay (aaq e) (I.ok.cab x c hfn hc)))).trans e1⟩
   . by_cases hj:j=i
     . subst hj
       rw [hi] at e1; cases e1
       rw [aax hiσ] at e2
       cases e2
       exact ⟨u,r,.inr ⟨.inl hk,c,hc,hc'⟩⟩
     . rw [aaw (Ne.symm hj)] at e2
       obtain ⟨u',r',q⟩:=hl j y v' e1 e2 e3
       refine ⟨u',r',?_⟩
       rcases q with q | ⟨k,c',e,z'⟩
       . exact .inl q
       . refine .inr ⟨k,c',e,z'.sameBut hs ?_⟩
         rintro rfl
         exact hj (Es hN e1 (I.ok.inj _ _ _ e hc▸hi))
   . by_cases hcc:c'=c
     . subst hcc; exact ⟨_,hc'⟩
     . obtain ⟨w2,z2⟩:=I.cell y c' e
       exact ⟨w2,z2.sameBut hs hcc⟩
   . obtain ⟨e,n,ne,nf,d⟩:=I.pin p hp
     refine ⟨(hs.2 p.1 ?_).trans e,n,ne,nf,d⟩
     intro q
     rw [q,hoc] at e
     have q':oc=p.2:=aaB e
     exact d w' (by rw [← q']; exact hocd)
theorem Et {M:Model} {i:Nat} {x:Str} {v:V} {u:Value} {Q:Unit->Shared->Prop} (I:Inv X pins σ H s) (hN:X.N.Nodup) (hi:X.N[i]?=some x) (hx:Loc X.env.scope x) (r:RelV v u)
 (h:∀ s',Inv X pins (σ.set i (some v)) H s'->Q () s') (hf:X.fn x=true\/X.env.scope.names.lookup x=some .local:=by first | exact .inl rfl | exact .inr rfl | assumption):wpAny M A (storeName X.env x u) Q E s:=
 K7 I hN hi hx r (fun s' I' _=>h s' I') hf
theorem Inv.call' {s':Shared} {ch:List Addr} (I:Inv X pins σ H s) (ho:s'.os=s.os) (u:Un (frs X.stack) ch H H' s.heap s'.heap) (hok:ir X.prog X.w H' s'.heap) (hg:AllBare s'.gens)
 (hch:∀ b∈ch,(b∈X.ex\/X.s₀.heap.objs.size<=b)/\b≠X.env.locals/\(∀ x c,X.env.cells.lookup x=some c->c≠b)/\∀ p∈X.pn++pins,p.1≠b):Inv X pins σ H' s':=by
 obtain ⟨h',g',d',t',o'⟩:=s'
 have e:o'=s.os:=ho
 subst e
 exact I.call (g':=g') (t':=t') (d':=d') u hok hg hch
end
abbrev XK:=Value->Option Addr->Hp->Prop
abbrev St:=List (Option V)
abbrev VK:=V->Hp->Prop
abbrev TE:=St->Hp->VK->Prop
abbrev TT:=St->Hp->(Bool->Hp->Prop)->Prop
abbrev TA:=St->Hp->(List V->Hp->Prop)->Prop
structure Ends where
 nx:St->Hp->Prop
 rt:VK
 bk:St->Hp->Prop:=fun _ _=>False
 ct:St->Hp->Prop:=fun _ _=>False
abbrev TS:=Ends->St->Hp->Prop
def EP (X:Cx) (pins:List (Addr×Obj)) (σ:St) (Q:VK) (u:Value) (s':Shared):Prop:=∃ v H',Inv X pins σ H' s'/\RelV v u/\Q v H'
def TP (X:Cx) (pins:List (Addr×Obj)) (σ:St) (Q:Bool->Hp->Prop) (b:Bool) (s':Shared):Prop:=∃ H',Inv X pins σ H' s'/\Q b H'
def AP (X:Cx) (pins:List (Addr×Obj)) (σ:St) (Q:List V->Hp->Prop) (us:List Value) (s':Shared):Prop:=∃ vs H',Inv X pins σ H' s'/\Vals vs us/\Q vs H'
def SP (X:Cx) (pins:List (Addr×Obj)) (D:Ends) (f:Flow) (s':Shared):Prop:=
 match f with
 | .next=>∃ σ' H',Inv X pins σ' H' s'/\D.nx σ' H'
 | .brk=>∃ σ' H',Inv X pins σ' H' s'/\D.bk σ' H'
 | .cont=>∃ σ' H',Inv X pins σ' H' s'/\D.ct σ' H'
 | .ret u=>∃ v σ' H',Inv X pins σ' H' s'/\RelV v u/\D.rt v H'
def PE (X:Cx) (e:Expr) (t:TE):Prop:=
 ∀ (pins:List (Addr×Obj)) (s:Shared) (σ:St) (H:Hp) (Q:VK),Inv X pins σ H s->t σ H Q->wpAny (model X.prog X.w) X.A (eval e X.env) (EP X pins σ Q) X.xe s
def PT (X:Cx) (e:Expr) (t:TT):Prop:=
 ∀ (pins:List (Addr×Obj)) (s:Shared) (σ:St) (H:Hp) (Q:Bool->Hp->Prop),Inv X pins σ H s->t σ H Q->wpAny (model X.prog X.w) X.A (isTrue e X.env (eval e X.env)) (TP X pins σ Q) X.xe s
def PW (X:Cx) (e:Expr) (t:TT):Prop:=
 ∀ (whole:Sem Value) (pins:List (Addr×Obj)) (s:Shared) (σ:St) (H:Hp) (Q:Bool->Hp->Prop),Inv X pins σ H s->t σ H Q->wpAny (model X.prog X.w) X.A (isTrue e X.env whole) (TP X pins σ Q) X.xe s
theorem PW.pt {X:Cx} {e:Expr} {t:TT} (h:PW X e t):PT X e t:=h _
def PA (X:Cx) (es:List Expr) (t:TA):Prop:=
 ∀ (pos:Pos) (pins:List (Addr×Obj)) (s:Shared) (σ:St) (H:Hp) (Q:List V->Hp->Prop),Inv X pins σ H s->t σ H Q->wpAny (model X.prog X.w) X.A (spliced (backTo pos (starEach es X.env))) (AP X pins σ Q) X.xe s
def PS (X:Cx) (st:Stmt) (t:TS):Prop:=
 ∀ (pins:List (Addr×Obj)) (s:Shared) (σ:St) (H:Hp) (D:Ends),Inv X pins σ H s->t D σ H->wpAny (model X.prog X.w) X.A (exec st X.env) (SP X pins D) X.xe s
def iu (X:Cx) (st:List Stmt) (t:TS):Prop:=
 ∀ (pins:List (Addr×Obj)) (s:Shared) (σ:St) (H:Hp) (D:Ends),Inv X pins σ H s->t D σ H->wpAny (model X.prog X.w) X.A (execs st X.env) (SP X pins D) X.xe s
theorem bG {α:Type} {t:Sem α} {Q Q':α->Shared->Prop} {M:Model} (h:wpAny M A t Q E s) (hQ:∀ a s,Q a s->Q' a s):wpAny M A t Q' E s:=wpAny_mono h hQ fun _ _ x=>x
section
variable {X:Cx}
theorem bin {a b:Expr} {ta tb:TE} (ha:PE X a ta) (hb:PE X b tb) {σ:St} {H:Hp} {R:V->V->Hp->Prop} (I:Inv X pins σ H s) (h:ta σ H fun x H1=>tb σ H1 fun y H2=>R x y H2)
 {α:Type} {Q:α->Shared->Prop} {f:Value->Value->Sem α}
 (hf:∀ v u s2 x y H2,Inv X pins σ H2 s2->RelV x v->RelV y u->R x y H2->wpAny (model X.prog X.w) X.A (f v u) Q X.xe s2):
 wpAny (model X.prog X.w) X.A (eval a X.env) (fun v s₁=>wpAny (model X.prog X.w) X.A (eval b X.env) (fun u s₂=>wpAny (model X.prog X.w) X.A (f v u) Q X.xe s₂) X.xe s₁) X.xe s:=by
 refine bG (ha pins s σ H _ I h) fun v s1 ⟨x,H1,I1,r1,q1⟩=>?_
 refine bG (hb pins s1 σ H1 _ I1 q1) fun u s2 ⟨y,H2,I2,r2,q2⟩=>?_
 exact hf v u s2 x y H2 I2 r1 r2 q2
def qT (i:Nat):TE:=fun σ H Q=>∃ v,σ[i]?=some (some v)/\Q v H
def tC (v:V):TE:=fun _ H Q=>Q v H
theorem Vp {i:Nat} {x:Str} {pos:Pos} (hN:X.N[i]?=some x) (hv:K6 X.env.scope x) (hd:(x==("__debug__" : Str))=false:=by decide) (hcd:(x==("__classdict__" : Str))=false:=by decide):PE X (.Name x pos) (qT i):=by
 intro pins s σ H Q I h
 obtain ⟨v,e,h⟩:=h
 obtain ⟨m,hn,hl⟩:=I.loc
 obtain ⟨u,r,l⟩:=hl i x v hN e hv
 have fin:EP X pins σ Q u s:=⟨v,H,I,r,h⟩
 rcases l with ⟨hk,hm⟩ | ⟨hk,c,hc,hcell⟩
 . exact wpAny_Name (wpAny_loadName_local I.ok.kind hk hn hm fin) hd
 . rcases hk with hk | hk
   . exact wpAny_Name (wpAny_loadName_cell I.ok.kind hk hc hcell fin) hd
   . exact wpAny_Name (wpAny_loadName_free I.ok.kind hk hc hcell fin hcd) hd
theorem Vq {i j pos}:PE X (.Constant (.int i) j pos) (tC (.int i)):=fun _ _ _ H _ I h=>wpAny_Constant_int ⟨.int i,H,I.tok _,⟨_,rfl⟩,h⟩
theorem uH {b j pos}:PE X (.Constant (.bool b) j pos) (tC (.bl b)):=fun _ _ _ H _ I h=>Constant_bool ⟨.bl b,H,I,rfl,h⟩
theorem Vr {j pos}:PE X (.Constant .none j pos) (tC .non):=fun _ _ _ H _ I h=>Constant_none ⟨.non,H,I,rfl,h⟩
theorem Vs {x j pos}:PE X (.Constant (.str x) j pos) (tC (.str x)):=fun _ _ _ H _ I h=>Calls.Constant_str ⟨.str x,H,I.tok _,⟨_,rfl⟩,h⟩
def Gl (X:Cx) (x:Str):Prop:=X.env.kindOf x=some .globalImplicit
theorem Az {σ:St} {H:Hp} {x:Str} {u:Value} {pos:Pos} {Q:Value->Shared->Prop} (I:Inv X pins σ H s) (hg:Gl X x) (hm:X.mg x=some u) (h:Q u s)
 (hd:(x==("__debug__" : Str))=false:=by decide):wpAny (model X.prog X.w) X.A (eval (.Name x pos) X.env) Q E s:=
 Calls.Name_function_global I.ok.kind hg (Calls.loadGlobal_global (by rw [I.ok.glob]; exact I.mod.glob.keeps I.bk) hm h) hd
theorem qU {σ:St} {H:Hp} {x:Str} {u:Value} {pos:Pos} {Q:Value->Shared->Prop} (I:Inv X pins σ H s) (hg:Gl X x) (hm:X.mg x=none) (hv:bootBuiltins x=some u) (h:Q u s)
 (hn:x ≠ "__name__" := by decide) (hd:(x==("__debug__" : Str))=false:=by decide):wpAny (model X.prog X.w) X.A (eval (.Name x pos) X.env) Q E s:=by
 obtain ⟨mb,h1,h2⟩:=I.mod.blt
 exact Calls.Name_function_global I.ok.kind hg (Calls.loadGlobal_builtin (by rw [I.ok.glob]; exact I.mod.glob.keeps I.bk) hm (by rw [I.ok.blt]; exact h1.keeps I.bk) ((h2 x hn).trans hv) h) hd
theorem SQ {x:Str} {v:V} {u:Value} {pos:Pos} (hg:Gl X x) (hm:X.mg x=some u) (r:RelV v u) (hd:(x==("__debug__" : Str))=false:=by decide):PE X (.Name x pos) (tC v):=
 fun _ _ _ H _ I h=>Az I hg hm ⟨v,H,I,r,h⟩ hd
theorem gf {x:Str} {v:V} {u:Value} {pos:Pos} (hg:Gl X x) (hm:X.mg x=none) (hv:bootBuiltins x=some u) (r:RelV v u) (hn:x ≠ "__name__" := by decide) (hd:(x==("__debug__" : Str))=false:=by decide):PE X (.Name x pos) (tC v):=
 fun _ _ _ H _ I h=>qU I hg hm hv ⟨v,H,I,r,h⟩ hn hd
variable {a b:Expr} {ta tb:TE} {pos:Pos}
variable {tA tB':TT} {rest:List Expr}
def Vt (t u:TT):TT:=fun σ H Q=>t σ H fun c H1=>if c=true then u σ H1 Q else Q false H1
def YZ (t u:TT):TT:=fun σ H Q=>t σ H fun c H1=>if c=true then Q true H1 else u σ H1 Q
def Zo (t:TT):TT:=fun σ H Q=>t σ H fun c H1=>Q (!c) H1
theorem SX (ha:PT X a tA):PW X (.BoolOp .And [a] pos) tA:=by
 intro wh pins s σ H Q I h
 refine isTrue_and (bG (ha pins s σ H Q I h) fun c s1 e=>?_)
 cases c with
 | true=>exact isTrue_and_nil e
 | false=>exact e
theorem Vu (ha:PT X a tA):PW X (.BoolOp .Or [a] pos) tA:=by
 intro wh pins s σ H Q I h
 refine isTrue_or (bG (ha pins s σ H Q I h) fun c s1 e=>?_)
 cases c with
 | false=>exact isTrue_or_nil e
 | true=>exact e
theorem Vv (ha:PT X a tA) (hb:PW X (.BoolOp .And (b::rest) pos) tB'):PW X (.BoolOp .And (a::b::rest) pos) (Vt tA tB'):=by
 intro wh pins s σ H Q I h
 refine isTrue_and (bG (ha pins s σ H _ I h) fun c s1 ⟨H1,I1,q1⟩=>?_)
 cases c with
 | true=>exact hb wh pins s1 σ H1 Q I1 q1
 | false=>exact ⟨H1,I1,q1⟩
theorem Yd (ha:PT X a tA) (hb:PW X (.BoolOp .Or (b::rest) pos) tB'):PW X (.BoolOp .Or (a::b::rest) pos) (YZ tA tB'):=by
 intro wh pins s σ H Q I h
 refine isTrue_or (bG (ha pins s σ H _ I h) fun c s1 ⟨H1,I1,q1⟩=>?_)
 cases c with
 | true=>exact ⟨H1,I1,q1⟩
 | false=>exact hb wh pins s1 σ H1 Q I1 q1
theorem Vw (ha:PT X a tA):PT X (.UnaryOp .Not a pos) (Zo tA):=by
 intro pins s σ H Q I h
 exact isTrue_not (ha pins s σ H (fun c H1=>Q (!c) H1) I h)
def Ye (ta tb:TE):TE:=fun σ H Q=>ta σ H fun x H1=>∃ c,x=.bl c/\if c=true then tb σ H1 Q else Q (.bl false) H1
def Yg (ta:TE):TE:=fun σ H Q=>ta σ H fun x H1=>∃ c,x=.bl c/\Q (.bl (!c)) H1
theorem Vx {op} {t:TE} (h:PE X a t):PE X (.BoolOp op [a] pos) t:=fun pins s σ H Q I hw=>BoolOp_one (h pins s σ H Q I hw)
theorem Vy (ha:PE X a ta) (hb:PE X (.BoolOp .And (b::rest) pos) tb):PE X (.BoolOp .And (a::b::rest) pos) (Ye ta tb):=by
 intro pins s σ H Q I h
 refine BoolOp_and (bG (ha pins s σ H _ I h) fun v s1 ⟨x,H1,I1,r1,q1⟩=>?_)
 obtain ⟨c,rfl,q1⟩:=q1
 cases r1
 refine wpAny_truthy_bool ?_
 cases c with
 | true=>exact hb pins s1 σ H1 Q I1 q1
 | false=>exact ⟨.bl false,H1,I1,rfl,q1⟩
theorem Vz (ha:PE X a ta):PE X (.UnaryOp .Not a pos) (Yg ta):=by
 intro pins s σ H Q I h
 refine UnaryOp_ (bG (ha pins s σ H _ I h) fun v s1 ⟨x,H1,I1,r1,q1⟩=>?_)
 obtain ⟨c,rfl,q1⟩:=q1
 cases r1
 exact not_of (wpAny_truthy_bool ⟨.bl (!c),H1,I1,rfl,q1⟩)
def Z6 (t:TT) (ta tb:TE):TE:=fun σ H Q=>t σ H fun c H1=>if c=true then ta σ H1 Q else tb σ H1 Q
theorem Ot {c:Expr} (hc:PT X c tA) (ha:PE X a ta) (hb:PE X b tb):PE X (.IfExp c a b pos) (Z6 tA ta tb):=by
 intro pins s σ H Q I h
 refine wpAny_IfExp (bG (hc pins s σ H _ I h) fun d s1 ⟨H1,I1,q1⟩=>?_)
 cases d with
 | true=>exact ha pins s1 σ H1 Q I1 q1
 | false=>exact hb pins s1 σ H1 Q I1 q1
end
def bI (K:FG) (H:Hp) (a:Addr) (xs:List V):Prop:=
 Rd H a (.lst xs)\/
  ∃ (o:Obj) (its:Array Value) (n:Nat),K.lookup a=some o/\o.cls=.type "list" /\ o.dict=none/\o.data=.seq its n/\its.size<=sizeLine/\Vals xs its.toList
def cI (K:FG) (H:Hp) (a:Addr) (xs:List V):Prop:=
 Rd H a (.tup xs)\/
  ∃ (o:Obj) (its:Array Value) (n:Nat),K.lookup a=some o/\o.cls=.type "tuple" /\ o.data=.seq its n/\its.size<=sizeLine/\Vals xs its.toList
def Zq:Value->Option V
 | .none=>some .non
 | .bool b=>some (.bl b)
 | .int i _=>some (.int i)
 | .str x _=>some (.str x)
 | .bytes b _=>some (.byt b)
 | .float b _=>some (.flt b)
 | .ref a=>some (.ref a)
 | .type n=>some (.ty n)
 | _=>none
theorem RelV.abs {x:V} {u:Value} (r:RelV x u):Zq u=some x:=by
 cases x with
 | non=>cases r; rfl
 | bl _=>cases r; rfl
 | int _=>obtain ⟨t,rfl⟩:=r; rfl
 | str _=>obtain ⟨t,rfl⟩:=r; rfl
 | byt _=>obtain ⟨t,rfl⟩:=r; rfl
 | flt _=>obtain ⟨t,rfl⟩:=r; rfl
 | ref _=>cases r; rfl
 | ty _=>cases r; rfl
theorem RelV.inj {x y:V} {u:Value} (r:RelV x u) (q:RelV y u):x=y:=aaB (r.abs.symm.trans q.abs)
theorem Vals.inj:∀ {xs ys:List V} {us:List Value},Vals xs us->Vals ys us->xs=ys
 | _,_,_,.nil,.nil=>rfl
 | _,_,_,.cons r t,.cons r' t'=>by rw [r.inj r',Vals.inj t t']
section
variable {X:Cx} {pins:List (Addr×Obj)} {σ:St} {H:Hp} {s:Shared} {a:Addr} {xs ys:List V}
theorem bI.of {K:FG} (h:H a=some (.lst xs)):bI K H a xs:=.inl (.inl h)
theorem cI.of {K:FG} (h:H a=some (.tup xs)):cI K H a xs:=.inl (.inl h)
theorem Inv.list (I:Inv X pins σ H s) (h:bI X.K H a xs):∃ its:List Value,Vals xs its/\PlainL s.heap a its.toArray/\xs.length<=sizeLine:=by
 rcases h with h | ⟨o,its,n,hk,hc,hd,hs,hz,r⟩
 . obtain ⟨z,its,n,r,e⟩:=h.ok I.hok
   exact ⟨its,r,⟨_,n,e,rfl,rfl,rfl⟩,z⟩
 . refine ⟨its.toList,r,⟨o,n,I.kIn a o hk,hc,hd,by simpa using hs⟩,?_⟩
   have e:=r.length
   simp only [abP] at e
   omega
theorem Inv.tuple (I:Inv X pins σ H s) (h:cI X.K H a xs):∃ its:List Value,Vals xs its/\IsTup s.heap a its.toArray/\xs.length<=sizeLine:=by
 rcases h with h | ⟨o,its,n,hk,hc,hs,hz,r⟩
 . obtain ⟨z,its,r,p⟩:=h.ok I.hok
   exact ⟨its,r,p,z⟩
 . refine ⟨its.toList,r,⟨o,I.kIn a o hk,hc,n,by simpa using hs⟩,?_⟩
   have e:=r.length
   simp only [abP] at e
   omega
theorem Inv.list_inj (I:Inv X pins σ H s) (h:bI X.K H a xs) (h':bI X.K H a ys):xs=ys:=by
 obtain ⟨its,r,⟨o,n,e,_,_,d⟩,_⟩:=I.list h
 obtain ⟨its',r',⟨o',n',e',_,_,d'⟩,_⟩:=I.list h'
 rw [e] at e'; cases e'
 rw [d] at d'
 injection d' with d1 _
 have:its=its':=by simpa using congrArg Array.toList d1
 subst this
 exact r.inj r'
theorem Inv.tuple_inj (I:Inv X pins σ H s) (h:cI X.K H a xs) (h':cI X.K H a ys):xs=ys:=by
 obtain ⟨its,r,⟨o,e,_,n,d⟩,_⟩:=I.tuple h
 obtain ⟨its',r',⟨o',e',_,n',d'⟩,_⟩:=I.tuple h'
 rw [e] at e'; cases e'
 rw [d] at d'
 injection d' with d1 _
 have:its=its':=by simpa using congrArg Array.toList d1
 subst this
 exact r.inj r'
end
abbrev Cx.wish (X:Cx) (E:Value->Shared->Prop):Cx:={ X with xe:=E }
abbrev Cx.nox (X:Cx):Cx:=X.wish fun _ _=>False
theorem Cx.Ok.wish {X:Cx} (ok:X.Ok) (E:Value->Shared->Prop):(X.wish E).Ok:=
 ⟨ok.mod,ok.kind,ok.glob,ok.blt,ok.above,ok.inj,ok.has,ok.cab,ok.hd,ok.frames,ok.stk,ok.exf,ok.bs,ok.bsz,ok.noex,ok.exfs,ok.funs,ok.frf⟩
theorem Cx.Ok.unwish {X:Cx} (ok:(X.wish E).Ok):X.Ok:=
 ⟨ok.mod,ok.kind,ok.glob,ok.blt,ok.above,ok.inj,ok.has,ok.cab,ok.hd,ok.frames,ok.stk,ok.exf,ok.bs,ok.bsz,ok.noex,ok.exfs,ok.funs,ok.frf⟩
section
variable {X:Cx} {pins:List (Addr×Obj)} {σ:St} {H:Hp} {s:Shared} {E:Value->Shared->Prop}
theorem Inv.wish (I:Inv X pins σ H s) (E:Value->Shared->Prop):Inv (X.wish E) pins σ H s:=⟨I.ok.wish E,I.os,I.bare,I.base,I.loc,I.cell,I.free,I.freeC,I.pin,I.hok,I.len⟩
theorem Inv.unwish (I:Inv (X.wish E) pins σ H s):Inv X pins σ H s:=⟨I.ok.unwish,I.os,I.bare,I.base,I.loc,I.cell,I.free,I.freeC,I.pin,I.hok,I.len⟩
theorem SP.unwish {D:Ends} {f:Flow} {s':Shared} (h:SP (X.wish E) pins D f s'):SP X pins D f s':=by
 cases f with
 | next=>obtain ⟨σ',H',I,q⟩:=h; exact ⟨σ',H',I.unwish,q⟩
 | brk=>obtain ⟨σ',H',I,q⟩:=h; exact ⟨σ',H',I.unwish,q⟩
 | cont=>obtain ⟨σ',H',I,q⟩:=h; exact ⟨σ',H',I.unwish,q⟩
 | ret u=>obtain ⟨v,σ',H',I,r,q⟩:=h; exact ⟨v,σ',H',I.unwish,r,q⟩
theorem iu.nox {st:List Stmt} {t:TS} (h:iu X.nox st t):iu X st t:=fun pins s σ H D I hw=>
 wpAny_mono (h pins s σ H D (I.wish _) hw) (fun _ _ q=>q.unwish) fun _ _ z=>False.elim z
end
section
variable {X:Cx} {st:Stmt} {rest:List Stmt} {t u:TS} {e:Expr} {te:TE} {pos:Pos}
def Yh:TS:=fun D σ H=>D.nx σ H
def Zr (t u:TS):TS:=fun D σ H=>t { D with nx:=u D } σ H
theorem S5:iu X [] Yh:=fun _ _ σ H _ I h=>wpAny_execs_nil ⟨σ,H,I,h⟩
theorem Ou (h1:PS X st t) (h2:iu X rest u):iu X (st::rest) (Zr t u):=by
 intro pins s σ H D I h
 refine wpAny_execs_cons (bG (h1 pins s σ H { D with nx:=u D } I h) fun f s1 q=>?_)
 cases f with
 | next=>
  obtain ⟨σ',H',I',q⟩:=q
  exact h2 pins s1 σ' H' D I' q
 | ret v=>exact q
 | brk=>exact q
 | cont=>exact q
theorem S6 (h1:PS X st t):iu X [st] t:=by
 intro pins s σ H D I h
 refine wpAny_execs_cons (bG (h1 pins s σ H D I h) fun f s1 q=>?_)
 cases f with
 | next=>exact wpAny_execs_nil q
 | ret v=>exact q
 | brk=>exact q
 | cont=>exact q
theorem Inv.quiet {σ:St} {H:Hp} (I:Inv X pins σ H s):interactive X.env=false:=by simp [interactive,I.ok.kind]
def uI (te:TE):TS:=fun D σ H=>te σ H fun _ H1=>D.nx σ H1
theorem ie (he:PE X e te) (hs:swapsWith e none pos.line X.env=pure false:=by rfl):PS X (.Expr e pos) (uI te):=by
 intro pins s σ H D I h
 exact wpAny_Expr_any (bG (he pins s σ H _ I h) fun v s1 ⟨x,H1,I1,r1,q1⟩=>⟨σ,H1,I1,q1⟩) I.quiet hs
def Zu (te:TE):TS:=fun D σ H=>te σ H D.rt
theorem K8 (he:PE X e te):PS X (.Return (some e) pos) (Zu te):=by
 intro pins s σ H D I h
 exact wpAny_Return_some (bG (he pins s σ H _ I h) fun v s1 ⟨x,H1,I1,r1,q1⟩=>⟨x,σ,H1,I1,r1,q1⟩)
def Yi:TS:=fun D _ H=>D.rt .non H
theorem S7:PS X (.Return none pos) Yi:=fun _ _ σ H _ I h=>wpAny_Return_none ⟨.non,σ,H,I,rfl,h⟩
def Zv (c:TT) (t u:TS):TS:=fun D σ H=>c σ H fun b H1=>if b=true then t D σ H1 else u D σ H1
theorem Yj {c:Expr} {a b:List Stmt} {tc:TT} (hc:PT X c tc) (ha:iu X a t) (hb:iu X b u):PS X (.If c a b pos) (Zv tc t u):=by
 intro pins s σ H D I h
 refine wpAny_If (bG (hc pins s σ H _ I h) fun d s1 ⟨H1,I1,q1⟩=>?_)
 cases d with
 | true=>exact ha pins s1 σ H1 D I1 q1
 | false=>exact hb pins s1 σ H1 D I1 q1
end
abbrev TG:=V->St->Hp->(St->Hp->Prop)->Prop
abbrev vI:=List V->St->Hp->(St->Hp->Prop)->Prop
def PG (X:Cx) (target:Expr) (t:TG):Prop:=
 ∀ (pins:List (Addr×Obj)) (s:Shared) (σ:St) (H:Hp) (v:V) (u:Value) (Q:St->Hp->Prop),Inv X pins σ H s->RelV v u->t v σ H Q->
  wpAny (model X.prog X.w) X.A (assign target X.env u) (fun _ s'=>∃ σ' H',Inv X pins σ' H' s'/\Q σ' H') X.xe s
def K9 (X:Cx) (ts:List Expr) (t:vI):Prop:=
 ∀ (pins:List (Addr×Obj)) (s:Shared) (σ:St) (H:Hp) (vs:List V) (us:List Value) (Q:St->Hp->Prop),Inv X pins σ H s->Vals vs us->t vs σ H Q->
  wpAny (model X.prog X.w) X.A (assignInOrder ((assignEach ts X.env).map (·.2)) us) (fun _ s'=>∃ σ' H',Inv X pins σ' H' s'/\Q σ' H') X.xe s
abbrev Ov:=V->V->V->Hp->(Hp->Prop)->Prop
def VB (X:Cx) (t:Ov):Prop:=
 ∀ (pins:List (Addr×Obj)) (s:Shared) (σ:St) (H:Hp) (o i v:V) (ov iv u:Value) (Q:Hp->Prop),Inv X pins σ H s->RelV o ov->RelV i iv->RelV v u->t o i v H Q->
  wpAny (model X.prog X.w) X.A (setItem ov iv u) (fun _ s'=>∃ H',Inv X pins σ H' s'/\Q H') X.xe s
section
variable {X:Cx} {pos:Pos}
def Ed (i:Nat):TG:=fun v σ H Q=>Q (σ.set i (some v)) H
theorem w6 {i:Nat} {x:Str} (hN:X.N.Nodup) (hi:X.N[i]?=some x) (hx:Loc X.env.scope x) (hf:X.fn x=true\/X.env.scope.names.lookup x=some .local:=by first | exact .inl rfl | exact .inr rfl | assumption):PG X (.Name x pos) (Ed i):=by
 intro pins s σ H v u Q I r h
 exact wpAny_assign_Name (Et I hN hi hx r (fun s' I'=>⟨_,H,I',h⟩) hf)
def VD:vI:=fun vs σ H Q=>vs=[]/\Q σ H
def Rj (t:TG) (u:vI):vI:=fun vs σ H Q=>∃ v r,vs=v::r/\t v σ H fun σ' H'=>u r σ' H' Q
theorem ig:K9 X [] VD:=by
 intro pins s σ H vs us Q I r h
 obtain ⟨e,h⟩:=h
 subst e
 cases r
 exact assignInOrder_nil ⟨σ,H,I,h⟩
theorem bz {e:Expr} {es:List Expr} {t:TG} {u:vI} (h1:PG X e t) (h2:K9 X es u)
 (hs:(assignEach (e::es) X.env).map (·.2)=assign e X.env::(assignEach es X.env).map (·.2):=by rfl):K9 X (e::es) (Rj t u):=by
 intro pins s σ H vs us Q I r h
 obtain ⟨v,vr,e1,h⟩:=h
 subst e1
 cases r with
 | cons r rr=>
  rw [hs]
  refine assignInOrder_cons (bG (h1 pins s σ H _ _ _ I r h) fun _ s1 ⟨σ1,H1,I1,q1⟩=>?_)
  exact h2 pins s1 σ1 H1 _ _ Q I1 rr q1
def Zw (K:FG) (n:Nat) (t:vI):TG:=fun v σ H Q=>∃ a xs,v=.ref a/\cI K H a xs/\xs.length=n/\t xs σ H Q
theorem VF {es:List Expr} {k:Nat} {t:vI} {n:Nat} (hc:X.calm=true) (h:K9 X es t)
 (hn:(assignEach es X.env).length=n:=by rfl) (hst:(assignEach es X.env).findIdx? (·.1)=none:=by rfl):PG X (.Tuple es k pos) (Zw X.K n t):=by
 intro pins s σ H v u Q I r hw
 obtain ⟨a,xs,e1,hq,hl,hw⟩:=hw
 subst e1
 cases r
 obtain ⟨its,rv,ht,hz⟩:=I.tuple hq
 refine assign_Tuple_tuple (I.ok.hd hc) ht (by simp [hn,← hl,rv.length]) hst fun h' hx=>?_
 have I1:Inv X pins σ H { s with heap:=h' }:=I.kept (t':=s.toks) fun b o e=>hx b o (aaG (aaq e)) e
 exact h pins _ σ H xs _ Q I1 (by simpa using rv) hw
def Ow (to ti:TE) (t:Ov):TG:=fun v σ H Q=>to σ H fun o H1=>ti σ H1 fun i H2=>t o i v H2 fun H3=>Q σ H3
theorem pD {o i:Expr} {to ti:TE} {t:Ov} (ho:PE X o to) (hi:PE X i ti) (hs:VB X t)
 (ha:∀ v,assign (.Subscript o i pos) X.env v=(do
   let ov ← holding [v] (eval o X.env)
   let iv ← holding [v,ov] (eval i X.env)
   standAt pos
   holding [v,ov,iv] (setItem ov iv v)
   release [v,ov,iv] []):=by intro _; rfl):PG X (.Subscript o i pos) (Ow to ti t):=by
 intro pins s σ H v u Q I r h
 rw [ha]
 refine ab6 (wpAny_holding (bG (ho pins s σ H _ I h) fun ov s1 ⟨x,H1,I1,r1,q1⟩=>?_))
 refine ab6 (wpAny_holding (bG (hi pins s1 σ H1 _ I1 q1) fun iv s2 ⟨y,H2,I2,r2,q2⟩=>?_))
 refine ab6 (wpAny_standAt (ab6 (wpAny_holding (bG (hs pins s2 σ H2 x y v ov iv u _ I2 r1 r2 r q2) fun _ s3 ⟨H3,I3,q3⟩=>?_))))
 exact wpAny_release ⟨σ,H3,I3,q3⟩
def JC (te:TE) (g:TG):TS:=fun D σ H=>te σ H fun x H1=>g x σ H1 D.nx
theorem pG {tg e:Expr} {te:TE} {g:TG} (he:PE X e te) (hg:PG X tg g) (hs:swapsWithSole [tg] e pos.line X.env=pure false:=by rfl) (hw:swappedStores [tg] e X.env=pure none:=by rfl)
 (h1:(assignEach [tg] X.env).map (·.2)=[assign tg X.env]:=by rfl):PS X (.Assign [tg] e pos) (JC te g):=by
 intro pins s σ H D I h
 refine wpAny_Assign_stores (bG (he pins s σ H _ I h) fun v s1 ⟨x,H1,I1,r1,q1⟩=>?_) hs hw
 rw [h1]
 exact bG (hg pins s1 σ H1 x v _ I1 r1 q1) fun _ s2 q=>q
theorem VG {i:Nat} {x:Str} {e:Expr} {te:TE} {pos':Pos} (hN:X.N.Nodup) (hi:X.N[i]?=some x) (hx:Loc X.env.scope x) (he:PE X e te) (hs:swapsWith e (some (.Name x pos')) pos.line X.env=pure false:=by rfl) (hf:X.fn x=true\/X.env.scope.names.lookup x=some .local:=by first | exact .inl rfl | exact .inr rfl | assumption):
 PS X (.Assign [.Name x pos'] e pos) (JC te (Ed i)):=by
 intro pins s σ H D I h
 refine wpAny_Assign_Name (bG (he pins s σ H _ I h) fun v s1 ⟨y,H1,I1,r1,q1⟩=>?_) hs
 exact Et I1 hN hi hx r1 (fun s2 I2=>⟨_,H1,I2,q1⟩) hf
def VH (c:TT) (tb:TS):TS:=fun D σ H=>∃ W:Nat->St->Hp->Prop,(∃ m,W m σ H)/\∀ m σ H,W m σ H->
 c σ H fun b H1=>if b=true then ∃ N:St->Hp->Prop,(∀ σ' H',N σ' H'->∃ m',m'<m/\W m' σ' H')/\tb { D with nx:=N,ct:=N,bk:=D.nx } σ H1 else D.nx σ H1
theorem Ox {c:Expr} {body:List Stmt} {tc:TT} {tb:TS} (hp:PassesOwn (model X.prog X.w) X.A X.env X.xe) (hc:PT X c tc) (hb:iu X body tb):PS X (.While c body [] pos) (VH tc tb):=by
 intro pins s σ H D I h
 obtain ⟨W,⟨m0,w0⟩,turn⟩:=h
 refine wpAny_While (codeAny_whileLoop (fun n s'=>∃ σ' H',Inv X pins σ' H' s'/\W n σ' H') ?_ m0 ⟨σ,H,I,w0⟩)
 rintro n s1 ⟨σ1,H1,I1,w1⟩
 refine wpAny_passesOwn hp (bG (hc pins s1 σ1 H1 _ I1 (turn n σ1 H1 w1)) fun b s2 ⟨H2,I2,q2⟩=>?_)
 cases b with
 | true=>
  obtain ⟨N,hN,q2⟩:=q2
  rw [ab7 rfl]
  refine wpAny_passesOwn hp (bG (hb pins s2 σ1 H2 _ I2 q2) fun f s3 q3=>?_)
  cases f with
  | next=>
   obtain ⟨σ3,H3,I3,n3⟩:=q3
   obtain ⟨m',hm,w3⟩:=hN σ3 H3 n3
   exact ⟨m',hm,σ3,H3,I3,w3⟩
  | cont=>
   obtain ⟨σ3,H3,I3,n3⟩:=q3
   obtain ⟨m',hm,w3⟩:=hN σ3 H3 n3
   exact ⟨m',hm,σ3,H3,I3,w3⟩
  | brk=>exact q3
  | ret v=>exact q3
 | false=>
  rw [ab8 aaA]
  exact wpAny_execs_nil ⟨σ1,H2,I2,q2⟩
end
structure It where
 go:Nat->Hp->Prop
 yld:Nat->Hp->V->Hp->Prop
 stop:Nat->Hp->Prop
def mC (X:Cx) (pins:List (Addr×Obj)) (H:Hp) (b:Addr):Prop:=
 H b=none/\b≠X.env.locals/\b∉X.fs/\(b∈X.ex\/X.s₀.heap.objs.size<=b)/\(∀ x c,X.env.cells.lookup x=some c->c≠b)/\∀ p∈X.pn++pins,p.1≠b
theorem Inv.fpOk {X:Cx} {σ:St} {H H':Hp} {b:Addr} (I:Inv X pins σ H s) (hb:s.heap.objs.size<=b) (hn:H' b=none):mC X pins H' b:=by
 refine ⟨hn,aa0 (aay I.lt hb),I.nofs hb,.inr (aaL I.sz hb),fun x c e z=>?_,fun p hp z=>?_⟩
 . obtain ⟨v,q⟩:=I.cell x c e
   exact absurd (aay q.lt (by rw [z]; exact hb)) (aba _)
 . exact absurd (aay (aaq (I.pin p hp).1) (by rw [z]; exact hb)) (aba _)
structure Turn (P:Program) (w:World) (K:FG) (tg:Expr) (J:It) (fp:List Addr) (it:Addr) (tn:Nat->Heap->Prop):Prop where
 mem:it∈fp
 obj:∀ i h,tn i h->∀ b∈fp,∃ o,h.get? b=some o/\∀ v,o.data≠.cell v
 keep:∀ i h h',tn i h->(∀ b∈fp,∀ o,h.get? b=some o->h'.get? b=some o)->tn i h'
 item:∀ (X:Cx),X.prog=P->X.w=w->X.K=K->X.calm=true->∀ (i:Nat) (pins:List (Addr×Obj)) (s:Shared) (σ:St) (H:Hp) (E:Value->Shared->Prop),Inv X pins σ H s->(∀ b∈fp,mC X pins H b)->tn i s.heap->J.go i H->
  wpAny (model P w) X.A (pyNext (.ref it)) (fun r s1=>∃ u,r=some u/\
   wpAny (model P w) X.A (letOwnedTupleGo tg (.ref it) u) (fun _ s2=>∃ x H',Inv X pins σ H' s2/\RelV x u/\J.yld i H x H'/\tn (i+1) s2.heap/\∀ b∈fp,H' b=none) E s1) E s
 done:∀ (X:Cx),X.prog=P->X.w=w->X.K=K->X.calm=true->∀ (i:Nat) (pins:List (Addr×Obj)) (s:Shared) (σ:St) (H:Hp) (E:Value->Shared->Prop),Inv X pins σ H s->(∀ b∈fp,mC X pins H b)->tn i s.heap->J.stop i H->
  wpAny (model P w) X.A (pyNext (.ref it)) (fun r s1=>r=none/\Inv X pins σ H s1) E s
 self:∀ (A:Around) (i:Nat) (s:Shared) (Q:Value->Shared->Prop) (E:Value->Shared->Prop),tn i s.heap->Q (.ref it) s->wpAny (model P w) A (pyIter (.ref it)) Q E s
abbrev TI:=St->Hp->(It->Hp->Prop)->Prop
def PIE (X:Cx) (pins:List (Addr×Obj)) (σ:St) (tg:Expr) (R:It->Hp->Prop) (itv:Value) (s2:Shared):Prop:=
 ∃ (it:Addr) (fp:List Addr) (tn:Nat->Heap->Prop) (J:It) (H':Hp),itv=.ref it/\Inv X pins σ H' s2/\Turn X.prog X.w X.K tg J fp it tn/\tn 0 s2.heap/\(∀ b∈fp,mC X pins H' b)/\R J H'
def PI (X:Cx) (tg iter:Expr) (wi:TI):Prop:=
 ∀ (pins:List (Addr×Obj)) (s:Shared) (σ:St) (H:Hp) (R:It->Hp->Prop),Inv X pins σ H s->wi σ H R->
  wpAny (model X.prog X.w) X.A (eval iter X.env) (fun v s1=>wpAny (model X.prog X.w) X.A (pyIter v) (PIE X pins σ tg R) X.xe s1) X.xe s
theorem Ef {M:Model} {tg:Expr} {it:Addr} {u:Value} {o:Obj} {n:String} {vs:Array Value} {Q:Unit->Shared->Prop} (ho:s.heap.get? it=some o) (hc:o.cls=.type n) (hd:o.data=.fields vs)
 (hn:["enumerate", "zip", "dict_itemiterator", "dict_reverseitemiterator", "odict_iterator", "itertools.zip_longest", "itertools.pairwise"].contains n=false) (hQ:Q () s):wpAny M A (letOwnedTupleGo tg (.ref it) u) Q E s:=by
 unfold letOwnedTupleGo
 cases tg<;>first
  | exact ab9 hQ
  | (cases u<;>first
      | exact ab9 hQ
      | (refine ab6 (wpAny_load ho ?_)
         rw [hc,hd]
         show wpAny M A (if (["enumerate", "zip", "dict_itemiterator", "dict_reverseitemiterator", "odict_iterator", "itertools.zip_longest", "itertools.pairwise"].contains n&&vs[0]?==some (rawInt _))=true then _ else _) Q E s
         rw [ab8 (by intro h; rw [hn,Bool.false_and] at h; cases h)]
         exact ab9 hQ))
def HN (K:FG) (a:Addr):It:=
 ⟨fun i H=>∃ xs x,bI K H a xs/\xs[i]?=some x,fun i H x H'=>H'=H/\∀ xs,bI K H a xs->xs[i]?=some x,fun i H=>∃ xs,bI K H a xs/\xs.length<=i⟩
def Rk (K:FG) (a:Addr):It:=
 ⟨fun i H=>∃ xs x,cI K H a xs/\xs[i]?=some x,fun i H x H'=>H'=H/\∀ xs,cI K H a xs->xs[i]?=some x,fun i H=>∃ xs,cI K H a xs/\xs.length<=i⟩
def Rm (lo:Int) (n:Nat):It:=⟨fun i _=>i<n,fun i H x H'=>H'=H/\x=.int (lo+i),fun i _=>n<=i⟩
theorem Cy {K:FG} {tg:Expr} (a it:Addr):Turn P w K tg (HN K a) [it] it (fun i h=>h.IsListIter it a i) where
 mem:=by simp
 obj:=fun i h st b hb=>by
  have e:b=it:=by simpa using hb
  subst e
  obtain ⟨o,e,c,d⟩:=st
  exact ⟨o,e,fun v z=>by rw [d] at z; cases z⟩
 keep:=fun i h h' st k=>st.at fun o e=>k it (by simp) o e
 item:=by
  intro X hP hw hK hc i pins s σ H E I hf st hg
  subst hP hw hK
  obtain ⟨xs,x,hq,hx⟩:=hg
  obtain ⟨its,rv,p,hz⟩:=I.list hq
  obtain ⟨u,hu,ru⟩:=rv.get hx
  obtain ⟨f0,f1,f2,f3,f4,f5⟩:=hf it (by simp)
  refine wpAny_pyNext_list_item st p.isList (x:=u) (by simpa using hu) fun h' st' sb=>?_
  have I1:Inv X pins σ H { s with heap:=h' }:=I.turned (t':=s.toks) (fun b o hb e=>(sb.2 b hb).trans e) f0 f1 f3 f4 f5
  obtain ⟨o,e,c,d⟩:=id st'
  exact ⟨u,rfl,Ef (s:={ s with heap:=h' }) e c d (by decide) ⟨x,H,I1,ru,⟨rfl,fun ys hy=>by rw [I.list_inj hy hq]; exact hx⟩,st',fun b hb=>(hf b hb).1⟩⟩
 done:=by
  intro X hP hw hK hc i pins s σ H E I hf st hg
  subst hP hw hK
  obtain ⟨xs,hq,hx⟩:=hg
  obtain ⟨its,rv,p,hz⟩:=I.list hq
  obtain ⟨f0,f1,f2,f3,f4,f5⟩:=hf it (by simp)
  have hl:=rv.length
  exact wpAny_pyNext_list_end (I.ok.hd hc) st p.isList (by simp; omega) fun h' eb=>⟨rfl,I.turned (t':=s.toks) (fun b o hb e=>eb b o hb e) f0 f1 f3 f4 f5⟩
 self:=fun _ _ _ _ _ st h=>wpAny_pyIter_listiter st h
theorem JD {K:FG} {tg:Expr} (a it:Addr):Turn P w K tg (Rk K a) [it] it (fun i h=>h.IsTupleIter it a i) where
 mem:=by simp
 obj:=fun i h st b hb=>by
  have e:b=it:=by simpa using hb
  subst e
  obtain ⟨o,e,c,d⟩:=st
  exact ⟨o,e,fun v z=>by rw [d] at z; cases z⟩
 keep:=fun i h h' st k=>st.at fun o e=>k it (by simp) o e
 item:=by
  intro X hP hw hK hc i pins s σ H E I hf st hg
  subst hP hw hK
  obtain ⟨xs,x,hq,hx⟩:=hg
  obtain ⟨its,rv,p,hz⟩:=I.tuple hq
  obtain ⟨u,hu,ru⟩:=rv.get hx
  obtain ⟨f0,f1,f2,f3,f4,f5⟩:=hf it (by simp)
  refine wpAny_pyNext_tuple_item st (show s.heap.IsTuple a its.toArray from p) (x:=u) (by simpa using hu) fun h' st' sb=>?_
  have I1:Inv X pins σ H { s with heap:=h' }:=I.turned (t':=s.toks) (fun b o hb e=>(sb.2 b hb).trans e) f0 f1 f3 f4 f5
  obtain ⟨o,e,c,d⟩:=id st'
  exact ⟨u,rfl,Ef (s:={ s with heap:=h' }) e c d (by decide) ⟨x,H,I1,ru,⟨rfl,fun ys hy=>by rw [I.tuple_inj hy hq]; exact hx⟩,st',fun b hb=>(hf b hb).1⟩⟩
 done:=by
  intro X hP hw hK hc i pins s σ H E I hf st hg
  subst hP hw hK
  obtain ⟨xs,hq,hx⟩:=hg
  obtain ⟨its,rv,p,hz⟩:=I.tuple hq
  obtain ⟨f0,f1,f2,f3,f4,f5⟩:=hf it (by simp)
  have hl:=rv.length
  exact wpAny_pyNext_tuple_end (I.ok.hd hc) st (show s.heap.IsTuple a its.toArray from p) (by simp; omega) fun h' eb=>⟨rfl,I.turned (t':=s.toks) (fun b o hb e=>eb b o hb e) f0 f1 f3 f4 f5⟩
 self:=fun _ _ _ _ _ st h=>wpAny_pyIter_tupleiter st h
theorem JF {K:FG} {tg:Expr} (it:Addr) (lo:Int) (n:Nat):Turn P w K tg (Rm lo n) [it] it (fun i h=>IsRangeIter h it (lo+(i:Nat)*1) ((n:Int)-(i:Nat)) 1) where
 mem:=by simp
 obj:=fun i h st b hb=>by
  have e:b=it:=by simpa using hb
  subst e
  exact ⟨_,st,fun v z=>by
   have z':Data.fields _=Data.cell v:=z
   cases z'⟩
 keep:=fun i h h' st k=>k it (by simp) _ st
 item:=by
  intro X hP hw hK hc i pins s σ H E I hf st hg
  subst hP hw hK
  obtain ⟨f0,f1,f2,f3,f4,f5⟩:=hf it (by simp)
  have W:=Walks.range (prog:=X.prog) (w:=X.w) (I.ok.hd hc) it lo 1 n
  refine W.item i s _ _ hg st fun v h' tk hv st' kk=>?_
  obtain ⟨t,rfl⟩:=hv
  have I1:Inv X pins σ H { s with heap:=h',toks:=tk }:=I.turned (fun b o hb e=>kk b o (by simpa using hb) e) f0 f1 f3 f4 f5
  refine ⟨_,rfl,Ef (s:={ s with heap:=h',toks:=tk }) (n := "range_iterator") st' rfl rfl (by decide) ⟨.int (lo+i),H,I1,⟨t,?_⟩,⟨rfl,rfl⟩,st',fun b hb=>(hf b hb).1⟩⟩
  rw [Int.mul_one]
 done:=by
  intro X hP hw hK hc i pins s σ H E I hf st hg
  subst hP hw hK
  obtain ⟨f0,f1,f2,f3,f4,f5⟩:=hf it (by simp)
  exact wpAny_pyNext_range_end (I.ok.hd hc) st (by have:n<=i:=hg; omega) fun h' eb=>⟨rfl,I.turned (t':=s.toks) (fun b o hb e=>eb b o hb e) f0 f1 f3 f4 f5⟩
 self:=fun _ _ _ _ _ st h=>wpAny_pyIter_rangeiter st h
section
variable {X:Cx} {tg:Expr}
def Yk (K:FG) (tl:TE):TI:=fun σ H R=>tl σ H fun x H1=>∃ a,x=.ref a/\(∃ xs,bI K H1 a xs)/\R (HN K a) H1
theorem S8 {l:Expr} {tl:TE} (hl:PE X l tl):PI X tg l (Yk X.K tl):=by
 intro pins s σ H R I h
 refine bG (hl pins s σ H _ I h) fun v s1 ⟨x,H1,I1,r1,q1⟩=>?_
 obtain ⟨a,e,⟨xs,hq⟩,q⟩:=q1
 subst e
 cases r1
 obtain ⟨its,rv,p,hz⟩:=I1.list hq
 refine wpAny_pyIter_list p.isList ?_
 refine ⟨s1.heap.objs.size,[s1.heap.objs.size],_,_,H1,rfl,I1.kept (t':=s1.toks) fun b o e=>aac _ e,Cy a _,⟨_,aau _ rfl,rfl,rfl⟩,fun b hb=>?_,q⟩
 have e:b=s1.heap.objs.size:=by simpa using hb
 subst e
 exact I1.fpOk (aaf _) (I1.hok.fresh (aaf _))
theorem Oz {σ:St} {H:Hp} {R:It->Hp->Prop} {lo hi:Int} {t u v:Tok} {tk:Nat} (I:Inv X pins σ H s) (h1:-(2 ^ 62)<=lo) (h2:lo<2 ^ 62) (h3:-(2 ^ 62)<=hi) (h4:hi<2 ^ 62)
 (q:R (Rm lo (hi-lo).toNat) H):wpAny (model X.prog X.w) X.A (pyIter (.ref s.heap.objs.size)) (PIE X pins σ tg R) E { s with heap:=s.heap.push { cls:=.type "range",data:=.fields #[.int lo t,.int hi u,.int 1 v] },toks:=tk }:=by
 refine wpAny_pyIter_range (IsRange.new ..) (small_one h1 h2 h3 h4) ?_
 have I1:Inv X pins σ H { s with heap:=s.heap.push { cls:=.type "range",data:=.fields #[.int lo t,.int hi u,.int 1 v] },toks:=tk }:=I.kept fun b o e=>aac _ e
 refine ⟨(s.heap.push { cls:=.type "range",data:=.fields #[.int lo t,.int hi u,.int 1 v] }).objs.size,[(s.heap.push { cls:=.type "range",data:=.fields #[.int lo t,.int hi u,.int 1 v] }).objs.size],_,_,H,rfl,
  I1.kept (t':=tk) fun b o e=>aac _ e,JF _ lo (hi-lo).toNat,?_,fun b hb=>?_,q⟩
 . have e1:lo+((0:Nat):Int)*1=lo:=by simp
   have e2:(((hi-lo).toNat:Nat):Int)-((0:Nat):Int)=Builtin.Range.rangeSize lo hi 1:=by rw [rangeSize_one]; split<;>omega
   show IsRangeIter _ _ (lo+((0:Nat):Int)*1) ((((hi-lo).toNat:Nat):Int)-((0:Nat):Int)) 1
   rw [e1,e2]
   exact aau _ rfl
 . have e:b=(s.heap.push { cls:=.type "range",data:=.fields #[.int lo t,.int hi u,.int 1 v] }).objs.size:=by simpa using hb
   subst e
   exact I1.fpOk (aaf _) (I1.hok.fresh (aaf _))
def Yl (ta:TA):TI:=fun σ H R=>ta σ H fun vs H1=>∃ j:Int,vs=[.int j]/\-(2 ^ 62)<=j/\j<2 ^ 62/\R (Rm 0 j.toNat) H1
theorem La {a:Expr} {ta:TA} {p pos:Pos} (hg:Gl X "range") (hm:X.mg "range" = none) (ha:PA X [a] ta) (hs:starEach [a] X.env=[(false,eval a X.env)]:=by rfl):PI X tg (.Call (.Name "range" p) [a] [] pos) (Yl ta):=by
 intro pins s σ H R I h
 refine Call_ (qU I hg hm boot_range (PyProof.Rows.callWith_type1 (bG (ha pos pins s σ H _ I h) fun us s1 ⟨vs,H1,I1,r1,q1⟩=>?_) hs rfl))
 obtain ⟨j,e,q1,q2,q⟩:=q1
 subst e
 cases r1 with
 | cons r rr=>
  cases rr
  obtain ⟨t,rfl⟩:=r
  exact call_range_1 (Oz I1 (by omega) (by omega) q1 q2 (by simpa using q))
def Zx (wi:TI) (g:TG) (tb:TS):TS:=fun D σ H=>wi σ H fun J H1=>∃ W:Nat->Nat->St->Hp->Prop,(∃ m,W 0 m σ H1)/\∀ i m σ H,W i m σ H->
 (J.stop i H/\D.nx σ H)\/(J.go i H/\∃ N:St->Hp->Prop,(∀ σ' H',N σ' H'->∃ m',m'<m/\W (i+1) m' σ' H')/\∀ x H',J.yld i H x H'->g x σ H' fun σ2 H2=>tb { D with nx:=N,ct:=N,bk:=D.nx } σ2 H2)
def vP (fp:List Addr) (h:Heap):List (Addr×Obj):=fp.filterMap fun b=>(h.get? b).map fun o=>(b,o)
theorem uJ {fp:List Addr} {h:Heap} {b:Addr} {o:Obj} (hb:b∈fp) (e:h.get? b=some o):(b,o)∈vP fp h:=aaX.mpr ⟨b,hb,by rw [e]; rfl⟩
theorem Lb {fp:List Addr} {h:Heap} {p:Addr×Obj} (hp:p∈vP fp h):p.1∈fp/\h.get? p.1=some p.2:=by
 obtain ⟨b,hb,e⟩:=aaX.mp hp
 cases q:h.get? b with
 | none=>rw [q] at e; cases e
 | some o=>
  rw [q] at e
  have e':(b,o)=p:=aaB e
  subst e'
  exact ⟨hb,q⟩
theorem Inv.pinned {σ:St} {H:Hp} {fp:List Addr} (I:Inv X pins σ H s) (hf:∀ b∈fp,mC X pins H b) (ho:∀ b∈fp,∃ o,s.heap.get? b=some o/\∀ v,o.data≠.cell v):Inv X (pins++vP fp s.heap) σ H s:=
 I.pins_of fun p hp=>(aaF.mp hp).elim (fun z=>I.pin p (aaE _ z)) fun z=>by
  obtain ⟨hb,e⟩:=Lb z
  obtain ⟨f0,f1,f2,_⟩:=hf p.1 hb
  obtain ⟨o,e',d⟩:=ho p.1 hb
  rw [e] at e'; cases e'
  exact ⟨e,f0,f1,f2,d⟩
theorem Inv.unpinned {pins pl:List (Addr×Obj)} {σ:St} {H:Hp} (I:Inv X (pins++pl) σ H s):Inv X pins σ H s:=I.pins_of fun p hp=>I.pin p (aaE _ (aaT _ hp))
theorem Ld {iter:Expr} {body:List Stmt} {wi:TI} {g:TG} {tb:TS} {pos:Pos} (hp:PassesOwn (model X.prog X.w) X.A X.env X.xe) (hc:X.calm=true) (hi:PI X tg iter wi) (hg:PG X tg g) (hb:iu X body tb)
 (hs:∀ x,foldedSetIterable iter X.env x=pure x:=by intro _; rfl):PS X (.For tg iter body [] pos) (Zx wi g tb):=by
 intro pins s σ H D I h
 refine wpAny_For (bG (hi pins s σ H _ I h) fun v s1 h1=>bG h1 fun itv s2 h2=>?_) hs
 obtain ⟨it,fp,tn,J,H2,e,I2,T,st2,f2,W,⟨m0,w0⟩,turn⟩:=h2
 subst e
 have stat:∀ {H':Hp},(∀ b∈fp,H' b=none)->∀ b∈fp,mC X pins H' b:=fun hn b hb=>⟨hn b hb,(f2 b hb).2⟩
 refine codeAny_forLoop_any (fun n s'=>∃ i σ' H',Inv X pins σ' H' s'/\tn i s'.heap/\(∀ b∈fp,H' b=none)/\W i n σ' H') ?_ m0 ⟨0,σ,H2,I2,st2,fun b hb=>(f2 b hb).1,w0⟩
 rintro n s3 ⟨i,σ3,H3,I3,st3,fr3,w3⟩
 rcases turn i n σ3 H3 w3 with ⟨stop,qn⟩ | ⟨go,N,hN,step⟩
 . refine wpAny_passesOwn hp (bG (T.done X rfl rfl rfl hc i pins s3 σ3 H3 X.xe I3 (stat fr3) st3 stop) fun r s4 ⟨hr,I4⟩=>?_)
   subst hr
   exact wpAny_execs_nil ⟨σ3,H3,I4,qn⟩
 . refine wpAny_passesOwn hp (bG (T.item X rfl rfl rfl hc i pins s3 σ3 H3 X.xe I3 (stat fr3) st3 go) fun r s4 ⟨u,hr,h4⟩=>?_)
   subst hr
   refine wpAny_passesOwn hp (bG h4 fun _ s5 ⟨x,H5,I5,r5,y5,st5,fr5⟩=>?_)
   have I5':=I5.pinned (stat fr5) (T.obj _ _ st5)
   refine wpAny_passesOwn hp (bG (hg _ s5 σ3 H5 x u _ I5' r5 (step x H5 y5)) fun _ s6 ⟨σ6,H6,I6,q6⟩=>?_)
   refine wpAny_passesOwn hp (bG (hb _ s6 σ6 H6 _ I6 q6) fun f s7 q7=>?_)
   have again:∀ {σ7:St} {H7:Hp},Inv X (pins++vP fp s5.heap) σ7 H7 s7->N σ7 H7->∃ m,m<n/\∃ i σ' H',Inv X pins σ' H' s7/\tn i s7.heap/\(∀ b∈fp,H' b=none)/\W i m σ' H':=fun {σ7 H7} I7 n7=>by
    obtain ⟨m',hm,w7⟩:=hN σ7 H7 n7
    refine ⟨m',hm,i+1,σ7,H7,I7.unpinned,T.keep _ _ _ st5 fun b hb o e=>(I7.pin (b,o) (aaE _ (aaE _ (uJ hb e)))).1,fun b hb=>?_,w7⟩
    obtain ⟨o,e,d⟩:=T.obj _ _ st5 b hb
    exact (I7.pin (b,o) (aaE _ (aaE _ (uJ hb e)))).2.1
   cases f with
   | next=>obtain ⟨σ7,H7,I7,n7⟩:=q7; exact again I7 n7
   | cont=>obtain ⟨σ7,H7,I7,n7⟩:=q7; exact again I7 n7
   | brk=>obtain ⟨σ7,H7,I7,q7⟩:=q7; exact ⟨σ7,H7,I7.unpinned,q7⟩
   | ret v=>obtain ⟨x7,σ7,H7,I7,r7,q7⟩:=q7; exact ⟨x7,σ7,H7,I7.unpinned,r7,q7⟩
end
abbrev R2:=V->V->Hp->VK->Prop
def eN (X:Cx) (f:Value->Value->Sem Value) (r:R2):Prop:=
 ∀ (pins:List (Addr×Obj)) (s:Shared) (σ:St) (H:Hp) (x y:V) (v u:Value) (Q:VK),Inv X pins σ H s->RelV x v->RelV y u->r x y H Q->
  wpAny (model X.prog X.w) X.A (f v u) (EP X pins σ Q) X.xe s
def VJ (X:Cx) (f:Value->Sem Value) (r:V->Hp->VK->Prop):Prop:=
 ∀ (pins:List (Addr×Obj)) (s:Shared) (σ:St) (H:Hp) (x:V) (v:Value) (Q:VK),Inv X pins σ H s->RelV x v->r x H Q->
  wpAny (model X.prog X.w) X.A (f v) (EP X pins σ Q) X.xe s
def oU (X:Cx) (f:Value) (r:List V->Hp->VK->Prop):Prop:=
 ∀ (pins:List (Addr×Obj)) (s:Shared) (σ:St) (H:Hp) (xs:List V) (us:List Value) (Q:VK),Inv X pins σ H s->Vals xs us->r xs H Q->
  wpAny (model X.prog X.w) X.A (call f us) (EP X pins σ Q) X.xe s
def Zy (X:Cx) (r:V->Hp->(Bool->Hp->Prop)->Prop):Prop:=
 ∀ (pins:List (Addr×Obj)) (s:Shared) (σ:St) (H:Hp) (x:V) (v:Value) (Q:Bool->Hp->Prop),Inv X pins σ H s->RelV x v->r x H Q->
  wpAny (model X.prog X.w) X.A (truthy v) (TP X pins σ Q) X.xe s
def HQ (r:R2) (ta tb:TE):TE:=fun σ H Q=>ta σ H fun x H1=>tb σ H1 fun y H2=>r x y H2 Q
def Z7 (r:V->Hp->VK->Prop) (ta:TE):TE:=fun σ H Q=>ta σ H fun x H1=>r x H1 Q
def rI (C:Int->Int->Prop) (g:Int->Int->V):R2:=fun x y H Q=>∃ i j,x=.int i/\y=.int j/\C i j/\Q (g i j) H
def qW (g:Int->Int->V):R2:=fun x y H Q=>∃ i j,x=.int i/\y=.int j/\Q (g i j) H
def rU (g:Int->V):V->Hp->VK->Prop:=fun x H Q=>∃ i,x=.int i/\Q (g i) H
section
variable {X:Cx} {a b c:Expr} {ta tb tc:TE} {pos:Pos}
theorem OD (ha:PE X a ta) (hb:PE X b tb) {σ:St} {H:Hp} {R:V->V->Hp->Prop} (I:Inv X pins σ H s)
 (h:ta σ H fun x H1=>tb σ H1 fun y H2=>R x y H2) {Q:Value->Shared->Prop} {f:Value->Value->Sem Value}
 (hf:∀ v u s2 x y H2,Inv X pins σ H2 s2->RelV x v->RelV y u->R x y H2->wpAny (model X.prog X.w) X.A (f v u) Q X.xe s2):
 wpAny (model X.prog X.w) X.A (eval a X.env) (fun v s₁=>wpAny (model X.prog X.w) X.A (eval b X.env) (fun u s₂=>wpAny (model X.prog X.w) X.A (f v u) Q X.xe s₂) X.xe s₁) X.xe s:=by
 refine bG (ha pins s σ H _ I h) fun v s1 ⟨x,H1,I1,r1,q1⟩=>?_
 refine bG (hb pins s1 σ H1 _ I1 q1) fun u s2 ⟨y,H2,I2,r2,q2⟩=>?_
 exact hf v u s2 x y H2 I2 r1 r2 q2
theorem Ym {op:Operator} {r:R2} (ho:eN X (binaryOp op) r) (ha:PE X a ta) (hb:PE X b tb):PE X (.BinOp a op b pos) (HQ r ta tb):=by
 intro pins s σ H Q I h
 exact wpAny_BinOp (OD ha hb I h fun v u s2 x y H2 I2 rx ry q=>ho pins s2 σ H2 x y v u Q I2 rx ry q)
theorem Yn {op:UnaryOp} {r:V->Hp->VK->Prop} (ho:VJ X (unaryOp op) r) (ha:PE X a ta):PE X (.UnaryOp op a pos) (Z7 r ta):=by
 intro pins s σ H Q I h
 exact UnaryOp_ (bG (ha pins s σ H _ I h) fun v s1 ⟨x,H1,I1,r1,q1⟩=>ho pins s1 σ H1 x v Q I1 r1 q1)
theorem Le {f:Value->Value->Sem Value} {C:Int->Int->Prop} {g:Int->Int->Int}
 (rule:∀ (i j:Int) (t u:Tok) (s:Shared) (Q:Value->Shared->Prop) (E:Value->Shared->Prop),C i j->Q (.int (g i j) s.toks) { s with toks:=s.toks+1 }->wpAny (model X.prog X.w) X.A (f (.int i t) (.int j u)) Q E s):
 eN X f (rI C fun i j=>.int (g i j)):=by
 intro pins s σ H x y v u Q I rx ry h
 obtain ⟨i,j,rfl,rfl,hc,q⟩:=h
 obtain ⟨t,rfl⟩:=rx
 obtain ⟨t',rfl⟩:=ry
 exact rule i j t t' s _ _ hc ⟨.int (g i j),H,I.tok _,⟨_,rfl⟩,q⟩
theorem VL {f:Value->Value->Sem Value} {g:Int->Int->Int}
 (rule:∀ (i j:Int) (t u:Tok) (s:Shared) (Q:Value->Shared->Prop) (E:Value->Shared->Prop),Q (.int (g i j) s.toks) { s with toks:=s.toks+1 }->wpAny (model X.prog X.w) X.A (f (.int i t) (.int j u)) Q E s):
 eN X f (qW fun i j=>.int (g i j)):=by
 intro pins s σ H x y v u Q I rx ry h
 obtain ⟨i,j,rfl,rfl,q⟩:=h
 obtain ⟨t,rfl⟩:=rx
 obtain ⟨t',rfl⟩:=ry
 exact rule i j t t' s _ _ ⟨.int (g i j),H,I.tok _,⟨_,rfl⟩,q⟩
theorem JG {f:Value->Value->Sem Value} {g:Int->Int->Bool}
 (rule:∀ (i j:Int) (t u:Tok) (s:Shared) (Q:Value->Shared->Prop) (E:Value->Shared->Prop),Q (.bool (g i j)) s->wpAny (model X.prog X.w) X.A (f (.int i t) (.int j u)) Q E s):
 eN X f (qW fun i j=>.bl (g i j)):=by
 intro pins s σ H x y v u Q I rx ry h
 obtain ⟨i,j,rfl,rfl,q⟩:=h
 obtain ⟨t,rfl⟩:=rx
 obtain ⟨t',rfl⟩:=ry
 exact rule i j t t' s _ _ ⟨.bl (g i j),H,I,rfl,q⟩
def VM (i j:Int):Prop:=0<j/\j<1073741824
def VN (i j:Int):Prop:=0<=j/\j<=1000000/\i.natAbs<2 ^ 64
def JH (i j:Int):Prop:=(-(2 ^ 64)<i/\i<2 ^ 64)\/(-(2 ^ 64)<j/\j<2 ^ 64)
theorem JH.ok {i j:Int} (h:JH i j):IntMulOk i j:=by
 rcases h with ⟨h1,h2⟩ | ⟨h1,h2⟩
 . exact .of_left (intBits_le_64 h1 h2)
 . exact .of_right (intBits_le_64 h1 h2)
theorem VP:eN X (binaryOp .Add) (qW fun i j=>.int (i+j)):=VL fun _ _ _ _ _ _ _ q=>add_int q
theorem pH:eN X (binaryOp .Sub) (qW fun i j=>.int (i-j)):=VL fun _ _ _ _ _ _ _ q=>sub_int q
theorem pI:eN X (binaryOp .Mult) (rI JH fun i j=>.int (i*j)):=Le fun _ _ _ _ _ _ _ hc q=>mul_int q hc.ok
theorem Ba:eN X (binaryOp .FloorDiv) (rI VM fun i j=>.int (i/j)):=Le fun i j _ _ _ _ _ hc q=>by
 have h1:(0:Int)<j:=hc.1
 have h2:j<1073741824:=hc.2
 exact floordiv_int (by omega) (by rw [Int.fdiv_eq_ediv_of_nonneg i (by omega)]; exact q) (.inl (PyProof.noPylong_small (by omega)))
theorem eE:eN X (binaryOp .Mod) (rI (fun _ j=>0<j) fun i j=>.int (i%j)):=Le fun i j _ _ _ _ _ hc q=>by
 have h1:(0:Int)<j:=hc
 exact mod_int' (by omega) (by rw [Int.fmod_eq_emod_of_nonneg i (by omega)]; exact q)
theorem Eu:eN X (binaryOp .Pow) (rI VN fun i j=>.int (i ^ j.toNat)):=Le fun _ _ _ _ _ _ _ hc q=>pow_int_small hc.1 hc.2.1 hc.2.2 q
theorem Z8 {f:Value->Sem Value} {g:Int->Int}
 (rule:∀ (i:Int) (t:Tok) (s:Shared) (Q:Value->Shared->Prop) (E:Value->Shared->Prop),Q (.int (g i) s.toks) { s with toks:=s.toks+1 }->wpAny (model X.prog X.w) X.A (f (.int i t)) Q E s):
 VJ X f (rU fun i=>.int (g i)):=by
 intro pins s σ H x v Q I rx h
 obtain ⟨i,rfl,q⟩:=h
 obtain ⟨t,rfl⟩:=rx
 exact rule i t s _ _ ⟨.int (g i),H,I.tok _,⟨_,rfl⟩,q⟩
theorem V0:VJ X (unaryOp .USub) (rU fun i=>.int (-i)):=Z8 fun _ _ _ _ _ q=>neg_int q
end
def scal:V->V->Bool
 | .non,.non=>true | .non,.int _=>true | .int _,.non=>true | .non,.bl _=>true | .bl _,.non=>true | .non,.str _=>true | .str _,.non=>true
 | .int _,.int _=>true | .bl _,.bl _=>true | .str _,.str _=>true | .byt _,.byt _=>true
 | .int _,.str _=>true | .str _,.int _=>true | .bl _,.str _=>true | .str _,.bl _=>true
 | _,_=>false
section
variable {X:Cx} {a b c:Expr} {ta tb tc:TE} {pos:Pos}
theorem V1 {σ:St} {H:Hp} {Q:VK} {k k':Bool} (I:Inv X pins σ H s) (q:Q (.bl k) H) (e:k=k'):EP X pins σ Q (.bool k') s:=by
 subst e
 exact ⟨.bl k,H,I,rfl,q⟩
theorem Eg:eN X (compareOp .Lt) (qW fun i j=>.bl (decide (i<j))):=JG fun _ _ _ _ _ _ _ q=>lt_int q
theorem JK:eN X (compareOp .LtE) (qW fun i j=>.bl (decide (i<=j))):=JG fun _ _ _ _ _ _ _ q=>le_int q
theorem JL:eN X (compareOp .Gt) (qW fun i j=>.bl (decide (j<i))):=JG fun _ _ _ _ _ _ _ q=>gt_int q
theorem Yo:eN X (compareOp .GtE) (qW fun i j=>.bl (decide (j<=i))):=JG fun _ _ _ _ _ _ _ q=>ge_int q
theorem Lf:eN X (compareOp .Is) (fun x y H Q=>y=.non/\Q (.bl (decide (x=.non))) H):=by
 intro pins s σ H x y v u Q I rx ry h
 obtain ⟨rfl,q⟩:=h
 cases ry
 refine is_none_gen (V1 I q ?_)
 cases x<;>first
  | (cases rx; rfl)
  | (obtain ⟨t,rfl⟩:=rx; rfl)
theorem eN.or {f:Value->Value->Sem Value} {r r':R2} (h:eN X f r) (h':eN X f r'):eN X f (fun x y H Q=>r x y H Q\/r' x y H Q):=by
 intro pins s σ H x y v u Q I rx ry q
 rcases q with q | q
 . exact h pins s σ H x y v u Q I rx ry q
 . exact h' pins s σ H x y v u Q I rx ry q
theorem aZ (b:Expr) {op:CmpOp} (h:op≠.In:=by decide) (h2:op≠.NotIn:=by decide):behindInMarks op b=false:=by
 have e1:(op==CmpOp.In)=false:=by cases op<;>first | rfl | exact absurd rfl h
 have e2:(op==CmpOp.NotIn)=false:=by cases op<;>first | rfl | exact absurd rfl h2
 cases b<;>simp [behindInMarks,e1,e2]
theorem S9 {op:CmpOp} {r:R2} (ho:eN X (compareOp op) r) (ha:PE X a ta) (hb:PE X b tb) (hm:behindInMarks op b=false):PE X (.Compare a [op] [b] pos) (HQ r ta tb):=by
 intro pins s σ H Q I h
 exact wpAny_Compare1 (OD ha hb I h fun v u s2 x y H2 I2 rx ry q=>ho pins s2 σ H2 x y v u Q I2 rx ry q) hm
def JM (t:TE):TT:=fun σ H Q=>t σ H fun x H'=>∃ k,x=.bl k/\Q k H'
theorem HR {op:CmpOp} {r:R2} (ho:eN X (compareOp op) r) (ha:PE X a ta) (hb:PE X b tb) (hm:behindInMarks op b=false):PT X (.Compare a [op] [b] pos) (JM (HQ r ta tb)):=by
 intro pins s σ H Q I h
 refine wpAny_isTrue_Compare1 (bG (ha pins s σ H _ I h) fun v s1 ⟨x,H1,I1,r1,q1⟩=>bG (hb pins s1 σ H1 _ I1 q1) fun u s2 ⟨y,H2,I2,r2,q2⟩=>
  bG (ho pins s2 σ H2 x y v u _ I2 r1 r2 q2) fun c s3 ⟨z,H3,I3,r3,k,e,q3⟩=>?_) hm
 subst e
 cases r3
 exact wpAny_truthy_bool ⟨H3,I3,q3⟩
def Ew (r r':R2) (ta tb tc:TE):TE:=fun σ H Q=>ta σ H fun x H1=>tb σ H1 fun y H2=>r x y H2 fun z H3=>∃ k,z=.bl k/\
 (if k=true then tc σ H3 fun w' H4=>r' y w' H4 Q else Q (.bl false) H3)
theorem OJ {op op':CmpOp} {r r':R2} (ho:eN X (compareOp op) r) (ho':eN X (compareOp op') r') (ha:PE X a ta) (hb:PE X b tb) (hc:PE X c tc)
 (hm:lastMarks [op,op'] [b,c]=false:=by with_unfolding_all rfl):PE X (.Compare a [op,op'] [b,c] pos) (Ew r r' ta tb tc):=by
 intro pins s σ H Q I h
 refine Compare_chain (bG (ha pins s σ H _ I h) fun v s1 ⟨x,H1,I1,r1,q1⟩=>chain_link (bG (hb pins s1 σ H1 _ I1 q1) fun u s2 ⟨y,H2,I2,r2,q2⟩=>
  bG (ho pins s2 σ H2 x y v u _ I2 r1 r2 q2) fun d s3 ⟨z,H3,I3,r3,k,e,q3⟩=>?_)) hm
 subst e
 cases r3
 refine wpAny_truthy_bool ?_
 cases k with
 | false=>exact ite_ff ⟨.bl false,H3,I3,rfl,q3⟩
 | true=>exact ite_tt (chain_last (bG (hc pins s3 σ H3 _ I3 q3) fun w' s4 ⟨z',H4,I4,r4,q4⟩=>ho' pins s4 σ H4 y z' u w' Q I4 r2 r4 q4))
theorem O1 {op op':CmpOp} {r r':R2} (ho:eN X (compareOp op) r) (ho':eN X (compareOp op') r') (ha:PE X a ta) (hb:PE X b tb) (hc:PE X c tc)
 (hm:lastMarks [op,op'] [b,c]=false:=by with_unfolding_all rfl):PT X (.Compare a [op,op'] [b,c] pos) (JM (Ew r r' ta tb tc)):=by
 intro pins s σ H Q I h
 refine isTrue_chain (bG (ha pins s σ H _ I h) fun v s1 ⟨x,H1,I1,r1,q1⟩=>test_link (bG (hb pins s1 σ H1 _ I1 q1) fun u s2 ⟨y,H2,I2,r2,q2⟩=>
  bG (ho pins s2 σ H2 x y v u _ I2 r1 r2 q2) fun d s3 ⟨z,H3,I3,r3,k,e,q3⟩=>?_)) hm
 subst e
 cases r3
 refine wpAny_truthy_bool ?_
 cases k with
 | false=>
  obtain ⟨k',e',q'⟩:=q3
  cases e'
  exact ite_ff ⟨H3,I3,q'⟩
 | true=>
  refine ite_tt (test_last (bG (hc pins s3 σ H3 _ I3 q3) fun w' s4 ⟨z',H4,I4,r4,q4⟩=>bG (ho' pins s4 σ H4 y z' u w' _ I4 r2 r4 q4) fun d' s5 ⟨z2,H5,I5,r5,k2,e2,q5⟩=>?_))
  subst e2
  cases r5
  exact wpAny_truthy_bool ⟨H5,I5,q5⟩
def O2 (K:FG) (x:V) (H:Hp) (k:Bool):Prop:=
 match x with
 | .non=>k=false
 | .bl b=>k=b
 | .int i=>k=(i != 0)
 | .str y=>y.length<=sizeLine/\k=((y.length:Int) != 0)
 | .byt y=>y.size<=sizeLine/\k=((y.size:Int) != 0)
 | .ref p=>(∃ xs,bI K H p xs/\k=!xs.isEmpty)\/(∃ xs,cI K H p xs/\k=!xs.isEmpty)\/∃ kvs,H p=some (.dK kvs)/\k=!kvs.isEmpty
 | _=>False
theorem JN {κ:Type} {kvs:List (κ×V)} {vs:List (κ×Value)} (r:KV kvs vs):(!vs.isEmpty)=!kvs.isEmpty:=by
 cases r<;>rfl
theorem zq {xs:List V} {its:List Value} (r:Vals xs its):(!its.toArray.isEmpty)=!xs.isEmpty:=by
 cases r<;>simp
theorem vQ:(sizeLine:Nat)<2 ^ 63:=by rw [sizeLine_eq]; decide
theorem V2:Zy X (fun x H Q=>∃ k,O2 X.K x H k/\Q k H):=by
 intro pins s σ H x v Q I rx h
 obtain ⟨k,e,q⟩:=h
 have hl:=vQ
 have hs:sizeLine=16777216:=sizeLine_eq
 cases x with
 | non=>
  cases rx
  have e':k=false:=e
  subst e'
  exact truthy_none ⟨H,I,q⟩
 | bl b=>
  cases rx
  have e':k=b:=e
  subst e'
  exact wpAny_truthy_bool ⟨H,I,q⟩
 | int i=>
  obtain ⟨t,rfl⟩:=rx
  have e':k=(i != 0):=e
  subst e'
  exact PySem.P.truthy_int ⟨H,I,q⟩
 | str y=>
  obtain ⟨t,rfl⟩:=rx
  obtain ⟨hy,e'⟩:y.length<=sizeLine/\k=((y.length:Int) != 0):=e
  subst e'
  exact PySem.P.truthy_str (by omega) ⟨H,I.tok _,q⟩
 | byt y=>
  obtain ⟨t,rfl⟩:=rx
  obtain ⟨hy,e'⟩:y.size<=sizeLine/\k=((y.size:Int) != 0):=e
  subst e'
  exact W.truthy_bytes (by omega) ⟨H,I.tok _,q⟩
 | ref p=>
  cases rx
  have e':(∃ xs,bI X.K H p xs/\k=!xs.isEmpty)\/(∃ xs,cI X.K H p xs/\k=!xs.isEmpty)\/∃ kvs,H p=some (.dK kvs)/\k=!kvs.isEmpty:=e
  rcases e' with ⟨xs,hx,e'⟩ | ⟨xs,hx,e'⟩ | ⟨kvs,hx,e'⟩
  . subst e'
    obtain ⟨its,r,pl,hz⟩:=I.list hx
    have hlen:=r.length
    exact wpAny_truthy_list pl.isList (by simp only [aar]; omega) ⟨H,I.tok _,by rw [zq r]; exact q⟩
  . subst e'
    obtain ⟨its,r,pl,hz⟩:=I.tuple hx
    have hlen:=r.length
    exact truthy_tuple pl (by simp only [aar]; omega) ⟨H,I.tok _,by rw [zq r]; exact q⟩
  . subst e'
    obtain ⟨hz,hS,vs,r,m⟩:kvs.length<=sizeLine/\(p==sysModules)=false/\∃ vs,KV kvs vs/\s.heap.DictOf (cU X.prog X.w) p vs:=I.hok p _ hx
    have hlen:kvs.length=vs.length:=Paired.length r
    exact wpAny_truthy_dict hS m (by omega) ⟨H,I.tok _,by rw [JN r]; exact q⟩
 | _=>exact (show False from e).elim
theorem Ey (ha:PE X a ta) (he:∀ whole,isTrue a X.env whole=(do let v ← whole; standAt a.pos; holding [v] (truthy v))):
 PT X a (fun σ H Q=>ta σ H fun x H'=>∃ k,O2 X.K x H' k/\Q k H'):=by
 intro pins s σ H Q I h
 exact isTrue_plain (bG (ha pins s σ H _ I h) fun v s1 ⟨x,H1,I1,r1,q1⟩=>V2 pins s1 σ H1 x v Q I1 r1 q1) (he _)
theorem JP:eN X (binaryOp .Add) (fun x y H Q=>∃ i j,x=.str i/\y=.str j/\i.length+j.length<=sizeLine/\Q (.str (i++j)) H):=by
 intro pins s σ H x y v u Q I rx ry h
 obtain ⟨i,j,rfl,rfl,hz,q⟩:=h
 obtain ⟨t,rfl⟩:=rx
 obtain ⟨t',rfl⟩:=ry
 exact add_str (fun t' tk=>⟨.str (i++j),H,I.tok _,⟨_,rfl⟩,q⟩) hz
theorem vals1 {x:V} {us:List Value} (r:Vals [x] us):∃ u,us=[u]/\RelV x u:=by
 cases r with
 | cons r1 r2=>cases r2; exact ⟨_,rfl,r1⟩
theorem vals2 {x y:V} {us:List Value} (r:Vals [x,y] us):∃ u w',us=[u,w']/\RelV x u/\RelV y w':=by
 cases r with
 | cons r1 r2=>
  cases r2 with
  | cons r3 r4=>cases r4; exact ⟨_,_,rfl,r1,r3⟩
theorem Cz (hc:X.calm=true):oU X (.builtin "max") (fun xs H Q=>∃ i j,xs=[.int i,.int j]/\Q (.int (if j>i then j else i)) H):=by
 intro pins s σ H xs us Q I r h
 obtain ⟨i,j,rfl,q⟩:=h
 obtain ⟨u,w',rfl,⟨t,rfl⟩,⟨t',rfl⟩⟩:=vals2 r
 refine max_two_ints (I.ok.hd hc) fun h' tk k=>⟨_,H,I.kept k,?_,q⟩
 by_cases hj:j>i
 . rw [ab7 hj,ab7 hj]; exact ⟨_,rfl⟩
 . rw [ab8 hj,ab8 hj]; exact ⟨_,rfl⟩
def O3 (K:FG) (x:V) (H:Hp) (n:Nat):Prop:=
 match x with
 | .str y=>y.length<=sizeLine/\n=y.length
 | .byt y=>y.size<=sizeLine/\n=y.size
 | .ref p=>(∃ xs,bI K H p xs/\n=xs.length)\/∃ xs,cI K H p xs/\n=xs.length
 | _=>False
theorem kh:oU X (.builtin "len") (fun xs H Q=>∃ x n,xs=[x]/\O3 X.K x H n/\Q (.int n) H):=by
 intro pins s σ H xs us Q I r h
 obtain ⟨x,n,rfl,e,q⟩:=h
 obtain ⟨u,rfl,rx⟩:=vals1 r
 have hl:=vQ
 have hs:sizeLine=16777216:=sizeLine_eq
 cases x with
 | str y=>
  obtain ⟨t,rfl⟩:=rx
  obtain ⟨hy,e'⟩:y.length<=sizeLine/\n=y.length:=e
  subst e'
  exact len_str (by omega) ⟨.int _,H,I.tok _,⟨_,rfl⟩,q⟩
 | byt y=>
  obtain ⟨t,rfl⟩:=rx
  obtain ⟨hy,e'⟩:y.size<=sizeLine/\n=y.size:=e
  subst e'
  exact W.len_bytes (by omega) ⟨.int _,H,I.tok _,⟨_,rfl⟩,q⟩
 | ref p=>
  cases rx
  have e':(∃ xs,bI X.K H p xs/\n=xs.length)\/∃ xs,cI X.K H p xs/\n=xs.length:=e
  rcases e' with ⟨xs,hx,e'⟩ | ⟨xs,hx,e'⟩
  . subst e'
    obtain ⟨its,r',pl,hz⟩:=I.list hx
    have hlen:=r'.length
    exact Calls.call_len_list pl.isList (by simp only [aar]; omega) ⟨.int xs.length,H,I.tok _,⟨_,by simp only [aar]; rw [hlen]⟩,q⟩
  . subst e'
    obtain ⟨its,r',pl,hz⟩:=I.tuple hx
    have hlen:=r'.length
    exact len_tuple pl (by simp only [aar]; omega) ⟨.int xs.length,H,I.tok _,⟨_,by simp only [aar]; rw [hlen]⟩,q⟩
 | _=>exact (show False from e).elim
end
structure yG (h:Heap) (x dx C:Addr) (mA:Str->Option Value):Prop where
 obj:h.get? x=some (W.instObj C dx)
 ns:h.Ns1 dx mA
 ne:dx≠x
theorem Lg {h:Heap} {dx:Addr} {mA:Str->Option Value} (n:h.Ns1 dx mA):∃ od,h.get? dx=some od/\∀ name,W.lookIn name od=some (mA name):=by
 obtain ⟨o,es,ep,ho,hd,hk,_,hm⟩:=n
 refine ⟨o,ho,fun name=>?_⟩
 have e:=hm name
 unfold nsFind findBy at e
 rw [← Array.find?_toList] at e
 unfold W.lookIn
 rw [hd]
 dsimp only
 split
 . rename_i y q
   rw [q] at e
   exact congrArg some e
 . rename_i q
   rw [q] at e
   have a:es.toList.any (·.refKey)=false:=by
    rw [List.any_eq_false]
    intro y hy
    obtain ⟨z,t,hkey⟩:=hk y (Array.mem_toList_iff.mp hy)
    simp [DictEntry.refKey,hkey]
   have a':¬ es.toList.any (·.refKey)=true:=by rw [a]; exact aaA
   rw [ab8 a']
   exact congrArg some e
theorem yG.look {h:Heap} {x dx C:Addr} {mA:Str->Option Value} (I:yG h x dx C mA):∃ od,W.InstAt h x (W.instObj C dx) C (some od)/\∀ name,W.lookIn name od=some (mA name):=
 let ⟨od,ho,hl⟩:=Lg I.ns
 ⟨od,⟨I.obj,rfl,rfl,ho⟩,hl⟩
section
variable {prog:Program} {w:World} {A:Around} {E:Value->Shared->Prop} {s:Shared} {K:FG} {x dx C f:Addr} {mA:Str->Option Value} {name:Str} {v:Value}
theorem Tc {expr:Bool} {Q:Value->Shared->Prop} (X:K.In s.heap) (I:yG s.heap x dx C mA) (hg:W.plainGet K C name=true) (hh:W.hasDictIn K C=true)
 (ha:W.findIn K (.ref C) name=some none) (hv:mA name=some v) (hv':W.handedIn v=true) (h:Q v { s with toks:=s.toks+1 }):
 wpAny (model prog w) A (getAttr (.ref x) name expr) Q E s:=by
 obtain ⟨od,J,hl⟩:=I.look
 exact W.get_value X J (W.plainGet_of hg).1 (W.findObj_own hh ha rfl (by rw [hl,hv])) hv' h
theorem O4 {pl:Sem Bool} {Q:Value×List Value->Shared->Prop} (X:K.In s.heap) (I:yG s.heap x dx C mA) (hg:W.plainGet K C name=true)
 (hf:W.findIn K (.ref C) name=some (some (.ref f))) (ht:W.isFn K (.ref f)=true) (hv:mA name=none) (h:Q (.ref f,[.ref x]) s):
 wpAny (model prog w) A (getMethod (.ref x) name pl) Q E s:=by
 obtain ⟨od,J,hl⟩:=I.look
 exact W.method_fn X J (W.plainGet_of hg).1 (W.plainGet_of hg).2 hf (beq_iff_eq.mp ht) (by show (W.lookIn name od).map (·.isSome)=some false; rw [hl,hv]; rfl) h
theorem Td {ns:List Str} {Q:Unit->Shared->Prop} (X:K.In s.heap) (I:yG s.heap x dx C mA)
 (hs:W.findIn K (.ref C) "__setattr__" = some (some (.builtin "object.__setattr__"))) (hp:W.plainOver K C=true) (ht:W.takerIn K C name=some none) (hh:W.hasDictIn K C=true)
 (hw:PySem.Within mA ns) (hsz:ns.length<=sizeLine)
 (h:∀ h',yG h' x dx C (fun y=>if y=name then some v else mA y)->Heap.SameBut dx s.heap h'->Q () { s with heap:=h',toks:=s.toks+2 }):
 wpAny (model prog w) A (setAttr (.ref x) name v) Q E s:=by
 obtain ⟨od,J,hl⟩:=I.look
 refine W.set_plain X J hs (W.osa_open (s:={ s with toks:=s.toks+1 }) (r:=none) X J hp ht fun b=>?_)
 obtain ⟨cd,hc,hd'⟩:=W.any_some hh
 have hx:s.heap.get? x=some ⟨.ref C,some dx,.plain,#[]⟩:=I.obj
 refine ab6 (ab9 (ab6 (ab6 (wpAny_loadPart hx (ab6 (W.Looks.here (s:={ s with toks:=s.toks+1 }) (W.looks_clsIn X hc) ?_))))))
 rw [hd']
 refine ab9 (a:=some dx) (ab6 (ab9 (ab6 ?_)))
 refine wpAny_nsSet1 (s:={ s with toks:=s.toks+1 }) I.ns fun h' hn2 hs2=>?_
 obtain ⟨oD,esD,epD,hoD,hdD,hcD⟩:=hn2.count (PySem.Within.cons name v hw)
 refine ab6 (wpAny_lookBehind hoD (by rw [hdD]; exact pastItsLine_dict (aaL hcD (by rw [aae]; omega))) ?_)
 exact ab9 (h _ ⟨(hs2.2 _ (Ne.symm I.ne)).trans I.obj,hn2,I.ne⟩ hs2)
theorem O5 {R:Result->Shared->Prop} {vs:List Value} {kw:List (Str×Value)} (X:K.In s.heap) (hm:W.makesIn K C=true)
 (hi:W.findIn K (.ref C) "__init__" = some (some (.ref f))) (hf:W.typeIn K (.ref f)=some (.type "function"))
 (h:codeAny (model prog w) (A.under (.builtin "type.__call__" ⟨.ref C::vs,kw⟩)) (.call (.ref f) ⟨.ref (s.heap.objs.size+1)::vs,kw⟩) (W.InitBack (s.heap.objs.size+1) R)
   { s with heap:=(s.heap.push W.emptyDict).push (W.instObj C s.heap.objs.size) }):
 codeAny (model prog w) A (.call (.ref C) ⟨vs,kw⟩) R s:=by
 obtain ⟨hh,g,d,t,os⟩:=s
 exact W.make_core (W.makes_of X hm) (W.looks_findIn X hi) (fun self=>W.bind_fn X self hf) (.inl rfl) h
end
def iD (f:Str) (v:V):List (Str×V)->List (Str×V)
 | []=>[(f,v)]
 | (g,x)::r=>if g=f then (g,v)::r else (g,x)::iD f v r
theorem yh (f g:Str) (v:V):∀ fs:List (Str×V),(iD f v fs).lookup g=if g=f then some v else fs.lookup g
 | []=>by
  show List.lookup g [(f,v)]=_
  by_cases h:g=f
  . have hb:(g==f)=true:=beq_iff_eq.mpr h
    simp only [List.lookup,hb,ab7 h]
  . have hb:(g==f)=false:=acd.mpr h
    simp only [List.lookup,hb,ab8 h]
 | (k,x)::r=>by
  have ih:=yh f g v r
  rw [show iD f v ((k,x)::r)=(if k=f then (k,v)::r else (k,x)::iD f v r) from rfl]
  by_cases hk:k=f
  . rw [ab7 hk]
    by_cases h:g=k
    . have hb:(g==k)=true:=beq_iff_eq.mpr h
      simp only [List.lookup,hb,ab7 (h.trans hk)]
    . have hb:(g==k)=false:=acd.mpr h
      simp only [List.lookup,hb,ab8 (fun e:g=f=>h (e.trans hk.symm))]
  . rw [ab8 hk]
    by_cases h:g=k
    . have hb:(g==k)=true:=beq_iff_eq.mpr h
      simp only [List.lookup,hb,ab8 (fun e:g=f=>hk (h.symm.trans e))]
    . have hb:(g==k)=false:=acd.mpr h
      simp only [List.lookup,hb]
      exact ih
theorem vR (f:Str) (v:V):∀ fs:List (Str×V),f∈(iD f v fs).map (·.1)/\∀ g,g∈fs.map (·.1)->g∈(iD f v fs).map (·.1)
 | []=>⟨by simp [iD],fun g h=>by simp at h⟩
 | (k,x)::r=>by
  obtain ⟨i1,i2⟩:=vR f v r
  rw [show iD f v ((k,x)::r)=(if k=f then (k,v)::r else (k,x)::iD f v r) from rfl]
  by_cases hk:k=f
  . rw [ab7 hk]
    subst hk
    exact ⟨by simp,fun g h=>by simpa using h⟩
  . rw [ab8 hk]
    refine ⟨?_,fun g h=>?_⟩
    . rw [aav]
      exact aag _ i1
    . rw [aav] at h ⊢
      rcases aao.mp h with e | e
      . exact aao.mpr (.inl e)
      . exact aag _ (i2 g e)
theorem yj (f:Str) (v:V):∀ fs:List (Str×V),(iD f v fs).length<=fs.length+1
 | []=>by simp [iD]
 | (k,x)::r=>by
  have ih:=yj f v r
  rw [show iD f v ((k,x)::r)=(if k=f then (k,v)::r else (k,x)::iD f v r) from rfl]
  by_cases hk:k=f
  . rw [ab7 hk,aae,aae]; omega
  . rw [ab8 hk,aae,aae]; omega
theorem lR.some_of {v:V} {o:Option Value} (r:lR (some v) o):∃ u,o=some u/\RelV v u:=by
 cases o with
 | none=>exact (show False from r).elim
 | some u=>exact ⟨u,rfl,r⟩
theorem lR.none_of {o:Option Value} (r:lR none o):o=none:=by
 cases o with
 | none=>rfl
 | some u=>exact (show False from r).elim
theorem Lh {v:V} {u:Value} (r:RelV v u):W.handedIn u=true:=by
 cases v with
 | non=>cases (show u=Value.none from r); rfl
 | bl b=>cases (show u=Value.bool b from r); rfl
 | int i=>obtain ⟨t,e⟩:=(show ∃ t,u=Value.int i t from r); cases e; rfl
 | str x=>obtain ⟨t,e⟩:=(show ∃ t,u=Value.str x t from r); cases e; rfl
 | byt b=>obtain ⟨t,e⟩:=(show ∃ t,u=Value.bytes b t from r); cases e; rfl
 | flt b=>obtain ⟨t,e⟩:=(show ∃ t,u=Value.float b t from r); cases e; rfl
 | ref a=>cases (show u=Value.ref a from r); rfl
 | ty n=>cases (show u=Value.type n from r); rfl
section
variable {P:Program} {w:World} {H H':Hp} {h h':Heap} {a C dx:Addr} {fs fs':List (Str×V)}
theorem Bb (hok:ir P w H h) (e:H a=some (.ins C dx fs)):∃ mA,yG h a dx C mA/\(∀ f,lR (fs.lookup f) (mA f))/\PySem.Within mA (fs.map (·.1))/\fs.length<=1000/\H dx=some (.own a):=by
 obtain ⟨d,z,ne,ob,mA,n,r,q⟩:=(show gb P w H h a (.ins C dx fs) from hok a _ e)
 exact ⟨mA,⟨ob,n,ne⟩,r,q,z,d⟩
end
structure vU (K:FG) (C:Addr):Prop where
 pg:W.plainGet K C Str.empty=true
 hd:W.hasDictIn K C=true
 po:W.plainOver K C=true
 sa:W.findIn K (.ref C) "__setattr__" = some (some (.builtin "object.__setattr__"))
theorem vU.get {K:FG} {C:Addr} (c:vU K C) (f:Str):W.plainGet K C f=true:=c.pg
def jm (K:FG) (C:Addr) (f:Str):Prop:=W.findIn K (.ref C) f=some none
theorem jm.taker {K:FG} {C:Addr} {f:Str} (n:jm K C f):W.takerIn K C f=some none:=by
 unfold W.takerIn
 rw [show W.findIn K (.ref C) f=some none from n]
 rfl
structure Meth (K:FG) (C:Addr) (m:Str) (f:Addr):Prop where
 at_:W.findIn K (.ref C) m=some (some (.ref f))
 fn:W.isFn K (.ref f)=true
 kp:W.keepIn K (.ref f)=true
section
variable {X:Cx} {pins:List (Addr×Obj)} {σ:St} {H:Hp} {s:Shared} {a C dx:Addr} {fs:List (Str×V)} {f:Str} {v:V} {A:Around} {E:Value->Shared->Prop}
theorem JQ {b:Bool} {Q:Value->Shared->Prop} (I:Inv X pins σ H s) (e:H a=some (.ins C dx fs)) (c:vU X.K C) (n:jm X.K C f) (l:fs.lookup f=some v)
 (h:∀ u s',Inv X pins σ H s'->RelV v u->Q u s'):wpAny (model X.prog X.w) A (getAttr (.ref a) f b) Q E s:=by
 obtain ⟨mA,O,r,_,_,_⟩:=Bb I.hok e
 obtain ⟨u,hu,ru⟩:=lR.some_of (v:=v) (o:=mA f) (by rw [← l]; exact r f)
 exact Tc I.kIn O (c.get f) c.hd n hu (Lh ru) (h u _ (I.tok _) ru)
theorem uK {m:Str} {g:Addr} {pl:Sem Bool} {Q:Value×List Value->Shared->Prop} (I:Inv X pins σ H s) (e:H a=some (.ins C dx fs)) (c:vU X.K C) (k:Meth X.K C m g) (l:fs.lookup m=none)
 (h:Q (.ref g,[.ref a]) s):wpAny (model X.prog X.w) A (getMethod (.ref a) m pl) Q E s:=by
 obtain ⟨mA,O,r,_,_,_⟩:=Bb I.hok e
 have hn:mA m=none:=lR.none_of (by rw [← l]; exact r m)
 exact O4 I.kIn O (c.get m) k.at_ k.fn hn h
theorem JR {y:V} {u:Value} {Q:Unit->Shared->Prop} (I:Inv X pins σ H s) (e:H a=some (.ins C dx fs)) (c:vU X.K C) (n:jm X.K C f) (hl:fs.length<1000) (ry:RelV y u)
 (h:∀ s',Inv X pins σ (upd H a (.ins C dx (iD f y fs))) s'->Q () s'):wpAny (model X.prog X.w) A (setAttr (.ref a) f u) Q E s:=by
 obtain ⟨mA,O,r,wi,_,ho⟩:=Bb I.hok e
 have hz:(fs.map (·.1)).length<=sizeLine:=by rw [aad,sizeLine_eq]; omega
 refine Td I.kIn O c.sa c.po n.taker c.hd wi hz fun h' O' sb=>h _ ?_
 have hd:∃ o,h'.get? dx=some o:=let ⟨o,_,_,e',_⟩:=O'.ns; ⟨o,e'⟩
 refine I.write (x:=a) (e:=dx) (by rw [e]; exact True.intro) (.inr ho) (fun b q hb z=>(sb.2 b hb).trans z) hd ?_
 refine ⟨by rw [cj O.ne]; exact ho,?_,O.ne,O'.obj,_,O'.ns,fun g=>?_,fun g hg=>?_⟩
 . have:=yj f y fs; omega
 . show lR ((iD f y fs).lookup g) (if g=f then some u else mA g)
   rw [yh]
   by_cases q:g=f
   . rw [ab7 q,ab7 q]; exact ry
   . rw [ab8 q,ab8 q]; exact r g
 . by_cases q:g=f
   . rw [q]; exact (vR f y fs).1
   . refine (vR f y fs).2 g (wi g fun z=>hg ?_)
     show (if g=f then some u else mA g)=none
     rw [ab8 q]; exact z
theorem Inv.made (I:Inv X pins σ H s):Inv X pins σ (upd (upd H s.heap.objs.size (.own (s.heap.objs.size+1))) (s.heap.objs.size+1) (.ins C s.heap.objs.size []))
 { s with heap:=(s.heap.push W.emptyDict).push (W.instObj C s.heap.objs.size) }:=by
 have e1:(s.heap.push W.emptyDict).get? s.heap.objs.size=some W.emptyDict:=aau s.heap rfl
 have e2:((s.heap.push W.emptyDict).push (W.instObj C s.heap.objs.size)).get? (s.heap.objs.size+1)=some (W.instObj C s.heap.objs.size):=by
  have:=aau (s.heap.push W.emptyDict) (o:=W.instObj C s.heap.objs.size) rfl
  rwa [abo] at this
 have e3:(s.heap.push W.emptyDict).Ns s.heap.objs.size (fun _=>none):=⟨W.emptyDict,#[],_,e1,rfl,(fun e he=>absurd he (by simp)),fun _=>rfl⟩
 have I1:=I.laid (a:=s.heap.objs.size) (o:=.own (s.heap.objs.size+1)) (h':=s.heap.push W.emptyDict) (t':=s.toks) (fun b u q=>aac _ q) (aaf _) ⟨_,e1⟩
 refine I1.laid (a:=s.heap.objs.size+1) (o:=.ins C s.heap.objs.size []) (t':=s.toks) (fun b u q=>aac _ q) (Nat.le_of_eq (abo _ _)) ?_
 have ne:s.heap.objs.size≠s.heap.objs.size+1:=aaG (abb _)
 refine ⟨by rw [cj ne,bM],aa3 _,ne,e2,fun _=>none,(Heap.Ns1.of_empty e3).at fun o q=>aac _ q,fun _=>True.intro,fun y hy=>absurd rfl hy⟩
theorem Te {prog:Program} {env:Env} {e:Expr} {f:Str} {pos:Pos} {Q:Value->Shared->Prop} (hb:attributeBase e f env (eval e env)=eval e env)
 (h:wpAny (model prog w) A (eval e env) (fun o s₁=>wpAny (model prog w) A (getAttr o f true) Q E s₁) E s):wpAny (model prog w) A (eval (.Attribute e f pos) env) Q E s:=
 Attribute_any_ h (by rw [arm_eval_Attribute,hb])
end
def Zz (K:FG) (ta:TE) (f:Str):TE:=fun σ H Q=>ta σ H fun x H1=>∃ a C dx fs v,x=.ref a/\H1 a=some (.ins C dx fs)/\vU K C/\jm K C f/\fs.lookup f=some v/\Q v H1
def ZC (K:FG) (ta tv:TE) (f:Str):TS:=fun D σ H=>tv σ H fun y H1=>ta σ H1 fun x H2=>∃ a C dx fs,x=.ref a/\H2 a=some (.ins C dx fs)/\vU K C/\jm K C f/\fs.length<1000/\
 D.nx σ (upd H2 a (.ins C dx (iD f y fs)))
section
variable {X:Cx} {o e value:Expr} {f:Str} {pos pos' tpos:Pos} {ta tv:TE}
theorem V3 (he:PE X e ta) (hb:attributeBase e f X.env (eval e X.env)=eval e X.env):PE X (.Attribute e f pos) (Zz X.K ta f):=by
 intro pins s σ H Q I h
 refine Te hb (bG (he pins s σ H _ I h) fun u s1 ⟨x,H1,I1,rx,a,C,dx,fs,v,ex,ea,c,n,l,q⟩=>?_)
 subst ex
 obtain rfl:u=Value.ref a:=rx
 exact JQ I1 ea c n l fun u' s2 I2 ru=>⟨v,H1,I2,ru,q⟩
theorem V4 (ha:PE X o ta) (hv:PE X value tv) (hs:swapsWith value (some (.Attribute o f pos')) pos.line X.env=pure false):PS X (.Assign [.Attribute o f pos'] value pos) (ZC X.K ta tv f):=by
 intro pins s σ H D I h
 refine plainObj_wpAny_Assign_Attribute (bG (hv pins s σ H _ I h) fun u s1 ⟨y,H1,I1,ry,q⟩=>bG (ha pins s1 σ H1 _ I1 q) fun ov s2 ⟨x,H2,I2,rx,a,C,dx,fs,ex,ea,c,n,l,q2⟩=>?_) hs
 subst ex
 obtain rfl:ov=Value.ref a:=rx
 exact JR I2 ea c n l ry fun s3 I3=>⟨σ,_,I3,q2⟩
def O6:V->V->Hp->VK->Prop:=fun x y H Q=>∃ i j,x=.int i/\y=.int j/\Q (.int (i+j)) H
theorem Yb {pl:Sem Bool} {m:Str} {apos:Pos} {args:List Expr} {σ:St} {H:Hp} {Q:Value->Shared->Prop} {te:TE} (he:PE X e te) (I:Inv X pins σ H s)
 (h:te σ H fun x H1=>∃ a C dx fs g,x=.ref a/\H1 a=some (.ins C dx fs)/\vU X.K C/\Meth X.K C m g/\fs.lookup m=none/\
   ∀ s1,Inv X pins σ H1 s1->wpAny (model X.prog X.w) X.A (callWith pos (.ref g) [.ref a] (backTo pos (starEach args X.env)) (backToKw pos (keywordEach [] X.env))) Q X.xe s1)
 (ht:eval (.Call (.Attribute e m apos) args [] pos) X.env=(do
   let ov ← eval e X.env
   standAt apos.atName
   let (f,first) ← holding [ov] (getMethod ov m pl)
   callWith pos f first (backTo pos (starEach args X.env)) (backToKw pos (keywordEach [] X.env)))):
 wpAny (model X.prog X.w) X.A (eval (.Call (.Attribute e m apos) args [] pos) X.env) Q X.xe s:=by
 refine ab4 (pl:=pl) (bG (he pins s σ H _ I h) fun u s1 ⟨x,H1,I1,rx,a,C,dx,fs,g,ex,ea,c,k,l,q⟩=>?_) ht
 subst ex
 obtain rfl:u=Value.ref a:=rx
 exact uK I1 ea c k l (q s1 I1)
end
section
variable {X:Cx} {pins:List (Addr×Obj)} {σ:St} {H:Hp} {s:Shared} {A:Around} {E:Value->Shared->Prop} {Q:Value->Shared->Prop} {c:Value} {b:Bool}
end
structure fL (b:Bool) (k:Nat) (A:Around):Prop where
 hd:b=true->A.handled=none
 dp:A.depth+3*k+5<recursionLimit
 un:A.units+16*k+200<cLine
 gd:A.guards=some []
abbrev kj:=fL true
theorem fL.mono {b:Bool} {j k:Nat} (r:fL b k A) (h:j<=k):fL b j A:=⟨r.hd,by have:=r.dp; omega,by have:=r.un; omega,r.gd⟩
theorem fL.deeper {b:Bool} {k:Nat} (r:fL b (k+1) A) (env:Env):fL b k (A.deeper env):=
 ⟨r.hd,by have:=r.dp; show A.depth+1+3*k+5<_; omega,by have:=r.un; show A.units+3+16*k+200<_; omega,r.gd⟩
theorem JS {C:Addr} {us:List Value} {kw:List (Str×Value)}:(A.under (.builtin "type.__call__" ⟨.ref C::us,kw⟩)).depth=A.depth+1:=by
 first | rfl | simp [Around.under,Code.weight,Code.isCreation,Code.isGuard,Code.isCaller,Code.frames,Code.isFrame,guardIds]
theorem JT {C:Addr} {us:List Value} {kw:List (Str×Value)}:(A.under (.builtin "type.__call__" ⟨.ref C::us,kw⟩)).units=A.units+1:=by
 first | rfl | simp [Around.under,Code.cUnits,Code.frames,Code.isFrame]
theorem fL.make {b:Bool} {k:Nat} (r:fL b (k+1) A) (C:Addr) (us:List Value) (kw:List (Str×Value)):fL b k (A.under (.builtin "type.__call__" ⟨.ref C::us,kw⟩)):=
 ⟨r.hd,by have:=r.dp; rw [JS]; omega,by have:=r.un; rw [JT]; omega,by first | exact r.gd | (simpa [Around.under,Code.isGuard,guardIds] using r.gd)⟩
theorem fL.depth {b:Bool} {k:Nat} (r:fL b k A):A.depth<recursionLimit:=by have:=r.dp; omega
theorem fL.units {b:Bool} {k:Nat} (r:fL b k A):A.units+64<cLine:=by have:=r.un; omega
def Ez:TA:=fun _ H Q=>Q [] H
def xf (ta:TE) (tr:TA):TA:=fun σ H Q=>ta σ H fun x H1=>tr σ H1 fun xs H2=>Q (x::xs) H2
section
variable {X:Cx} {e:Expr} {es:List Expr} {te:TE} {t:TA} {pos:Pos}
theorem gK:PA X [] Ez:=fun _ _ _ _ H Q I h=>Calls.spliced_nil ⟨[],H,I,.nil,h⟩
theorem bY (ha:PE X e te) (hr:PA X es t) (hs:starEach (e::es) X.env=(false,eval e X.env)::starEach es X.env:=by rfl):PA X (e::es) (xf te t):=by
 intro pos pins s σ H Q I h
 rw [hs]
 show wpAny _ _ (spliced ((false,eval e X.env)::backTo pos (starEach es X.env))) _ _ s
 refine Calls.spliced_cons (bG (ha pins s σ H _ I h) fun u s1 ⟨x,H1,I1,r1,q1⟩=>?_)
 exact bG (hr pos pins s1 σ H1 _ I1 q1) fun us s2 ⟨xs,H2,I2,r2,q2⟩=>⟨x::xs,H2,I2,.cons r1 r2,q2⟩
def V5 (t:TA):TE:=fun σ H Q=>t σ H fun xs H1=>xs.length<=sizeLine/\∀ p,H1 p=none->Q (.ref p) (upd H1 p (.tup xs))
def ZD (t:TA):TE:=fun σ H Q=>t σ H fun xs H1=>xs.length<=sizeLine/\∀ p,H1 p=none->Q (.ref p) (upd H1 p (.lst xs))
theorem Li {x1} (h:PA X es t):PE X (.Tuple es x1 pos) (V5 t):=by
 intro pins s σ H Q I hq
 refine wpAny_Tuple_spliced (bG (h pos pins s σ H _ I hq) fun us s1 ⟨xs,H1,I1,r,z,q⟩=>⟨by rw [← r.length]; exact z,?_⟩)
 have hf:H1 s1.heap.objs.size=none:=I1.hok.fresh (aaf _)
 refine ⟨.ref s1.heap.objs.size,upd H1 s1.heap.objs.size (.tup xs),I1.laid (t':=s1.toks) (fun b u e=>aac _ e) (aaf _) ?_,rfl,q _ hf⟩
 exact ⟨z,us,r,⟨_,aau _ rfl,rfl,_,rfl⟩⟩
theorem V6 (h:PA X es t):PE X (.List es pos) (ZD t):=by
 intro pins s σ H Q I hq
 refine wpAny_List_spliced (bG (h pos pins s σ H _ I hq) fun us s1 ⟨xs,H1,I1,r,z,q⟩=>⟨by rw [← r.length]; exact z,?_⟩)
 have hf:H1 s1.heap.objs.size=none:=I1.hok.fresh (aaf _)
 refine ⟨.ref s1.heap.objs.size,upd H1 s1.heap.objs.size (.lst xs),I1.laid (t':=s1.toks) (fun b u e=>aac _ e) (aaf _) ?_,rfl,q _ hf⟩
 exact ⟨z,us,0,r,aau _ rfl⟩
end
abbrev Sp:=List V->Hp->VK->XK->Prop
abbrev vJ:=List Env->Hp->Shared->XK->Value->Shared->Prop
structure yH (P:Program) (w:World) (K:FG) (mg:Str->Option Value) (base:Heap) (A:Around) (outer:List Env) (s:Shared) (H:Hp):Prop where
 frames:A.frames=some outer
 mod:Mod K mg base
 bs:∀ b o,base.get? b=some o->s.heap.get? b=some o/\H b=none
 bsz:base.objs.size<=s.heap.objs.size
 funs:s.heap.FunFrames base outer
 frf:∀ b∈frs outer,H b=none
 hok:ir P w H s.heap
 bare:AllBare s.gens
def CE (outer:List Env) (P:Program) (w:World) (H:Hp) (s:Shared) (Q:VK) (u:Value) (s':Shared):Prop:=
 ∃ v H',s'.os=s.os/\AllBare s'.gens/\Un (frs outer) [] H H' s.heap s'.heap/\ir P w H' s'.heap/\RelV v u/\Q v H'
def CR (CX:vJ) (outer:List Env) (P:Program) (w:World) (H:Hp) (s:Shared) (Q:VK) (E:XK) (r:Result) (s':Shared):Prop:=
 match r with
 | .ok (.ret u)=>CE outer P w H s Q u s'
 | .ok _=>False
 | .error e=>CX outer H s E e s'
structure qt (b:Bool) (P:Program) (w:World) (K:FG) (mg:Str->Option Value) (base:Heap) (CX:vJ) (k:Nat) (f:Addr) (fd:FuncData) (ps:List Str) (sp:Sp):Prop where
 len:∀ vs H Q E,sp vs H Q E->vs.length=ps.length
 run:∀ (A:Around) (outer:List Env) (s:Shared) (H:Hp) (args:Args) (us:List Value) (vs:List V) (Q:VK) (E:XK),fL b k A->yH P w K mg base A outer s H->BindsTo s fd args (ps.zip us)->Vals vs us->sp vs H Q E->
  codeAny (model P w) A (.call (.ref f) args) (CR CX outer P w H s Q E) s
abbrev mD:=qt true
theorem qt.imp {b:Bool} {K:FG} {mg:Str->Option Value} {base:Heap} {CX:vJ} {k:Nat} {f:Addr} {fd:FuncData} {ps:List Str} {sp sp':Sp} (F:qt b P w K mg base CX k f fd ps sp)
 (h:∀ vs H Q E,sp' vs H Q E->sp vs H Q E):qt b P w K mg base CX k f fd ps sp':=
 ⟨fun vs H Q E q=>F.len vs H Q E (h _ _ _ _ q),fun A outer s H args us vs Q E hr he hb hv hs=>F.run A outer s H args us vs Q E hr he hb hv (h _ _ _ _ hs)⟩
theorem yH.make {K:FG} {mg:Str->Option Value} {base:Heap} {outer:List Env} {H:Hp} (e:yH P w K mg base A outer s H) (C:Addr) (us:List Value) (kw:List (Str×Value)):
 yH P w K mg base (A.under (.builtin "type.__call__" ⟨.ref C::us,kw⟩)) outer s H:=⟨by first | exact e.frames | (simpa [Around.under,Code.envs,Code.isFrame,pushEnvs] using e.frames),e.mod,e.bs,e.bsz,e.funs,e.frf,e.hok,e.bare⟩
section
variable {X:Cx} {pins:List (Addr×Obj)} {σ:St} {H:Hp} {s s':Shared}
theorem Inv.env0 (I:Inv X pins σ H s):yH X.prog X.w X.K X.mg X.base X.A X.stack s H:=
 ⟨I.ok.frames,I.ok.mod,I.bs,aaL I.ok.bsz I.sz,I.stack,I.stkFree,I.hok,I.bare⟩
theorem Inv.after {Q:VK} {u:Value} (I:Inv X pins σ H s) (h:CE X.stack X.prog X.w H s Q u s'):EP X pins σ Q u s':=by
 obtain ⟨v,H',os,bare,un,hok,r,q⟩:=h
 obtain ⟨hh,g,d,t,os'⟩:=s'
 obtain rfl:os'=s.os:=os
 exact ⟨v,H',I.call (h':=hh) (g':=g) (d':=d) (t':=t) (ch:=[]) un hok bare (fun b z=>absurd z (by simp)),r,q⟩
end
def JV (sp:Sp) (dvs:List V) (E:XK) (t:TA):TE:=fun σ H Q=>t σ H fun vs H1=>sp (vs++dvs) H1 Q E
def JW (C:Addr) (m:Str) (sp:Sp) (dvs:List V) (E:XK) (ta:TE) (t:TA):TE:=fun σ H Q=>ta σ H fun x H1=>∃ a dx fs,x=.ref a/\H1 a=some (.ins C dx fs)/\fs.lookup m=none/\
 t σ H1 fun vs H2=>sp (x::(vs++dvs)) H2 Q E
def Ro (C:Addr) (sp:Sp) (dvs:List V) (E:XK) (t:TA):TE:=fun σ H Q=>t σ H fun vs H1=>∀ x dx,H1 x=none->H1 dx=none->dx≠x->
 sp (.ref x::(vs++dvs)) (upd (upd H1 dx (.own x)) x (.ins C dx [])) (fun v H2=>v=.non/\Q (.ref x) H2) E
def Binds (K:FG) (fd:FuncData) (ps:List Str) (ds:List Value):Prop:=
 ∀ (s:Shared) (us:List Value),K.In s.heap->(us++ds).length=ps.length->BindsTo s fd ⟨us,[]⟩ (ps.zip (us++ds))
theorem Binds.all {K:FG} {fd:FuncData} {ps:List Str} (h:∀ us:List Value,us.length=ps.length->bindArgs fd ⟨us,[]⟩=pure (ps.zip us)):Binds K fd ps []:=fun s us _ hl=>by
 rw [aat] at hl ⊢
 exact .of_eq (h us hl)
def vV (CX:vJ) (X:Cx) (E:XK):Prop:=∀ (pins:List (Addr×Obj)) (σ:St) (H:Hp) (s:Shared) (e:Value) (s':Shared),Inv X pins σ H s->CX X.stack H s E e s'->X.xe e s'
section
variable {X:Cx} {CX:vJ} {k:Nat} {f C:Addr} {fd:FuncData} {ps:List Str} {sp:Sp} {dvs:List V} {ds:List Value} {E:XK} {x m:Str} {p pos apos:Pos} {e o:Expr} {es:List Expr} {ta:TE} {t:TA}
theorem EY {b:Bool} {σ:St} {H:Hp} {Q:VK} {us:List Value} {vs:List V} (F:qt b X.prog X.w X.K X.mg X.base CX k f fd ps sp) (hr:fL b k X.A) (hb:Binds X.K fd ps ds) (hd:Vals dvs ds) (hx:∀ H s e s',Inv X pins σ H s->CX X.stack H s E e s'->X.xe e s')
 (I:Inv X pins σ H s) (r:Vals vs us) (h:sp (vs++dvs) H Q E):wpAny (model X.prog X.w) X.A (call (.ref f) us) (EP X pins σ Q) X.xe s:=by
 have r2:Vals (vs++dvs) (us++ds):=r.append hd
 have hl:(us++ds).length=ps.length:=by rw [← r2.length]; exact F.len _ _ _ _ h
 refine wpAny_call (codeAny_mono (F.run X.A X.stack s H ⟨us,[]⟩ (us++ds) (vs++dvs) Q E hr I.env0 (hb s us I.kIn hl) r2 h) fun r s' hq=>?_)
 cases r with
 | error e=>exact hx H s e s' I hq
 | ok fl=>
  cases fl with
  | ret u=>exact I.after hq
  | next=>exact False.elim hq
  | brk=>exact False.elim hq
  | cont=>exact False.elim hq
theorem HW {b:Bool} (F:qt b X.prog X.w X.K X.mg X.base CX k f fd ps sp) (hr:fL b k X.A) (hg:Gl X x) (hm:X.mg x=some (.ref f)) (hk:W.keepIn X.K (.ref f)=true) (hb:Binds X.K fd ps ds) (hd:Vals dvs ds) (hx:vV CX X E)
 (ha:PA X (e::es) t) (hdb:(x==("__debug__" : Str))=false:=by decide) (he:starEach (e::es) X.env=(false,eval e X.env)::starEach es X.env:=by rfl) (hpl:(backTo pos (starEach es X.env)).any (·.1)=false:=by rfl):
 PE X (.Call (.Name x p) (e::es) [] pos) (JV sp dvs E t):=by
 intro pins s σ H Q I h
 refine wpAny_Call_Name_kw (Az I hg hm ?_ hdb)
 refine W.callWith_K (h₀:=X.base) I.ok.mod.kin hk (bG (ha pos pins s σ H _ I h) fun us s1 ⟨vs,H1,I1,r,q⟩=>⟨I1.kIn,?_⟩) he hpl
 exact EY F hr hb hd (hx _ _) I1 r q
theorem Tf {pl:Sem Bool} (he:PE X o ta) (c:vU X.K C) (hm:Meth X.K C m f) (F:mD X.prog X.w X.K X.mg X.base CX k f fd ps sp) (hr:kj k X.A) (hb:Binds X.K fd ps ds) (hd:Vals dvs ds) (hx:vV CX X E) (ha:PA X (e::es) t)
 (hst:starEach (e::es) X.env=(false,eval e X.env)::starEach es X.env:=by rfl) (hpl:(backTo pos (starEach es X.env)).any (·.1)=false:=by rfl)
 (ht:eval (.Call (.Attribute o m apos) (e::es) [] pos) X.env=(do
   let ov ← eval o X.env
   standAt apos.atName
   let (f,first) ← holding [ov] (getMethod ov m pl)
   callWith pos f first (backTo pos (starEach (e::es) X.env)) (backToKw pos (keywordEach [] X.env))):=by rfl):
 PE X (.Call (.Attribute o m apos) (e::es) [] pos) (JW C m sp dvs E ta t):=by
 intro pins s σ H Q I h
 refine ab4 (pl:=pl) (bG (he pins s σ H _ I h) fun u s1 ⟨x,H1,I1,rx,a,dx,fs,ex,ea,l,q⟩=>?_) ht
 subst ex
 obtain rfl:u=Value.ref a:=rx
 refine uK I1 ea c hm l ?_
 refine W.callWith_K (first:=[.ref a]) (h₀:=X.base) I.ok.mod.kin hm.kp (bG (ha pos pins s1 σ H1 _ I1 q) fun us s2 ⟨vs,H2,I2,r,q2⟩=>⟨I2.kIn,?_⟩) hst hpl
 exact EY (us:=.ref a::us) (vs:=.ref a::vs) F hr hb hd (hx _ _) I2 (.cons rfl r) q2
theorem O7 {pl:Sem Bool} (he:PE X o ta) (c:vU X.K C) (hm:Meth X.K C m f) (F:mD X.prog X.w X.K X.mg X.base CX k f fd ps sp) (hr:kj k X.A) (hb:Binds X.K fd ps ds) (hd:Vals dvs ds) (hx:vV CX X E)
 (ht:eval (.Call (.Attribute o m apos) [] [] pos) X.env=(do
   let ov ← eval o X.env
   standAt apos.atName
   let (f,first) ← holding [ov] (getMethod ov m pl)
   callWith pos f first (backTo pos (starEach [] X.env)) (backToKw pos (keywordEach [] X.env))):=by rfl):
 PE X (.Call (.Attribute o m apos) [] [] pos) (JW C m sp dvs E ta Ez):=by
 intro pins s σ H Q I h
 refine ab4 (pl:=pl) (bG (he pins s σ H _ I h) fun u s1 ⟨x,H1,I1,rx,a,dx,fs,ex,ea,l,q⟩=>?_) ht
 subst ex
 obtain rfl:u=Value.ref a:=rx
 refine uK I1 ea c hm l ?_
 exact W.callWith_K0 (first:=[.ref a]) I1.kIn hm.kp (EY (us:=[.ref a]) (vs:=[.ref a]) F hr hb hd (hx _ _) I1 (.cons rfl .nil) q)
structure Mk (K:FG) (C f:Addr):Prop where
 makes:W.makesIn K C=true
 init:W.findIn K (.ref C) "__init__" = some (some (.ref f))
 fn:W.isFn K (.ref f)=true
 kp:W.keepIn K (.ref C)=true
theorem O8 {σ:St} {H:Hp} {Q:VK} {us:List Value} {vs:List V} (M:Mk X.K C f) (F:mD X.prog X.w X.K X.mg X.base CX k f fd ps sp) (hr:kj (k+1) X.A) (hb:Binds X.K fd ps ds) (hd:Vals dvs ds)
 (hx:∀ H s e s',Inv X pins σ H s->CX X.stack H s E e s'->X.xe e s') (I:Inv X pins σ H s) (r:Vals vs us)
 (h:∀ x dx,H x=none->H dx=none->dx≠x->sp (.ref x::(vs++dvs)) (upd (upd H dx (.own x)) x (.ins C dx [])) (fun v H2=>v=.non/\Q (.ref x) H2) E):
 wpAny (model X.prog X.w) X.A (call (.ref C) us) (EP X pins σ Q) X.xe s:=by
 have hq:=h (s.heap.objs.size+1) s.heap.objs.size (I.hok.fresh (abE _)) (I.hok.fresh (aaf _)) (aaG (abb _))
 have I2:=Inv.made (C:=C) I
 have r2:Vals (V.ref (s.heap.objs.size+1)::(vs++dvs)) (Value.ref (s.heap.objs.size+1)::(us++ds)):=.cons rfl (r.append hd)
 have hl:(Value.ref (s.heap.objs.size+1)::us++ds).length=ps.length:=by
  have e:=r2.length
  rw [F.len _ _ _ _ hq] at e
  exact e.symm
 refine wpAny_call (O5 (f:=f) I.kIn M.makes M.init (beq_iff_eq.mp M.fn) (codeAny_mono (F.run _ X.stack _ _ ⟨Value.ref (s.heap.objs.size+1)::us,[]⟩ (Value.ref (s.heap.objs.size+1)::(us++ds)) _ _ E (hr.make C us [])
  (I2.env0.make C us []) (hb _ (Value.ref (s.heap.objs.size+1)::us) I2.kIn hl) r2 hq) fun r s' hq'=>?_))
 cases r with
 | error e=>exact hx _ _ e s' I2 hq'
 | ok fl=>
  cases fl with
  | ret u=>
   obtain ⟨v,H',I3,rv,ev,q3⟩:=I2.after hq'
   subst ev
   exact ⟨rv,⟨V.ref (s.heap.objs.size+1),H',I3,rfl,q3⟩⟩
  | next=>exact False.elim hq'
  | brk=>exact False.elim hq'
  | cont=>exact False.elim hq'
theorem Tg (M:Mk X.K C f) (F:mD X.prog X.w X.K X.mg X.base CX k f fd ps sp) (hr:kj (k+1) X.A) (hg:Gl X x) (hm:X.mg x=some (.ref C)) (hb:Binds X.K fd ps ds) (hd:Vals dvs ds) (hx:vV CX X E)
 (ha:PA X (e::es) t) (hdb:(x==("__debug__" : Str))=false:=by decide) (he:starEach (e::es) X.env=(false,eval e X.env)::starEach es X.env:=by rfl) (hpl:(backTo pos (starEach es X.env)).any (·.1)=false:=by rfl):
 PE X (.Call (.Name x p) (e::es) [] pos) (Ro C sp dvs E t):=by
 intro pins s σ H Q I h
 refine wpAny_Call_Name_kw (Az I hg hm ?_ hdb)
 refine W.callWith_K (h₀:=X.base) I.ok.mod.kin M.kp (bG (ha pos pins s σ H _ I h) fun us s1 ⟨vs,H1,I1,r,q⟩=>⟨I1.kIn,?_⟩) he hpl
 exact O8 M F hr hb hd (hx _ _) I1 r q
end
section
variable {X:Cx} {CX:vJ} {k:Nat} {f C:Addr} {fd:FuncData} {ps ks:List Str} {sp:Sp} {E:XK} {x m:Str} {p pos apos kpos:Pos} {e o:Expr} {es:List Expr} {kws:List Keyword} {te ta:TE} {t tk:TA} {nm:Option Str}
variable {g:List Value->List Value->List Value} {gV:List V->List V->List V}
end
structure aU (N P:List Str) (sc:Scope):Prop where
 kind:sc.kind=.function
 co:sc.isCoroutine=false
 gen:sc.isGenerator=false
 nd:N.Nodup
 pre:N.take P.length=P
 par:∀ x∈P,sc.names.lookup x=some .local\/sc.names.lookup x=some .cell
 nofree:∀ y∈sc.names,y.2≠.free
theorem CG {kindOf:Str->Option NameKind} {x:Str}:∀ {binds:List (Str×Value)} {m:Str->Option Value},(∀ v,(x,v)∉binds)->bindL kindOf binds m x=m x
 | [],_,_=>rfl
 | (n,v)::r,m,h=>by
  unfold bindL
  rw [CG fun w hw=>h w (aag _ hw)]
  split
  . have:x≠n:=by rintro rfl; exact h v aab
    simp [this]
  . rfl
theorem CJ {kindOf:Str->Option NameKind} {x:Str}:∀ {binds:List (Str×Value)} {m:Str->Option Value},(∀ v,(x,v)∉binds)->bindC kindOf binds m x=m x
 | [],_,_=>rfl
 | (n,v)::r,m,h=>by
  unfold bindC
  rw [CJ fun w hw=>h w (aag _ hw)]
  split
  . rfl
  . have:x≠n:=by rintro rfl; exact h v aab
    simp [this]
theorem CK {kindOf:Str->Option NameKind} {x:Str} {v:Value}:∀ {P:List Str} {vs:List Value} {i:Nat} {m:Str->Option Value},P.Nodup->P[i]?=some x->vs[i]?=some v->kindOf x=some .local->
 bindL kindOf (P.zip vs) m x=some v
 | [],_,_,_,_,h,_,_=>by simp at h
 | _::_,[],_,_,_,_,h,_=>by simp at h
 | p::P,w::vs,0,m,nd,h1,h2,hk=>by
  simp at h1 h2; subst h1; subst h2
  show bindL kindOf ((p,w)::P.zip vs) m p=_
  unfold bindL
  rw [CG fun v hv=>(aaM.mp nd).1 (abe hv).1,ab7 hk]
  simp
 | p::P,w::vs,i+1,m,nd,h1,h2,hk=>by
  show bindL kindOf ((p,w)::P.zip vs) m x=_
  unfold bindL
  exact CK (i:=i) (aaM.mp nd).2 (by simpa using h1) (by simpa using h2) hk
theorem CP {kindOf:Str->Option NameKind} {x:Str} {v:Value}:∀ {P:List Str} {vs:List Value} {i:Nat} {m:Str->Option Value},P.Nodup->P[i]?=some x->vs[i]?=some v->kindOf x≠some .local->
 bindC kindOf (P.zip vs) m x=some v
 | [],_,_,_,_,h,_,_=>by simp at h
 | _::_,[],_,_,_,_,h,_=>by simp at h
 | p::P,w::vs,0,m,nd,h1,h2,hk=>by
  simp at h1 h2; subst h1; subst h2
  show bindC kindOf ((p,w)::P.zip vs) m p=_
  unfold bindC
  rw [CJ fun v hv=>(aaM.mp nd).1 (abe hv).1,ab8 hk]
  simp
 | p::P,w::vs,i+1,m,nd,h1,h2,hk=>by
  show bindC kindOf ((p,w)::P.zip vs) m x=_
  unfold bindC
  exact CP (i:=i) (aaM.mp nd).2 (by simpa using h1) (by simpa using h2) hk
def start (N:List Str) (vs:List V):St:=vs.map some++List.replicate (N.length-vs.length) none
def sG (b:Bool) (CX:vJ) (P:Program) (w:World) (K:FG) (mg:Str->Option Value) (base:Heap) (N:List Str) (qual:Str) (scope:Scope) (f:Addr) (cd:Value) (A:Around) (outer:List Env) (s:Shared) (H:Hp) (E:XK):Cx where
 prog:=P
 w:=w
 K:=K
 mg:=mg
 base:=base
 A:=A.deeper (envOfC qual scope s.heap.objs.size f cd)
 N:=N
 s₀:=s
 H0:=H
 env:=envOfC qual scope s.heap.objs.size f cd
 outer:=outer
 stack:=envOfC qual scope s.heap.objs.size f cd::outer
 ex:=[]
 calm:=b
 fn:=fun _=>true
 pn:=[]
 xe:=fun e s'=>wpAny (model P w) (A.deeper (envOfC qual scope s.heap.objs.size f cd)) (leaving (envOfC qual scope s.heap.objs.size f cd) e) (fun _ s''=>CX outer H s E e s'') (fun e' s''=>CX outer H s E e' s'') s'
abbrev O9:=sG true
theorem Fb {sc:Scope} {n:Nat} {x:Str} (h:sc.names.lookup x=some .cell):∃ c,(cellsFrom n sc.names []).lookup x=some c:=by
 have q:=abY sc.names n [] (.inl h)
 exact abB.mp q
theorem Lj {cm:Bool} {CX:vJ} {K:FG} {mg:Str->Option Value} {base:Heap} {N ps:List Str} {qual:Str} {scope:Scope} {f:Addr} {cd:Value} {outer:List Env} {s s1:Shared} {H:Hp} {E:XK} {us:List Value} {vs:List V}
 (S:aU N ps scope) (hd:cm=true->A.handled=none) (e0:yH P w K mg base A outer s H) (hl:vs.length=ps.length) (r:Vals vs us)
 (x:InCallC s s.heap.objs.size (bindL (envOfC qual scope s.heap.objs.size f cd).kindOf (ps.zip us) fun _=>none) (cellsFrom (s.heap.objs.size+1) scope.names []) (bindC (envOfC qual scope s.heap.objs.size f cd).kindOf (ps.zip us) fun _=>none) s1):
 Inv (sG cm CX P w K mg base N qual scope f cd A outer s H E) [] (start N vs) H s1:=by
 have hpl:ps.length<=N.length:=by have:=congrArg List.length S.pre; rw [abZ] at this; omega
 obtain ⟨h1,tk,rfl,hk⟩:=x.done
 have noA:∀ b:Addr,b∉(sG cm CX P w K mg base N qual scope f cd A outer s H E).ex:=fun b z=>absurd (show b∈([]:List Addr) from z) (by simp)
 refine ⟨⟨e0.mod,S.kind,rfl,rfl,aaf _,fun y z c h1 h2=>?_,fun y hy=>?_,fun y c _ h=>?_,hd,Around.frames_deeper e0.frames,.inr ⟨rfl,rfl⟩,fun b z=>absurd z (noA b),e0.bs,e0.bsz,fun b _ _=>noA b,fun b z=>absurd z (noA b),e0.funs,e0.frf⟩,
  rfl,e0.bare,Un.kept hk,⟨_,x.toInCall.ns,fun i y v h1 h2 h3=>?_⟩,fun y c h=>⟨_,x.cell y c h⟩,e0.hok.fresh (aaf _),fun y c h=>?_,fun p hp=>absurd (show p∈([]:List (Addr×Obj)) from hp) (by simp),e0.hok.kept hk,?_⟩
 . exact name_of_addr x.apart (abq h1) (abq h2)
 . have hy:scope.names.lookup y=some .cell\/scope.names.lookup y=some .free:=hy
   rcases hy with hy | hy
   . exact Fb hy
   . exact absurd rfl (S.nofree _ (abq hy))
 . exact abA (x.above y c (abq h))
 . have hi:i<vs.length:=by
    unfold start at h2
    by_cases hi:i<vs.length
    . exact hi
    . rw [aas (by simpa using hi)] at h2
      rw [List.getElem?_replicate] at h2
      split at h2<;>cases h2
   have ha:vs[i]?=some v:=by
    unfold start at h2
    rw [aaI (by simpa using hi),aaN] at h2
    cases e:vs[i]? with
    | none=>rw [e] at h2; cases h2
    | some a=>rw [e] at h2; cases h2; rfl
   obtain ⟨u,hu,rv⟩:=r.get ha
   have hp:ps[i]?=some y:=by
    rw [← S.pre,List.getElem?_take_of_lt (by omega)]; exact h1
   have ndP:ps.Nodup:=by rw [← S.pre]; exact S.nd.sublist (List.take_sublist _ _)
   refine ⟨u,rv,?_⟩
   rcases S.par y (aa9 hp) with k | k
   . exact .inl ⟨k,CK ndP hp hu k⟩
   . obtain ⟨c,e⟩:=Fb (n:=s.heap.objs.size+1) k
     refine .inr ⟨.inl k,c,e,?_⟩
     have q:=x.cell y c e
     rw [CP ndP hp hu (by show scope.names.lookup y≠_; rw [k]; decide)] at q
     exact q
 . exact e0.hok.fresh (abA (x.above y c (abq h)))
 . unfold start
   show _=N.length
   rw [aai,aad,List.length_replicate]
   omega
theorem Yp {b:Bool} {CX:vJ} {K:FG} {mg:Str->Option Value} {base:Heap} {k:Nat} {f:Addr} {name qual:Str} {params:Arguments} {body:List Stmt} {scope:Scope} {dV kV doc pm cdv ct oc:Value} {an od:Option Addr}
 {osl:Array (Option Value)} {N ps:List Str} {sp:Sp} (lk:K.lookup f=some ⟨oc,od,.func (W.fnOf name qual params body scope dV kV doc pm an cdv ct),osl⟩) (hcd:W.codeIn K cdv qual=true) (S:aU N ps scope)
 (len:∀ vs H Q E,sp vs H Q E->vs.length=ps.length)
 (hbody:∀ (A:Around) (outer:List Env) (s:Shared) (H:Hp) (vs:List V) (Q:VK) (E:XK),fL b k (A.deeper (envOfC qual scope s.heap.objs.size f cdv))->sp vs H Q E->
   ∃ t,iu (sG b CX P w K mg base N qual scope f cdv A outer s H E) body t/\t { nx:=fun _ H'=>Q .non H',rt:=Q } (start N vs) H):
 qt b P w K mg base CX (k+1) f (W.fnOf name qual params body scope dV kV doc pm an cdv ct) ps sp:=by
 refine ⟨len,fun A outer s H args us vs Q E hr e0 hb r hsp=>?_⟩
 have hl:=len _ _ _ _ hsp
 have KX:K.In s.heap:=e0.mod.kin.keeps fun b o e=>(e0.bs b o e).1
 have lim:s.heap.NoLimit:=e0.mod.nolimit.keeps fun b o e=>(e0.bs b o e).1
 have hkind:∀ y∈ps.zip us,scope.names.lookup y.1=some .local\/(scope.names.lookup y.1=some .cell/\((cellsFrom (s.heap.objs.size+1) scope.names []).lookup y.1).isSome=true):=fun ⟨n,v⟩ hy=>by
  rcases S.par n (abe hy).1 with q | q
  . exact .inl q
  . exact .inr ⟨q,abY _ _ _ (.inl q)⟩
 refine codeAny_call_function hr.depth (KX _ _ lk) rfl S.co S.gen rfl (W.codeRec_of KX hcd) (hb _ _ _ _ ?_)
 refine wpAny_newFunctionEnv_cells S.kind hkind fun env he s1 x=>?_
 subst he
 refine ⟨lim.keeps x.toInCall.keep,codeAny_func ?_⟩
 obtain ⟨t,ht,hq⟩:=hbody A outer s H vs Q E (hr.deeper _) hsp
 have I:Inv (sG b CX P w K mg base N qual scope f cdv A outer s H E) [] (start N vs) H s1:=Lj S hr.hd e0 hl r x
 refine wpAny_mono (ht [] s1 (start N vs) H _ I hq) (fun fl s' hs=>?_) fun e s' hs=>hs
 have fin:∀ {σ':St} {H':Hp} {v:V} {u:Value},Inv (sG b CX P w K mg base N qual scope f cdv A outer s H E) [] σ' H' s'->RelV v u->Q v H'->CE outer P w H s Q u s':=
  fun {σ' H' v u} J rv q=>⟨v,H',J.os,J.bare,J.base,J.hok,rv,q⟩
 cases fl with
 | ret u=>
  obtain ⟨v,σ',H',J,rv,q⟩:=hs
  exact fin J rv q
 | next=>
  obtain ⟨σ',H',J,q⟩:=hs
  exact fin (v:=V.non) (u:=Value.none) J rfl q
 | brk=>
  obtain ⟨_,_,_,q⟩:=hs
  exact False.elim q
 | cont=>
  obtain ⟨_,_,_,q⟩:=hs
  exact False.elim q
section
variable {X:Cx} {x:Str} {p pos:Pos} {e:Expr} {es:List Expr} {t:TA} {id T:String} {r:List V->Hp->VK->Prop}
def CQ (r:List V->Hp->VK->Prop) (t:TA):TE:=fun σ H Q=>t σ H fun vs H1=>r vs H1 Q
theorem cJ (hc:oU X (.builtin id) r) (hg:Gl X x) (hm:X.mg x=none) (hv:bootBuiltins x=some (.builtin id)) (ha:PA X (e::es) t) (hn:x ≠ "__name__" := by decide) (hdb:(x==("__debug__" : Str))=false:=by decide)
 (he:starEach (e::es) X.env=(false,eval e X.env)::starEach es X.env:=by rfl) (hpl:(backTo pos (starEach es X.env)).any (·.1)=false:=by rfl):PE X (.Call (.Name x p) (e::es) [] pos) (CQ r t):=by
 intro pins s σ H Q I h
 refine wpAny_Call_Name_kw (qU I hg hm hv ?_ hn hdb)
 exact PyProof.Rows.callWith_builtin1 (bG (ha pos pins s σ H _ I h) fun us s1 ⟨vs,H1,I1,r1,q1⟩=>hc pins s1 σ H1 vs us Q I1 r1 q1) he hpl
theorem pJ (hc:oU X (.type T) r) (hg:Gl X x) (hm:X.mg x=none) (hv:bootBuiltins x=some (.type T)) (ha:PA X (e::es) t) (hn:x ≠ "__name__" := by decide) (hdb:(x==("__debug__" : Str))=false:=by decide)
 (he:starEach (e::es) X.env=(false,eval e X.env)::starEach es X.env:=by rfl) (hpl:(backTo pos (starEach es X.env)).any (·.1)=false:=by rfl):PE X (.Call (.Name x p) (e::es) [] pos) (CQ r t):=by
 intro pins s σ H Q I h
 refine wpAny_Call_Name_kw (qU I hg hm hv ?_ hn hdb)
 exact PyProof.Rows.callWith_type1 (bG (ha pos pins s σ H _ I h) fun us s1 ⟨vs,H1,I1,r1,q1⟩=>hc pins s1 σ H1 vs us Q I1 r1 q1) he hpl
end
end L2
namespace HT
open PySem PyProof.Rows
section
open PySem.SeqAt
open PySem.AutoSeq1 (wpAny_loadPart')
open PySem.MeetsSeq PySem.MeetsSeq2 PySem.MeetsSeq3
end
section
variable {prog:Program} {w:World} {A:Around} {E:Value->Shared->Prop} {s:Shared}
theorem cat_tup {t b:Addr} {vs ws:List Value} {Q:Value->Shared->Prop} (ht:IsTup s.heap t vs.toArray) (hb:IsTup s.heap b ws.toArray) (hv:vs≠[])
 (h1:ws=[]->Q (.ref t) s) (h2:ws≠[]->Q (.ref s.heap.objs.size) { s with heap:=s.heap.push { cls:=.type "tuple",data:=.seq (vs++ws).toArray } })
 (hsz:vs.length+ws.length<=sizeLine):wpAny (model prog w) A (binaryOp .Add (.ref t) (.ref b)) Q E s:=by
 obtain ⟨⟨cls,dd,data,sl⟩,ho,hc,n,hd⟩:=id ht
 obtain ⟨⟨cls2,dd2,data2,sl2⟩,ho2,hc2,n2,hd2⟩:=id hb
 simp only at hc hd hc2 hd2
 subst hc hd hc2 hd2
 have e:vs.toArray++ws.toArray=(vs++ws).toArray:=by simp
 by_cases hw:ws=[]
 . exact concat_meets ⟨_,ho,rfl⟩ ⟨_,ho2,rfl⟩ noFill_tuple_add seq_tuple_add F.slot_tuple_add F.entry_tuple_add (F.args_tuple_add_2 _ _)
    (tuple_addW1 t b vs.toArray ws.toArray n n2 dd dd2 sl sl2 (by simpa using hv) (by simp [hw])) ⟨ho,ho2,h1 hw⟩
 . refine concat_meets ⟨_,ho,rfl⟩ ⟨_,ho2,rfl⟩ noFill_tuple_add seq_tuple_add F.slot_tuple_add F.entry_tuple_add (F.args_tuple_add_2 _ _)
    (tuple_addW2 t b vs.toArray ws.toArray n n2 dd dd2 sl sl2 (by simpa using hv) (by simpa using hw) (by rw [aar,aar]; exact hsz)) ⟨ho,ho2,?_⟩
   rw [e]
   exact h2 hw
def sIx (n d:Nat):Option Int->Nat
 | none=>d
 | some v=>if v<0 then (v+(n:Int)).toNat else min v.toNat n
theorem V7 (n d:Nat) (hd:d<=n) (o:Option Int):sIx n d o<=n:=by
 cases o with
 | none=>exact hd
 | some v=>
  show (if v<0 then (v+(n:Int)).toNat else min v.toNat n)<=n
  by_cases hv:v<0
  . rw [ab7 hv]; omega
  . rw [ab8 hv]; exact Nat.min_le_right _ _
theorem HX (v:Int) (n d:Nat):(if v<0 then max (v+(n:Int)) 0 else min v (n:Int))=((sIx n d (some v):Nat):Int):=by
 show (if v<0 then max (v+(n:Int)) 0 else min v (n:Int))=(((if v<0 then (v+(n:Int)).toNat else min v.toNat n):Nat):Int)
 by_cases hv:v<0
 . simp only [ab7 hv]; omega
 . simp only [ab8 hv]; omega
theorem JX (lo hi:Option Int) (n:Nat):Builtin.Slice.sliceAdjust lo hi 1 (n:Int)=(((sIx n 0 lo:Nat):Int),((sIx n n hi:Nat):Int)):=by
 have h1:¬ ((1:Int)<0):=by omega
 unfold Builtin.Slice.sliceAdjust
 simp only [h1,if_false]
 refine Prod.ext ?_ ?_
 . cases lo with
   | none=>rfl
   | some v=>exact HX v n 0
 . cases hi with
   | none=>rfl
   | some v=>exact HX v n n
theorem JZ (i j:Nat):Builtin.Slice.slicePlaces (i:Int) (j:Int) 1=j-i:=by
 unfold Builtin.Slice.slicePlaces
 have h1:(1:Int)>0:=by omega
 simp only [h1,if_true,Int.ediv_one]
 split<;>omega
theorem zr {v:Value} {o:Option Int} {Q:Option Int->Shared->Prop} (p:IsPart v o) (h:Q o s):wpAny (model prog w) A (Builtin.Slice.slicePartIndex v) Q E s:=by
 cases p with
 | none=>exact slicePart_none h
 | int i t=>exact slicePart_int h
theorem yI {sl:Addr} {vl vu:Value} {lo hi:Option Int} {n:Nat} {Q:Int×Int×Nat->Shared->Prop} (hs:s.heap.IsSliceOf sl vl vu .none) (pl:IsPart vl lo) (pu:IsPart vu hi)
 (h:Q (((sIx n 0 lo:Nat):Int),1,sIx n n hi-sIx n 0 lo) s):wpAny (model prog w) A (Builtin.Slice.sliceApplied (.ref sl) (pure (n:Int))) Q E s:=by
 obtain ⟨os,hos,hcs,hds⟩:=id hs
 unfold Builtin.Slice.sliceApplied Builtin.Slice.sliceFields
 refine ab6 (ab6 (wpAny_field hos hds (x:=vl) rfl (ab6 (wpAny_field hos hds (x:=vu) rfl (ab6 (wpAny_field hos hds (x:=.none) rfl (ab9 ?_)))))))
 refine ab6 (slicePart_none ?_)
 show wpAny _ _ (if ((1:Int)==0)=true then _ else _) _ _ s
 rw [ab8 (by decide)]
 refine ab6 (zr pl (ab6 (zr pu (ab6 (ab9 ?_)))))
 show wpAny _ _ (match Builtin.Slice.sliceAdjust lo hi 1 (n:Int) with | (lo,hi)=>pure (lo,(1:Int),Builtin.Slice.slicePlaces lo hi 1)) _ _ s
 rw [JX lo hi n]
 show wpAny _ _ (pure (((sIx n 0 lo:Nat):Int),(1:Int),Builtin.Slice.slicePlaces ((sIx n 0 lo:Nat):Int) ((sIx n n hi:Nat):Int) 1)) _ _ s
 rw [JZ]
 exact ab9 h
theorem Pa (xs:Array Value) (i k:Nat):((List.range k).filterMap fun (m:Nat)=>xs[((i:Int)+(m:Int)*1).toNat]?).toArray=((xs.toList.drop i).take k).toArray:=by
 have e:(fun (m:Nat)=>xs[((i:Int)+(m:Int)*1).toNat]?)=fun m=>xs[i+m]?:=by
  funext m
  have:((i:Int)+(m:Int)*1).toNat=i+m:=by omega
  rw [this]
 rw [e]
 have:=pick_run xs i k
 rw [List.filterMap_map] at this
 have e2:((fun x=>xs[x]?) ∘ fun x=>i+x)=fun m=>xs[i+m]?:=rfl
 rw [e2] at this
 rw [this]
theorem getItem_tuple_cut {t sl:Addr} {items:Array Value} {vl vu:Value} {lo hi:Option Int} {Q:Value->Shared->Prop} (ht:IsTup s.heap t items) (hs:s.heap.IsSliceOf sl vl vu .none) (pl:IsPart vl lo) (pu:IsPart vu hi)
 (hw:¬ (sIx items.size 0 lo=0/\sIx items.size items.size hi=items.size))
 (h:Q (.ref s.heap.objs.size) { s with heap:=s.heap.push { cls:=.type "tuple",data:=.seq ((items.toList.drop (sIx items.size 0 lo)).take (sIx items.size items.size hi-sIx items.size 0 lo)).toArray } })
 (hsz:items.size<=sizeLine):wpAny (model prog w) A (getItem (.ref t) (.ref sl)) Q E s:=by
 have htake:sizeOk (.seq ((items.toList.drop (sIx items.size 0 lo)).take (sIx items.size items.size hi-sIx items.size 0 lo)).toArray):=by
  show ((items.toList.drop (sIx items.size 0 lo)).take (sIx items.size items.size hi-sIx items.size 0 lo)).toArray.size<=sizeLine
  rw [aar,abZ,List.length_drop,abP]
  omega
 have hj:sIx items.size items.size hi<=items.size:=V7 _ _ (aaf _) hi
 obtain ⟨os,hos,hcs,hds⟩:=id hs
 have hTs:s.TypeIs (.ref sl) "slice" := ⟨os,hos,hcs⟩
 unfold getItem
 try with_reducible refine wpAny_holding ?_
 first | refine ab6 (ab9 ?_) | skip
 refine ab6 (wpAny_sequenceKey ht.typeIs (by decide) ?_)
 refine ab6 (wpAny_callSpecial?_slot (name:=Str.ofString "__getitem__") ht.typeIs PyProof.Rows.slot_tuple_getitem
  (wpAny_call_entry PyProof.Rows.slot_tuple_getitem ht.typeIs entry_tuple_getitem ?_ (args_tuple_getitem _ _)))
 show wpAny _ _ (Builtin.Tuple.tupleItemsOf (.ref t) >>= _) _ _ s
 refine ab6 (tupleItemsOf_ ht ?_)
 refine ab6 (wpAny_typeOf hTs ?_)
 rw [ab7 (by decide)]
 refine ab6 (yI hs pl pu ?_)
 have hno:¬ ((((sIx items.size 0 lo:Nat):Int)==0&&(1:Int)==1&&(sIx items.size items.size hi-sIx items.size 0 lo)==items.size)=true):=by
  intro q
  rw [ab0,ab0] at q
  have q1:((sIx items.size 0 lo:Nat):Int)=0:=eq_of_beq q.1.1
  have q2:sIx items.size items.size hi-sIx items.size 0 lo=items.size:=eq_of_beq q.2
  exact hw ⟨by omega,by omega⟩
 show wpAny _ _ (if (((sIx items.size 0 lo:Nat):Int)==0&&(1:Int)==1&&(sIx items.size items.size hi-sIx items.size 0 lo)==items.size)=true then _ else _) _ _ s
 rw [ab8 hno,Pa]
 first
  | exact ab6 (m:=Builtin.Tuple.tupleExact _) (wpAny_newObj_type (ab9 ⟨_,rfl,ab9 h⟩) htake)
  | exact ab6 (m:=Builtin.Tuple.tupleExact _) (wpAny_newObj_type (ab6 (ab9 (ab9 ⟨_,rfl,ab9 h⟩))) htake)
  | exact ab6 (ab6 (m:=Builtin.Tuple.tupleExact _) (wpAny_newObj_type (ab9 (ab9 ⟨_,rfl,ab9 h⟩)) htake))
  | exact ab6 (ab6 (m:=Builtin.Tuple.tupleExact _) (wpAny_newObj_type (ab9 ⟨_,rfl,ab9 h⟩) htake))
end
end HT
namespace L2
open PySem PySem.Spec PyProof.Rows
variable {pins:List (Addr×Obj)} {E:Value->Shared->Prop} {s:Shared} {A:Around} {w:World} {P:Program}
abbrev TO:=St->Hp->(Option Int->Hp->Prop)->Prop
def PO (X:Cx) (e:Option Expr) (t:TO):Prop:=
 ∀ (pins:List (Addr×Obj)) (s:Shared) (σ:St) (H:Hp) (Q:Option Int->Hp->Prop),Inv X pins σ H s->t σ H Q->
  wpAny (model X.prog X.w) X.A (evalPart e X.env) (fun u s'=>∃ o H',Inv X pins σ H' s'/\IsPart u o/\Q o H') X.xe s
def Th:TO:=fun _ H Q=>Q none H
def Yq (t:TE):TO:=fun σ H Q=>t σ H fun x H1=>∃ i,x=.int i/\Q (some i) H1
section
variable {X:Cx} {e:Expr} {te:TE} {lo hi:Option Expr} {tl th:TO} {pos p2:Pos}
theorem Ti:PO X none Th:=by
 intro pins s σ H Q I h
 rw [evalPart_none]
 exact ab9 ⟨none,H,I,.none,h⟩
theorem Tj (h:PE X e te):PO X (some e) (Yq te):=by
 intro pins s σ H Q I hw
 rw [evalPart_some]
 refine bG (h pins s σ H _ I hw) fun u s1 ⟨x,H1,I1,r1,q1⟩=>?_
 obtain ⟨i,rfl,q⟩:=q1
 obtain ⟨t,rfl⟩:=r1
 exact ⟨some i,H1,I1,.int i t,q⟩
def V8 (X:Cx) (r:V->Option Int->Option Int->Hp->VK->Prop):Prop:=
 ∀ (pins:List (Addr×Obj)) (s:Shared) (σ:St) (H:Hp) (x:V) (v vl vu:Value) (lo hi:Option Int) (sl:Addr) (Q:VK),Inv X pins σ H s->RelV x v->s.heap.IsSliceOf sl vl vu .none->IsPart vl lo->IsPart vu hi->r x lo hi H Q->
  ∃ T id,typeLookup (.type T) "__getitem__" = pure (some (.builtin id))/\s.TypeIs v T/\wpAny (model X.prog X.w) X.A (getItem v (.ref sl)) (EP X pins σ Q) X.xe s
def Z9 (r:V->Option Int->Option Int->Hp->VK->Prop) (te:TE) (tl th:TO):TE:=fun σ H Q=>te σ H fun x H1=>tl σ H1 fun l H2=>th σ H2 fun u H3=>r x l u H3 Q
theorem Pb {r:V->Option Int->Option Int->Hp->VK->Prop} (hr:V8 X r) (he:PE X e te) (hl:PO X lo tl) (hu:PO X hi th):PE X (.Subscript e (.Slice lo hi none p2) pos) (Z9 r te tl th):=by
 intro pins s σ H Q I h
 refine Subscript_ (bG (he pins s σ H _ I h) fun v s1 ⟨x,H1,I1,r1,q1⟩=>?_)
 refine wpAny_Slice (bG (hl pins s1 σ H1 _ I1 q1) fun vl s2 ⟨l,H2,I2,pl,q2⟩=>bG (hu pins s2 σ H2 _ I2 q2) fun vu s3 ⟨u,H3,I3,pu,q3⟩=>?_)
 rw [evalPart_none]
 refine ab9 ?_
 have I4:Inv X pins σ H3 { s3 with heap:=s3.heap.push { cls:=.type "slice",data:=.fields #[vl,vu,.none] } }:=I3.kept (t':=s3.toks) fun b ob q=>aac _ q
 obtain ⟨T,id,hT,ht,hg⟩:=hr pins { s3 with heap:=s3.heap.push { cls:=.type "slice",data:=.fields #[vl,vu,.none] } } σ H3 x v vl vu l u s3.heap.objs.size Q I4 r1 (Heap.IsSliceOf.new ..) pl pu q3
 show wpAny (model X.prog X.w) X.A (subscriptTail e (.Slice lo hi none p2) v (.ref s3.heap.objs.size)) (EP X pins σ Q) X.xe { s3 with heap:=s3.heap.push { cls:=.type "slice",data:=.fields #[vl,vu,.none] } }
 exact tail_any (ops:=[.ref s3.heap.objs.size,v]) ht hT hg (by with_unfolding_all rfl)
def tL (xs:List V) (lo hi:Option Int):List V:=(xs.drop (HT.sIx xs.length 0 lo)).take (HT.sIx xs.length xs.length hi-HT.sIx xs.length 0 lo)
theorem ym (xs:List V) (lo hi:Option Int):(tL xs lo hi).length<=xs.length:=by
 unfold tL
 rw [abZ,List.length_drop]
 omega
def ZF (K:FG):V->Option Int->Option Int->Hp->VK->Prop:=fun x lo hi H Q=>∃ a xs,x=.ref a/\cI K H a xs/\
 ¬ (HT.sIx xs.length 0 lo=0/\HT.sIx xs.length xs.length hi=xs.length)/\∀ p,H p=none->Q (.ref p) (upd H p (.tup (tL xs lo hi)))
theorem V9:V8 X (ZF X.K):=by
 intro pins s σ H x v vl vu lo hi sl Q I rx hs pl pu h
 obtain ⟨a,xs,rfl,hx,hw,q⟩:=h
 cases rx
 obtain ⟨its,r,ht,hz⟩:=I.tuple hx
 have hlen:its.toArray.size=xs.length:=by rw [aar]; exact r.length.symm
 refine ⟨"tuple",_,PyProof.Rows.slot_tuple_getitem.lookup,ht.typeIs,?_⟩
 refine HT.getItem_tuple_cut ht hs pl pu (by rw [hlen]; exact hw) ?_ (by rw [hlen]; exact hz)
 rw [hlen]
 refine ⟨.ref s.heap.objs.size,_,I.laid (t':=s.toks) (o:=.tup (tL xs lo hi)) (fun b ob q=>aac _ q) (aaf _) ?_,rfl,q _ (I.hok.fresh (aaf _))⟩
 exact ⟨aaL (ym xs lo hi) hz,_,(r.drop (HT.sIx xs.length 0 lo)).take (HT.sIx xs.length xs.length hi-HT.sIx xs.length 0 lo),IsTup.new _ _⟩
def Rp (K:FG):R2:=fun x y H Q=>∃ a b xs ys,x=.ref a/\y=.ref b/\cI K H a xs/\cI K H b ys/\xs≠[]/\xs.length+ys.length<=sizeLine/\
 (ys=[]->Q (.ref a) H)/\(ys≠[]->∀ p,H p=none->Q (.ref p) (upd H p (.tup (xs++ys))))
theorem Vals.nil_iff {xs:List V} {us:List Value} (r:Vals xs us):us=[] ↔ xs=[]:=by
 cases r with
 | nil=>simp
 | cons _ _=>simp
theorem Tn:eN X (binaryOp .Add) (Rp X.K):=by
 intro pins s σ H x y v u Q I rx ry h
 obtain ⟨a,b,xs,ys,rfl,rfl,ha,hb,hx,hz,q1,q2⟩:=h
 cases rx
 cases ry
 obtain ⟨its,r1,p1,_⟩:=I.tuple ha
 obtain ⟨its2,r2,p2,_⟩:=I.tuple hb
 refine HT.cat_tup p1 p2 (fun z=>hx (r1.nil_iff.mp z)) (fun z=>⟨.ref a,H,I,rfl,q1 (r2.nil_iff.mp z)⟩) (fun z=>?_) (by rw [← r1.length,← r2.length]; exact hz)
 refine ⟨.ref s.heap.objs.size,_,I.laid (t':=s.toks) (o:=.tup (xs++ys)) (fun b ob q=>aac _ q) (aaf _) ?_,rfl,q2 (fun w=>z (r2.nil_iff.mpr w)) _ (I.hok.fresh (aaf _))⟩
 exact ⟨by rw [aai]; exact hz,_,r1.append r2,IsTup.new _ _⟩
end
def zu (n:Nat) (i:Int):Option Nat:=if 0<=i then (if i<n then some i.toNat else none) else if -(n:Int)<=i then some (i+n).toNat else none
def gM {α:Type} (xs:List α) (i:Int):Option α:=(zu xs.length i).bind fun j=>xs[j]?
theorem Tp {n:Nat} {i:Int} {j:Nat} (h:zu n i=some j):seqIndex? i n=some j/\j<n/\-(n:Int)<=i/\i<n:=by
 unfold zu at h
 by_cases h0:0<=i
 . rw [ab7 h0] at h
   by_cases h1:i<n
   . rw [ab7 h1] at h
     have e:i.toNat=j:=aaB h
     exact ⟨by rw [seqIndex_of h0 h1,e],by omega,by omega,h1⟩
   . rw [ab8 h1] at h; cases h
 . rw [ab8 h0] at h
   by_cases h1:-(n:Int)<=i
   . rw [ab7 h1] at h
     have e:(i+n).toNat=j:=aaB h
     exact ⟨by rw [seqIndex_neg (by omega) h1,e],by omega,h1,by omega⟩
   . rw [ab8 h1] at h; cases h
theorem Bc {α:Type} {xs:List α} {i:Int} {v:α} (h:gM xs i=some v):∃ j,seqIndex? i xs.length=some j/\xs[j]?=some v/\j<xs.length/\-(xs.length:Int)<=i/\i<xs.length:=by
 unfold gM at h
 cases e:zu xs.length i with
 | none=>rw [e] at h; cases h
 | some j=>
  rw [e] at h
  obtain ⟨h1,h2,h3,h4⟩:=Tp e
  exact ⟨j,h1,h,h2,h3,h4⟩
def xg (b:Expr):Prop:=∀ o i,subscripted b false o i=operate [o,i] (getItem o i)
def yo (X:Cx) (r:R2):Prop:=
 ∀ (value slice:Expr) (pins:List (Addr×Obj)) (s:Shared) (σ:St) (H:Hp) (x y:V) (v u:Value) (Q:VK),Inv X pins σ H s->RelV x v->RelV y u->r x y H Q->
  subscripted slice false v u=operate [v,u] (getItem v u)->wpAny (model X.prog X.w) X.A (subscriptTail value slice v u) (EP X pins σ Q) X.xe s
def Lk (X:Cx) (id:String) (r:V->List V->Hp->VK->Prop):Prop:=
 ∀ (pins:List (Addr×Obj)) (s:Shared) (σ:St) (H:Hp) (x:V) (xs:List V) (v:Value) (us:List Value) (Q:VK),Inv X pins σ H s->RelV x v->Vals xs us->r x xs H Q->
  wpAny (model X.prog X.w) X.A (call (.builtin id) (v::us)) (EP X pins σ Q) X.xe s
section
variable {X:Cx} {a b:Expr} {ta tb:TE} {pos:Pos}
theorem yo.or {r r':R2} (h:yo X r) (h':yo X r'):yo X (fun x y H Q=>r x y H Q\/r' x y H Q):=by
 intro value slice pins s σ H x y v u Q I rx ry q hs
 rcases q with q | q
 . exact h value slice pins s σ H x y v u Q I rx ry q hs
 . exact h' value slice pins s σ H x y v u Q I rx ry q hs
theorem J0 {r:R2} (hr:yo X r) (ha:PE X a ta) (hb:PE X b tb) (hs:xg b):PE X (.Subscript a b pos) (HQ r ta tb):=by
 intro pins s σ H Q I h
 exact Subscript_ (OD ha hb I h fun v u s2 x y H2 I2 rx ry q=>hr a b pins s2 σ H2 x y v u Q I2 rx ry q (hs _ _))
def Wa (K:FG):R2:=fun x y H Q=>∃ p xs i v,x=.ref p/\y=.int i/\bI K H p xs/\gM xs i=some v/\Q v H
def Wb (K:FG):R2:=fun x y H Q=>∃ p xs i v,x=.ref p/\y=.int i/\cI K H p xs/\gM xs i=some v/\Q v H
def Wc:R2:=fun x y H Q=>∃ z i c,x=.str z/\y=.int i/\z.length<=sizeLine/\gM z.cps.toList i=some c/\Q (.str ⟨#[c]⟩) H
theorem Tq:yo X (Wa X.K):=by
 intro value slice pins s σ H x y v u Q I rx ry h hs
 obtain ⟨p,xs,i,z,rfl,rfl,hq,he,q⟩:=h
 cases rx
 obtain ⟨t,rfl⟩:=ry
 obtain ⟨its,r,pl,hz⟩:=I.list hq
 obtain ⟨j,h1,h2,h3,h4,h5⟩:=Bc he
 obtain ⟨w,ew,rw'⟩:=r.get h2
 have hl:=r.length
 have hn:=vQ
 have fin:EP X pins σ Q w s:=⟨z,H,I,rw',q⟩
 by_cases h0:0<=i
 . have hj:i.toNat=j:=by
    rw [seqIndex_of h0 h5] at h1
    exact aaB h1
   exact item_listR pl.isList h0 (by omega) (by rw [hj]; simpa using ew) fin hs
 . have hj:(i+(its.toArray.size:Int)).toNat=j:=by
    rw [seqIndex_neg (by omega) h4] at h1
    rw [aar,← hl]
    exact aaB h1
   exact subscriptTail_builtinR (x:=w) pl.isList.typeIs slot_list_getitem.lookup
    (wpAny_getItem_list_neg (Q:=fun r s'=>r=w/\EP X pins σ Q r s') pl.isList (by omega) (by rw [aar]<;>omega) (by omega) (by rw [hj]; simpa using ew) ⟨rfl,fin⟩) hs
theorem Wd:yo X (Wb X.K):=by
 intro value slice pins s σ H x y v u Q I rx ry h hs
 obtain ⟨p,xs,i,z,rfl,rfl,hq,he,q⟩:=h
 cases rx
 obtain ⟨t,rfl⟩:=ry
 obtain ⟨its,r,pl,hz⟩:=I.tuple hq
 obtain ⟨j,h1,h2,h3,h4,h5⟩:=Bc he
 obtain ⟨w,ew,rw'⟩:=r.get h2
 have hl:=r.length
 have hn:=vQ
 have fin:EP X pins σ Q w s:=⟨z,H,I,rw',q⟩
 exact subscriptTail_builtinR (x:=w) pl.typeIs slot_tuple_getitem.lookup
  (getItem_tuple (j:=j) (Q:=fun r s'=>r=w/\EP X pins σ Q r s') pl (by omega) (by omega) (by rw [aar,← hl]; exact h1) (by simpa using ew) ⟨rfl,fin⟩) hs
theorem We:yo X Wc:=by
 intro value slice pins s σ H x y v u Q I rx ry h hs
 obtain ⟨z,i,c,rfl,rfl,hz,he,q⟩:=h
 obtain ⟨t,rfl⟩:=rx
 obtain ⟨t',rfl⟩:=ry
 obtain ⟨j,h1,h2,h3,h4,h5⟩:=Bc he
 have hl:z.cps.toList.length=z.length:=by simp [Str.length]
 rw [hl] at h1 h4 h5
 have hn:=vQ
 exact tail_any (typeIs_str s z t) slot_str_getitem.lookup (getItem_str (c:=c) (by
  have e1:decide (i < -(2 ^ 63:Int))=false:=aca (by omega)
  have e2:decide (i ≥ 2 ^ 63)=false:=aca (by omega)
  rw [e1,e2,Bool.or_false]) (by rw [h1]; simpa using h2) ⟨.str ⟨#[c]⟩,H,I.tok _,⟨_,rfl⟩,q⟩) hs
def Wf (K:FG):R2:=fun x y H Q=>Wa K x y H Q\/Wb K x y H Q\/Wc x y H Q
theorem Ln:yo X (Wf X.K):=Tq.or (Wd.or We)
def ZJ (K:FG):V->Option Int->Option Int->Hp->VK->Prop:=fun x lo hi H Q=>∃ a xs,x=.ref a/\bI K H a xs/\∀ p,H p=none->Q (.ref p) (upd H p (.lst (tL xs lo hi)))
def qu:V->Bool
 | .non=>true
 | .bl _=>true
 | .int _=>true
 | .str _=>true
 | _=>false
theorem mZ:oU X (.type "list") (fun xs H Q=>∃ p ys,xs=[.ref p]/\(bI X.K H p ys\/cI X.K H p ys)/\∀ l,H l=none->Q (.ref l) (upd H l (.lst ys))):=by
 intro pins s σ H xs us Q I r h
 obtain ⟨p,ys,rfl,hq,q⟩:=h
 obtain ⟨u,rfl,rx⟩:=vals1 r
 cases rx
 have fin:∀ (its:List Value),Vals ys its->ys.length<=sizeLine->∀ (h':Heap) (c':Nat),(∀ b o',s.heap.get? b=some o'->h'.get? b=some o')->
  h'.get? s.heap.objs.size=some { cls:=.type "list",dict:=none,data:=.seq its.toArray c',slots:=#[] }->EP X pins σ Q (.ref s.heap.objs.size) { s with heap:=h' }:=fun its r' hz h' c' kp e=>
  ⟨.ref s.heap.objs.size,_,I.laid (t':=s.toks) kp (aaf _) (show gb X.prog X.w _ h' _ (.lst ys) from ⟨hz,its,c',r',e⟩),rfl,q _ (I.hok.fresh (aaf _))⟩
 rcases hq with hq | hq
 . obtain ⟨its,r',pl,hz⟩:=I.list hq
   have hlen:=r'.length
   obtain ⟨o,ho,hc,n,hd⟩:=pl.isList
   exact call_list_seq p (.inl rfl) ho hc hd (fun h' c' kp e=>fin its r' hz h' c' kp e) (by simp only [aar]<;>omega)
 . obtain ⟨its,r',pl,hz⟩:=I.tuple hq
   have hlen:=r'.length
   obtain ⟨o,ho,hc,n,hd⟩:=pl
   exact call_list_seq p (.inr rfl) ho hc hd (fun h' c' kp e=>fin its r' hz h' c' kp e) (by simp only [aar]<;>omega)
def Wg (K:FG) (T:String) (x:V) (H:Hp):Prop:=match x with
 | .str _=>T = "str"
 | .int _=>T = "int"
 | .ref p=>(T = "list" /\ ∃ xs,bI K H p xs)\/(T = "tuple" /\ ∃ o,K.lookup p=some o/\o.cls=.type "tuple" /\ o.dict=none)\/
  (T = "dict" /\ ((∃ kvs,H p=some (.dK kvs))\/∃ kvs,H p=some (.dT kvs)))\/(T = "set" /\ ∃ S n,H p=some (.set S n))
 | _=>False
theorem Lp {σ:St} {H:Hp} {T:String} {x:V} {v:Value} (I:Inv X pins σ H s) (r:RelV x v) (ty:Wg X.K T x H):
 s.TypeIs v T/\∀ a,v=.ref a->∃ ob,s.heap.get? a=some ob/\ob.dict=none:=by
 cases x with
 | str z=>
  obtain ⟨t,rfl⟩:=r
  cases (show T = "str" from ty)
  exact ⟨typeIs_str s z t,fun _ e=>nomatch e⟩
 | int i=>
  obtain ⟨t,rfl⟩:=r
  cases (show T = "int" from ty)
  exact ⟨typeIs_int s i t,fun _ e=>nomatch e⟩
 | ref p=>
  cases r
  rcases ty with ⟨rfl,xs,hq⟩ | ⟨rfl,o,hk,hc,hd⟩ | ⟨rfl,hk⟩ | ⟨rfl,S,n,hk⟩
  . obtain ⟨its,_,pl,_⟩:=I.list hq
    refine ⟨pl.isList.typeIs,fun a e=>?_⟩
    cases e
    obtain ⟨o,n,e,c,hd,_⟩:=pl
    exact ⟨o,e,hd⟩
  . refine ⟨⟨o,I.kIn p o hk,hc⟩,fun a e=>?_⟩
    cases e
    exact ⟨o,I.kIn _ o hk,hd⟩
  . have z:∃ o,s.heap.get? p=some o/\o.ExactDict:=by
     rcases hk with ⟨kvs,hk⟩ | ⟨kvs,hk⟩
     . obtain ⟨_,_,_,_,o,_,_,e,ex,_⟩:=I.hok p _ hk
       exact ⟨o,e,ex⟩
     . obtain ⟨_,_,_,_,o,_,_,e,ex,_⟩:=I.hok p _ hk
       exact ⟨o,e,ex⟩
    obtain ⟨o,e,ex⟩:=z
    refine ⟨⟨o,e,ex.1⟩,fun a e2=>?_⟩
    cases e2
    exact ⟨o,e,ex.2.1⟩
  . obtain ⟨o,_,_,_,e,ex,_⟩:=I.hok p _ hk
    refine ⟨⟨o,e,ex.1⟩,fun a e2=>?_⟩
    cases e2
    exact ⟨o,e,ex.2.1⟩
 | _=>exact False.elim ty
def Ph (K:FG) (T:String) (r:V->List V->Hp->VK->Prop) (to:TE):TE:=fun σ H Q=>to σ H fun x H1=>Wg K T x H1/\r x [] H1 Q
def Lq (K:FG) (T:String) (r:V->List V->Hp->VK->Prop) (to:TE) (t:TA):TE:=fun σ H Q=>to σ H fun x H1=>Wg K T x H1/\t σ H1 fun xs H2=>r x xs H2 Q
variable {o e:Expr} {es:List Expr} {to:TE} {t:TA} {name:Str} {apos cpos:Pos} {T id:String} {r:V->List V->Hp->VK->Prop}
theorem Lr (pa:PlainAttrs T) (slot:Slot T name id) (hty:typeOf (.builtin id)=pure (.type "method_descriptor")) (hm:Lk X id r) (ho:PE X o to)
 (hbase:attributeBase o name X.env (eval o X.env)=eval o X.env:=by rfl) (hline:(apos.endLine==cpos.line)=true:=by rfl):PE X (.Call (.Attribute o name apos) [] [] cpos) (Ph X.K T r to):=by
 intro pins s σ H Q I h
 refine wpAny_Call_method0_late hbase hline (bG (ho pins s σ H _ I h) fun v s1 ⟨x,H1,I1,r1,ty,q1⟩=>?_)
 obtain ⟨h1,h2⟩:=Lp I1 r1 ty
 exact ⟨T,id,pa,slot,hty,h1,h2,Calls.callWith_builtin rfl (PySem.evalArgs_none (hm pins s1 σ H1 x [] v [] Q I1 r1 .nil q1))⟩
theorem oV (pa:PlainAttrs T) (slot:Slot T name id) (hty:typeOf (.builtin id)=pure (.type "method_descriptor")) (hm:Lk X id r) (ho:PE X o to) (ha:PA X (e::es) t)
 (hbase:attributeBase o name X.env (eval o X.env)=eval o X.env:=by rfl)
 (hfew:((backTo cpos (starEach (e::es) X.env)).all (fun x=>!x.1)&&(backToKw cpos (keywordEach [] X.env)).all (fun x=>x.1.isSome)
   && decide ((e::es).length+([]:List Keyword).length+(if ([]:List Keyword).isEmpty then 0 else 1)<30))=true:=by rfl)
 (hline:(apos.endLine==cpos.line)=true:=by rfl) (hs:starEach (e::es) X.env=(false,eval e X.env)::starEach es X.env:=by rfl) (hplain:(backTo cpos (starEach es X.env)).any (·.1)=false:=by rfl):
 PE X (.Call (.Attribute o name apos) (e::es) [] cpos) (Lq X.K T r to t):=by
 intro pins s σ H Q I h
 refine wpAny_Call_method_late hbase hfew hline rfl (bG (ho pins s σ H _ I h) fun v s1 ⟨x,H1,I1,r1,ty,q1⟩=>?_)
 obtain ⟨h1,h2⟩:=Lp I1 r1 ty
 refine ⟨T,id,pa,slot,hty,h1,h2,?_⟩
 have hA:=ha cpos pins s1 σ H1 _ I1 q1
 rw [hs] at hA ⊢
 refine Calls.callWith_builtin (by show (false||(backTo cpos (starEach es X.env)).any (·.1))=false; rw [hplain]<;>rfl) (Calls.evalArgs_plain ?_)
 exact bG hA fun us s2 ⟨vs,H2,I2,r2,q2⟩=>hm pins s2 σ H2 x vs v us Q I2 r1 r2 q2
end
def Rq (X:Cx) (id:String) (r:V->List V->Hp->VK->Prop):Prop:=
 ∀ (pins:List (Addr×Obj)) (s:Shared) (σ:St) (H:Hp) (x:V) (xs:List V) (v:Value) (us:List Value) (Q:VK),Inv X pins σ H s->RelV x v->Vals xs us->r x xs H Q->
  wpAny (model X.prog X.w) X.A (call (.builtin id) (v::us)) (EP X pins σ Q) X.xe s
theorem Vals.one:∀ {x:V} {us:List Value},Vals [x] us->∃ u,us=[u]/\RelV x u
 | _,_,.cons r .nil=>⟨_,rfl,r⟩
theorem Vals.two:∀ {x y:V} {us:List Value},Vals [x,y] us->∃ u v,us=[u,v]/\RelV x u/\RelV y v
 | _,_,_,.cons r (.cons q .nil)=>⟨_,_,rfl,r,q⟩
theorem Vals.zero:∀ {us:List Value},Vals [] us->us=[]
 | _,.nil=>rfl
theorem Vals.dropLast {xs:List V} {us:List Value} (h:Vals xs us):Vals xs.dropLast us.dropLast:=by
 induction h with
 | nil=>exact .nil
 | cons r t ih=>
  cases t with
  | nil=>exact .nil
  | cons q t'=>exact .cons r ih
theorem J1 {α:Type} (l:List α):l.eraseIdx (l.length-1)=l.dropLast:=by
 induction l with
 | nil=>rfl
 | cons a r ih=>
  cases r with
  | nil=>rfl
  | cons b r=>
   have e:(a::b::r).length-1=((b::r).length-1)+1:=by
    have h1:(a::b::r).length=r.length+2:=rfl
    have h2:(b::r).length=r.length+1:=rfl
    omega
   rw [e,List.eraseIdx_cons_succ,ih]
   all_goals rfl
section
variable {X:Cx} {pins:List (Addr×Obj)} {σ:St} {H:Hp} {s:Shared} {l b:Addr} {xs ys zs:List V}
theorem Inv.lset {its its':List Value} {n:Nat} {f:Array Value->Array Value} {t':Nat} (I:Inv X pins σ H s) (hH:H l=some (.lst xs))
 (e:s.heap.get? l=some { cls:=.type "list",data:=.seq its.toArray n }) (hf:f its.toArray=its'.toArray) (hv:Vals ys its') (hz:ys.length<=sizeLine):
 Inv X pins σ (upd H l (.lst ys)) { s with heap:=s.heap.update l (Obj.mapSeq f),toks:=t' }:=by
 have q:=PySem.IsL.update e f
 rw [hf] at q
 refine I.write (x:=l) (e:=l) (by rw [hH]; exact trivial) (.inl rfl) (fun b' u hb hu=>(abF s.heap (Obj.mapSeq f) (Ne.symm hb)).trans hu) ⟨_,q⟩ ?_
 exact ⟨hz,its',_,hv,q⟩
theorem Inv.lnew {its:List Value} {t':Nat} (I:Inv X pins σ H s) (hv:Vals ys its) (hz:ys.length<=sizeLine):
 Inv X pins σ (upd H s.heap.objs.size (.lst ys)) { s with heap:=s.heap.push { cls:=.type "list",data:=.seq its.toArray },toks:=t' }:=
 I.laid (fun _ _ q=>aac _ q) (aaf _) ⟨hz,its,0,hv,aau _ rfl⟩
theorem Inv.fresh (I:Inv X pins σ H s):H s.heap.objs.size=none:=I.hok.fresh (aaf _)
theorem Inv.lstM (I:Inv X pins σ H s) (hH:H l=some (.lst xs)):xs.length<=sizeLine/\∃ (its:List Value) (n:Nat),Vals xs its/\xs.length=its.length/\s.heap.get? l=some { cls:=.type "list",data:=.seq its.toArray n }:=by
 obtain ⟨z,its,n,r,e⟩:=I.hok l _ hH
 exact ⟨z,its,n,r,r.length,e⟩
theorem Pj {n:Nat} (h:n<=sizeLine):Builtin.List.listTooLong n=false:=by
 unfold Builtin.List.listTooLong
 exact aca (by omega)
end
section
variable {X:Cx}
def Bd:V->List V->Hp->VK->Prop:=fun x vs H Q=>∃ l xs y,x=.ref l/\vs=[y]/\H l=some (.lst xs)/\xs.length<sizeLine/\Q .non (upd H l (.lst (xs++[y])))
theorem iQ:Rq X "list.append" Bd:=by
 intro pins s σ H x vs v us Q I rx rv h
 obtain ⟨l,xs,y,rfl,rfl,hH,hz,q⟩:=h
 cases rx
 obtain ⟨u,rfl,ru⟩:=rv.one
 obtain ⟨z,its,n,r,hl,e⟩:=I.lstM hH
 refine call_meets F.slot_list_append ⟨_,e,rfl⟩ F.entry_list_append (F.args_list_append_2 _ _) (PySem.list_append l its.toArray n u (by rw [aar]; omega)) ⟨e,?_⟩
 refine ⟨.non,_,I.lset (its':=its++[u]) hH e (by simp) (r.append (.cons ru .nil)) ?_,rfl,q⟩
 rw [aai,List.length_singleton]
 omega
def Wh:V->List V->Hp->VK->Prop:=fun x vs H Q=>∃ l xs y,x=.ref l/\vs=[]/\H l=some (.lst xs)/\xs[xs.length-1]?=some y/\Q y (upd H l (.lst xs.dropLast))
theorem Wi:Rq X "list.pop" Wh:=by
 intro pins s σ H x vs v us Q I rx rv h
 obtain ⟨l,xs,y,rfl,rfl,hH,hy,q⟩:=h
 cases rx
 have hus:=rv.zero
 subst hus
 obtain ⟨z,its,n,r,hl,e⟩:=I.lstM hH
 obtain ⟨u,hu,ru⟩:=r.get hy
 have hy':its.toArray[its.toArray.size-1]?=some u:=by
  show its.toArray[its.length-1]?=some u
  rw [← Array.getElem?_toList,← hl]
  exact hu
 refine call_meets F.slot_list_pop ⟨_,e,rfl⟩ F.entry_list_pop (F.args_list_pop_1 _) (MeetsSeq.list_pop_last l its.toArray n u hy' (by rw [aar]; omega)) ⟨e,?_⟩
 refine ⟨y,_,I.lset (its':=its.dropLast) hH e ?_ r.dropLast ?_,ru,q⟩
 . show its.toArray.eraseIdxIfInBounds (its.toArray.size-1)=its.dropLast.toArray
   rw [aar,List.eraseIdxIfInBounds_toArray,J1]
 . rw [List.length_dropLast]
   omega
def Ls:V->List V->Hp->VK->Prop:=fun x vs H Q=>∃ l xs,x=.ref l/\vs=[]/\H l=some (.lst xs)/\Q .non (upd H l (.lst []))
theorem Pk:Rq X "list.clear" Ls:=by
 intro pins s σ H x vs v us Q I rx rv h
 obtain ⟨l,xs,rfl,rfl,hH,q⟩:=h
 cases rx
 have hus:=rv.zero
 subst hus
 obtain ⟨z,its,n,r,hl,e⟩:=I.lstM hH
 refine call_meets F.slot_list_clear ⟨_,e,rfl⟩ F.entry_list_clear (F.args_list_clear_1 _) (AutoSeq1.list_clear_list_0 l its.toArray n (by rw [aar]; omega)) ⟨e,?_⟩
 exact ⟨.non,_,I.lset (its':=[]) (ys:=[]) hH e rfl .nil (aa3 _),rfl,q⟩
end
section
variable {prog:Program}
end
section
variable {X:Cx}
end
end L2
namespace Att
open PySem PySem.W PySem.Calls PyProof.Rows
theorem zx {P:Params} {h:Heap}:∀ (ns:List Int) (vs:List Value),WellAll P h vs (ns.map WData.int)->IntsAre vs ns:=by
 intro ns
 induction ns with
 | nil=>
  intro vs w
  rw [abw] at w
  cases w
  exact .nil
 | cons n ns ih=>
  intro vs w
  rw [aav] at w
  cases w with
  | cons a b=>
   cases a
   exact .cons _ _ (ih _ b)
theorem Lw {l:OpenLaw} {n:Nat} (hn:l.most=some n) {P:Params} {h:Heap} {args:List WData} {vals:List Value}
 (hpre:l.row.toRowW.claim.pre args=true) (hwl:WellAll P h vals args):
 ∃ a vs ns,vals=[Value.ref a]/\args=[WData.list (ns.map WData.int)]/\h.get? a=some { cls:=.type "list",data:=.seq vs.toArray }/\IntsAre vs ns/\ns.length<=n:=by
 have hsh:WShape.hasAll [] args [.list .int]=true:=(pre_splitW hpre).1
 have hc:l.pre.holds [] { args:=args }=true:=(pre_splitW hpre).2
 obtain ⟨d,r,rfl,h1,h2⟩:=hasAllW_cons hsh
 obtain rfl:=hasAllW_nil h2
 obtain ⟨xs,rfl,h3⟩:=hasW_list h1
 obtain ⟨ns,rfl⟩:=items_int h3
 have hlen:ns.length<=n:=by
  unfold OpenLaw.pre at hc
  have h4:(WTm.not (.lt (.lit (.int (n:Int))) (.len (.arg 0)))).holds [] { args:=[.list (ns.map .int)] }=true:=by
   have h4:=(holds_andW hc).1
   rw [hn] at h4
   exact h4
  have h5:=condW_of h4 (w_not (w_lt w_lit (w_len_list (w_arg rfl))))
  rw [aad] at h5
  refine abJ fun q=>?_
  have q':(n:Int)<((ns.length:Nat):Int):=by omega
  first
   | (rw [acb q'] at h5; exact absurd h5 (by decide))
   | (simp at h5; omega)
 cases hwl with
 | cons w1 w2=>
  cases w2
  cases w1 with
  | list ho hall=>exact ⟨_,_,ns,rfl,rfl,ho,zx ns _ hall,hlen⟩
theorem Ly (l:OpenLaw) (args:List WData):l.row.toRowW.claim.post args (.bool true) args=true:=
 postW_of (r:=l.row.toRowW) (X:=(true==true))
  (show WShape.has [] (.bool true) .bool=true by first | rfl | decide | simp [WShape.has,WShape.arms,WShape.armsAll])
  (show (WTm.eq .res (.lit (.bool true))).value [] { args:=args,res:=some (.bool true),after:=args }=some (.bool (true==true)) from w_eq_bool (w_res rfl) w_lit) rfl
theorem attach_call {l:OpenLaw} {n:Nat} {q:Program} {loose:List Str} {XP:(Str->Option Value)->Heap->Prop} {YP:World->Heap->Prop} {d:DefRec}
 (hn:l.most=some n) (hdf:d.params.defaults=[])
 (call:∀ (w:World) (s₀ s₁:Shared) (mg mb:Str->Option Value) (fa:Addr) (o:Obj) (pm cd doc:Value) (a:Addr) (vs:List Value) (ns:List Int),
   Ground q loose [] XP w s₀ mg mb s₁.heap->YP w s₁.heap->
   s₁.heap.get? fa=some o->o.data=.func (docDef d.name d.params d.body d.scope pm cd doc)->s₁.heap.CodeRec cd d.name->mg d.name=some (.ref fa)->
   s₁.heap.get? a=some { cls:=.type "list",data:=.seq vs.toArray }->IntsAre vs ns->ns.length<=n->s₁.gens=#[]->
   codeAny (model l.prog w) callerA (.call (.ref fa) ⟨[.ref a],[]⟩) (fun r s'=>r=.ok (.ret (.bool true))/\OldK s₁.heap s'.heap/\s'.os=s₁.os/\AllBare s'.gens) s₁):
 WalkO q loose XP YP l.row.toRowW d [] (fun f vs=>PySem.call f vs):=by
 intro w s₀ s₁ mg mb G Y fa o pm cd doc dV kV ho hd hcd hD hmg hg args vals as hpre hlay hrd hwl hlo
 obtain rfl:dV=.none:=Dflts.none hD hdf
 obtain rfl:kV=.none:=Dflts.noKw hD
 obtain ⟨a,vs,ns,rfl,rfl,hobj,hints,hlen⟩:=Lw hn hpre hwl
 refine enter_call (codeAny_mono (call w s₀ s₁ mg mb fa o pm cd doc a vs ns G Y ho (fd_plain hd) hcd hmg hobj hints hlen hg) fun r s' hq=>?_)
 obtain ⟨rfl,h2,h3,h4⟩:=hq
 exact ⟨.inl ⟨.bool true,.bool true,[],rfl,fun _=>rfl,.bool true,Ly l _,fun _=>⟨List.Pairwise.nil,fun _ hm=>(nomatch hm)⟩⟩,h2,h3,h4⟩
section
variable {prog:Program} {w:World} {A:Around} {E:Value->Shared->Prop} {s:Shared} {K:Frag}
end
end Att
namespace L2
open PySem PySem.Spec PyProof.Rows
variable {pins:List (Addr×Obj)} {E:Value->Shared->Prop} {s:Shared} {A:Around} {w:World} {P:Program}
theorem CT:∀ {vs:List Value} {ns:List Int},IntsAre vs ns->Vals (ns.map V.int) vs
 | _,_,.nil=>.nil
 | _,_,.cons n t h=>.cons ⟨t,rfl⟩ (CT h)
def Only (H:Hp):Prop:=∀ b,H b=none\/∃ o xs,H b=some (.frz o (.lst xs))
theorem Pn {K:FG} {mg mb:Str->Option Value} {CX:vJ} {k:Nat} {fa a:Addr} {fd:FuncData} {x:Str} {sp:Sp} {s₁:Shared} {vs:List Value} {ns:List Int}
 (KX:K.In s₁.heap) (hns:s₁.heap.Ns mainGlobals mg) (hb:s₁.heap.Ns builtinsNs mb) (hbb:∀ x:Str,x ≠ "__name__" -> mb x=bootBuiltins x) (hlim:s₁.heap.NoLimit) (hg:s₁.gens=#[])
 (ha:s₁.heap.get? a=some { cls:=.type "list",data:=.seq vs.toArray }) (hi:IntsAre vs ns) (hl:ns.length<=sizeLine) (hr:kj k callerA)
 (F:∀ base:Heap,K.In base->base.Ns mainGlobals mg->mD P w K mg base CX k fa fd [x] sp) (hbind:∀ (s:Shared) (u:Value),BindsTo s fd ⟨[u],[]⟩ [(x,u)])
 (hsp:∀ H:Hp,Only H->bI K H a (ns.map V.int)->sp [.ref a] H (fun v _=>v=.bl true) fun _ _ _=>False)
 (hCX:∀ H e s',CX [] H s₁ (fun _ _ _=>False) e s'->False):
 codeAny (model P w) callerA (.call (.ref fa) ⟨[.ref a],[]⟩) (fun r s'=>r=.ok (.ret (.bool true))/\OldK s₁.heap s'.heap/\s'.os=s₁.os/\AllBare s'.gens) s₁:=by
 have rv:=CT hi
 have lenV:=hi.length
 have core:∀ H:Hp,Only H->bI K H a (ns.map V.int)->ir P w H s₁.heap->(∀ b,H b≠none->b=a)->(H a≠none->K.lookup a=none)->
  codeAny (model P w) callerA (.call (.ref fa) ⟨[.ref a],[]⟩) (fun r s'=>r=.ok (.ret (.bool true))/\OldK s₁.heap s'.heap/\s'.os=s₁.os/\AllBare s'.gens) s₁:=by
  intro H hO hS hok hA hK
  have base_of:∀ {b:Addr} {o:Obj},s₁.heap.get? b=some o->H b=none->(uG s₁.heap H).get? b=some o:=fun e n=>Oq e n
  have noA:∀ {b:Addr} {o:Obj} {es:Array DictEntry} {ep:Nat},s₁.heap.get? b=some o->o.data=.dict es ep->H b=none:=fun {b o es ep} e d=>by
   cases q:H b with
   | none=>rfl
   | some u=>
    have e':b=a:=hA b (by rw [q]; simp)
    subst e'
    rw [ha] at e; cases e
    have d':Data.seq vs.toArray _=Data.dict es ep:=d
    cases d'
  have nsK:∀ {b:Addr} {m:Str->Option Value},s₁.heap.Ns b m->(uG s₁.heap H).Ns b m:=fun {b m} ⟨o,es,ep,e,d,r⟩=>⟨o,es,ep,base_of e (noA e d),d,r⟩
  have hKb:K.In (uG s₁.heap H):=fun b o e=>base_of (KX b o e) (by
   cases q:H b with
   | none=>rfl
   | some u=>
    have e':b=a:=hA b (by rw [q]; simp)
    subst e'
    rw [hK (by rw [q]; simp)] at e; cases e)
  have hM:Mod K mg (uG s₁.heap H):=⟨hKb,nsK hns,⟨mb,nsK hb,hbb⟩,let ⟨mc,h1,h2⟩:=hlim; ⟨mc,nsK h1,h2⟩⟩
  have e0:yH P w K mg (uG s₁.heap H) callerA [] s₁ H:=⟨rfl,hM,fun b o e=>SM e,Nat.le_of_eq (K5 _ _),trivial,fun b hb=>absurd (show b∈([]:List Addr) from hb) (by simp),hok,.of_eq hg⟩
  refine codeAny_mono ((F _ hKb (nsK hns)).run callerA [] s₁ H ⟨[.ref a],[]⟩ [.ref a] [.ref a] _ _ hr e0 (hbind s₁ (.ref a)) (.cons rfl .nil) (hsp H hO hS)) fun r s' h=>?_
  cases r with
  | error e=>exact (hCX H e s' h).elim
  | ok fl=>
   cases fl with
   | next=>exact False.elim h
   | brk=>exact False.elim h
   | cont=>exact False.elim h
   | ret u=>
    obtain ⟨v,H',os,bare,un,hok',r',q⟩:=h
    have q':v=.bl true:=q
    subst q'
    obtain rfl:u=Value.bool true:=r'
    refine ⟨rfl,OldK.of_keep fun b o e=>?_,os,bare⟩
    cases q:H b with
    | none=>exact un.keep b o e q (by intro z; exact absurd (show b∈([]:List Addr) from z) (by simp)) (by simp)
    | some u=>
     rcases hO b with z | ⟨ob,xs,z⟩
     . rw [q] at z; cases z
     . have z2:=un.frzs b ob _ z
       obtain ⟨e1,_⟩:=hok b _ z
       obtain ⟨e2,_⟩:=hok' b _ z2
       rw [e] at e1; cases e1
       exact e2
 cases hk:K.lookup a with
 | some o=>
  have e:=KX a o hk
  rw [ha] at e
  cases e
  refine core (fun _=>none) (fun _=>.inl rfl) (.inr ⟨_,vs.toArray,_,hk,rfl,rfl,rfl,by rw [aar,lenV]; exact hl,by simpa using rv⟩) (fun b u z=>by have z':(none:Option HO)=some u:=z; cases z') (fun b z=>absurd rfl z) fun z=>absurd rfl z
 | none=>
  refine core (fun b=>if b=a then some (.frz { cls:=.type "list",data:=.seq vs.toArray } (.lst (ns.map V.int))) else none) (fun b=>?_) (.inl (.inr ⟨{ cls:=.type "list",data:=.seq vs.toArray },ab7 rfl⟩)) (fun b u z=>?_) (fun b z=>?_) fun _=>hk
  . by_cases hb:b=a
    . exact .inr ⟨_,_,ab7 hb⟩
    . exact .inl (ab8 hb)
  . by_cases hb:b=a
    . have z':=(ab7 hb).symm.trans z
      cases z'
      subst hb
      exact ⟨ha,by rw [aad]; exact hl,vs,_,rv,ha⟩
    . have z':=(ab8 hb).symm.trans z
      cases z'
  . by_cases hb:b=a
    . exact hb
    . exact absurd (ab8 hb) z
theorem walk_of {l:W.OpenLaw} {n k:Nat} {q:Program} {loose:List Str} {XP:(Str->Option Value)->Heap->Prop} {YP:World->Heap->Prop} {d:DefRec} {K:Params->FG} {CX:World->vJ} {sp:World->Sp} {x:Str}
 (hn:l.most=some n) (hn2:n<=sizeLine) (hdf:d.params.defaults=[]) (hr:kj k callerA)
 (hY:∀ (w:World) (h:Heap),YP w h->(K w.params).In h)
 (F:∀ (w:World) (mg:Str->Option Value) (fa:Addr) (h:Heap),(K w.params).In h->h.Ns mainGlobals mg->mg d.name=some (.ref fa)->
   ∃ fd:FuncData,(∀ (s:Shared) (u:Value),BindsTo s fd ⟨[u],[]⟩ [(x,u)])/\
    ∀ base:Heap,(K w.params).In base->base.Ns mainGlobals mg->mD l.prog w (K w.params) mg base (CX w) k fa fd [x] (sp w))
 (hsp:∀ (w:World) (H:Hp) (a:Addr) (ns:List Int),ns.length<=n->Only H->bI (K w.params) H a (ns.map V.int)->sp w [.ref a] H (fun v _=>v=.bl true) fun _ _ _=>False)
 (hCX:∀ (w:World) (H:Hp) (s:Shared) (e:Value) (s':Shared),CX w [] H s (fun _ _ _=>False) e s'->False):
 W.WalkO q loose XP YP l.row.toRowW d [] (fun f vs=>PySem.call f vs):=by
 refine Att.attach_call hn hdf fun w s₀ s₁ mg mb fa o pm cd doc a vs ns G Y ho hd hcd hmg hobj hints hlen hg=>?_
 have KX:=hY w _ Y
 obtain ⟨fd,hb,hF⟩:=F w mg fa _ KX G.T.g hmg
 exact Pn KX G.T.g G.T.b G.T.builtins G.T.nolimit hg hobj hints (aaL hlen hn2) hr hF hb (fun H hO hS=>hsp w H a ns hlen hO hS) fun H e s'=>hCX w H s₁ e s'
def inClass (s:Stmt) (j:Nat):Stmt:=match s with
 | .ClassDef _ _ _ body _ _ _ _ _ _ _=>body.getD j (.Pass ⟨0,0,0,0⟩)
 | _=>.Pass ⟨0,0,0,0⟩
def n8 (s:Stmt):Arguments:=match s with
 | .FunctionDef _ a _ _ _ _ _ _ _ _=>a
 | _=>{ posonlyargs:=[],args:=[],vararg:=none,kwonlyargs:=[],kw_defaults:=[],kwarg:=none,defaults:=[] }
def iH (s:Stmt):List Stmt:=match s with
 | .FunctionDef _ _ b _ _ _ _ _ _ _=>b
 | _=>[]
def aH (s:Stmt):Scope:=match s with
 | .FunctionDef _ _ _ _ _ _ sc _ _ _=>sc
 | _=>{ kind:=.function,names:=[],isGenerator:=false,isCoroutine:=false }
abbrev nW:vJ:=fun _ _ _ _ _ _=>False
abbrev E0:XK:=fun _ _ _=>False
theorem zy {X:Cx}:vV nW X E0:=fun _ _ _ _ _ _ _ h=>h.elim
structure sH (K:FG) (x qual:Str) (st:Stmt) (f:Addr) (fd:FuncData):Prop where
 ex:∃ (oc:Value) (od:Option Addr) (kV doc pm:Value) (an:Option Addr) (cdv ct:Value) (osl:Array (Option Value)),
  fd=W.fnOf x qual (n8 st) (iH st) (aH st) .none kV doc pm an cdv ct/\K.lookup f=some ⟨oc,od,.func fd,osl⟩/\W.codeIn K cdv qual=true
 kp:W.keepIn K (.ref f)=true
section
variable {P:Program} {w:World} {K:FG} {mg:Str->Option Value} {base:Heap}
theorem sH.ok {b:Bool} {x qual:Str} {st:Stmt} {f:Addr} {fd:FuncData} {N ps:List Str} {k:Nat} {sp:Sp} (F:sH K x qual st f fd) (S:aU N ps (aH st)) (len:∀ vs H Q E,sp vs H Q E->vs.length=ps.length)
 (hbody:∀ (cdv:Value) (A:Around) (outer:List Env) (s:Shared) (H:Hp) (vs:List V) (Q:VK) (E:XK),fL b k (A.deeper (envOfC qual (aH st) s.heap.objs.size f cdv))->sp vs H Q E->
   ∃ t,iu (sG b nW P w K mg base N qual (aH st) f cdv A outer s H E).nox (iH st) t/\t { nx:=fun _ H'=>Q .non H',rt:=Q } (start N vs) H):qt b P w K mg base nW (k+1) f fd ps sp:=by
 obtain ⟨oc,od,kV,doc,pm,an,cdv,ct,osl,rfl,lk,hcd⟩:=F.ex
 refine Yp lk hcd S len fun A outer s H vs Q E hr hsp=>?_
 obtain ⟨t,h,q⟩:=hbody cdv A outer s H vs Q E hr hsp
 exact ⟨t,h.nox,q⟩
theorem sH.binds {x qual:Str} {st:Stmt} {f:Addr} {fd:FuncData} {ps:List Str} (F:sH K x qual st f fd)
 (h:∀ (kV doc pm:Value) (an:Option Addr) (cdv ct:Value) (us:List Value),us.length=ps.length->bindArgs (W.fnOf x qual (n8 st) (iH st) (aH st) .none kV doc pm an cdv ct) ⟨us,[]⟩=pure (ps.zip us)):Binds K fd ps []:=by
 obtain ⟨oc,od,kV,doc,pm,an,cdv,ct,osl,rfl,lk,hcd⟩:=F.ex
 exact .all (h kV doc pm an cdv ct)
theorem vW {x qual:Str} {st:Stmt} {f:Addr} {oc:Value} {od an:Option Addr} {osl:Array (Option Value)} {kV doc pm cdv ct:Value} (l:K.lookup f=some ⟨oc,od,.func (W.fnOf x qual (n8 st) (iH st) (aH st) .none kV doc pm an cdv ct),osl⟩)
 (c:W.codeIn K cdv qual=true) (k:W.keepIn K (.ref f)=true):sH K x qual st f (W.fnOf x qual (n8 st) (iH st) (aH st) .none kV doc pm an cdv ct):=⟨⟨oc,od,kV,doc,pm,an,cdv,ct,osl,rfl,l,c⟩,k⟩
end
theorem aN {b:Bool} {k:Nat} (hr:fL b k A):A.units+1<cLine:=abC (Nat.add_le_add_left (by decide:1<=64) _) hr.units
section
variable {X:Cx}
theorem pv (i:Nat) {x:Str} {pos:Pos} (hN:X.N[i]?=some x:=by rfl) (hv:K6 X.env.scope x:=by first | exact Or.inl rfl | exact Or.inr (Or.inl rfl) | exact Or.inr (Or.inr rfl)) (hd:(x==("__debug__" : Str))=false:=by decide)
 (hcd:(x==("__classdict__" : Str))=false:=by decide):PE X (.Name x pos) (qT i):=Vp hN hv hd hcd
end
def cZ (H H':Hp):Prop:=∀ b o,H b=some o->H' b=some o
theorem cZ.refl (H:Hp):cZ H H:=fun _ _ h=>h
theorem cZ.trans {H H1 H2:Hp} (a:cZ H H1) (b:cZ H1 H2):cZ H H2:=fun c o h=>b c o (a c o h)
theorem cZ.free {H H':Hp} (e:cZ H H') {l:Addr} (h:H' l=Option.none):H l=Option.none:=by
 cases q:H l with
 | none=>rfl
 | some o=>
  rw [e l o q] at h
  cases h
theorem cZ.seq {K:FG} {H H':Hp} {a:Addr} {xs:List V} (e:cZ H H') (h:bI K H a xs):bI K H' a xs:=by
 rcases h with (h | ⟨o,h⟩) | h
 . exact .inl (.inl (e _ _ h))
 . exact .inl (.inr ⟨o,e _ _ h⟩)
 . exact .inr h
section
variable {κ:Type} [DecidableEq κ]
def km (kvs:List (κ×V)) (k:κ):Option V:=(kvs.find? fun kv=>decide (kv.1=k)).map (·.2)
def putK (kvs:List (κ×V)) (k:κ) (v:V):List (κ×V):=
 if (kvs.any fun kv=>decide (kv.1=k))=true then kvs.map (fun kv=>if kv.1=k then (kv.1,v) else kv) else kvs++[(k,v)]
theorem uL {p:κ×V} {r:List (κ×V)} {k:κ} (e:p.1=k):km (p::r) k=some p.2:=by simp [km,abt,e]
theorem uM {p:κ×V} {r:List (κ×V)} {k:κ} (e:¬ p.1=k):km (p::r) k=km r k:=by simp [km,abt,e]
theorem uN (k:κ):∀ kvs:List (κ×V),(kvs.any fun kv=>decide (kv.1=k))=(km kvs k).isSome
 | []=>rfl
 | p::r=>by
  rw [List.any_cons]
  by_cases e:p.1=k
  . simp only [uL e,acb e,Bool.true_or,Option.isSome_some]
  . rw [uM e,aca e,Bool.false_or]; exact uN k r
theorem tM (kvs:List (κ×V)) (k:κ) (v:V):(putK kvs k v).length<=kvs.length+1:=by
 unfold putK
 split
 . rw [aad]; omega
 . rw [aai,aae,aaK]; omega
theorem Pq {kvs:List (κ×V)} {k:κ} (v:V) (h:km kvs k=none):putK kvs k v=kvs++[(k,v)]:=by
 unfold putK
 rw [uN,h]
 exact ab8 (by decide)
theorem lR.isSome_eq {o:Option V} {u:Option Value} (r:lR o u):o.isSome=u.isSome:=by
 cases o with
 | none=>cases u with
  | none=>rfl
  | some _=>exact (show False from r).elim
 | some _=>cases u with
  | none=>exact (show False from r).elim
  | some _=>rfl
theorem KV.val {kvs:List (κ×V)} {vs:List (κ×Value)} (r:KV kvs vs) (k:κ):lR (km kvs k) (valueAt vs k):=by
 unfold KV at r
 induction r with
 | nil=>exact True.intro
 | @cons p q ps qs h t ih=>
  obtain ⟨h1,h2⟩:=h
  by_cases e:p.1=k
  . have e':q.1=k:=h1.symm.trans e
    have b:valueAt (q::qs) k=some q.2:=by simp [valueAt,abt,e']
    rw [uL e,b]; exact h2
  . have e':¬ q.1=k:=fun z=>e (h1.trans z)
    have b:valueAt (q::qs) k=valueAt qs k:=by simp [valueAt,abt,e']
    rw [uM e,b]; exact ih
theorem KV.any {kvs:List (κ×V)} {vs:List (κ×Value)} (r:KV kvs vs) (k:κ):(kvs.any fun kv=>decide (kv.1=k))=vs.any fun kv=>decide (kv.1=k):=by
 unfold KV at r
 induction r with
 | nil=>rfl
 | cons h t ih=>rw [List.any_cons,List.any_cons,ih,h.1]
theorem KV.repl {kvs:List (κ×V)} {vs:List (κ×Value)} (r:KV kvs vs) (k:κ) {y:V} {u:Value} (ry:RelV y u):
 KV (kvs.map fun kv=>if kv.1=k then (kv.1,y) else kv) (vs.map fun kv=>if kv.1=k then (kv.1,u) else kv):=by
 unfold KV at r ⊢
 induction r with
 | nil=>exact .nil
 | @cons p q ps qs h t ih=>
  rw [aav,aav]
  refine .cons ?_ ih
  obtain ⟨h1,h2⟩:=h
  by_cases e:p.1=k
  . rw [ab7 e,ab7 (h1.symm.trans e)]; exact ⟨h1,ry⟩
  . rw [ab8 e,ab8 (fun z=>e (h1.trans z))]; exact ⟨h1,h2⟩
theorem KV.put {kvs:List (κ×V)} {vs:List (κ×Value)} (r:KV kvs vs) (k:κ) {y:V} {u:Value} (ry:RelV y u):KV (putK kvs k y) (stored vs k u):=by
 unfold putK stored
 rw [r.any k]
 by_cases e:(vs.any fun kv=>decide (kv.1=k))=true
 . rw [ab7 e,ab7 e]; exact r.repl k ry
 . rw [ab8 e,ab8 e]; exact Paired.snoc r ⟨rfl,ry⟩
theorem KV.length {kvs:List (κ×V)} {vs:List (κ×Value)} (r:KV kvs vs):kvs.length=vs.length:=Paired.length r
end
theorem xj {k:Key} {u:Value} (r:RelV (kV k) u):(cU P w).is k u=true:=by
 cases k with
 | inl i=>obtain ⟨t,e⟩:=(show ∃ t,u=Value.int i t from r); subst e; exact Hn P w i t
 | inr x=>obtain ⟨t,e⟩:=(show ∃ t,u=Value.str x t from r); subst e; exact Ho P w x t
theorem CV:∀ {ks:List Key} {us:List Value},Vals (ks.map kV) us->ItemsAre (cU P w) ks us
 | [],_,r=>by rw [abw] at r; cases r; exact .nil
 | k::ks,_,r=>by
  rw [aav] at r
  cases r with
  | cons h t=>exact .cons (xj h) (CV t)
abbrev KT (H:Hp):List (List Key×V)->List (List Key×Addr×Value)->Prop:=Paired fun p q=>p.1=q.1/\H q.2.1=some (.tup (p.1.map kV))/\RelV p.2 q.2.2
theorem KT.val {H:Hp} {kvs:List (List Key×V)} {xs:List (List Key×Addr×Value)} (r:KT H kvs xs) (k:List Key):lR (km kvs k) ((atKey xs k).map (·.2)):=by
 induction r with
 | nil=>exact True.intro
 | @cons p q ps qs h t ih=>
  obtain ⟨h1,_,h2⟩:=h
  by_cases e:p.1=k
  . have e':q.1=k:=h1.symm.trans e
    have b:atKey (q::qs) k=some q.2:=by simp [atKey,abt,e']
    rw [uL e,b]; exact h2
  . have e':¬ q.1=k:=fun z=>e (h1.trans z)
    have b:atKey (q::qs) k=atKey qs k:=by simp [atKey,abt,e']
    rw [uM e,b]; exact ih
theorem KT.repl {H:Hp} {kvs:List (List Key×V)} {xs:List (List Key×Addr×Value)} (r:KT H kvs xs) (k:List Key) {y:V} {u:Value} (ry:RelV y u):
 KT H (kvs.map fun kv=>if kv.1=k then (kv.1,y) else kv) (xs.map (putAt k u)):=by
 induction r with
 | nil=>exact .nil
 | @cons p q ps qs h t ih=>
  rw [aav,aav]
  refine .cons ?_ ih
  obtain ⟨h1,h2,h3⟩:=h
  unfold putAt
  by_cases e:p.1=k
  . rw [ab7 e,ab7 (h1.symm.trans e)]; exact ⟨h1,h2,ry⟩
  . rw [ab8 e,ab8 (fun z=>e (h1.trans z))]; exact ⟨h1,h2,h3⟩
theorem KT.put {H:Hp} {kvs:List (List Key×V)} {xs:List (List Key×Addr×Value)} (r:KT H kvs xs) (k:List Key) {b:Addr} {y:V} {u:Value} (hb:H b=some (.tup (k.map kV))) (ry:RelV y u):
 KT H (putK kvs k y) (storedH xs k b u):=by
 have e:(kvs.any fun kv=>decide (kv.1=k))=(atKey xs k).isSome:=by
  rw [uN,(r.val k).isSome_eq,Option.isSome_map]
 unfold putK storedH
 rw [e]
 by_cases q:(atKey xs k).isSome=true
 . rw [ab7 q,ab7 q]; exact r.repl k ry
 . rw [ab8 q,ab8 q]; exact Paired.snoc r ⟨rfl,hb,ry⟩
theorem KT.keeps {H H':Hp} {kvs:List (List Key×V)} {xs:List (List Key×Addr×Value)} (r:KT H kvs xs) (ht:∀ b ys,H b=some (.tup ys)->H' b=some (.tup ys)):KT H' kvs xs:=
 Paired.mapP r fun _ _ z=>⟨z.1,ht _ _ z.2.1,z.2.2⟩
section
variable {P:Program} {w:World} {H:Hp} {h:Heap} {a:Addr}
theorem Rr {u:HO} (ok:ir P w H h) (e:Rd H a u):gb P w H h a u:=e.ok ok
theorem uO {kvs:List (Key×V)} (ok:ir P w H h) (e:Rd H a (.dK kvs)):kvs.length<=sizeLine/\(a==sysModules)=false/\∃ vs,KV kvs vs/\h.DictOf (cU P w) a vs:=
 show gb P w H h a (.dK kvs) from Rr ok e
theorem zA {kvs:List (Key×V)} (ok:ir P w H h) (e:H a=some (.dK kvs)):kvs.length<=sizeLine/\(a==sysModules)=false/\∃ vs,KV kvs vs/\h.DictOf (cU P w) a vs:=uO ok (.inl e)
theorem zB {ks:List Key} (ok:ir P w H h) (e:H a=some (.tup (ks.map kV))):(tupleKind (cU P w)).is h ks a:=by
 obtain ⟨_,its,r,o,h1,h2,n,h3⟩:=(show gb P w H h a (.tup (ks.map kV)) from ok a _ e)
 exact ⟨o,its.toArray,n,h1,h2,h3,by simpa using CV r⟩
theorem zE {kvs:List (List Key×V)} (ok:ir P w H h) (e:Rd H a (.dT kvs)):kvs.length<=sizeLine/\(a==sysModules)=false/\
 ∃ xs,KT H kvs xs/\h.DictOfH (tupleKind (cU P w)) a xs:=by
 obtain ⟨z,y,xs,r,o,es,ep,h1,h2,h3,h4,h5⟩:=(show gb P w H h a (.dT kvs) from Rr ok e)
 refine ⟨z,y,xs,r,o,es,ep,h1,h2,h3,h4,fun x hx=>?_,h5⟩
 have all:∀ {l:List (List Key×V)} {m:List (List Key×Addr×Value)},KT H l m->∀ x∈m,(tupleKind (cU P w)).is h x.1 x.2.1:=by
  intro l m q
  induction q with
  | nil=>intro x hx; exact nomatch hx
  | @cons p q ps qs hq t ih=>
   intro x hx
   rcases aao.mp hx with e | hx
   . subst e
     exact zB ok (by rw [← hq.1]; exact hq.2.1)
   . exact ih x hx
 exact all r x hx
theorem Yr {kvs:List (List Key×V)} (ok:ir P w H h) (e:H a=some (.dT kvs)):kvs.length<=sizeLine/\(a==sysModules)=false/\
 ∃ xs,KT H kvs xs/\h.DictOfH (tupleKind (cU P w)) a xs:=zE ok (.inl e)
end
def Be (H:Hp) (a:Addr) (y:V) (r:Option V):Prop:=
 (∃ kvs k,Rd H a (.dK kvs)/\y=kV k/\r=km kvs k)\/∃ kvs k b,Rd H a (.dT kvs)/\y=.ref b/\H b=some (.tup (k.map kV))/\r=km kvs k
def Wj (H:Hp) (a:Addr) (y v:V) (H':Hp):Prop:=
 (∃ kvs k,H a=some (.dK kvs)/\y=kV k/\kvs.length<sizeLine/\H'=upd H a (.dK (putK kvs k v)))\/
 ∃ kvs k b,H a=some (.dT kvs)/\y=.ref b/\H b=some (.tup (k.map kV))/\kvs.length<sizeLine/\H'=upd H a (.dT (putK kvs k v))
section
variable {X:Cx} {pins:List (Addr×Obj)} {σ:St} {H:Hp} {s:Shared} {a:Addr} {y v:V} {u r:Value} {o:Option V} {A:Around} {E:Value->Shared->Prop}
theorem Inv.big (I:Inv X pins σ H s):sysModules<s.heap.objs.size:=by
 have h:mainGlobals<s.heap.objs.size:=(I.mod.glob.keeps I.bk).lt
 exact Nat.lt_trans (by decide) h
theorem Lz {Q:Value->Shared->Prop} (hu:A.units+1<cLine) (I:Inv X pins σ H s) (g:Be H a y (some v)) (ry:RelV y u) (h:∀ w' s',Inv X pins σ H s'->RelV v w'->Q w' s'):
 wpAny (model X.prog X.w) A (getItem (.ref a) u) Q E s:=by
 rcases g with ⟨kvs,k,e,ey,l⟩ | ⟨kvs,k,b,e,ey,eb,l⟩
 . subst ey
   obtain ⟨z,hd,vs,rel,dd⟩:=uO I.hok e
   obtain ⟨w',hw,rw'⟩:=lR.some_of (v:=v) (o:=valueAt vs k) (by rw [l]; exact rel.val k)
   exact wpAny_getItem_of (xj ry) dd.mapOf hw (h w' _ (I.tok _) rw')
 . subst ey
   cases (show u=Value.ref b from ry)
   obtain ⟨z,hd,xs,rel,dd⟩:=zE I.hok e
   obtain ⟨w',hw,rw'⟩:=lR.some_of (v:=v) (o:=(atKey xs k).map (·.2)) (by rw [l]; exact rel.val k)
   obtain ⟨p,hp,hp2⟩:=Option.map_eq_some_iff.mp hw
   refine wpAny_getItem_heap (tupleKind_room_in1 hu) (zB I.hok eb) dd hp ?_
   rw [hp2]
   exact h w' _ (I.tok _) rw'
theorem ZK {Q:Value->Shared->Prop} (hu:A.units+1<cLine) (I:Inv X pins σ H s) (g:Be H a y o) (ry:RelV y u) (h:∀ s',Inv X pins σ H s'->Q (.bool o.isSome) s'):
 wpAny (model X.prog X.w) A (compareOp .In u (.ref a)) Q E s:=by
 rcases g with ⟨kvs,k,e,ey,l⟩ | ⟨kvs,k,b,e,ey,eb,l⟩
 . subst ey
   obtain ⟨z,hd,vs,rel,dd⟩:=uO I.hok e
   refine wpAny_in_of (xj ry) hd dd.mapOf ?_
   rw [← (rel.val k).isSome_eq,← l]
   exact h _ (I.tok _)
 . subst ey
   cases (show u=Value.ref b from ry)
   obtain ⟨z,hd,xs,rel,dd⟩:=zE I.hok e
   refine wpAny_in_heap (tupleKind_room_in1 hu) (zB I.hok eb) hd dd ?_
   have q:=(rel.val k).isSome_eq
   rw [Option.isSome_map] at q
   rw [← q,← l]
   exact h _ (I.tok _)
theorem uf {h':Heap} {t':Nat} {ob:HO} (I:Inv X pins σ H s) (mu:K4 (H a)) (hs:Heap.SameBut a s.heap h') (he:∃ q,h'.get? a=some q) (new:gb X.prog X.w (upd H a ob) h' a ob):
 Inv X pins σ (upd H a ob) { s with heap:=h',toks:=t' }:=
 I.write (x:=a) (e:=a) mu (.inl rfl) (fun b q hb z=>(hs.2 b hb).trans z) he new
theorem zF {H':Hp} {h':Heap} {kvs:List (Key×V)} {vs:List (Key×Value)} (z:kvs.length<=sizeLine) (hd:(a==sysModules)=false) (rel:KV kvs vs) (dd:h'.DictOf (cU P w) a vs):
 gb P w H' h' a (.dK kvs):=⟨z,hd,vs,rel,dd⟩
theorem LC {H':Hp} {Q:Unit->Shared->Prop} (hu:A.units+1<cLine) (I:Inv X pins σ H s) (g:Wj H a y v H') (ry:RelV y u) (rv:RelV v r) (h:∀ s',Inv X pins σ H' s'->Q () s'):
 wpAny (model X.prog X.w) A (setItem (.ref a) u r) Q E s:=by
 rcases g with ⟨kvs,k,e,ey,l,eH⟩ | ⟨kvs,k,b,e,ey,eb,l,eH⟩
 . subst ey eH
   obtain ⟨z,hd,vs,rel,dd⟩:=zA I.hok e
   have hz:vs.length<=sizeLine:=by rw [← rel.length]; exact z
   have hl:(putK kvs k v).length<=sizeLine:=by have:=tM kvs k v; omega
   refine wpAny_setItem_pairs (hsz:=hz) (xj ry) dd fun h' dd' hs=>h _ ?_
   have he:∃ q,h'.get? a=some q:=let ⟨q,_,_,hq,_⟩:=dd'; ⟨q,hq⟩
   exact uf I (by rw [e]; exact True.intro) hs he (zF hl hd (rel.put k rv) dd')
 . subst ey eH
   cases (show u=Value.ref b from ry)
   obtain ⟨z,hd,xs,rel,dd⟩:=Yr I.hok e
   have hz:xs.length<=sizeLine:=by rw [← Paired.length rel]; exact z
   have hl:(putK kvs k v).length<=sizeLine:=by have:=tM kvs k v; omega
   refine wpAny_setItem_heap (hsz:=hz) (tupleKind_room_in1 hu) (zB I.hok eb) dd fun h' dd' hs=>h _ ?_
   obtain ⟨q,es,ep,hq,h2,h3,h4,_,h5⟩:=dd'
   refine uf I (by rw [e]; exact True.intro) hs ⟨q,hq⟩ ⟨hl,hd,_,(rel.put k eb rv).keeps fun c ys ec=>?_,q,es,ep,hq,h2,h3,h4,h5⟩
   rw [cj (Yc ec e (fun z=>nomatch z))]
   exact ec
end
section
variable {X:Cx} {pins:List (Addr×Obj)} {σ:St} {H:Hp} {s:Shared} {a:Addr} {kvs:List (Key×V)} {k:Key} {u:Value} {A:Around} {E:Value->Shared->Prop}
end
theorem Hq {X:Cx} {σ:St} {H:Hp} {a:Addr} {y:V} {o:Option V} (I:Inv X pins σ H s) (g:Be H a y o):s.TypeIs (.ref a) "dict" := by
 rcases g with ⟨kvs,k,e,_,_⟩ | ⟨kvs,k,b,e,_,_,_⟩
 . obtain ⟨_,_,vs,_,dd⟩:=uO I.hok e
   exact dd.typeIs
 . obtain ⟨_,_,xs,_,dd⟩:=zE I.hok e
   exact dd.typeIs
section
variable {X:Cx} {o i e value:Expr} {pos pos' tpos:Pos} {td ty tv:TE}
end
theorem Fd {H:Hp} (h:Heap) (hb:sysModules<h.objs.size):gb P w H (h.push { cls:=.type "dict",data:=.dict #[] }) h.objs.size (.dK []):=
 ⟨aa3 _,acd.mpr (Ne.symm (aaG hb)),[],.nil,Heap.DictOf.new h⟩
def Wk:TE:=fun _ H Q=>∀ p,H p=none->Q (.ref p) (upd H p (.dK []))
section
variable {X:Cx} {pos:Pos}
theorem Pu:PE X (.Dict [] [] pos) Wk:=fun pins s σ H Q I h=>
 wpAny_Dict_empty ⟨.ref s.heap.objs.size,_,I.laid (a:=s.heap.objs.size) (o:=.dK []) (t':=s.toks) (fun _ _ q=>aac _ q) (aaf _) (Fd s.heap I.big),rfl,h _ (I.hok.fresh (aaf _))⟩
end
def zG:List (TE×TE)->St->Hp->(List (V×V)->Hp->Prop)->Prop
 | [],_,H,Q=>Q [] H
 | (tk,tv)::r,σ,H,Q=>tk σ H fun x H1=>tv σ H1 fun y H2=>zG r σ H2 fun ps H3=>Q ((x,y)::ps) H3
abbrev VV:List (V×V)->List (Value×Value)->Prop:=Paired fun p q=>RelV p.1 q.1/\RelV p.2 q.2
def LQ (X:Cx) (pos:Pos) (keys:List (Option Expr)) (values:List Expr) (trs:List (TE×TE)):Prop:=
 ∀ (pins:List (Addr×Obj)) (s:Shared) (σ:St) (H:Hp) (Q:List (V×V)->Hp->Prop),Inv X pins σ H s->zG trs σ H Q->
  wpAny (model X.prog X.w) X.A (evalPairs (pairTrees keys values X.env pos)) (fun vs s'=>∃ ps H',Inv X pins σ H' s'/\VV ps vs/\Q ps H') X.xe s
theorem Tr {X:Cx} {pos:Pos}:LQ X pos [] [] []:=fun pins s σ H Q I h=>pairTrees_nil_walk ⟨[],H,I,.nil,h⟩
theorem Px {X:Cx} {pos:Pos} {k v:Expr} {ks:List (Option Expr)} {vs:List Expr} {tk tv:TE} {trs:List (TE×TE)} (hk:PE X k tk) (hv:PE X v tv) (hr:LQ X pos ks vs trs):
 LQ X pos (some k::ks) (v::vs) ((tk,tv)::trs):=fun pins s σ H Q I h=>
 pairTrees_cons_walk (bG (hk pins s σ H _ I h) fun u s1 ⟨x,H1,I1,rx,q1⟩=>bG (hv pins s1 σ H1 _ I1 q1) fun w2 s2 ⟨y,H2,I2,ry,q2⟩=>
  bG (hr pins s2 σ H2 _ I2 q2) fun ws s3 ⟨ps,H3,I3,rel,q3⟩=>⟨(x,y)::ps,H3,I3,.cons ⟨rx,ry⟩ rel,q3⟩)
def jn (kvs more:List (Key×V)):List (Key×V):=more.foldl (fun acc kv=>putK acc kv.1 kv.2) kvs
theorem KV.merge:∀ {more:List (Key×V)} {rs:List (Key×Value)} {kvs:List (Key×V)} {vs:List (Key×Value)},KV more rs->KV kvs vs->KV (jn kvs more) (merged vs rs):=by
 intro more rs kvs vs r
 unfold KV at r
 induction r generalizing kvs vs with
 | nil=>intro q; exact q
 | @cons p q ps qs h t ih=>
  intro r0
  have e:KV (putK kvs p.1 p.2) (stored vs q.1 q.2):=by
   have:=r0.put p.1 h.2
   rw [← h.1]; exact this
  exact ih e
theorem pP:∀ (more kvs:List (Key×V)),(jn kvs more).length<=kvs.length+more.length
 | [],kvs=>by show kvs.length<=kvs.length+0; omega
 | p::r,kvs=>by
  have h1:=pP r (putK kvs p.1 p.2)
  have h2:=tM kvs p.1 p.2
  show (jn (putK kvs p.1 p.2) r).length<=_
  rw [aae]; omega
theorem zH:∀ {kvs:List (Key×V)} {ws:List (Value×Value)},VV (kvs.map fun kv=>(kV kv.1,kv.2)) ws->∃ rs,Carries (cU P w) ws rs/\KV kvs rs
 | [],_,r=>by rw [abw] at r; cases r; exact ⟨[],True.intro,.nil⟩
 | p::kvs,_,r=>by
  rw [aav] at r
  cases r with
  | @cons a b as bs h t=>
   obtain ⟨rs,c,q⟩:=zH t
   obtain ⟨b1,b2⟩:=b
   exact ⟨(p.1,b2)::rs,⟨xj h.1,rfl,c⟩,.cons ⟨rfl,h.2⟩ q⟩
def Ys (trs:List (TE×TE)):TE:=fun σ H Q=>∀ p,H p=none->zG trs σ (upd H p (.dK [])) fun ps H2=>H2 p=some (.dK [])/\∃ kvs:List (Key×V),ps=kvs.map (fun kv=>(kV kv.1,kv.2))/\kvs.length<=15/\Q (.ref p) (upd H2 p (.dK (jn [] kvs)))
theorem Tt {X:Cx} {pos:Pos} {keys:List (Option Expr)} {values:List Expr} {trs:List (TE×TE)} (h:LQ X pos keys values trs) (hall:keys.all (·.isSome)=true) (hl:keys.length=values.length) (h0:keys≠[])
 (h15:keys.length<=15):PE X (.Dict keys values pos) (Ys trs):=by
 intro pins s σ H Q I q
 have hn:=I.hok.fresh (aaf s.heap.objs.size)
 have I1:=I.laid (a:=s.heap.objs.size) (o:=.dK []) (h':=s.heap.push { cls:=.type "dict",data:=.dict #[] }) (t':=s.toks) (fun _ _ q=>aac _ q) (aaf _) (Fd s.heap I.big)
 refine wpAny_Dict_walk (knd:=cU X.prog X.w) hall hl h0 h15 (bG (h pins _ σ _ _ I1 (q _ hn)) fun ws s2 ⟨ps,H2,I2,rel,e,kvs,ep,lk,q2⟩=>?_)
 subst ep
 obtain ⟨rs,c,rk⟩:=zH (P:=X.prog) (w:=X.w) rel
 obtain ⟨z,hd,vs0,r0,dd⟩:=zA I2.hok e
 cases r0
 refine ⟨rs,c,dd,fun h' dd' hs=>⟨.ref s.heap.objs.size,_,?_,rfl,q2⟩⟩
 have hz:(jn [] kvs).length<=sizeLine:=by
  have h1:=pP kvs []
  rw [aaK] at h1
  rw [sizeLine_eq]; omega
 have he:∃ q,h'.get? s.heap.objs.size=some q:=let ⟨q,_,_,hq,_⟩:=dd'; ⟨q,hq⟩
 exact uf I2 (by rw [e]; exact True.intro) hs he (zF hz hd (rk.merge .nil) dd')
structure M1 (X:Cx) (o:Expr) (m:Str) (apos:Pos) (e:Expr) (cpos:Pos):Prop where
 base:attributeBase o m X.env (eval o X.env)=eval o X.env
 few:((backTo cpos (starEach [e] X.env)).all (fun x=>!x.1)&&(backToKw cpos (keywordEach [] X.env)).all (fun x=>x.1.isSome)
  && decide (([e]:List Expr).length+([]:List Keyword).length+(if ([]:List Keyword).isEmpty then 0 else 1)<30))=true
 line:(apos.endLine==cpos.line)=true
 trees:backTo cpos (starEach [e] X.env)=[(false,eval e X.env)]
structure M2 (X:Cx) (o:Expr) (m:Str) (apos:Pos) (e f:Expr) (cpos:Pos):Prop where
 base:attributeBase o m X.env (eval o X.env)=eval o X.env
 few:((backTo cpos (starEach [e,f] X.env)).all (fun x=>!x.1)&&(backToKw cpos (keywordEach [] X.env)).all (fun x=>x.1.isSome)
  && decide (([e,f]:List Expr).length+([]:List Keyword).length+(if ([]:List Keyword).isEmpty then 0 else 1)<30))=true
 line:(apos.endLine==cpos.line)=true
 trees:backTo cpos (starEach [e,f] X.env)=[(false,eval e X.env),(false,eval f X.env)]
def Y0 (H:Hp) (a:Addr):Prop:=(∃ kvs,Rd H a (.dK kvs))\/∃ kvs,Rd H a (.dT kvs)
theorem Wl {X:Cx} {σ:St} {H:Hp} {a:Addr} (I:Inv X pins σ H s) (d:Y0 H a):
 s.TypeIs (.ref a) "dict" /\ (∀ b,Value.ref a=.ref b->∃ ob,s.heap.get? b=some ob/\ob.dict=none)/\(a==sysModules)=false:=by
 rcases d with ⟨kvs,e⟩ | ⟨kvs,e⟩
 . obtain ⟨_,hd,vs,_,dd⟩:=uO I.hok e
   refine ⟨dd.typeIs,fun b q=>?_,hd⟩
   cases q
   obtain ⟨ob,_,_,h1,h2,_⟩:=dd
   exact ⟨ob,h1,h2.2.1⟩
 . obtain ⟨_,hd,xs,_,dd⟩:=zE I.hok e
   refine ⟨dd.typeIs,fun b q=>?_,hd⟩
   cases q
   obtain ⟨ob,_,_,h1,h2,_⟩:=dd
   exact ⟨ob,h1,h2.2.1⟩
section
variable {X:Cx} {pins:List (Addr×Obj)} {σ:St} {H:Hp} {s:Shared} {a:Addr} {y d:V} {u r:Value} {o:Option V} {A:Around} {E:Value->Shared->Prop}
end
section
variable {X:Cx} {o e f:Expr} {apos cpos:Pos} {td ty tx:TE}
end
section
variable {X:Cx} {pins:List (Addr×Obj)} {σ:St} {H:Hp} {s:Shared} {a:Addr} {kvs:List (Key×V)} {A:Around} {E:Value->Shared->Prop}
theorem Py {Q:Value->Shared->Prop} (I:Inv X pins σ H s) (e:Rd H a (.dK kvs)) (h:∀ p s',H p=none->Inv X pins σ (upd H p (.dK kvs)) s'->Q (.ref p) s'):wpAny (model X.prog X.w) A (call (.type "dict") [.ref a]) Q E s:=by
 obtain ⟨z,hd,vs,rel,dd⟩:=uO I.hok e
 refine kt_call_dict hd dd (by rw [← rel.length]; exact z) fun h' dd' hs=>?_
 refine h _ _ (I.hok.fresh (aaf _)) (I.laid (a:=s.heap.objs.size) (o:=.dK kvs) (t':=s.toks) (fun b q hq=>?_) (aaf _) (zF z (acd.mpr (Ne.symm (aaG I.big))) rel dd'))
 exact (hs.2 b (aaG (aaq hq))).trans (aac _ hq)
end
section
variable {X:Cx} {pins:List (Addr×Obj)} {σ:St} {H:Hp} {s:Shared} {a:Addr} {y:V} {u:Value} {A:Around} {E:Value->Shared->Prop}
end
section
variable {X:Cx}
end
section
variable {κ:Type} [DecidableEq κ]
end
def sI (names:List (Str×NameKind)) (env:Env):List (Str×Addr):=names.foldl (fun cs p=>if (p.2==NameKind.free)=true then (p.1,(env.cells.lookup p.1).getD 0)::cs else cs) []
theorem vX {env:Env}:∀ (names:List (Str×NameKind)) (cs:List (Str×Addr)) (x:Str) (c:Addr),
 (∀ y d,cs.lookup y=some d->d=(env.cells.lookup y).getD 0)->
 (names.foldl (fun cs p=>if (p.2==NameKind.free)=true then (p.1,(env.cells.lookup p.1).getD 0)::cs else cs) cs).lookup x=some c->c=(env.cells.lookup x).getD 0
 | [],cs,x,c,h,e=>h x c e
 | (n,k)::r,cs,x,c,h,e=>by
  simp only [abf] at e
  refine vX r _ x c ?_ e
  intro y d q
  split at q
  . simp only [aaS] at q
    split at q
    . rename_i z
      have z':y=n:=by simpa using z
      rw [z']; exact (aaB q).symm
    . exact h y d q
  . exact h y d q
theorem zJ {env:Env}:∀ (names:List (Str×NameKind)) (cs:List (Str×Addr)) (x:Str) (c:Addr),
 (names.foldl (fun cs p=>if (p.2==NameKind.free)=true then (p.1,(env.cells.lookup p.1).getD 0)::cs else cs) cs).lookup x=some c->(∃ d,cs.lookup x=some d)\/(x,NameKind.free)∈names
 | [],cs,x,c,e=>.inl ⟨c,e⟩
 | (n,k)::r,cs,x,c,e=>by
  simp only [abf] at e
  rcases zJ r _ x c e with ⟨d,q⟩ | q
  . split at q
    . rename_i hk
      simp only [aaS] at q
      split at q
      . rename_i z
        have z':x=n:=by simpa using z
        have k':k=NameKind.free:=by simpa using hk
        right; rw [z',k']; exact aab
      . exact .inl ⟨d,q⟩
    . exact .inl ⟨d,q⟩
  . exact .inr (aag _ q)
theorem vY {env:Env}:∀ (names:List (Str×NameKind)) (cs:List (Str×Addr)) (x:Str),
 ((∃ d,cs.lookup x=some d)\/(x,NameKind.free)∈names)->∃ c,(names.foldl (fun cs p=>if (p.2==NameKind.free)=true then (p.1,(env.cells.lookup p.1).getD 0)::cs else cs) cs).lookup x=some c
 | [],cs,x,h=>by
  rcases h with h | h
  . exact h
  . cases h
 | (n,k)::r,cs,x,h=>by
  simp only [abf]
  refine vY r _ x ?_
  rcases h with ⟨d,h⟩ | h
  . left
    split
    . simp only [aaS]
      split
      . exact ⟨_,rfl⟩
      . exact ⟨d,h⟩
    . exact ⟨d,h⟩
  . rcases aao.mp h with e | h
    . left
      cases e
      simp
    . exact .inr h
theorem pQ {env:Env}:∀ (names:List (Str×NameKind)) (cs:List (Str×Addr)),(∀ p∈names,p.2=NameKind.free->∃ c,env.cells.lookup p.1=some c)->
 (forIn names cs fun p r=>if (p.2==NameKind.free)=true then do let a ← cellOf env p.1; pure (ForInStep.yield ((p.1,a)::r)) else pure (ForInStep.yield r):Sem (List (Str×Addr)))=
  pure (names.foldl (fun cs p=>if (p.2==NameKind.free)=true then (p.1,(env.cells.lookup p.1).getD 0)::cs else cs) cs)
 | [],cs,_=>by simp
 | (n,k)::r,cs,h=>by
  rw [ab5,abf]
  by_cases hk:(k==NameKind.free)=true
  . obtain ⟨c,hc⟩:=h (n,k) aab (by simpa using hk)
    have hc':List.lookup n env.cells=some c:=hc
    simp only [hk,if_true,cellOf,hc',pure_bind,Option.getD_some]
    exact pQ r _ fun p hp=>h p (aag _ hp)
  . simp only [hk,pure_bind]
    exact pQ r _ fun p hp=>h p (aag _ hp)
theorem DN {sc:Scope} {env:Env} (h:∀ p∈sc.names,p.2=NameKind.free->∃ c,env.cells.lookup p.1=some c):closureFor sc env=pure (sI sc.names env):=by
 have:=pQ (env:=env) sc.names [] h
 unfold closureFor sI
 rw [← this]
 simp only [bind_pure]
theorem oh {env:Env}:∀ (names:List (Str×NameKind)) (x:Str),
 (names.map fun (n,k)=>if (k==NameKind.free&&env.scope.kind==.function&&env.kindOf n==some .cell) then (n,NameKind.cell) else (n,k)).lookup x=
  (names.lookup x).map fun k=>if (k==NameKind.free&&env.scope.kind==.function&&env.kindOf x==some .cell) then NameKind.cell else k
 | [],x=>rfl
 | (n,k)::r,x=>by
  have ih:=oh (env:=env) r x
  simp only [aav]
  by_cases hx:x=n
  . subst hx
    split<;>simp_all
  . have hb:(x==n)=false:=acd.mpr hx
    split<;>simp only [aaS,hb,ih]
theorem jb {x:Str} {a:Addr}:∀ (names:List (Str×NameKind)) (n:Nat) (acc:List (Str×Addr)),(cellsFrom n names acc).lookup x=some a->n<=a\/acc.lookup x=some a
 | [],_,_,h=>.inr h
 | (y,k)::r,n,acc,h=>by
  unfold cellsFrom at h
  split at h
  . rcases jb r _ _ h with q | q
    . exact .inl (abk q)
    . rw [aaS] at q
      split at q
      . cases q; exact .inl (aaf _)
      . exact .inr q
  . exact jb r _ _ h
theorem vZ {x y:Str} {a:Addr}:∀ (names:List (Str×NameKind)) (n:Nat) (acc:List (Str×Addr)),(∀ z b,acc.lookup z=some b->b<n)->(cellsFrom n names acc).lookup x=some a->(cellsFrom n names acc).lookup y=some a->n<=a->x=y
 | [],_,_,h,h1,h2,h3=>absurd (h _ _ h1) (Nat.not_lt.mpr h3)
 | (z,k)::r,n,acc,h,h1,h2,h3=>by
  unfold cellsFrom at h1 h2
  split at h1
  . rename_i hk
    rw [ab7 hk] at h2
    have one:∀ {w:Str},(cellsFrom (n+1) r ((z,n)::acc)).lookup w=some a->a=n->w=z:=fun {w} e e'=>by
     rcases jb r _ _ e with q | q
     . exact absurd q (by rw [e']; exact Nat.not_succ_le_self n)
     . rw [aaS] at q
       split at q
       . rename_i hw; exact beq_iff_eq.mp hw
       . exact absurd (h _ _ q) (by rw [e']; exact aba _)
    by_cases e:a=n
    . exact (one h1 e).trans (one h2 e).symm
    . refine vZ r (n+1) _ (fun w b q=>?_) h1 h2 (Nat.lt_of_le_of_ne h3 (Ne.symm e))
      rw [aaS] at q
      split at q
      . cases q; exact abb _
      . exact abl (h _ _ q)
  . rename_i hk
    rw [ab8 hk] at h2
    exact vZ r n acc h h1 h2 h3
theorem v5 {x:Str} {a:Addr}:∀ (names:List (Str×NameKind)) (n:Nat) (acc:List (Str×Addr)),names.lookup x=some .cell->(cellsFrom n names acc).lookup x=some a->n<=a
 | [],_,_,h,_=>by cases h
 | (y,k)::r,n,acc,h,h1=>by
  rw [aaS] at h
  unfold cellsFrom at h1
  split at h
  . rename_i hy
    cases h
    rw [ab7 (by decide)] at h1
    rcases jb r _ _ h1 with q | q
    . exact abk q
    . rw [aaS,hy] at q; cases q; exact aaf _
  . split at h1
    . exact abk (v5 r _ _ h h1)
    . exact v5 r _ _ h h1
theorem v6 {x:Str}:∀ (names:List (Str×NameKind)) (n:Nat) (acc:List (Str×Addr)),(∀ p∈names,p.2=.cell->p.1≠x)->(cellsFrom n names acc).lookup x=acc.lookup x
 | [],_,_,_=>rfl
 | (y,k)::r,n,acc,h=>by
  unfold cellsFrom
  split
  . rename_i hk
    rw [v6 r _ _ fun p hp=>h p (aag _ hp),aaS,show (x==y)=false from acd.mpr fun e=>h _ aab (by simpa using hk) e.symm]
  . exact v6 r _ _ fun p hp=>h p (aag _ hp)
theorem uP:∀ (names:List (Str×NameKind)) (h:Heap) (acc:List (Str×Addr)) (x:Str) (a:Addr),(cellsFrom h.objs.size names acc).lookup x=some a->h.objs.size<=a->(∀ z b,acc.lookup z=some b->b<h.objs.size)->(pushCells h names).IsCell a none
 | [],h,acc,x,a,e,hl,hb=>absurd (hb _ _ e) (Nat.not_lt.mpr hl)
 | (y,k)::r,h,acc,x,a,e,hl,hb=>by
  unfold cellsFrom at e
  unfold pushCells
  split at e
  . rename_i hk
    rw [ab7 hk]
    have hz:=abo h ({ cls:=.type "cell",data:=.cell none }:Obj)
    by_cases q:a=h.objs.size
    . subst q
      exact ⟨_,pushCells_keeps r _ _ _ (aau _ rfl),rfl⟩
    . refine uP r _ ((y,h.objs.size)::acc) x a (by rw [hz]; exact e) (by rw [hz]; exact Nat.lt_of_le_of_ne hl (Ne.symm q)) fun z b q'=>?_
      rw [hz]
      rw [aaS] at q'
      split at q'
      . cases q'; exact abb _
      . exact abl (hb _ _ q')
  . rename_i hk
    rw [ab8 hk]
    exact uP r h acc x a e hl hb
abbrev mF (sc:Scope) (C:Addr) (env:Env):List (Str×Addr):=cellsFrom (C+1) sc.names (sI sc.names env)
structure jN (X:Cx) (M F:List Str) (ixs:List Nat) (sc:Scope):Prop where
 kind:sc.kind=.function
 locs:∀ y∈sc.names,y.2=.local->sc.names.lookup y.1=some .local
 cel:∀ y∈sc.names,y.2=.cell->sc.names.lookup y.1=some .cell
 own:∀ p∈sc.names,p.2=.free->X.env.scope.names.lookup p.1=some .cell\/X.env.scope.names.lookup p.1=some .free
 frs:∀ x∈F,sc.names.lookup x=some .free
 ixl:ixs.length=F.length
 ixn:∀ (j i:Nat),ixs[j]?=some i->X.N[i]?=F[j]?
abbrev v7 (m:Nat) (ixs:List Nat) (σ:St):St:=List.replicate m none++ixs.map fun i=>(σ[i]?).join
def iR (X:Cx) (M F:List Str) (sc:Scope) (C:Addr) (fp:List Addr) (s:Shared) (H:Hp):Cx where
 prog:=X.prog
 w:=X.w
 K:=X.K
 mg:=X.mg
 base:=X.base
 A:=X.A
 N:=M++F
 s₀:=s
 H0:=H
 env:=compEnvC sc (mF sc C X.env) C X.env
 outer:=X.stack
 stack:=X.stack
 ex:=fp
 fn:=fun x=>sc.names.lookup x==some .cell
 calm:=X.calm
 pn:=[]
 xe:=fun _ _=>False
section
variable {X:Cx} {pins:List (Addr×Obj)} {σ:St} {H:Hp} {s:Shared}
theorem jN.free_of {M F:List Str} {ixs:List Nat} {sc:Scope} (c:jN X M F ixs sc) {x:Str} {k:NameKind} (h:sc.names.lookup x=some k):(x,k)∈sc.names:=by
 generalize sc.names=l at h
 induction l with
 | nil=>cases h
 | cons p r ih=>
  rw [aaS] at h
  split at h
  . rename_i z
    have z':x=p.1:=by simpa using z
    have e:p.2=k:=aaB h
    subst e
    rw [z']
    exact aab
  . exact aag _ (ih h)
theorem Fe (I:Inv X pins σ H s) {M F:List Str} {ixs:List Nat} {sc:Scope} (c:jN X M F ixs sc):∀ p∈sc.names,p.2=NameKind.free->∃ a,X.env.cells.lookup p.1=some a:=fun p hp e=>
 I.ok.has p.1 (by rcases c.own p hp e with h | h; exact .inl h; exact .inr h)
theorem gP (I:Inv X pins σ H s) {M F:List Str} {ixs:List Nat} {sc:Scope} (c:jN X M F ixs sc) {x:Str} {a:Addr} (h:(sI sc.names X.env).lookup x=some a):X.env.cells.lookup x=some a:=by
 have e:=vX (env:=X.env) sc.names [] x a (fun y d q=>by cases q) h
 rcases zJ sc.names [] x a h with ⟨d,q⟩ | q
 . cases q
 . obtain ⟨b,hb⟩:=Fe I c _ q rfl
   have hb':X.env.cells.lookup x=some b:=hb
   rw [hb',Option.getD_some] at e
   rw [hb',e]
theorem LR (I:Inv X pins σ H s) {M F:List Str} {ixs:List Nat} {sc:Scope} (c:jN X M F ixs sc) {x:Str} {a:Addr} (h:(sI sc.names X.env).lookup x=some a):a<s.heap.objs.size:=by
 obtain ⟨v,o,ho,_⟩:=I.cell x a (gP I c h)
 exact aaq ho
theorem Tu (I:Inv X pins σ H s) {M F:List Str} {ixs:List Nat} {sc:Scope} (c:jN X M F ixs sc) {C:Addr} {fp:List Addr} (hC:s.heap.objs.size<=C) (hf:∀ b∈fp,mC X pins H b) (ho:∀ b∈fp,∃ o,s.heap.get? b=some o):(iR X M F sc C fp s H).Ok where
 mod:=I.ok.mod
 kind:=c.kind
 glob:=I.ok.glob
 blt:=I.ok.blt
 above:=hC
 inj:=fun x y a e1 e2=>by
  have e1':(mF sc C X.env).lookup x=some a:=e1
  have e2':(mF sc C X.env).lookup y=some a:=e2
  have lt:∀ z b,(sI sc.names X.env).lookup z=some b->b<C+1:=fun z b q=>abl (aay (LR I c q) hC)
  rcases jb _ _ _ e1' with q | q
  . exact vZ _ _ _ lt e1' e2' q
  . rcases jb _ _ _ e2' with q' | q'
    . exact absurd (lt _ _ q) (Nat.not_lt.mpr q')
    . exact I.ok.inj x y a (gP I c q) (gP I c q')
 has:=fun x h=>by
  have h':((sc.names.lookup x).map fun k=>if (k==NameKind.free&&X.env.scope.kind==.function&&X.env.kindOf x==some .cell) then NameKind.cell else k)=some .cell\/((sc.names.lookup x).map fun k=>if (k==NameKind.free&&X.env.scope.kind==.function&&X.env.kindOf x==some .cell) then NameKind.cell else k)=some .free:=by
   rw [← oh]; exact h
  refine abB.mp (abY _ _ _ ?_)
  cases e:sc.names.lookup x with
  | none=>rw [e] at h'; rcases h' with h' | h'<;>cases h'
  | some k=>
   rw [e] at h'
   have m:=c.free_of e
   cases k with
   | free=>exact .inr (abB.mpr (vY sc.names [] x (.inr m)))
   | cell=>exact .inl rfl
   | _=>rcases h' with h' | h'<;>simp at h'
 cab:=fun x a h e=>aaL hC (abk (v5 _ _ _ (beq_iff_eq.mp h) e))
 hd:=I.ok.hd
 frames:=I.ok.frames
 stk:=.inl rfl
 exf:=fun b hb=>⟨by
  obtain ⟨o,e⟩:=ho b hb
  exact aaG (aay (aaq e) hC),fun x a e=>by
  obtain ⟨o,eo⟩:=ho b hb
  rcases jb _ _ _ (show (mF sc C X.env).lookup x=some a from e) with q | q
  . exact aa0 (aay (aaq eo) (aaL hC (abk q)))
  . exact (hf b hb).2.2.2.2.1 x a (gP I c q)⟩
 bs:=I.bs
 bsz:=aaL I.ok.bsz I.sz
 noex:=fun b o e hb=>by
  obtain ⟨_,_,_,h,_⟩:=hf b hb
  rcases h with h | h
  . exact I.ok.noex b o e h
  . exact absurd (aay (aaq (I.ok.bs b o e).1) h) (aba _)
 exfs:=fun b hb z=>by
  obtain ⟨_,h1,h2,_⟩:=hf b hb
  rcases aao.mp (I.stkSub b z) with z | z
  . exact h1 z
  . exact h2 z
 funs:=I.stack
 frf:=I.stkFree
theorem Pz (I:Inv X pins σ H s) {M F:List Str} {ixs:List Nat} {sc:Scope} (c:jN X M F ixs sc) {fp:List Addr} (hf:∀ b∈fp,mC X pins H b) (ho:∀ b∈fp,∃ o,s.heap.get? b=some o)
 {h₁:Heap} {tk:Nat} {C:Addr} {m1:Str->Option Value} (hC:C=s.heap.objs.size+1) (hns:h₁.Ns C m1) (old:∀ b o,s.heap.get? b=some o->h₁.get? b=some o)
 (hD:h₁.get? s.heap.objs.size=some { cls:=.type "list",data:=.seq #[] 0 }) (hce:∀ x a,(mF sc C X.env).lookup x=some a->C+1<=a->h₁.IsCell a none):
 Inv (iR X M F sc C fp s H) [] (v7 M.length ixs σ) (upd H s.heap.objs.size (.lst [])) { s with heap:=h₁,toks:=tk }:=by
 have hDn:H s.heap.objs.size=none:=I.hok.fresh (aaf _)
 have hCle:s.heap.objs.size<=C:=by rw [hC]; exact abE _
 have hCn:H C=none:=I.hok.fresh hCle
 have hok:=Tu (X:=X) I c (C:=C) (fp:=fp) hCle hf ho
 refine ⟨hok,rfl,I.bare,Un.laid old (aaf _) hDn,⟨m1,hns,?_⟩,?_,?_,?_,?_,?_,?_⟩
 . intro i x v e1 e2 hv
   have e1':(M++F)[i]?=some x:=e1
   by_cases hi:i<M.length
   . rw [aaI (by simpa using hi)] at e2
     rw [List.getElem?_replicate] at e2
     simp [hi] at e2
   . rw [aas (by omega)] at e1'
     rw [aas (by simpa using abJ hi)] at e2
     simp only [List.length_replicate,aaN] at e2
     cases q:ixs[i-M.length]? with
     | none=>rw [q] at e2; cases e2
     | some i'=>
      rw [q] at e2
      have e2':(σ[i']?).join=some v:=by simpa using e2
      have e3:σ[i']?=some (some v):=by
       cases z:σ[i']? with
       | none=>rw [z] at e2'; cases e2'
       | some y=>rw [z] at e2'; simp at e2'; rw [e2']
      have xF:x∈F:=aa9 e1'
      have hlk:=c.frs x xF
      have hm:=c.free_of hlk
      have hX:=c.own _ hm rfl
      have hN:X.N[i']?=some x:=by rw [c.ixn _ _ q]; exact e1'
      obtain ⟨m,hn,hl⟩:=I.loc
      have vis:K6 X.env.scope x:=by
       rcases hX with h | h
       . exact .inr (.inl h)
       . exact .inr (.inr h)
      obtain ⟨u,r,l⟩:=hl i' x v hN e3 vis
      refine ⟨u,r,.inr ⟨?_,?_⟩⟩
      . show (Env.kindOf (compEnvC sc (mF sc C X.env) C X.env) x=_)\/(Env.kindOf (compEnvC sc (mF sc C X.env) C X.env) x=_)
        have:Env.kindOf (compEnvC sc (mF sc C X.env) C X.env) x=(sc.names.lookup x).map fun k=>if (k==NameKind.free&&X.env.scope.kind==.function&&X.env.kindOf x==some .cell) then NameKind.cell else k:=oh sc.names x
        rw [this,hlk]
        simp only [abz]
        split
        . exact .inl rfl
        . exact .inr rfl
      . rcases l with ⟨hk,_⟩ | ⟨_,cc,hcc,hcell⟩
        . rcases hX with h | h
          . have hk':X.env.scope.names.lookup x=some .local:=hk
            have h':X.env.scope.names.lookup x=some .cell:=h
            rw [h'] at hk'; cases hk'
          . have hk':X.env.scope.names.lookup x=some .local:=hk
            have h':X.env.scope.names.lookup x=some .free:=h
            rw [h'] at hk'; cases hk'
        . obtain ⟨a,ha⟩:=vY (env:=X.env) sc.names [] x (.inr hm)
          have ha':=gP I c (x:=x) (a:=a) ha
          rw [hcc] at ha'; cases ha'
          obtain ⟨oc,hoc,hd⟩:=hcell
          exact ⟨cc,(v6 _ _ _ fun p hp e z=>by have:=c.cel p hp e; rw [z,hlk] at this; cases this).trans ha,oc,old _ _ hoc,hd⟩
 . intro x a e
   have e':(mF sc C X.env).lookup x=some a:=e
   rcases jb _ _ _ e' with q | q
   . exact ⟨none,hce x a e' q⟩
   . obtain ⟨v,oc,hoc,hd⟩:=I.cell x a (gP I c q)
     exact ⟨v,oc,old _ _ hoc,hd⟩
 . show upd H s.heap.objs.size (.lst []) C=none
   rw [cj (by rw [hC]; exact Nat.succ_ne_self _)]; exact hCn
 . intro x a e
   rcases jb _ _ _ (show (mF sc C X.env).lookup x=some a from e) with q | q
   . have q':s.heap.objs.size<a:=abC hCle q
     rw [cj (aa0 q')]
     exact I.hok.fresh (abA q')
   . obtain ⟨v,oc,hoc,hd⟩:=I.cell x a (gP I c q)
     rw [cj (aaG (aaq hoc))]
     exact I.freeC x a (gP I c q)
 . intro p hp; cases hp
 . exact I.hok.laid old (aaf _) ⟨aa3 _,[],0,.nil,hD⟩
 . show (List.replicate M.length none++_).length=(M++F).length
   simp [c.ixl]
def Bf (X:Cx) (ifs:List Expr) (t:TT):Prop:=
 ∀ (pins:List (Addr×Obj)) (s:Shared) (σ:St) (H:Hp) (Q:Bool->Hp->Prop),Inv X pins σ H s->t σ H Q->
  wpAny (model X.prog X.w) X.A (forIn ifs true fun c r=>if r=true then do let ok ← isTrue c X.env (eval c X.env); pure (ForInStep.yield ok) else pure (ForInStep.yield r)) (TP X pins σ Q) X.xe s
theorem PB {X:Cx}:Bf X [] (fun _ H Q=>Q true H):=fun _ s σ H Q I h=>wpAny_tests_nil ⟨H,I,h⟩
def Rt (wi:TI) (m:Nat) (ixs:List Nat) (g:TG) (tc:TT) (te:TE):TE:=fun σ H Q=>wi σ H fun J H1=>∀ p,H1 p=none->
 ∃ W:Nat->Nat->St->Hp->Prop,(∃ n,W 0 n (v7 m ixs σ) (upd H1 p (.lst [])))/\∀ i n σ' H',W i n σ' H'->
  ((J.stop i H'/\Q (.ref p) H')\/(J.go i H'/\∀ x H2,J.yld i H' x H2->g x σ' H2 fun σ3 H3=>tc σ3 H3 fun b H4=>
    if b=true then te σ3 H4 fun v H5=>∃ ys,H5 p=some (.lst ys)/\ys.length<sizeLine/\∃ n',n'<n/\W (i+1) n' σ3 (upd H5 p (.lst (ys++[v])))
    else ∃ n',n'<n/\W (i+1) n' σ3 H4))
def CI (X:Cx) (fp:List Addr) (tn:Nat->Heap->Prop) (W:Nat->Nat->St->Hp->Prop) (n:Nat) (s:Shared):Prop:=∃ i σ H,Inv X [] σ H s/\tn i s.heap/\(∀ b∈fp,H b=none)/\W i n σ H
theorem Ff {P:Prop} (h:∀ G:Prop,(P->G)->G):P:=h P id
theorem Ma {D it:Addr} {fp:List Addr} {tn:Nat->Heap->Prop} {J:It} {tg iter elt:Expr} {ifs:List Expr} {sc:Scope} {pos:Pos} {g:TG} {tc:TT} {te:TE} {W:Nat->Nat->St->Hp->Prop} {F:Hp->Prop} (hcalm:X.calm=true) (T:Turn X.prog X.w X.K tg J fp it tn) (hg:PG X tg g) (hc:Bf X ifs tc) (he:PE X elt te) (hx:∀ u s,X.xe u s->False)
 (stat:∀ {H':Hp},(∀ b∈fp,H' b=none)->∀ b∈fp,mC X [] H' b)
 (turn:∀ i n σ' H',W i n σ' H'->((J.stop i H'/\F H')\/(J.go i H'/\∀ x H2,J.yld i H' x H2->g x σ' H2 fun σ3 H3=>tc σ3 H3 fun b H4=>
   if b=true then te σ3 H4 fun v H5=>∃ ys,H5 D=some (.lst ys)/\ys.length<sizeLine/\∃ n',n'<n/\W (i+1) n' σ3 (upd H5 D (.lst (ys++[v])))
   else ∃ n',n'<n/\W (i+1) n' σ3 H4)))
 {R:Result->Shared->Prop} (hR:∀ σ' H' s',Inv X [] σ' H' s'->F H'->R (.ok .next) s') (n:Nat) (s':Shared) (hI:CI X fp tn W n s'):
 wpAny (model X.prog X.w) X.A (compTurn (.ListComp elt [⟨tg,iter,ifs,0⟩] sc pos) 0 (.ref it) (.ref D) X.env)
  (fun fin s'=>match fin with | .done f=>R (.ok f) s' | .again c'=>c'=.compLoop (.ListComp elt [⟨tg,iter,ifs,0⟩] sc pos) 0 (.ref it) (.ref D) X.env/\∃ m,m<n/\CI X fp tn W m s') (fun _ _=>False) s':=by
 refine Ff fun G kG=>?_
 obtain ⟨i,σ',H',I',st',fr',w'⟩:=hI
 rw [compTurn_list] at kG
 rcases turn i n σ' H' w' with ⟨stop,qn⟩ | ⟨go,step⟩
 . refine kG (ab6 (wpAny_standAt (ab6 (wpAny_mono (T.done X rfl rfl rfl hcalm i [] s' σ' H' (fun _ _=>False) I' (stat fr') st' stop) (fun r s4 h4=>?_) fun _ _ f=>f))))
   obtain ⟨hr,I4⟩:=h4
   subst hr
   exact ab9 (hR σ' H' _ I4 qn)
 . refine kG (ab6 (wpAny_standAt (ab6 (wpAny_mono (T.item X rfl rfl rfl hcalm i [] s' σ' H' (fun _ _=>False) I' (stat fr') st' go) (fun r s4 h4=>?_) fun _ _ f=>f))))
   obtain ⟨u,hr,h4⟩:=h4
   subst hr
   refine ab6 (wpAny_mono h4 (fun _ s5 h5=>?_) fun _ _ f=>f)
   refine Ff fun G kG=>?_
   obtain ⟨x,H5,I5,r5,y5,st5,fr5⟩:=h5
   have again:∀ {s7:Shared} {σ7:St} {H7:Hp} {n':Nat},Inv X ([]++vP fp s5.heap) σ7 H7 s7->W (i+1) n' σ7 H7->CI X fp tn W n' s7:=fun {s7 σ7 H7 n'} I7 w7=>by
    have pn:∀ b∈fp,∀ o,s5.heap.get? b=some o->s7.heap.get? b=some o/\H7 b=none:=fun b hb o e=>by
     have:=I7.pin (b,o) (aaE _ (aaE _ (uJ hb e)))
     exact ⟨this.1,this.2.1⟩
    refine ⟨i+1,σ7,H7,I7.unpinned,T.keep _ _ _ st5 fun b hb o e=>(pn b hb o e).1,fun b hb=>?_,w7⟩
    obtain ⟨o,e,d⟩:=T.obj _ _ st5 b hb
    exact (pn b hb o e).2
   refine kG (ab6 (wpAny_mono (hg _ s5 σ' H5 x u _ (I5.pinned (stat fr5) (T.obj _ _ st5)) r5 (step x H5 y5)) (fun _ s6 h6=>?_) hx))
   refine Ff fun G kG=>?_
   obtain ⟨σ6,H6,I6,q6⟩:=h6
   refine kG (ab6 (wpAny_mono (hc _ s6 σ6 H6 _ I6 q6) (fun ok s7 h7=>?_) hx))
   refine Ff fun G kG=>?_
   obtain ⟨H7,I7,q7⟩:=h7
   cases ok with
   | false=>
    rw [ab8 aaA] at q7
    obtain ⟨n',hn',w7⟩:=q7
    exact kG (ab9 ⟨rfl,n',hn',again I7 w7⟩)
   | true=>
    rw [ab7 rfl] at q7
    refine kG (ab6 (ab6 (wpAny_mono (he _ s7 σ6 H7 _ I7 q7) (fun v s8 h8=>?_) hx)))
    refine Ff fun G kG=>?_
    obtain ⟨y,H8,I8,r8,ys,hp8,hz,n',hn',w8⟩:=h8
    refine kG (ab6 (wpAny_mono (iQ (X:=X) _ s8 σ6 H8 (.ref D) [y] (.ref D) [v] (fun _ H9=>W (i+1) n' σ6 H9) I8 rfl (.cons r8 .nil) ⟨_,ys,y,rfl,rfl,hp8,hz,w8⟩) (fun _ s9 h9=>?_) hx))
    obtain ⟨_,H9,I9,_,w9⟩:=h9
    exact ab9 (ab9 ⟨rfl,n',hn',again I9 w9⟩)
theorem Tv {Md:Model} {sc:Scope} {gl:Addr} {clo:List (Str×Addr)} {qual:Str} {env:Env} {Q:Env->Shared->Prop}
 (h:Q (newEnv sc s.heap.objs.size gl (cellsFrom (s.heap.objs.size+1) sc.names clo) qual none .none (some env) builtinsNs) { s with heap:=pushCells (s.heap.push { cls:=.type "dict",data:=.dict #[] }) sc.names }):
 wpAny Md A (newFunctionEnv sc gl clo [] qual none .none (some env)) Q E s:=by
 simp only [newFunctionEnv,Option.isSome_some,if_true]
 refine ab6 (wpAny_alloc ?_)
 refine ab6 (wpAny_layCells _ (fun name kind cells=>by cases hkc:kind==NameKind.cell<;>simp [hkc]) _ _ _ _ ?_)
 rw [show ({ s with heap:=s.heap.push { cls:=.type "dict",data:=.dict #[] } }:Shared).heap.objs.size=s.heap.objs.size+1 from abo ..]
 exact ab6 (ab9 (ab9 h))
theorem J2 {M F:List Str} {ixs:List Nat} {sc:Scope} {tg iter elt:Expr} {ifs:List Expr} {g:TG} {tc:TT} {te:TE} {pos:Pos} (hcalm:X.calm=true) (c:jN X M F ixs sc)
 (hg:∀ C fp s H,PG (iR X M F sc C fp s H) tg g) (hc:∀ C fp s H,Bf (iR X M F sc C fp s H) ifs tc) (he:∀ C fp s H,PE (iR X M F sc C fp s H) elt te)
 {fp:List Addr} {it:Addr} {tn:Nat->Heap->Prop} {J:It} {Q:VK} (I:Inv X pins σ H s) (T:Turn X.prog X.w X.K tg J fp it tn) (st:tn 0 s.heap) (hf:∀ b∈fp,mC X pins H b)
 (h:∀ p,H p=none->∃ W:Nat->Nat->St->Hp->Prop,(∃ n,W 0 n (v7 M.length ixs σ) (upd H p (.lst [])))/\∀ i n σ' H',W i n σ' H'->
   ((J.stop i H'/\Q (.ref p) H')\/(J.go i H'/\∀ x H2,J.yld i H' x H2->g x σ' H2 fun σ3 H3=>tc σ3 H3 fun b H4=>
     if b=true then te σ3 H4 fun v H5=>∃ ys,H5 p=some (.lst ys)/\ys.length<sizeLine/\∃ n',n'<n/\W (i+1) n' σ3 (upd H5 p (.lst (ys++[v])))
     else ∃ n',n'<n/\W (i+1) n' σ3 H4)))
 {RR:Value->Addr->Result->Shared->Prop} {E:Value->Shared->Prop}
 (hR:∀ D C s' H' m,s.heap.get? D=none->s.heap.get? C=none->s.heap.objs.size<=C->H D=none->D≠C->H' C=none->s'.heap.Ns C m->s'.os=s.os->AllBare s'.gens->Un (frs X.stack) fp H H' s.heap s'.heap->ir X.prog X.w H' s'.heap->Q (.ref D) H'->RR (.ref D) C (.ok .next) s'):
 wpAny (model X.prog X.w) X.A (newList []) (fun acc s₃=>wpAny (model X.prog X.w) X.A (newFunctionEnv sc X.env.globals (sI sc.names X.env) [] X.env.qual none .none (some X.env)) (fun cenv s₄=>
  codeAny (model X.prog X.w) X.A (.compStart (.ListComp elt [⟨tg,iter,ifs,0⟩] sc pos) 0 (.ref it) acc { cenv with scope:=relabel sc X.env }) (RR acc cenv.locals) s₄) E s₃) E s:=by
 refine wpAny_newObj_type (Tv ?_)
 dsimp only
 generalize hH2:s.heap.push { cls:=.type "list",dict:=none,data:=.seq ([]:List Value).toArray }=H2
 generalize hh1:pushCells (H2.push { cls:=.type "dict",data:=.dict #[] }) sc.names=h₁
 have kp:∀ b o,H2.get? b=some o->h₁.get? b=some o:=fun b o e=>by rw [← hh1]; exact pushCells_keeps _ _ _ _ (aac _ e)
 have hns₁:h₁.Ns H2.objs.size (fun _=>none):=by rw [← hh1]; exact (Heap.Ns.new H2 (.type "dict")).keeps (pushCells_keeps _ _)
 have hC:H2.objs.size=s.heap.objs.size+1:=by rw [← hH2,abo]
 have hDC:s.heap.objs.size≠H2.objs.size:=by rw [hC]; exact aaG (abb _)
 have below:∀ b,b<s.heap.objs.size->b≠H2.objs.size:=fun b hb=>by rw [hC]; exact aaG (abl hb)
 have old:∀ b o,s.heap.get? b=some o->h₁.get? b=some o:=fun b o e=>kp b o (hH2▸aac _ e)
 have hD:h₁.get? s.heap.objs.size=some { cls:=.type "list",data:=.seq #[] 0 }:=kp _ _ (hH2▸aau _ rfl)
 have fresh:∀ a,s.heap.objs.size<=a->s.heap.get? a=none:=fun a ha=>by
  cases e:s.heap.get? a with
  | none=>rfl
  | some o'=>exact absurd (aaq e) (Nat.not_lt.mpr ha)
 have hDn:H s.heap.objs.size=none:=I.hok.fresh (aaf _)
 have hfo:∀ b∈fp,∃ o,s.heap.get? b=some o:=fun b hb=>let ⟨o,e,_⟩:=T.obj 0 _ st b hb; ⟨o,e⟩
 have hz2:(H2.push { cls:=.type "dict",data:=.dict #[] }).objs.size=H2.objs.size+1:=abo ..
 have hce:∀ x a,(mF sc H2.objs.size X.env).lookup x=some a->H2.objs.size+1<=a->h₁.IsCell a none:=fun x a e q=>by
  rw [← hh1]
  exact uP _ _ (sI sc.names X.env) x a (by rw [hz2]; exact e) (by rw [hz2]; exact q) fun z b q'=>by rw [hz2,hC]; exact abl (abl (LR I c q'))
 have I0:=Pz I c hf hfo (tk:=s.toks) hC hns₁ old hD hce
 obtain ⟨W,⟨n0,w0⟩,turn⟩:=h _ hDn
 have nf:∀ b∈fp,b≠s.heap.objs.size:=fun b hb=>by obtain ⟨o,e⟩:=hfo b hb; exact aaG (aaq e)
 have stat:∀ {H':Hp},(∀ b∈fp,H' b=none)->∀ b∈fp,mC (iR X M F sc H2.objs.size fp s H) [] H' b:=fun {H'} hn b hb=>by
  obtain ⟨f0,f1,f2,f3,f4,f5⟩:=hf b hb
  obtain ⟨o,e⟩:=hfo b hb
  refine ⟨hn b hb,below b (aaq e),fun z=>?_,.inl hb,fun x a e'=>by
   rcases jb _ _ _ (show (mF sc H2.objs.size X.env).lookup x=some a from e') with q | q
   . exact aa0 (aay (aaq e) (aaL (by rw [hC]; exact abE _) (abk q)))
   . exact f4 x a (gP I c q),fun p hp=>by cases hp⟩
  rcases aao.mp (I.stkSub b z) with z | z
  . exact f1 z
  . exact f2 z
 have st1:tn 0 h₁:=T.keep 0 _ _ st fun b hb o e=>old b o e
 have loop:codeAny (model X.prog X.w) X.A (.compLoop (.ListComp elt [⟨tg,iter,ifs,0⟩] sc pos) 0 (.ref it) (.ref s.heap.objs.size) (compEnvC sc (mF sc H2.objs.size X.env) H2.objs.size X.env))
  (RR (.ref s.heap.objs.size) H2.objs.size) { s with heap:=h₁ }:=by
  refine codeAny_loop rfl (CI (iR X M F sc H2.objs.size fp s H) fp tn W) (fun n s' hI=>?_) n0 ⟨0,_,_,I0,st1,fun b hb=>by rw [cj (nf b hb)]; exact (hf b hb).1,w0⟩
  show wpAny _ X.A ((compTurn (.ListComp elt [⟨tg,iter,ifs,0⟩] sc pos) 0 (.ref it) (.ref s.heap.objs.size) (compEnvC sc (mF sc H2.objs.size X.env) H2.objs.size X.env)).onRaise (fun x=>do noteFrame x (compEnvC sc (mF sc H2.objs.size X.env) H2.objs.size X.env); theTreesLotGoes x)) _ _ s'
  refine wpAny_noted (wpAny_mono (Ma (X:=iR X M F sc H2.objs.size fp s H) hcalm T (hg _ fp s H) (hc _ fp s H) (he _ fp s H) (fun _ _ f=>f) stat turn (fun σ' H' s4 I4 qn=>?_) n s' hI) (fun _ _ h=>h) fun _ _ f=>f.elim)
  obtain ⟨m4,hn4,_⟩:=I4.loc
  exact hR _ _ _ H' m4 (fresh _ (aaf _)) (fresh _ (by rw [hC]; exact abE _)) (by rw [hC]; exact abE _) hDn hDC I4.free hn4 I4.os I4.bare I4.base I4.hok qn
 exact codeAny_compStart_list loop (T.self _ 0 _ _ _ st1 loop)
end
section
variable {X:Cx}
theorem Tz {σ σ':St} {H H':Hp} {s s':Shared} {C:Addr} (I:Inv X pins σ H s) (hC:s.heap.get? C=none) (I':Inv X pins σ' H' s') (hn:H' C=none) {h':Heap} {m:Str->Option Value} (hs:Heap.SameBut C s'.heap h')
 (hsz:s.heap.objs.size<=C):Inv X pins σ' H' { s' with heap:=h' }:=by
 have ne:∀ a o,s.heap.get? a=some o->C≠a:=fun a o e z=>by rw [z,e] at hC; cases hC
 refine I'.turned (t':=s'.toks) (it:=C) (fun b o hb e=>(hs.2 b hb).trans e) hn ?_ (.inr (aaL I.sz hsz)) (fun x c e=>?_) (fun p hp=>?_)
 . exact aa0 (aay I.lt hsz)
 . obtain ⟨v,o,ho,_⟩:=I.cell x c e
   exact Ne.symm (ne _ _ ho)
 . exact Ne.symm (ne _ _ (I.pin p hp).1)
theorem TQ (M F:List Str) (ixs:List Nat) {sc:Scope} {tg iter elt:Expr} {ifs:List Expr} {wi:TI} {g:TG} {tc:TT} {te:TE} {pos:Pos} (hcalm:X.calm=true) (c:jN X M F ixs sc) (hi:PI X tg iter wi)
 (hg:∀ C fp s H,PG (iR X M F sc C fp s H) tg g) (hc:∀ C fp s H,Bf (iR X M F sc C fp s H) ifs tc) (he:∀ C fp s H,PE (iR X M F sc C fp s H) elt te)
 (hs:∀ x,foldedSetIterable iter X.env x=pure x:=by intro _; rfl):PE X (.ListComp elt [⟨tg,iter,ifs,0⟩] sc pos) (Rt wi M.length ixs g tc te):=by
 intro pins s σ H Q I h
 rw [eval_ListComp]
 refine wpAny_comprehension_free (use:=none) rfl hs (DN (Fe I c)) c.kind c.locs (bG (hi pins s σ H _ I h) fun v s1 h1=>bG h1 fun itv s2 h2=>?_)
 obtain ⟨it,fp,tn,J,H2,e,I2,T,st2,f2,q⟩:=h2
 subst e
 refine J2 (Q:=Q) hcalm c hg hc he I2 T st2 f2 q (RR:=fun acc C=>compPost (model X.prog X.w) X.A X.xe none (EP X pins σ Q) acc C) ?_
 intro D C s' H' m hD hC hsz hDn hDC hCn hns hos hbare hun hok q'
 have I3:Inv X pins σ H' s':=I2.call' hos hun hok hbare fun b hb=>by
  obtain ⟨_,g1,g2,g3,g4,g5⟩:=f2 b hb
  exact ⟨g3,g1,g4,g5⟩
 exact ⟨m,hns,fun h' hs'=>⟨.ref D,H',Tz (m:=m) I2 hC I3 hCn hs' hsz,rfl,q'⟩⟩
end
theorem Fg (l:Addr) (items:Array Value) (n:Nat) (b:Addr) (items2:Array Value) (n2:Nat) (dd2:Option Addr) (sl2:Array (Option Value)) (hc0:¬(!items.isEmpty&&Builtin.List.listTooLong (items.size+items2.size))=true) (hc1:items.size<=sizeLine) (hs2:items.size+items2.size<=sizeLine+1):
 Meets (Builtin.«list.extend» ⟨[.ref l,.ref b],[]⟩) (fun _ R s=>s.heap.get? l=some { cls:=.type "list",dict:=none,data:=.seq items n,slots:=#[] }/\s.heap.get? b=some { cls:=.type "list",dict:=dd2,data:=.seq items2 n2,slots:=sl2 }/\R (.ok (.ret Value.none)) { s with heap:=s.heap.update l (Obj.mapSeq fun x=>x++items2),toks:=s.toks }):=
 .of_wp fun prog w A R s h=>by
  obtain ⟨hp,g,d,tk,os⟩:=s; obtain ⟨hl,hb,h⟩:=h; have f1:=AutoSeq1.idx_int; have f2:=AutoSeq1.sub_tuple_tuple; have f3:=AutoSeq1.sub_list_list; have f4:=AutoSeq1.sub_tuple_list; have f5:=AutoSeq1.sub_list_tuple;
  have hz':(items++items2).size<=sizeLine+1:=by rw [Array.size_append]; exact hs2
  wp_walk using (wpAny_updateSeq hl rfl (hz:=hc1) (_hz':=hz')),AutoSeq1.wpAny_loadPart' hl,AutoSeq1.wpAny_loadPart' hb; exact ⟨_,rfl,h⟩
section
variable {X:Cx}
theorem TV:eN X (binaryOp .Add) (fun x y H Q=>∃ a b xs ys,x=.ref a/\y=.ref b/\bI X.K H a xs/\bI X.K H b ys/\xs.length+ys.length<=sizeLine/\∀ p,H p=none->Q (.ref p) (upd H p (.lst (xs++ys)))):=by
 intro pins s σ H x y v u Q I rx ry h
 obtain ⟨a,b,xs,ys,rfl,rfl,ha,hb,hz,q⟩:=h
 cases rx
 cases ry
 obtain ⟨its,r1,⟨⟨c1,d1,dt1,s1⟩,n1,g1,e1,e2,e3⟩,_⟩:=I.list ha
 obtain ⟨its2,r2,⟨⟨c2,d2,dt2,s2⟩,n2,g2,f1,f2,f3⟩,_⟩:=I.list hb
 simp only at e1 e2 e3 f1 f2 f3
 subst e1 e2 e3 f1 f2 f3
 have hl1:=r1.length
 have hl2:=r2.length
 refine concat_meets ⟨_,g1,rfl⟩ ⟨_,g2,rfl⟩ noFill_list_add seq_list_add F.slot_list_add F.entry_list_add (F.args_list_add_2 _ _) (list_addW a b its.toArray its2.toArray n1 n2 none none s1 s2 (by rw [aar,aar]; omega)) ⟨g1,g2,?_⟩
 have ea:its.toArray++its2.toArray=(its++its2).toArray:=by simp
 rw [ea]
 exact ⟨.ref _,_,I.lnew (t':=s.toks) (r1.append r2) (by rw [aai]; omega),rfl,q _ I.fresh⟩
def yJ (K:FG):V->List V->Hp->VK->Prop:=fun x vs H Q=>∃ l b xs zs,x=.ref l/\vs=[.ref b]/\H l=some (.lst xs)/\bI K H b zs/\xs.length+zs.length<=sizeLine/\Q .non (upd H l (.lst (xs++zs)))
theorem zK:Rq X "list.extend" (yJ X.K):=by
 intro pins s σ H x vs v us Q I rx rv h
 obtain ⟨l,b,xs,zs,rfl,rfl,hH,hB,hz,q⟩:=h
 cases rx
 obtain ⟨u,rfl,ru⟩:=rv.one
 cases ru
 obtain ⟨z,its,n,r,hl,e⟩:=I.lstM hH
 obtain ⟨its2,r2,⟨⟨c2,d2,dt2,s2⟩,n2,g2,f1,f2,f3⟩,_⟩:=I.list hB
 simp only at f1 f2 f3
 subst f1 f2 f3
 have hl2:=r2.length
 have hsz:its.toArray.size+its2.toArray.size<=sizeLine:=by rw [aar,aar]; omega
 have hlong:¬ (!its.toArray.isEmpty&&Builtin.List.listTooLong (its.toArray.size+its2.toArray.size))=true:=by
  rw [Pj hsz,Bool.and_false]
  exact aaA
 refine call_meets F.slot_list_extend ⟨_,e,rfl⟩ F.entry_list_extend (F.args_list_extend_2 _ _)
  (Fg l its.toArray n b its2.toArray n2 none s2 hlong (by rw [aar]; omega) (by omega)) ⟨e,g2,?_⟩
 refine ⟨.non,_,I.lset (its':=its++its2) hH e (by simp) (r.append r2) ?_,rfl,q⟩
 rw [aai]
 omega
end
section
variable {X:Cx} {pins:List (Addr×Obj)} {σ:St} {H:Hp} {s:Shared} {h':Heap}
theorem PJ {h:Heap} {a:Addr} {o:Obj} (e:h.get? a=some o):o.isFreed=false:=by
 unfold Heap.get? at e
 split at e
 . cases e
 . rename_i hne
   obtain ⟨c,d,dt,sl⟩:=o
   cases dt<;>first | rfl | exact (hne _ _ _ e).elim
theorem Inv.turned2 {t':Nat} {e it:Addr} (I:Inv X pins σ H s) (hei:e≠it) (k:∀ b o,b≠e->b≠it->s.heap.get? b=some o->h'.get? b=some o) (fe:mC X pins H e) (fi:mC X pins H it) (he:∃ o,h'.get? e=some o) (hes:∃ o,s.heap.get? e=some o):Inv X pins σ H { s with heap:=h',toks:=t' }:=by
 obtain ⟨o,ho⟩:=he
 obtain ⟨o0,ho0⟩:=hes
 obtain ⟨a0,a1,a2,a3,a4,a5⟩:=fe
 obtain ⟨b0,b1,b2,b3,b4,b5⟩:=fi
 have I1:Inv X pins σ H { s with heap:=s.heap.update e (fun _=>o),toks:=s.toks }:=I.turned (it:=e) (fun b u hb q=>(abF s.heap (fun _=>o) (Ne.symm hb)).trans q) a0 a1 a3 a4 a5
 refine Inv.turned (s:={ s with heap:=s.heap.update e (fun _=>o),toks:=s.toks }) (it:=it) (h':=h') (t':=t') I1 (fun b u hb q=>?_) b0 b1 b3 b4 b5
 by_cases hbe:b=e
 . subst hbe
   have q':(s.heap.update b (fun _=>o)).get? b=some u:=q
   rw [abL (fun _=>o) ho0 (PJ ho)] at q'
   cases q'
   exact ho
 . have q':(s.heap.update e (fun _=>o)).get? b=some u:=q
   rw [abF s.heap (fun _=>o) (Ne.symm hbe)] at q'
   exact k b u hbe hb q'
end
def Wm (K:FG) (a:Addr):It:=
 ⟨fun i H=>∃ xs x,bI K H a xs/\xs[i]?=some x,fun i H x H'=>∃ T y,H T=none/\x=.ref T/\H'=upd H T (.tup [.int i,y])/\∀ xs,bI K H a xs->xs[i]?=some y,fun i H=>∃ xs,bI K H a xs/\xs.length<=i⟩
theorem Mf {K:FG} {elts:List Expr} {x1} {pos:Pos} (a e it:Addr) (hei:e≠it):Turn P w K (.Tuple elts x1 pos) (Wm K a) [e,it] e (fun i h=>(∃ old,IsEnum h e it i old)/\h.IsListIter it a i) where
 mem:=by simp
 obj:=fun i h st b hb=>by
  obtain ⟨⟨old,he⟩,hit⟩:=st
  rcases aao.mp hb with rfl | hb
  . exact ⟨_,he,fun v z=>by
     have z':Data.fields _=Data.cell v:=z
     cases z'⟩
  . have eb:b=it:=by simpa using hb
    subst eb
    obtain ⟨o,ho,c,d⟩:=hit
    exact ⟨o,ho,fun v z=>by rw [d] at z; cases z⟩
 keep:=fun i h h' st k=>by
  obtain ⟨⟨old,he⟩,hit⟩:=st
  exact ⟨⟨old,k e (by simp) _ he⟩,hit.at fun o q=>k it (by simp) o q⟩
 item:=by
  intro X hP hw hK hc i pins s σ H E I hf st hg
  subst hP hw hK
  obtain ⟨⟨old,he⟩,hit⟩:=st
  obtain ⟨xs,x,hq,hx⟩:=hg
  obtain ⟨its,rv,p,hz⟩:=I.list hq
  obtain ⟨u,hu,ru⟩:=rv.get hx
  have fe:=hf e (by simp)
  have fi:=hf it (by simp)
  have helt:e<s.heap.objs.size:=aaq he
  have hilt:it<s.heap.objs.size:=by obtain ⟨_,q,_⟩:=hit; exact aaq q
  have hTn:H s.heap.objs.size=none:=I.hok.fresh (aaf _)
  refine wpAny_pyNext_enum_item he hit p.isList (x:=u) (by simpa using hu) hei fun h1 ho hit' hT hsz hk=>?_
  refine ⟨_,rfl,wpAny_letOwnedTupleGo_enum ho fun h2 he' hs'=>?_⟩
  have ne1:s.heap.objs.size≠e:=aa0 helt
  have ne2:s.heap.objs.size≠it:=aa0 hilt
  have I1:Inv X pins σ (upd H s.heap.objs.size (.tup [.int i,x])) { s with heap:=s.heap.push { cls:=.type "tuple",data:=.seq #[.int i s.toks,u] },toks:=s.toks+1 }:=by
   refine I.laid (fun b o q=>aac _ q) (aaf _) ⟨by simp only [aae,aaK]; rw [sizeLine_eq]; decide,[.int i s.toks,u],.cons ⟨_,rfl⟩ (.cons ru .nil),?_⟩
   exact ⟨_,aau s.heap rfl,rfl,0,rfl⟩
  have up:∀ b,b≠s.heap.objs.size->H b=none->upd H s.heap.objs.size (.tup [.int i,x]) b=none:=fun b hb q=>by rw [cj hb]; exact q
  have I2:Inv X pins σ (upd H s.heap.objs.size (.tup [.int i,x])) { s with heap:=h2,toks:=s.toks+1 }:=by
   refine I1.turned2 (h':=h2) (t':=s.toks+1) hei (fun b o hb1 hb2 q=>?_) ⟨up e ne1.symm fe.1,fe.2⟩ ⟨up it ne2.symm fi.1,fi.2⟩ ⟨_,he'⟩ ⟨_,aac _ he⟩
   rw [hs'.2 b hb1]
   by_cases hbT:b=s.heap.objs.size
   . subst hbT
     have q':(s.heap.push { cls:=.type "tuple",data:=.seq #[.int i s.toks,u] }).get? s.heap.objs.size=some o:=q
     rw [aau s.heap rfl] at q'
     cases q'
     exact hT
   . refine hk b o hb1 hb2 ?_
     have q':(s.heap.push { cls:=.type "tuple",data:=.seq #[.int i s.toks,u] }).get? b=some o:=q
     rw [Heap.get?_push_ne s.heap b _ hbT] at q'
     exact q'
  refine ⟨.ref s.heap.objs.size,_,I2,rfl,⟨s.heap.objs.size,x,hTn,rfl,rfl,fun ys hy=>by rw [I.list_inj hy hq]; exact hx⟩,⟨⟨u,by simpa using he'⟩,hit'.at fun o y=>(hs'.2 it hei.symm).trans y⟩,fun b hb=>?_⟩
  rcases aao.mp hb with rfl | hb
  . exact up _ ne1.symm fe.1
  . have eb:b=it:=by simpa using hb
    subst eb
    exact up _ ne2.symm fi.1
 done:=by
  intro X hP hw hK hc i pins s σ H E I hf st hg
  subst hP hw hK
  obtain ⟨⟨old,he⟩,hit⟩:=st
  obtain ⟨xs,hq,hx⟩:=hg
  obtain ⟨its,rv,p,hz⟩:=I.list hq
  obtain ⟨f0,f1,f2,f3,f4,f5⟩:=hf it (by simp)
  have hl:=rv.length
  exact wpAny_pyNext_enum_end (I.ok.hd hc) he hit p.isList (abG (by simp; omega)) fun h' eb=>⟨rfl,I.turned (t':=s.toks) (fun b o hb q=>eb b o hb q) f0 f1 f3 f4 f5⟩
 self:=fun _ _ _ _ _ st h=>by
  obtain ⟨⟨old,he⟩,_⟩:=st
  exact wpAny_pyIter_enum he h
section
variable {X:Cx}
def Yt (K:FG) (ta:TA):TI:=fun σ H R=>ta σ H fun vs H1=>∃ a,vs=[.ref a]/\(∃ xs,bI K H1 a xs)/\R (Wm K a) H1
theorem TX {a:Expr} {ta:TA} {p pos:Pos} {elts:List Expr} {x1} {tpos:Pos} (hg:Gl X "enumerate") (hm:X.mg "enumerate" = none) (ha:PA X [a] ta) (hs:starEach [a] X.env=[(false,eval a X.env)]:=by rfl):PI X (.Tuple elts x1 tpos) (.Call (.Name "enumerate" p) [a] [] pos) (Yt X.K ta):=by
 intro pins s σ H R I h
 refine Call_ (qU (u:=.type "enumerate") I hg hm (by kernel_rfl) (PyProof.Rows.callWith_type1 (bG (ha pos pins s σ H _ I h) fun us s1 ⟨vs,H1,I1,r1,q1⟩=>?_) hs rfl))
 obtain ⟨b,e,⟨xs,hq⟩,q⟩:=q1
 subst e
 cases r1 with
 | cons r rr=>
  cases rr
  cases r
  obtain ⟨its,rv,pl,hz⟩:=I1.list hq
  refine call_enumerate_list pl.isList fun h' he hit hsz hk=>?_
  have I2:Inv X pins σ H1 { s1 with heap:=h' }:=I1.kept (t':=s1.toks) hk
  refine wpAny_pyIter_enum he ?_
  refine ⟨s1.heap.objs.size+1,[s1.heap.objs.size+1,s1.heap.objs.size],_,_,H1,rfl,I2,Mf b (s1.heap.objs.size+1) s1.heap.objs.size (Nat.succ_ne_self _),⟨⟨_,he⟩,hit⟩,fun c hc=>?_,q⟩
  have hc':s1.heap.objs.size<=c:=by
   rcases aao.mp hc with rfl | hc
   . exact abE _
   . have ec:c=s1.heap.objs.size:=by simpa using hc
     exact Nat.le_of_eq ec.symm
  exact I1.fpOk hc' (I1.hok.fresh hc')
def Ru (i j:Int):Prop:=0<j/\j<18446744073709551616
theorem jc:eN X (binaryOp .FloorDiv) (rI Ru fun i j=>.int (i/j)):=Le fun i j _ _ _ _ _ hc q=>by
 have h1:(0:Int)<j:=hc.1
 have h2:j<18446744073709551616:=hc.2
 have h0:j.natAbs≠0:=by omega
 have h3:j.natAbs.log2<64:=(Nat.log2_lt h0).mpr (by omega)
 exact floordiv_int (by omega) (by rw [Int.fdiv_eq_ediv_of_nonneg i (by omega)]; exact q) (.inl (PyProof.noPylong_of_log2 (by omega)))
def Yu:R2:=fun x y H Q=>∃ a v,x=.ref a/\Be H a y (some v)/\Q v H
theorem HY (hu:X.A.units+1<cLine):yo X Yu:=by
 intro value slice pins s σ H x y v u Q I rx ry h hs
 obtain ⟨a,z,rfl,g,q⟩:=h
 cases rx
 exact tail_any (Hq I g) F.slot_dict_getitem.lookup (Lz hu I g ry fun w' s3 I3 rw'=>⟨z,H,I3,rw',q⟩) hs
def J3:V->V->V->Hp->(Hp->Prop)->Prop:=fun o i v H Q=>∃ a H',o=.ref a/\Wj H a i v H'/\Q H'
theorem set_dict (hu:X.A.units+1<cLine):VB X J3:=by
 intro pins s σ H o i v ov iv u Q I ro ri rv h
 obtain ⟨a,H',rfl,g,q⟩:=h
 cases ro
 exact LC hu I g ri rv fun s4 I4=>⟨H',I4,q⟩
end
section
variable {X:Cx} {pins:List (Addr×Obj)} {σ:St} {H:Hp} {s:Shared} {h':Heap}
theorem Inv.turnedL {t':Nat} {fp:List Addr} (I:Inv X pins σ H s) (k:∀ b o,b∉fp->s.heap.get? b=some o->h'.get? b=some o) (f:∀ b∈fp,mC X pins H b):Inv X pins σ H { s with heap:=h',toks:=t' }:=by
 have nit:∀ b u,H b=some u->b∉fp:=fun b u e z=>by rw [(f b z).1] at e; cases e
 refine I.step (g':=s.gens) (d':=s.drawn) (ch:=fp) (fun b hb=>⟨(f b hb).2.2.2.1,(f b hb).2.1,(f b hb).2.2.2.2.1,(f b hb).2.2.2.2.2⟩) (fun b o _ _ hc e _=>k b o hc e) (fun b o _ _ hc e _=>⟨o.slots,k b o hc e⟩) (fun _ _ _ _ n=>n)
  (fun b o hc e=>⟨o,k b o hc e⟩) (fun _ _ e=>e) (fun _ _ _ e=>e) (fun b ps e=>⟨#[],by rw [e]; simp⟩) (fun m hm=>?_) (fun b u e=>?_) I.bare
 . obtain ⟨o,es,ep,ho,r⟩:=hm
   exact ⟨o,es,ep,k _ o (fun z=>(f _ z).2.1 rfl) ho,r⟩
 . refine (I.hok b u e).stay (fun c v hc q=>k c v ?_ q) (fun _ q=>q) fun _ _ q=>q
   rcases hc with z | z
   . rw [z]; exact nit b u e
   . exact nit c _ z
end
structure Wn (z TI TO i1 i2:Addr):Prop where
 TIz:TI≠z
 TOz:TO≠z
 i1z:i1≠z
 i2z:i2≠z
 TITO:TI≠TO
 TIi1:TI≠i1
 TIi2:TI≠i2
 TOi1:TO≠i1
 TOi2:TO≠i2
 i12:i1≠i2
section
variable {X:Cx}
end
section
variable {prog:Program}
end
section
variable {prog:Program} {w:World} {A:Around} {R:Result->Shared->Prop} {I:Addr} {fp wr:List Addr} {G:Array GenState->Array GenState->Prop} {n:Nat} {P:Nat->Value->Prop} {St:Nat->Shared->Prop}
end
section
variable {prog:Program}
end
section
variable {X:Cx} {pins:List (Addr×Obj)} {σ:St} {H:Hp} {s:Shared}
end
section
variable {X:Cx}
end
section
variable {prog:Program}
end
section
variable {X:Cx}
end
def Wo (K:FG) (a:Addr) (n:Nat):It:=
 ⟨fun i H=>i<n/\∃ xs,bI K H a xs/\xs.length=n,fun i H x H'=>H'=H/\∀ xs,bI K H a xs->xs[n-1-i]?=some x,fun i H=>i=n/\∃ xs,bI K H a xs/\xs.length=n⟩
theorem PK {K:FG} {tg:Expr} (a it:Addr) (n:Nat):Turn P w K tg (Wo K a n) [it] it (fun i h=>h.IsRevIter it a ((n:Int)-1-i)) where
 mem:=by simp
 obj:=fun i h st b hb=>by
  have e:b=it:=by simpa using hb
  subst e
  obtain ⟨o,e,c,d⟩:=st
  exact ⟨o,e,fun v z=>by rw [d] at z; cases z⟩
 keep:=fun i h h' st k=>st.at fun o e=>k it (by simp) o e
 item:=by
  intro X hP hw hK hc i pins s σ H E I hf st hg
  subst hP hw hK
  obtain ⟨hi,xs,hq,hn⟩:=hg
  obtain ⟨its,rv,p,hz⟩:=I.list hq
  obtain ⟨f0,f1,f2,f3,f4,f5⟩:=hf it (by simp)
  have hx:xs[n-1-i]?=some (xs[n-1-i]'(by omega)):=aaC _
  obtain ⟨u,hu,ru⟩:=rv.get hx
  have e1:(n:Int)-1-i=((n-1-i:Nat):Int):=by omega
  rw [e1] at st
  refine wpAny_pyNext_rev_item st p.isList (x:=u) (by simpa using hu) fun h' st' sb=>?_
  have I1:Inv X pins σ H { s with heap:=h' }:=I.turned (t':=s.toks) (fun b o hb e=>(sb.2 b hb).trans e) f0 f1 f3 f4 f5
  obtain ⟨o,e,c,d⟩:=id st'
  have e2:((n-1-i:Nat):Int)-1=(n:Int)-1-((i+1:Nat):Int):=by omega
  rw [e2] at st'
  exact ⟨u,rfl,Ef (s:={ s with heap:=h' }) e c d (by decide) ⟨_,H,I1,ru,⟨rfl,fun ys hy=>by rw [I.list_inj hy hq]; exact hx⟩,st',fun b hb=>(hf b hb).1⟩⟩
 done:=by
  intro X hP hw hK hc i pins s σ H E I hf st hg
  subst hP hw hK
  obtain ⟨rfl,xs,hq,hn⟩:=hg
  obtain ⟨f0,f1,f2,f3,f4,f5⟩:=hf it (by simp)
  have e1:(i:Int)-1-i=-1:=by omega
  rw [e1] at st
  exact wpAny_pyNext_rev_end (I.ok.hd hc) st fun h' eb=>⟨rfl,I.turned (t':=s.toks) (fun b o hb e=>eb b o hb e) f0 f1 f3 f4 f5⟩
 self:=fun _ _ _ _ _ st h=>wpAny_pyIter_revIter st h
section
variable {X:Cx}
def ZL (K:FG) (ta:TA):TI:=fun σ H R=>ta σ H fun vs H1=>∃ a xs,vs=[.ref a]/\bI K H1 a xs/\R (Wo K a xs.length) H1
theorem Wq {tg a:Expr} {ta:TA} {p pos:Pos} (hg:Gl X "reversed") (hm:X.mg "reversed" = none) (ha:PA X [a] ta) (hs:starEach [a] X.env=[(false,eval a X.env)]:=by rfl):PI X tg (.Call (.Name "reversed" p) [a] [] pos) (ZL X.K ta):=by
 intro pins s σ H R I h
 refine Call_ (qU (u:=.type "reversed") I hg hm (by kernel_rfl) (PyProof.Rows.callWith_type1 (bG (ha pos pins s σ H _ I h) fun us s1 ⟨vs,H1,I1,r1,q1⟩=>?_) hs rfl))
 obtain ⟨b,xs,e,hq,q⟩:=q1
 subst e
 cases r1 with
 | cons r rr=>
  cases rr
  cases r
  obtain ⟨its,rv,pl,hz⟩:=I1.list hq
  have hl:=rv.length
  refine call_reversed_list pl.isList ?_
  have hit:(s1.heap.push (revObj b ((its.toArray.size:Int)-1))).IsRevIter s1.heap.objs.size b ((xs.length:Int)-1-((0:Nat):Int)):=by
   have e0:(xs.length:Int)-1-((0:Nat):Int)=(its.toArray.size:Int)-1:=by rw [hl]; simp
   rw [e0]
   exact ⟨_,aau _ rfl,rfl,rfl⟩
  refine wpAny_pyIter_revIter hit ?_
  refine ⟨s1.heap.objs.size,[s1.heap.objs.size],_,_,H1,rfl,I1.kept (t':=s1.toks) fun b o e=>aac _ e,PK b _ _,hit,fun c hc=>?_,q⟩
  have e:c=s1.heap.objs.size:=by simpa using hc
  subst e
  exact I1.fpOk (aaf _) (I1.hok.fresh (aaf _))
end
def jo:Bool->Heap->Addr->Addr->Nat->Prop
 | true,h,it,a,i=>h.IsListIter it a i
 | false,h,it,a,i=>h.IsTupleIter it a i
def jZ:Bool->Heap->Addr->Array Value->Prop
 | true,h,a,its=>h.IsList a its
 | false,h,a,its=>h.IsTuple a its
def m5:Bool->FG->Hp->Addr->List V->Prop
 | true,K,H,a,xs=>bI K H a xs
 | false,K,H,a,xs=>cI K H a xs
theorem jo.at {k:Bool} {h h':Heap} {it a:Addr} {i:Nat} (x:jo k h it a i) (e:∀ o,h.get? it=some o->h'.get? it=some o):jo k h' it a i:=by
 cases k
 . exact Heap.IsTupleIter.at x e
 . exact Heap.IsListIter.at x e
theorem jo.obj {k:Bool} {h:Heap} {it a:Addr} {i:Nat} (x:jo k h it a i):∃ o,h.get? it=some o/\o.cls≠.type "zip" /\ o.cls≠.type "tuple" /\ o.cls≠.type "list" /\ ∀ v,o.data≠.cell v:=by
 cases k
 . obtain ⟨o,ho,hc,hd⟩:=x
   exact ⟨o,ho,by rw [hc]; simp,by rw [hc]; simp,by rw [hc]; simp,fun v z=>by rw [hd] at z; cases z⟩
 . obtain ⟨o,ho,hc,hd⟩:=x
   exact ⟨o,ho,by rw [hc]; simp,by rw [hc]; simp,by rw [hc]; simp,fun v z=>by rw [hd] at z; cases z⟩
theorem jZ.at {k:Bool} {h h':Heap} {a:Addr} {its:Array Value} (x:jZ k h a its) (e:∀ o,h.get? a=some o->h'.get? a=some o):jZ k h' a its:=by
 cases k
 . obtain ⟨o,ho,r⟩:=x; exact ⟨o,e _ ho,r⟩
 . obtain ⟨o,ho,r⟩:=x; exact ⟨o,e _ ho,r⟩
theorem jZ.obj {k:Bool} {h:Heap} {a:Addr} {its:Array Value} (x:jZ k h a its):∃ o,h.get? a=some o/\(o.cls=.type "list" \/ o.cls=.type "tuple"):=by
 cases k
 . obtain ⟨o,ho,hc,_⟩:=x; exact ⟨o,ho,.inr hc⟩
 . obtain ⟨o,ho,hc,_⟩:=x; exact ⟨o,ho,.inl hc⟩
section
variable {prog:Program}
theorem Bg {k:Bool} {it l:Addr} {i:Nat} {items:Array Value} {x:Value} {Q:Value->Shared->Prop} (hit:jo k s.heap it l i) (hl:jZ k s.heap l items) (hx:items[i]?=some x)
 (hQ:∀ h',jo k h' it l (i+1)->Heap.SameBut it s.heap h'->Q x { s with heap:=h' }):wpAny (model prog w) A (Builtin.SmallTypes.nextOf (.ref it)) Q E s:=by
 cases k
 . have hit:s.heap.IsTupleIter it l i:=hit
   obtain ⟨o,ho,hc,hd⟩:=id hit
   obtain ⟨ol,hol,_,nl,hdl⟩:=hl
   unfold Builtin.SmallTypes.nextOf
   refine ab6 (wpAny_callSpecial?_slot (name:=Str.ofString "__next__") hit.typeIs abj (wpAny_call_entry abj hit.typeIs abR ?_ (abQ _)))
   show wpAny _ _ (field (.ref it) 0 >>= _) _ _ s
   refine ab6 (wpAny_field ho hd (x:=.ref l) rfl ?_)
   show wpAny _ _ (if (Value.ref l==Value.none)=true then _ else _) _ _ s
   rw [ab8 (show ¬ ((Value.ref l==Value.none)=true) from aaA)]
   show wpAny _ _ (field (.ref it) 1 >>= _) _ _ s
   refine ab6 (wpAny_field ho hd (x:=.int i 0) rfl ?_)
   show wpAny _ _ (seqItems? (.ref l) >>= _) _ _ s
   refine ab6 (wpAny_seqItems hol hdl ?_)
   simp only [abW,hx]
   refine ab6 (wpAny_setField ho hd (by simp) (ab9 ⟨x,rfl,ab9 (hQ _ ?_ (abr ..))⟩))
   exact ⟨_,abL _ ho (Obj.isFreed_of_fields (Obj.data_mapFields hd _)),(Obj.cls_mapFields ..).trans hc,by rw [Obj.data_mapFields hd]; simp [rawInt]⟩
 . exact wpAny_nextOf_list_item hit hl hx hQ
theorem Mg {k:Bool} {it l:Addr} {i:Nat} {items:Array Value} {Q:Value->Shared->Prop} (hh:A.handled=none) (hit:jo k s.heap it l i) (hl:jZ k s.heap l items) (hx:items[i]?=none)
 (hE:∀ h' e,Heap.ExtBut it s.heap h'->(∃ o,h'.get? e=some o/\o.cls=.type "StopIteration")->E (.ref e) { s with heap:=h' }):wpAny (model prog w) A (Builtin.SmallTypes.nextOf (.ref it)) Q E s:=by
 cases k
 . have hit:s.heap.IsTupleIter it l i:=hit
   obtain ⟨o,ho,hc,hd⟩:=id hit
   obtain ⟨ol,hol,_,nl,hdl⟩:=hl
   unfold Builtin.SmallTypes.nextOf
   refine ab6 (wpAny_callSpecial?_slot (name:=Str.ofString "__next__") hit.typeIs abj (wpAny_call_entry abj hit.typeIs abR ?_ (abQ _)))
   show wpAny _ _ (field (.ref it) 0 >>= _) _ _ s
   refine ab6 (wpAny_field ho hd (x:=.ref l) rfl ?_)
   show wpAny _ _ (if (Value.ref l==Value.none)=true then _ else _) _ _ s
   rw [ab8 (show ¬ ((Value.ref l==Value.none)=true) from aaA)]
   show wpAny _ _ (field (.ref it) 1 >>= _) _ _ s
   refine ab6 (wpAny_field ho hd (x:=.int i 0) rfl ?_)
   show wpAny _ _ (seqItems? (.ref l) >>= _) _ _ s
   refine ab6 (wpAny_seqItems hol hdl ?_)
   simp only [abW,hx]
   refine ab6 (wpAny_rule (ab6 (wpAny_setField ho hd (by simp) ?_)))
   show wpAny _ _ (newExc (.type "StopIteration") [] >>= _) _ _ _
   refine ab6 ?_
   simp only [newExc,newTuple]
   refine ab6 (wpAny_newObj_type ?_ (by size_fits))
   refine ab6 (m:=firstArgMember _ _) (wpAny_of_eq (a:=Value.none) (by first | rfl | (simp only [firstArgMember]; rfl)) ?_)
   refine wpAny_newObj_type ?_ (by size_fits)
   simp only [raiseNew]
   refine ab6 (wpAny_handled ?_)
   first | rw [show A.in1.handled=none from hh] | rw [hh]
   refine ab6 (ab9 (wpAny_throw ?_))
   exact hE _ _ (((abr ..).extBut.push _).push _) ⟨_,aau _ rfl,rfl⟩
 . exact wpAny_nextOf_list_end hh hit hl hx hE
theorem Mh {k:Bool} {z TI TO i1 i2 l1 l2:Addr} {k1 k2:Nat} {xs ys:Array Value} {x y a b:Value} {Q:Value->Shared->Prop} (D:ZipApart z TI TO i1 i2 l1 l2)
 (hz:IsZip s.heap z TI TO .none) (hTI:IsPair s.heap TI (.ref i1) (.ref i2)) (hTO:IsPair s.heap TO a b) (h1:jo k s.heap i1 l1 k1) (h2:jo k s.heap i2 l2 k2) (hl1:jZ k s.heap l1 xs) (hl2:jZ k s.heap l2 ys) (hx:xs[k1]?=some x) (hy:ys[k2]?=some y)
 (hQ:∀ h',IsZip h' z TI TO (rawInt s.heap.objs.size)->IsPair h' TO x y->jo k h' i1 l1 (k1+1)->jo k h' i2 l2 (k2+1)->IsPair h' s.heap.objs.size x y->
   (∀ c o,c≠z->c≠TO->c≠i1->c≠i2->s.heap.get? c=some o->h'.get? c=some o)->Q (.ref s.heap.objs.size) { s with heap:=h' }):
 wpAny (model prog w) A (Builtin.«zip.__next__» ⟨[.ref z],[]⟩) (fun fin s'=>∃ v,fin=.done (.ret v)/\Q v s') E s:=by
 show wpAny _ _ (field (.ref z) 2 >>= _) _ _ _
 refine ab6 (wpAny_field hz rfl (x:=.bool false) rfl ?_)
 show wpAny _ _ (field (.ref z) 3 >>= _) _ _ _
 refine ab6 (wpAny_field hz rfl (x:=.ref TI) rfl (ab6 (wpAny_seqItems hTI rfl ?_)))
 show wpAny _ _ (Builtin.SmallTypes.ownedTupleIsFree (.ref z) >>= _) _ _ _
 unfold Builtin.SmallTypes.ownedTupleIsFree
 refine ab6 (ab6 (wpAny_field hz rfl (x:=.none) rfl (ab9 ?_)))
 simp only [if_true]
 refine ab6 (wpAny_rule (ab6 (wpAny_field hz rfl (x:=.ref TO) rfl (ab6 (wpAny_setField_rec hz (by simp) fun g1 z1 s1=>?_)))))
 have z1:IsZip g1 z TI TO .ellipsis:=z1
 have e1:∀ c o,c≠z->s.heap.get? c=some o->g1.get? c=some o:=fun c o hc e=>s1.extBut _ _ hc e
 refine ab6 ?_
 simp only [ab1,List.zipIdx_nil,ab5,List.forIn_nil]
 refine ab6 (ab6 (wpAny_onRaise ?_))
 show wpAny _ _ (Builtin.SmallTypes.nextOf (.ref i1) >>= _) _ _ _
 refine ab6 (Bg (h1.at fun o e=>e1 _ o D.i1z e) (hl1.at fun o e=>e1 _ o D.l1z e) hx fun g2 n1 s2=>ab9 ?_)
 have e2:∀ c o,c≠i1->g1.get? c=some o->g2.get? c=some o:=fun c o hc e=>s2.extBut _ _ hc e
 have t2:IsPair g2 TO a b:=e2 _ _ D.TOi1 (e1 _ _ D.TOz hTO)
 refine ab6 (wpAny_seqItems t2 rfl (ab6 (wpAny_updateSeq_pair t2 fun g3 t3 s3=>?_)))
 have t3:IsPair g3 TO x b:=t3
 have e3:∀ c o,c≠TO->g2.get? c=some o->g3.get? c=some o:=fun c o hc e=>s3.extBut _ _ hc e
 refine ab6 (wpAny_letGo (ab9 ?_))
 refine ab6 (ab6 (wpAny_onRaise ?_))
 show wpAny _ _ (Builtin.SmallTypes.nextOf (.ref i2) >>= _) _ _ _
 refine ab6 (Bg (h2.at fun o e=>e3 _ o D.TOi2.symm (e2 _ o D.i12.symm (e1 _ o D.i2z e))) (hl2.at fun o e=>e3 _ o D.l2TO (e2 _ o D.l2i1 (e1 _ o D.l2z e))) hy fun g4 n2 s4=>ab9 ?_)
 have e4:∀ c o,c≠i2->g3.get? c=some o->g4.get? c=some o:=fun c o hc e=>s4.extBut _ _ hc e
 have t4:IsPair g4 TO x b:=e4 _ _ D.TOi2 t3
 refine ab6 (wpAny_seqItems t4 rfl (ab6 (wpAny_updateSeq_pair t4 fun g5 t5 s5=>?_)))
 have t5:IsPair g5 TO x y:=t5
 have e5:∀ c o,c≠TO->g4.get? c=some o->g5.get? c=some o:=fun c o hc e=>s5.extBut _ _ hc e
 refine ab6 (wpAny_letGo (ab9 (ab9 ?_)))
 refine ab6 (wpAny_seqItems t5 rfl (ab6 (wpAny_newTuple ?_)))
 have hsz:g5.objs.size=s.heap.objs.size:=by rw [s5.1,s4.1,s3.1,s2.1,s1.1]
 have z5:IsZip g5 z TI TO .ellipsis:=e5 _ _ D.TOz.symm (e4 _ _ D.i2z.symm (e3 _ _ D.TOz.symm (e2 _ _ D.i1z.symm z1)))
 have zlt:z<g5.objs.size:=aaq z5
 show wpAny _ _ (Builtin.SmallTypes.ownedTupleHandOut (.ref z) (.ref g5.objs.size) >>= _) _ _ _
 unfold Builtin.SmallTypes.ownedTupleHandOut
 have z6:IsZip (g5.push { cls:=.type "tuple",data:=.seq #[x,y] }) z TI TO .ellipsis:=aac _ z5
 refine ab6 (ab6 (wpAny_setField_rec z6 (by simp) fun g7 z7 s7=>?_))
 have z7:IsZip g7 z TI TO (rawInt g5.objs.size):=z7
 refine wpAny_setField_rec z7 (by simp) fun g8 z8 s8=>?_
 have z8:IsZip g8 z TI TO (rawInt g5.objs.size):=z8
 have up:∀ c o,c≠z->g5.get? c=some o->g8.get? c=some o:=fun c o c1 e=>s8.extBut _ _ c1 (s7.extBut _ _ c1 (aac _ e))
 have t8:IsPair g8 g5.objs.size x y:=s8.extBut _ _ (aa0 zlt) (s7.extBut _ _ (aa0 zlt) (aau _ rfl))
 rw [hsz] at z8 t8
 refine ab9 ⟨_,rfl,?_⟩
 show Q (.ref g5.objs.size) _
 rw [hsz]
 exact hQ g8 z8 (up _ _ D.TOz t5) (n1.at fun o e=>up _ o D.i1z (e5 _ o D.TOi1.symm (e4 _ o D.i12 (e3 _ o D.TOi1.symm e)))) (n2.at fun o e=>up _ o D.i2z (e5 _ o D.TOi2.symm e)) t8 fun c o c1 c2 c3 c4 e=>up c o c1 (e5 _ _ c2 (e4 _ _ c4 (e3 _ _ c2 (e2 _ _ c3 (e1 _ _ c1 e)))))
theorem PN {k:Bool} {z TI TO i1 i2 l1 l2:Addr} {k1 k2:Nat} {xs ys:Array Value} {a b:Value} {Q:Fin->Shared->Prop} (hh:A.handled=none) (D:ZipApart z TI TO i1 i2 l1 l2)
 (hz:IsZip s.heap z TI TO .none) (hTI:IsPair s.heap TI (.ref i1) (.ref i2)) (hTO:IsPair s.heap TO a b) (h1:jo k s.heap i1 l1 k1) (h2:jo k s.heap i2 l2 k2) (hl1:jZ k s.heap l1 xs) (hl2:jZ k s.heap l2 ys) (hend:xs[k1]?=none\/ys[k2]?=none)
 (hE:∀ h' e,(∀ c o,c≠z->c≠TO->c≠i1->c≠i2->s.heap.get? c=some o->h'.get? c=some o)->(∃ o,h'.get? e=some o/\o.cls=.type "StopIteration")->E (.ref e) { s with heap:=h' }):
 wpAny (model prog w) A (Builtin.«zip.__next__» ⟨[.ref z],[]⟩) Q E s:=by
 show wpAny _ _ (field (.ref z) 2 >>= _) _ _ _
 refine ab6 (wpAny_field hz rfl (x:=.bool false) rfl ?_)
 show wpAny _ _ (field (.ref z) 3 >>= _) _ _ _
 refine ab6 (wpAny_field hz rfl (x:=.ref TI) rfl (ab6 (wpAny_seqItems hTI rfl ?_)))
 show wpAny _ _ (Builtin.SmallTypes.ownedTupleIsFree (.ref z) >>= _) _ _ _
 unfold Builtin.SmallTypes.ownedTupleIsFree
 refine ab6 (ab6 (wpAny_field hz rfl (x:=.none) rfl (ab9 ?_)))
 simp only [if_true]
 refine ab6 (wpAny_rule (ab6 (wpAny_field hz rfl (x:=.ref TO) rfl (ab6 (wpAny_setField_rec hz (by simp) fun g1 z1 s1=>?_)))))
 have z1:IsZip g1 z TI TO .ellipsis:=z1
 have e1:∀ c o,c≠z->s.heap.get? c=some o->g1.get? c=some o:=fun c o hc e=>s1.extBut _ _ hc e
 refine ab6 ?_
 simp only [ab1,List.zipIdx_nil,ab5,List.forIn_nil]
 refine ab6 (ab6 (wpAny_onRaise ?_))
 show wpAny _ _ (Builtin.SmallTypes.nextOf (.ref i1) >>= _) _ _ _
 have nz:∀ {g:Heap} {f0:Value} {e:Addr},IsZip g z TI TO f0->(∃ o,g.get? e=some o/\o.cls=.type "StopIteration")->e≠z:=fun {g f0 e} q ⟨o,h,c⟩ x=>by
  subst x
  rw [q] at h
  cases h
  simp at c
 cases hx:xs[k1]? with
 | none=>
  refine ab6 (Mg hh (h1.at fun o e=>e1 _ o D.i1z e) (hl1.at fun o e=>e1 _ o D.l1z e) hx fun g2 e s2 he=>?_)
  have z2:IsZip g2 z TI TO .ellipsis:=s2 _ _ D.i1z.symm z1
  have ez:=nz z2 he
  obtain ⟨oe,hoe,hce⟩:=he
  exact wpAny_setField_rec z2 (by simp) fun g3 _ s3=>hE g3 e (fun c o c1 _ c3 _ x=>s3.extBut _ _ c1 (s2 _ _ c3 (e1 _ _ c1 x))) ⟨oe,s3.extBut _ _ ez hoe,hce⟩
 | some x=>
  have hy:ys[k2]?=none:=hend.resolve_left fun q=>by rw [hx] at q; cases q
  refine ab6 (Bg (h1.at fun o e=>e1 _ o D.i1z e) (hl1.at fun o e=>e1 _ o D.l1z e) hx fun g2 n1 s2=>ab9 ?_)
  have e2:∀ c o,c≠i1->g1.get? c=some o->g2.get? c=some o:=fun c o hc e=>s2.extBut _ _ hc e
  have t2:IsPair g2 TO a b:=e2 _ _ D.TOi1 (e1 _ _ D.TOz hTO)
  refine ab6 (wpAny_seqItems t2 rfl (ab6 (wpAny_updateSeq_pair t2 fun g3 t3 s3=>?_)))
  have e3:∀ c o,c≠TO->g2.get? c=some o->g3.get? c=some o:=fun c o hc e=>s3.extBut _ _ hc e
  refine ab6 (wpAny_letGo (ab9 ?_))
  refine ab6 (ab6 (wpAny_onRaise ?_))
  show wpAny _ _ (Builtin.SmallTypes.nextOf (.ref i2) >>= _) _ _ _
  refine ab6 (Mg hh (h2.at fun o e=>e3 _ o D.TOi2.symm (e2 _ o D.i12.symm (e1 _ o D.i2z e))) (hl2.at fun o e=>e3 _ o D.l2TO (e2 _ o D.l2i1 (e1 _ o D.l2z e))) hy fun g4 e s4 he=>?_)
  have z4:IsZip g4 z TI TO .ellipsis:=s4 _ _ D.i2z.symm (e3 _ _ D.TOz.symm (e2 _ _ D.i1z.symm z1))
  have ez:=nz z4 he
  obtain ⟨oe,hoe,hce⟩:=he
  exact wpAny_setField_rec z4 (by simp) fun g5 _ s5=>hE g5 e (fun c o c1 c2 c3 c4 x=>s5.extBut _ _ c1 (s4 _ _ c4 (e3 _ _ c2 (e2 _ _ c3 (e1 _ _ c1 x))))) ⟨oe,s5.extBut _ _ ez hoe,hce⟩
end
theorem J4 (l1 l2:Addr) (xs ys:Array Value):
 Meets (Builtin.«zip.__new__» ⟨[.type "zip",.ref l1,.ref l2],[]⟩) (fun _ R s=>s.heap.IsTuple l1 xs/\s.heap.IsTuple l2 ys/\∀ h',IsZip h' (s.heap.objs.size+4) (s.heap.objs.size+2) (s.heap.objs.size+3) .none->IsPair h' (s.heap.objs.size+2) (.ref s.heap.objs.size) (.ref (s.heap.objs.size+1))->
  IsPair h' (s.heap.objs.size+3) .none .none->h'.IsTupleIter s.heap.objs.size l1 0->h'.IsTupleIter (s.heap.objs.size+1) l2 0->(∀ c o,s.heap.get? c=some o->h'.get? c=some o)->R (.ok (.ret (.ref (s.heap.objs.size+4)))) { s with heap:=h' }):=
 .of_wp fun prog w A R s h=>by
  obtain ⟨hp,g,d,tk,os⟩:=s
  obtain ⟨hl1,hl2,h⟩:=h
  have hsub:=sub_zip
  have hL1:Heap.IsTuple (Shared.heap ⟨hp,g,d,tk,os⟩) l1 xs:=hl1
  have hL2:Heap.IsTuple (Shared.heap ⟨hp.push { cls:=.type "tuple_iterator",data:=.fields #[.ref l1,.int 0 0] },g,d,tk,os⟩) l2 ys:=by
   obtain ⟨o,ho,r⟩:=hl2
   exact ⟨o,aac _ ho,r⟩
  wp_walk using wpAny_pyIter_tuple hL1,wpAny_pyIter_tuple hL2
  refine ⟨_,rfl,?_⟩
  have z1:∀ (q:Heap) (o:Obj),(q.push o).objs.size=q.objs.size+1:=fun q o=>abo ..
  simp only [z1]
  have key:∀ (q:Heap) (o:Obj) (n:Nat),q.objs.size=n->o.isFreed=false->(q.push o).get? n=some o:=fun q o n e f=>e▸aau q f
  refine h _ (key _ _ _ (by simp only [z1]) rfl) (aac _ (aac _ (key _ _ _ (by simp only [z1]) rfl))) (aac _ (key _ _ _ (by simp only [z1]) rfl)) ⟨_,aac _ (aac _ (aac _ (aac _ (key _ _ _ rfl rfl)))),rfl,rfl⟩
   ⟨_,aac _ (aac _ (aac _ (key _ _ _ (by simp only [z1]) rfl))),rfl,rfl⟩ fun c o e=>aac _ (aac _ (aac _ (aac _ (aac _ e))))
section
variable {prog:Program}
theorem Mi {k:Bool} {l1 l2:Addr} {xs ys:Array Value} {Q:Value->Shared->Prop} (hl1:jZ k s.heap l1 xs) (hl2:jZ k s.heap l2 ys)
 (h:∀ h',IsZip h' (s.heap.objs.size+4) (s.heap.objs.size+2) (s.heap.objs.size+3) .none->IsPair h' (s.heap.objs.size+2) (.ref s.heap.objs.size) (.ref (s.heap.objs.size+1))->
   IsPair h' (s.heap.objs.size+3) .none .none->jo k h' s.heap.objs.size l1 0->jo k h' (s.heap.objs.size+1) l2 0->
   (∀ c o,s.heap.get? c=some o->h'.get? c=some o)->Q (.ref (s.heap.objs.size+4)) { s with heap:=h' }):
 wpAny (model prog w) A (call (.type "zip") [.ref l1,.ref l2]) Q E s:=by
 cases k
 . exact callType_new F.called_zip (by decide) (F.typeCall_zip_2 _ _) (F.newCall_zip_2 _ _) (fun obj=>F.args_object_init_3 obj _ _) F.entry_zip_new (J4 l1 l2 xs ys) ⟨hl1,hl2,fun h' a1 a2 a3 a4 a5 a6=>⟨⟨_,a1,rfl⟩,h h' a1 a2 a3 a4 a5 a6⟩⟩
 . exact call_zip_2 hl1 hl2 fun h' a1 a2 a3 a4 a5 _ a6=>h h' a1 a2 a3 a4 a5 a6
end
section
variable {X:Cx} {pins:List (Addr×Obj)} {σ:St} {H:Hp} {s:Shared}
theorem Inv.sqK {k:Bool} {a:Addr} {xs:List V} (I:Inv X pins σ H s) (h:m5 k X.K H a xs):∃ its:List Value,Vals xs its/\jZ k s.heap a its.toArray:=by
 cases k
 . obtain ⟨its,r,p,_⟩:=I.tuple h
   exact ⟨its,r,p⟩
 . obtain ⟨its,r,p,_⟩:=I.list h
   exact ⟨its,r,p.isList⟩
theorem Inv.sqK_inj {k:Bool} {a:Addr} {xs ys:List V} (I:Inv X pins σ H s) (h:m5 k X.K H a xs) (h':m5 k X.K H a ys):xs=ys:=by
 cases k
 . exact I.tuple_inj h h'
 . exact I.list_inj h h'
end
def PX (k:Bool) (K:FG) (a b:Addr):It:=
 ⟨fun i H=>∃ xs ys x y,m5 k K H a xs/\m5 k K H b ys/\xs[i]?=some x/\ys[i]?=some y,
  fun i H x H'=>∃ T y z,H T=none/\x=.ref T/\H'=upd H T (.tup [y,z])/\(∀ xs,m5 k K H a xs->xs[i]?=some y)/\∀ ys,m5 k K H b ys->ys[i]?=some z,
  fun i H=>∃ xs ys,m5 k K H a xs/\m5 k K H b ys/\(xs.length<=i\/ys.length<=i)⟩
theorem CZ {k:Bool} {h:Heap} {z TI TO i1 i2 a b:Addr} {u v:Value} {n m:Nat} {xs ys:Array Value} (D:Wn z TI TO i1 i2) (hz:IsZip h z TI TO .none) (aTO:a≠TO) (bTO:b≠TO) (h1:jo k h i1 a n) (h2:jo k h i2 b m) (ha:jZ k h a xs) (hb:jZ k h b ys):ZipApart z TI TO i1 i2 a b:=by
 obtain ⟨o1,q1,_,c1,c1',_⟩:=h1.obj
 obtain ⟨o2,q2,_,c2,c2',_⟩:=h2.obj
 have ne:∀ {l c:Addr} {its:Array Value} {o:Obj},jZ k h l its->h.get? c=some o->o.cls≠.type "tuple" -> o.cls≠.type "list" -> l≠c:=fun {l c its o} q e n1 n2 z=>by
  subst z
  obtain ⟨o',e',hc⟩:=q.obj
  rw [e] at e'
  cases e'
  rcases hc with hc | hc
  . exact n2 hc
  . exact n1 hc
 exact ⟨D.TIz,D.TOz,D.i1z,D.i2z,D.TITO,D.TIi1,D.TIi2,D.TOi1,D.TOi2,D.i12,ne ha hz (by simp) (by simp),aTO,ne ha q1 c1 c1',ne ha q2 c2 c2',ne hb hz (by simp) (by simp),bTO,ne hb q1 c1 c1',ne hb q2 c2 c2'⟩
theorem Mj {K:FG} {elts:List Expr} {x1} {pos:Pos} (k:Bool) (a b z TI TO i1 i2:Addr) (D:Wn z TI TO i1 i2) (aTO:a≠TO) (bTO:b≠TO):Turn P w K (.Tuple elts x1 pos) (PX k K a b) [z,TI,TO,i1,i2] z
 (fun i h=>IsZip h z TI TO .none/\IsPair h TI (.ref i1) (.ref i2)/\(∃ u v,IsPair h TO u v)/\jo k h i1 a i/\jo k h i2 b i) where
 mem:=by simp
 obj:=fun i h st c hc=>by
  obtain ⟨hz,hTI,⟨u,v,hTO⟩,h1,h2⟩:=st
  simp only [aao,aaV,or_false] at hc
  rcases hc with rfl | rfl | rfl | rfl | rfl
  . exact ⟨_,hz,fun v z=>by
     have z':Data.fields _=Data.cell v:=z
     cases z'⟩
  . exact ⟨_,hTI,fun v z=>by
     have z':Data.seq _ _=Data.cell v:=z
     cases z'⟩
  . exact ⟨_,hTO,fun v z=>by
     have z':Data.seq _ _=Data.cell v:=z
     cases z'⟩
  . obtain ⟨o,ho,_,_,_,d⟩:=h1.obj
    exact ⟨o,ho,d⟩
  . obtain ⟨o,ho,_,_,_,d⟩:=h2.obj
    exact ⟨o,ho,d⟩
 keep:=fun i h h' st k=>by
  obtain ⟨hz,hTI,⟨u,v,hTO⟩,h1,h2⟩:=st
  exact ⟨k z (by simp) _ hz,k TI (by simp) _ hTI,⟨u,v,k TO (by simp) _ hTO⟩,h1.at fun o q=>k i1 (by simp) o q,h2.at fun o q=>k i2 (by simp) o q⟩
 item:=by
  intro X hP hw hK hc i pins s σ H E I hf st hg
  subst hP hw hK
  obtain ⟨hz,hTI,⟨u0,v0,hTO⟩,h1,h2⟩:=st
  obtain ⟨xs,ys,x,y,hq,hr,hx,hy⟩:=hg
  obtain ⟨its,rv,p⟩:=I.sqK hq
  obtain ⟨jts,rw',p'⟩:=I.sqK hr
  obtain ⟨u,hu,ru⟩:=rv.get hx
  obtain ⟨u',hu',ru'⟩:=rw'.get hy
  have DD:=CZ (u:=u0) (v:=v0) D hz aTO bTO h1 h2 p p'
  have zlt:∀ c∈[z,TI,TO,i1,i2],s.heap.objs.size≠c:=fun c hc=>by
   simp only [aao,aaV,or_false] at hc
   rcases hc with rfl | rfl | rfl | rfl | rfl
   . exact aa0 (aaq hz)
   . exact aa0 (aaq hTI)
   . exact aa0 (aaq hTO)
   . obtain ⟨_,q,_⟩:=h1.obj; exact aa0 (aaq q)
   . obtain ⟨_,q,_⟩:=h2.obj; exact aa0 (aaq q)
  have hTn:H s.heap.objs.size=none:=I.hok.fresh (aaf _)
  have hT:s.TypeIs (.ref z) "zip" := ⟨_,hz,rfl⟩
  unfold pyNext
  refine ab6 (wpAny_attempt (wpAny_callSpecial?_slot (name:=Str.ofString "__next__") hT abM (wpAny_call_entry abM hT F.entry_zip_next (Mh DD hz hTI hTO h1 h2 p p' (x:=u) (y:=u') (by simpa using hu) (by simpa using hu') fun g1 a1 a2 a3 a4 a5 a7=>ab9 ?_) (F.args_zip_next_1 _))))
  refine ⟨_,rfl,wpAny_letOwnedTupleGo_zip a1 fun g2 b1 b2=>?_⟩
  have I1:Inv X pins σ (upd H s.heap.objs.size (.tup [x,y])) { s with heap:=s.heap.push { cls:=.type "tuple",data:=.seq #[u,u'] },toks:=s.toks }:=by
   refine I.laid (fun b o q=>aac _ q) (aaf _) ⟨by simp only [aae,aaK]; rw [sizeLine_eq]; decide,[u,u'],.cons ru (.cons ru' .nil),?_⟩
   exact ⟨_,aau s.heap rfl,rfl,0,rfl⟩
  have up:∀ b,b≠s.heap.objs.size->H b=none->upd H s.heap.objs.size (.tup [x,y]) b=none:=fun b hb q=>by rw [cj hb]; exact q
  have hb2:∀ c o,c≠z->g1.get? c=some o->g2.get? c=some o:=fun c o hc q=>(b2.2 c hc).trans q
  have I2:Inv X pins σ (upd H s.heap.objs.size (.tup [x,y])) { s with heap:=g2,toks:=s.toks }:=by
   refine Inv.turnedL (s:={ s with heap:=s.heap.push { cls:=.type "tuple",data:=.seq #[u,u'] },toks:=s.toks }) (h':=g2) (t':=s.toks) I1 (fp:=[z,TI,TO,i1,i2]) (fun c o hc q=>?_) (fun c hc=>⟨up c (zlt c hc).symm (hf c hc).1,(hf c hc).2⟩)
   simp only [aao,aaV,or_false,not_or] at hc
   refine hb2 c o hc.1 ?_
   by_cases hbT:c=s.heap.objs.size
   . subst hbT
     have q':(s.heap.push { cls:=.type "tuple",data:=.seq #[u,u'] }).get? s.heap.objs.size=some o:=q
     rw [aau s.heap rfl] at q'
     cases q'
     exact a5
   . refine a7 c o hc.1 hc.2.2.1 hc.2.2.2.1 hc.2.2.2.2 ?_
     have q':(s.heap.push { cls:=.type "tuple",data:=.seq #[u,u'] }).get? c=some o:=q
     rw [Heap.get?_push_ne s.heap c _ hbT] at q'
     exact q'
  refine ⟨.ref s.heap.objs.size,_,I2,rfl,⟨s.heap.objs.size,x,y,hTn,rfl,rfl,fun ys hy=>by rw [I.sqK_inj hy hq]; exact hx,fun ys hy'=>by rw [I.sqK_inj hy' hr]; exact hy⟩,⟨b1,hb2 _ _ D.TIz (a7 _ _ D.TIz D.TITO D.TIi1 D.TIi2 hTI),⟨_,_,hb2 _ _ D.TOz a2⟩,a3.at fun o q=>hb2 _ o D.i1z q,a4.at fun o q=>hb2 _ o D.i2z q⟩,fun c hc=>up _ (zlt c hc).symm (hf c hc).1⟩
 done:=by
  intro X hP hw hK hc i pins s σ H E I hf st hg
  subst hP hw hK
  obtain ⟨hz,hTI,⟨u0,v0,hTO⟩,h1,h2⟩:=st
  obtain ⟨xs,ys,hq,hr,hx⟩:=hg
  obtain ⟨its,rv,p⟩:=I.sqK hq
  obtain ⟨jts,rw',p'⟩:=I.sqK hr
  have DD:=CZ (u:=u0) (v:=v0) D hz aTO bTO h1 h2 p p'
  have e1:=rv.length
  have e2:=rw'.length
  have hT:s.TypeIs (.ref z) "zip" := ⟨_,hz,rfl⟩
  have hend:its.toArray[i]?=none\/jts.toArray[i]?=none:=by
   rcases hx with hx | hx
   . exact .inl (abG (by simp; omega))
   . exact .inr (abG (by simp; omega))
  unfold pyNext
  refine ab6 (wpAny_attempt (wpAny_callSpecial?_slot (name:=Str.ofString "__next__") hT abM (wpAny_call_entry abM hT F.entry_zip_next (PN (I.ok.hd hc) DD hz hTI hTO h1 h2 p p' hend fun g e k he=>?_) (F.args_zip_next_1 _))))
  obtain ⟨o,ho,hce⟩:=he
  refine ab6 (wpAny_isInstance (T := "StopIteration") (b:=true) ⟨o,ho,hce⟩ isSubtype_stop (ab9 ⟨rfl,?_⟩))
  refine I.turnedL (h':=g) (t':=s.toks) (fp:=[z,TI,TO,i1,i2]) (fun c o hc q=>?_) hf
  simp only [aao,aaV,or_false,not_or] at hc
  exact k c o hc.1 hc.2.2.1 hc.2.2.2.1 hc.2.2.2.2 q
 self:=fun _ _ _ _ _ st h=>wpAny_pyIter_zip st.1 h
section
variable {X:Cx}
def Yv (K:FG) (ta:TA):TI:=fun σ H R=>ta σ H fun vs H1=>∃ k a b,vs=[.ref a,.ref b]/\(∃ xs,m5 k K H1 a xs)/\(∃ ys,m5 k K H1 b ys)/\R (PX k K a b) H1
theorem TY {a b:Expr} {ta:TA} {p pos:Pos} {elts:List Expr} {x1} {tpos:Pos} (hg:Gl X "zip") (hm:X.mg "zip" = none) (ha:PA X [a,b] ta) (hs:starEach [a,b] X.env=(false,eval a X.env)::starEach [b] X.env:=by rfl) (hs2:(backTo pos (starEach [b] X.env)).any (·.1)=false:=by rfl):PI X (.Tuple elts x1 tpos) (.Call (.Name "zip" p) [a,b] [] pos) (Yv X.K ta):=by
 intro pins s σ H R I h
 refine Call_ (qU (u:=.type "zip") I hg hm (by kernel_rfl) (PyProof.Rows.callWith_type1 (bG (ha pos pins s σ H _ I h) fun us s1 ⟨vs,H1,I1,r1,q1⟩=>?_) hs hs2))
 obtain ⟨kk,l1,l2,e,⟨xs,hq⟩,⟨ys,hr⟩,q⟩:=q1
 subst e
 cases r1 with
 | cons r rr=>
  cases rr with
  | cons r' rr=>
   cases rr
   cases r
   cases r'
   obtain ⟨its,rv,pl⟩:=I1.sqK hq
   obtain ⟨jts,rv',pl'⟩:=I1.sqK hr
   have lt:∀ {l:Addr} {its:Array Value},jZ kk s1.heap l its->l<s1.heap.objs.size:=fun q=>let ⟨_,e,_⟩:=q.obj; aaq e
   have lt1:=lt pl
   have lt2:=lt pl'
   refine Mi pl pl' fun h' b1 b2 b3 b4 b5 b7=>?_
   have I2:Inv X pins σ H1 { s1 with heap:=h' }:=I1.kept (t':=s1.toks) b7
   refine wpAny_pyIter_zip b1 ?_
   have this:∀ n:Nat,n+2≠n+4/\n+3≠n+4/\n≠n+4/\n+1≠n+4/\n+2≠n+3/\n+2≠n/\n+2≠n+1/\n+3≠n/\n+3≠n+1/\n≠n+1:=fun n=>by omega
   obtain ⟨t1,t2,t3,t4,t5,t6,t7,t8,t9,t10⟩:=this s1.heap.objs.size
   refine ⟨s1.heap.objs.size+4,[s1.heap.objs.size+4,s1.heap.objs.size+2,s1.heap.objs.size+3,s1.heap.objs.size,s1.heap.objs.size+1],_,_,H1,rfl,I2,Mj kk l1 l2 (s1.heap.objs.size+4) (s1.heap.objs.size+2) (s1.heap.objs.size+3) s1.heap.objs.size (s1.heap.objs.size+1) ⟨t1,t2,t3,t4,t5,t6,t7,t8,t9,t10⟩ (aaG (aay lt1 (abK _ _))) (aaG (aay lt2 (abK _ _))),⟨b1,b2,⟨_,_,b3⟩,b4,b5⟩,fun c hc=>?_,q⟩
   have hc':s1.heap.objs.size<=c:=by
    simp only [aao,aaV,or_false] at hc
    rcases hc with rfl | rfl | rfl | rfl | rfl
    all_goals (first | exact aaf _ | exact abK _ _)
   exact I1.fpOk hc' (I1.hok.fresh hc')
end
abbrev cC:=Option Key
def sJ:cC->V
 | none=>.non
 | some k=>kV k
def P0:cC->Value->Bool
 | none,v=>v==.none
 | some k,v=>sE k v
def okH (w:World):cC->Int
 | none=>0xFCA86420
 | some k=>Vk w k
theorem gQ:∀ {k:cC} {v:Value},P0 k v=true->(k=none/\v=.none)\/∃ x,k=some x/\sE x v=true
 | none,v,h=>.inl ⟨rfl,by
  cases v<;>first | rfl | (exfalso; revert h; unfold P0; simp)⟩
 | some x,v,h=>.inr ⟨x,rfl,h⟩
section
variable {prog:Program}
theorem Ml {Q:Int->Shared->Prop} (h:Q 0xFCA86420 { s with toks:=s.toks+1 }):wpAny (model prog w) A (pyHash .none) Q E s:=by
 have hT:s.TypeIs .none "NoneType" := rfl
 unfold pyHash
 refine ab6 ?_
 rw [cRoomFor,ab8 (by simp [Value.onHeap])]
 refine ab9 (ab6 (wpAny_specialOf hT F.slot_NoneType_hash.lookup ?_))
 dsimp only
 rw [ab8 (by rw [beq_builtin_none]; exact aaA)]
 refine ab6 (wpAny_specialOf hT F.slot_NoneType_hash.lookup (ab6 (wpAny_callSpecialIfBoundUnlessNone?_slot hT F.slot_NoneType_hash (wpAny_call_entry F.slot_NoneType_hash hT F.entry_NoneType_hash ?_ (F.args_NoneType_hash_1 _)))))
 refine ab6 (ab9 ?_)
 refine wpAny_ret_mkInt ?_
 exact ab9 h
end
def qJ (prog:Program) (w:World):PySem.KeyKind prog w cC where
 is:=P0
 hash:=okH w
 inj:=fun v a b ha hb=>by
  rcases gQ ha with ⟨rfl,rfl⟩ | ⟨x,rfl,hx⟩
  . rcases gQ hb with ⟨rfl,_⟩ | ⟨y,rfl,hy⟩
    . rfl
    . rcases du hy with ⟨i,t,_,e⟩ | ⟨i,t,_,e⟩<;>cases e
  . rcases gQ hb with ⟨rfl,e⟩ | ⟨y,rfl,hy⟩
    . subst e
      rcases du hx with ⟨i,t,_,e⟩ | ⟨i,t,_,e⟩<;>cases e
    . exact congrArg some ((cU prog w).inj v x y hx hy)
 byValue:=fun k v h=>by
  rcases gQ h with ⟨rfl,rfl⟩ | ⟨x,rfl,hx⟩
  . rfl
  . exact (cU prog w).byValue x v hx
 pyHash:=fun hv h=>by
  rcases gQ hv with ⟨rfl,rfl⟩ | ⟨x,rfl,hx⟩
  . exact Ml h
  . exact (cU prog w).pyHash hx h
 eqBool:=fun hu hv h=>by
  rcases gQ hu with ⟨rfl,rfl⟩ | ⟨x,rfl,hx⟩
  . rcases gQ hv with ⟨rfl,rfl⟩ | ⟨y,rfl,hy⟩
    . exact SeqAt.EqAt.same _ _ _ _ _ h
    . rcases du hy with ⟨i,t,rfl,rfl⟩ | ⟨i,t,rfl,rfl⟩
      . exact SeqAt.EqAt.none_int i t _ _ _ _ h
      . exact SeqAt.EqAt.none_str i t _ _ _ _ h
  . rcases gQ hv with ⟨rfl,rfl⟩ | ⟨y,rfl,hy⟩
    . rcases du hx with ⟨i,t,rfl,rfl⟩ | ⟨i,t,rfl,rfl⟩
      . exact SeqAt.EqAt.int_none i t _ _ _ _ h
      . exact SeqAt.EqAt.str_none i t _ _ _ _ h
    . refine (cU prog w).eqBool hx hy ?_
      have e:decide ((some x:cC)=some y)=decide (x=y):=by simp
      rw [e] at h
      exact h
 «strs»:=fun k x t v h=>by
  rcases gQ h with ⟨rfl,e⟩ | ⟨y,rfl,hy⟩
  . cases e
  . exact (cU prog w).strs y x t v hy
theorem Wr:∀ {k:cC} {u:Value},RelV (sJ k) u->(qJ P w).is k u=true
 | none,u,r=>by
  have e:u=.none:=r
  subst e
  rfl
 | some k,u,r=>xj (P:=P) (w:=w) r
theorem Ia:∀ {ks:List cC} {us:List Value},Vals (ks.map sJ) us->ItemsAre (qJ P w) ks us
 | [],us,h=>by
  have e:=h.zero
  subst e
  exact .nil
 | k::ks,us,h=>by
  cases h with
  | cons r t=>exact .cons (Wr r) (Ia t)
def zM (P:Program) (w:World):List cC->Int:=(tupleKind (qJ P w)).hash
abbrev XD:=List (List cC×Addr×V)
abbrev XV:=List (List cC×Addr×Value)
def XR:XD->XV->Prop:=Paired fun x y=>x.1=y.1/\x.2.1=y.2.1/\RelV x.2.2 y.2.2
def ug (hk:List cC->Int) (a:Addr) (xs:XD):Heap->Prop:=fun h=>xs.length<=sizeLine/\(a==sysModules)=false/\∃ ys:XV,XR xs ys/\(ys.map (·.1)).Nodup/\
 ∃ o es ep,h.get? a=some o/\o.ExactDict/\o.data=.dict es ep/\es.toList=ys.map fun y=>⟨hk y.1,.ref y.2.1,y.2.2⟩
def dX (P:Program) (w:World) (a:Addr) (xs:XD):HO:=.ext (ug (zM P w) a xs)
theorem Ws {H:Hp} {h:Heap} {hk:List cC->Int} {a:Addr} {xs:XD} (p:ug hk a xs h):gb P w H h a (.ext (ug hk a xs)):=by
 have q:=p
 obtain ⟨_,_,ys,_,_,o,es,ep,e,_⟩:=q
 refine ⟨p,⟨o,e⟩,fun h1 h2 ⟨z,m,ys,r,n,o,es,ep,e,g⟩ k=>⟨z,m,ys,r,n,o,es,ep,k _ e,g⟩⟩
def jE (xs:XD) (k:List cC):Option V:=(xs.find? fun x=>decide (x.1=k)).map (·.2.2)
theorem XR.at {k:List cC}:∀ {xs:XD} {ys:XV},XR xs ys->(∀ v,jE xs k=some v->∃ p,atKey ys k=some p/\RelV v p.2)/\(jE xs k=none->atKey ys k=none)
 | _,_,.nil=>⟨fun v h=>(by cases h),fun _=>rfl⟩
 | x::xs,y::ys,.cons ⟨h1,h2,h3⟩ t=>by
  have ih:=XR.at (k:=k) t
  unfold jE atKey at ih ⊢
  by_cases e:x.1=k
  . have e':y.1=k:=h1▸e
    rw [abH (by simpa using e),abH (by simpa using e')]
    exact ⟨fun v h=>by cases h; exact ⟨_,rfl,h3⟩,fun h=>by cases h⟩
  . have e':¬ y.1=k:=h1▸e
    rw [abI (by simpa using e),abI (by simpa using e')]
    exact ih
theorem XR.snoc {x:List cC×Addr×V} {y:List cC×Addr×Value} (h:x.1=y.1/\x.2.1=y.2.1/\RelV x.2.2 y.2.2):∀ {xs:XD} {ys:XV},XR xs ys->XR (xs++[x]) (ys++[y])
 | _,_,.nil=>.cons h .nil
 | _,_,.cons a t=>.cons a (XR.snoc h t)
theorem XR.mem:∀ {xs:XD} {ys:XV},XR xs ys->∀ y∈ys,∃ x∈xs,x.1=y.1/\x.2.1=y.2.1
 | _,_,.nil,y,h=>by cases h
 | x::xs,z::ys,.cons ⟨h1,h2,_⟩ t,y,h=>by
  rcases aao.mp h with rfl | h
  . exact ⟨x,aab,h1,h2⟩
  . obtain ⟨x',m,e⟩:=XR.mem t y h
    exact ⟨x',aag _ m,e⟩
section
variable {prog:Program} {w:World} {A:Around} {E:Value->Shared->Prop} {s:Shared} {K:Type} [DecidableEq K] {knd:HeapKind prog w K}
theorem Hr {d a:Addr} {xs:List (K×Addr×Value)} {k:K} {v:Value} {Q:Value->Shared->Prop} (hu:knd.room A) (hkey:knd.is s.heap k a) (hm:s.heap.DictOfH knd d xs)
 (q1:∀ p,atKey xs k=some p->Q p.2 { s with toks:=s.toks+knd.draws k })
 (q2:atKey xs k=none->∀ h',h'.DictOfH knd d (xs++[(k,a,v)])->Heap.SameBut d s.heap h'->Q v { s with heap:=h',toks:=s.toks+knd.draws k })
 (hsz:xs.length<=sizeLine):wpAny (model prog w) A (dictSetDefault d (.ref a) v) Q E s:=by
 obtain ⟨o,es,ep,ho,hc,hd,he,his,hn⟩:=hm
 have hsz':=size_of_entries he
 unfold dictSetDefault
 refine wpAny_holding ?_
 refine ab6 (knd.pyHash hu hkey (ab6 (wpAny_dictFind_heap (s:={ s with toks:=s.toks+knd.draws k }) hu hkey ho hd he his hn (fun hno=>?_) fun j p hj=>?_)))
 . have hq:=atKey_none_of_get hno
   refine ab6 (wpAny_rule (ab6 (wpAny_updateDictKeys (hz:=by omega) (s:={ s with toks:=s.toks+knd.draws k }) ho hd (ab9 (q2 hq _ ?_ (abr ..))))))
   refine ⟨_,_,ep+1,abL _ ho (Obj.isFreed_of_dict (Obj.data_mapDictKeys hd _)),hc.mapDictKeys _,Obj.data_mapDictKeys hd _,by simp [he,entryOfKey],fun x hx=>?_,?_⟩
   . rcases aaF.mp hx with hx | hx
     . exact knd.keeps (his x hx) ho hd (abr ..)
     . rw [aa4.mp hx]
       exact knd.keeps hkey ho hd (abr ..)
   . rw [aaz]
     refine abu.mpr ⟨hn,aaM.mpr ⟨aaV,abD⟩,fun x hx y hy e=>not_mem_keys_of_get hno ?_⟩
     rw [aav,abw,aa4] at hy
     have q:x=k:=e.trans hy
     rw [← q]
     exact hx
 . refine ab6 (wpAny_dictEntries (s:={ s with toks:=s.toks+knd.draws k }) ho hd ?_)
   rw [entry_at he j,hj]
   exact ab6 (wpAny_rule (ab9 (q1 p (atKey_of_get hn hj))))
end
section
variable {X:Cx}
theorem Bh {σ:St} {H:Hp} {b:Addr} {k:List cC} (I:Inv X pins σ H s) (e:cI X.K H b (k.map sJ)):(tupleKind (qJ P w)).is s.heap k b:=by
 obtain ⟨its,r,⟨o,h1,h2,n,h3⟩,_⟩:=I.tuple e
 exact ⟨o,its.toArray,n,h1,h2,h3,by simpa using Ia r⟩
theorem Inv.dx {σ:St} {H:Hp} {a:Addr} {xs:XD} (I:Inv X pins σ H s) (e:H a=some (dX X.prog X.w a xs)) (hk:∀ x∈xs,cI X.K H x.2.1 (x.1.map sJ)):
 xs.length<=sizeLine/\(a==sysModules)=false/\∃ ys:XV,XR xs ys/\s.heap.DictOfH (tupleKind (qJ X.prog X.w)) a ys:=by
 obtain ⟨⟨z,m,ys,r,n,o,es,ep,h1,h2,h3,h4⟩,_⟩:=I.hok a _ e
 refine ⟨z,m,ys,r,o,es,ep,h1,h2,h3,h4,fun y hy=>?_,n⟩
 obtain ⟨x,hx,e1,e2⟩:=r.mem y hy
 rw [← e1,← e2]
 exact Bh I (hk x hx)
theorem XR.len:∀ {xs:XD} {ys:XV},XR xs ys->ys.length=xs.length
 | _,_,.nil=>rfl
 | _,_,.cons _ t=>by rw [aae,aae,XR.len t]
def Mm (P:Program) (w:World) (K:FG):V->List V->Hp->VK->Prop:=fun x vs H Q=>∃ a b xs k v,x=.ref a/\vs=[.ref b,v]/\H a=some (dX P w a xs)/\(∀ x∈xs,cI K H x.2.1 (x.1.map sJ))/\cI K H b (k.map sJ)/\xs.length<sizeLine/\
 match jE xs k with
 | some u=>Q u H
 | none=>Q v (upd H a (dX P w a (xs++[(k,b,v)])))
theorem Mp (hu:X.A.units+1<cLine):Lk X "dict.setdefault" (Mm X.prog X.w X.K):=by
 intro pins s σ H x vs v us Q I rx rv h
 obtain ⟨a,b,xs,k,y,rfl,rfl,hH,hks,hb,hl,q⟩:=h
 cases rx
 obtain ⟨u,r,rfl,rb,ry⟩:=rv.two
 cases (show u=Value.ref b from rb)
 obtain ⟨z,m,ys,xr,dd⟩:=I.dx hH hks
 have hl':=xr.len
 refine call_meetsIn F.slot_dict_setdefault dd.typeIs F.entry_dict_setdefault (F.args_dict_setdefault_3 _ _ _) (S:=fun A R s'=>A=X.A/\R=wants (EP X pins σ Q) X.xe/\s'=s) (.of_wp fun A R s' ⟨e1,e2,e3⟩=>?_) ⟨rfl,rfl,rfl⟩
 subst e1 e2 e3
 unfold Builtin.«dict.setdefault»
 refine ab6 ?_
 unfold Builtin.Dict.keyAndDefault
 refine ab6 (wpAny_notOrdered_dict dd.typeIs ?_)
 refine (show wpAny _ _ (pure (a,Value.ref b,some r)) _ _ _ from ab9 ?_)
 dsimp only
 rw [ab8 (by rw [m]; exact aaA)]
 refine ab6 (Hr (tupleKind_room_in1 hu) (Bh I hb) dd (fun p hp=>ab9 ⟨p.2,rfl,?_⟩) (fun hn h' dd' hs=>ab9 ⟨r,rfl,?_⟩) (by omega))
 . cases e:jE xs k with
   | none=>rw [(xr.at).2 e] at hp; cases hp
   | some w'=>
    rw [e] at q
    obtain ⟨p',hp',rp⟩:=(xr.at).1 w' e
    rw [hp] at hp'
    cases hp'
    exact ⟨_,_,I.tok _,rp,q⟩
 . cases e:jE xs k with
   | some w'=>
    obtain ⟨p',hp',_⟩:=(xr.at).1 w' e
    rw [hn] at hp'
    cases hp'
   | none=>
    rw [e] at q
    obtain ⟨o,es,ep,h1,h2,h3,h4,h5,h6⟩:=dd'
    refine ⟨_,_,uf I (by rw [hH]; exact True.intro) hs ⟨o,h1⟩ (Ws ⟨?_,m,ys++[(k,b,r)],xr.snoc ⟨rfl,rfl,ry⟩,h6,o,es,ep,h1,h2,h3,h4⟩),ry,q⟩
    rw [aai]
    exact hl
def Rw (P:Program) (w:World) (K:FG):V->List V->Hp->VK->Prop:=fun x vs H Q=>∃ a b xs k v,x=.ref a/\vs=[.ref b,v]/\H a=some (dX P w a xs)/\(∀ x∈xs,cI K H x.2.1 (x.1.map sJ))/\cI K H b (k.map sJ)/\Q ((jE xs k).getD v) H
theorem Ib (hu:X.A.units+1<cLine):Lk X "dict.get" (Rw X.prog X.w X.K):=by
 intro pins s σ H x vs v us Q I rx rv h
 obtain ⟨a,b,xs,k,y,rfl,rfl,hH,hks,hb,q⟩:=h
 cases rx
 obtain ⟨u,r,rfl,rb,ry⟩:=rv.two
 cases (show u=Value.ref b from rb)
 obtain ⟨z,m,ys,xr,dd⟩:=I.dx hH hks
 refine call_meetsIn F.slot_dict_get dd.typeIs F.entry_dict_get (F.args_dict_get_3 _ _ _) (meetsH_dict_get_default (tupleKind (qJ X.prog X.w)) a b m r) ⟨tupleKind_room_in1 hu,k,ys,Bh I hb,dd,?_⟩
 refine ⟨_,_,I.tok _,?_,q⟩
 cases e:jE xs k with
 | none=>
  rw [(xr.at).2 e]
  exact ry
 | some w'=>
  obtain ⟨p',hp',rp⟩:=(xr.at).1 w' e
  rw [hp']
  exact rp
theorem Fi {o e1 e2:Expr} {to:TE} {t:TA} {apos cpos:Pos} {name:Str} {id:String} {r:V->List V->Hp->VK->Prop} (slot:Slot "dict" name id) (hty:typeOf (.builtin id)=pure (.type "method_descriptor")) (hm:Lk X id r) (ho:PE X o to) (ha:PA X [e1,e2] t)
 (hbase:attributeBase o name X.env (eval o X.env)=eval o X.env:=by rfl)
 (hfew:((backTo cpos (starEach [e1,e2] X.env)).all (fun x=>!x.1)&&(backToKw cpos (keywordEach [] X.env)).all (fun x=>x.1.isSome)
   && decide ([e1,e2].length+([]:List Keyword).length+(if ([]:List Keyword).isEmpty then 0 else 1)<30))=true:=by rfl)
 (hline:(apos.endLine==cpos.line)=true:=by rfl) (hs:starEach [e1,e2] X.env=(false,eval e1 X.env)::starEach [e2] X.env:=by rfl) (hplain:(backTo cpos (starEach [e2] X.env)).any (·.1)=false:=by rfl):
 PE X (.Call (.Attribute o name apos) [e1,e2] [] cpos) (fun σ H Q=>to σ H fun x H1=>(∃ a hk xs,x=.ref a/\H1 a=some (.ext (ug hk a xs)))/\t σ H1 fun vs H2=>r x vs H2 Q):=by
 intro pins s σ H Q I h
 refine wpAny_Call_method_late hbase hfew hline rfl (bG (ho pins s σ H _ I h) fun v s1 ⟨x,H1,I1,r1,⟨a,hk,xs,ea,hH⟩,q1⟩=>?_)
 subst ea
 cases r1
 obtain ⟨⟨_,_,ys,_,_,o,es,ep,h1,h2,_⟩,_⟩:=I1.hok a _ hH
 refine ⟨"dict",id,F.plainAttrs_dict,slot,hty,⟨o,h1,h2.1⟩,fun b e=>(by cases e; exact ⟨o,h1,h2.2.1⟩),?_⟩
 have hA:=ha cpos pins s1 σ H1 _ I1 q1
 rw [hs] at hA ⊢
 refine Calls.callWith_builtin (by show (false||(backTo cpos (starEach [e2] X.env)).any (·.1))=false; rw [hplain]<;>rfl) (Calls.evalArgs_plain ?_)
 exact bG hA fun us s2 ⟨vs,H2,I2,r2,q2⟩=>hm pins s2 σ H2 (.ref a) vs (.ref a) us Q I2 rfl r2 q2
theorem Qa {pos:Pos}:PE X (.Dict [] [] pos) (fun _ H Q=>∀ p,H p=none->Q (.ref p) (upd H p (dX X.prog X.w p []))):=fun pins s σ H Q I h=>
 wpAny_Dict_empty ⟨.ref s.heap.objs.size,_,I.laid (a:=s.heap.objs.size) (t':=s.toks) (fun _ _ q=>aac _ q) (aaf _) (Ws (hk:=zM X.prog X.w) (xs:=[]) ⟨aa3 _,acd.mpr (Ne.symm (aaG I.big)),[],.nil,abD,_,#[],0,aau _ rfl,⟨rfl,rfl,rfl⟩,rfl,rfl⟩),rfl,h _ (I.hok.fresh (aaf _))⟩
end
def Wt (a c:Addr):Heap->Prop:=fun h=>∃ o,W.InstAt h a o c none
section
variable {M:Model} {A:Around} {E:Value->Shared->Prop} {s:Shared} {base:Heap} {env:Env} {outer:List Env} {L e:Addr} {G:Addr->Prop} {Q:Unit->Shared->Prop}
end
section
variable {X:Cx} {pins:List (Addr×Obj)} {σ:St} {H:Hp} {s:Shared}
end
abbrev TJ:=St->Hp->(Hp->Prop)->Prop
section
variable {X:Cx} {es:List Expr} {n:Nat} {t:TJ}
end
section
variable {X:Cx}
end
section
variable {X:Cx} {pins:List (Addr×Obj)} {σ:St} {H H':Hp} {s s':Shared} {e C:Addr}
end
section
variable {X:Cx} {pins:List (Addr×Obj)} {σ:St} {H:Hp} {s:Shared} {e:Addr}
end
section
variable {X:Cx}
section
variable {pins:List (Addr×Obj)} {σ:St} {E:XK} {k:Nat} {f C:Addr} {fd:FuncData} {ps:List Str} {sp:Sp} {x:Str} {p pos:Pos} {e:Expr} {es:List Expr} {t:TA} {te:TE}
end
end
end L2
namespace L2
open PySem PySem.Spec PyProof.Rows PySem.W
section
variable {prog:Program} {w:World} {A:Around} {E:Value->Shared->Prop} {s:Shared} {K:FG} {e C:Addr} {oe:Obj}
end
section
variable {X:Cx} {pins:List (Addr×Obj)} {σ:St} {H H':Hp} {s s':Shared} {e C:Addr}
end
def Ends.un (i:Nat) (D:Ends):Ends:={ nx:=fun σ H=>D.nx (σ.set i none) H,rt:=D.rt,bk:=fun σ H=>D.bk (σ.set i none) H,ct:=fun σ H=>D.ct (σ.set i none) H }
section
variable {X:Cx}
end
section
variable {X:Cx} {pins:List (Addr×Obj)} {σ:St} {H:Hp} {s:Shared} {a b:Addr} {kvs more:List (Key×V)} {A:Around} {E:Value->Shared->Prop}
theorem Qc {Q:Value->Shared->Prop} (I:Inv X pins σ H s) (e:H a=some (.dK kvs)) (e2:Rd H b (.dK more)) (hne:a≠b) (hl:kvs.length+more.length<=sizeLine) (h:∀ s',Inv X pins σ (upd H a (.dK (jn kvs more))) s'->Q .none s'):wpAny (model X.prog X.w) A (call (.builtin "dict.update") [.ref a,.ref b]) Q E s:=by
 obtain ⟨z,hd,vs,rel,dd⟩:=zA I.hok e
 obtain ⟨z2,hd2,vs2,rel2,dd2⟩:=uO I.hok e2
 refine call_meetsIn F.slot_dict_update dd.typeIs F.entry_dict_update (F.args_dict_update_2 _ _) (meets_dict_update (cU X.prog X.w) a b hne hd2) ⟨vs,vs2,dd,dd2,by rw [← rel.length,← rel2.length]; exact hl,fun h' m1 _ hs=>h _ ?_⟩
 have he:∃ q,h'.get? a=some q:=let ⟨q,_,_,hq,_⟩:=m1; ⟨q,hq⟩
 exact uf I (by rw [e]; exact True.intro) hs he (zF (aaL (pP _ _) hl) hd (KV.merge rel2 rel) m1)
end
def Rx (td ty:TE):TE:=fun σ H Q=>td σ H fun x H1=>∃ a,x=.ref a/\Y0 H1 a/\ty σ H1 fun y H2=>∃ b kvs more,y=.ref b/\H2 a=some (.dK kvs)/\Rd H2 b (.dK more)/\a≠b/\kvs.length+more.length<=sizeLine/\Q .non (upd H2 a (.dK (jn kvs more)))
section
variable {X:Cx} {o e:Expr} {apos cpos:Pos} {td ty:TE}
theorem T4 (ho:PE X o td) (he:PE X e ty) (m:M1 X o "update" apos e cpos):PE X (.Call (.Attribute o "update" apos) [e] [] cpos) (Rx td ty):=by
 intro pins s σ H Q I h
 refine wpAny_Call_method m.base m.few m.line F.plainAttrs_dict F.slot_dict_update F.type_dict_update (bG (ho pins s σ H _ I h) fun u s1 ⟨x,H1,I1,rx,a,ex,d,q1⟩=>?_)
 subst ex
 obtain rfl:u=Value.ref a:=rx
 obtain ⟨t1,t2,_⟩:=Wl I1 d
 refine ⟨t1,t2,?_⟩
 rw [m.trees]
 refine Calls.callWith_builtin rfl (Calls.evalArgs_plain (Calls.spliced_cons (bG (he pins s1 σ H1 _ I1 q1) fun iv s2 ⟨y,H2,I2,ry,b,kvs,more,ey,ea,eb,hne,hl,q2⟩=>Calls.spliced_nil ?_)))
 subst ey
 obtain rfl:iv=Value.ref b:=ry
 exact Qc I2 ea eb hne hl fun s3 I3=>⟨.non,_,I3,rfl,q2⟩
theorem Fj:oU X (.type "dict") (fun xs H Q=>∃ a kvs,xs=[.ref a]/\Rd H a (.dK kvs)/\∀ p,H p=none->Q (.ref p) (upd H p (.dK kvs))):=by
 intro pins s σ H xs us Q I r h
 obtain ⟨a,kvs,rfl,e,k⟩:=h
 obtain ⟨u,rfl,ru⟩:=vals1 r
 obtain rfl:u=Value.ref a:=ru
 exact Py I e fun p s' hp I'=>⟨.ref p,_,I',rfl,k p hp⟩
end
end L2
namespace PL
open PySem PySem.Spec PyProof.Rows L2
inductive PV where
 | non
 | bl (b:Bool)
 | int (i:Int)
 | str (x:Str)
 | tup (ps:List PV)
 | lst (ps:List PV)
 | dk (ks:List Key) (ps:List PV)
 | dt (ks:List (List Key)) (ps:List PV)
 | obj (C:Str) (ks:List Str) (ps:List PV)
 | df (ks:List Key) (ps:List PV)
 | dtf (ks:List (List Key)) (ps:List PV)
 | dx (hk:List cC->Int) (ks:List (List cC)) (ps:List PV)
 | exc (C:Str)
 | ptr (n:Nat)
structure ZG where
 z:Hp
 g:List Addr
def iy (Z Z':ZG):Prop:=cZ Z.z Z'.z/\Z.g <+: Z'.g
theorem iy.refl (Z:ZG):iy Z Z:=⟨cZ.refl _,aa8 _⟩
theorem iy.trans {Z Z1 Z2:ZG} (a:iy Z Z1) (b:iy Z1 Z2):iy Z Z2:=⟨a.1.trans b.1,a.2.trans b.2⟩
theorem T5 {α:Type} {l r:List α} {n:Nat} {a:α} (h:l <+: r) (e:l[n]?=some a):r[n]?=some a:=by
 obtain ⟨t,rfl⟩:=h
 rw [aaI (aan.mp e).1]; exact e
def CN (K:FG) (C:Str) (c:Addr):Prop:=W.nsIn K mainGlobals C=some (some (.ref c))
mutual
def Rep (K:FG) (Z:ZG):PV->V->Prop
 | .non,v=>v=.non
 | .bl b,v=>v=.bl b
 | .int i,v=>v=.int i
 | .str x,v=>v=.str x
 | .tup ps,v=>∃ a vs,v=.ref a/\cI K Z.z a vs/\aJ K Z ps vs
 | .lst ps,v=>∃ a vs,v=.ref a/\bI K Z.z a vs/\aJ K Z ps vs
 | .dk ks ps,v=>∃ a kvs,v=.ref a/\Z.z a=some (.dK kvs)/\kvs.map (·.1)=ks/\aJ K Z ps (kvs.map (·.2))
 | .dt ks ps,v=>∃ a kvs,v=.ref a/\Z.z a=some (.dT kvs)/\kvs.map (·.1)=ks/\aJ K Z ps (kvs.map (·.2))
 | .obj C ks ps,v=>∃ a c dx fs,v=.ref a/\CN K C c/\Z.z a=some (.ins c dx fs)/\fs.map (·.1)=ks/\aJ K Z ps (fs.map (·.2))
 | .df ks ps,v=>∃ a o kvs,v=.ref a/\Z.z a=some (.frz o (.dK kvs))/\kvs.map (·.1)=ks/\aJ K Z ps (kvs.map (·.2))
 | .dtf ks ps,v=>∃ a o kvs,v=.ref a/\Z.z a=some (.frz o (.dT kvs))/\kvs.map (·.1)=ks/\aJ K Z ps (kvs.map (·.2))
 | .dx hk ks ps,v=>∃ a xs,v=.ref a/\Z.z a=some (.ext (ug hk a xs))/\xs.map (·.1)=ks/\(∀ x∈xs,cI K Z.z x.2.1 (x.1.map sJ))/\aJ K Z ps (xs.map (·.2.2))
 | .exc C,v=>∃ a c,v=.ref a/\CN K C c/\Z.z a=some (.ext (Wt a c))
 | .ptr n,v=>∃ a,v=.ref a/\Z.g[n]?=some a
def aJ (K:FG) (Z:ZG):List PV->List V->Prop
 | [],vs=>vs=[]
 | p::ps,vs=>∃ v r,vs=v::r/\Rep K Z p v/\aJ K Z ps r
end
theorem bI.same {K:FG} {Z Z':Hp} {a:Addr} {vs:List V} (s:cZ Z Z') (h:bI K Z a vs):bI K Z' a vs:=s.seq h
theorem cI.same {K:FG} {Z Z':Hp} {a:Addr} {vs:List V} (s:cZ Z Z') (h:cI K Z a vs):cI K Z' a vs:=by
 rcases h with (h | ⟨o,h⟩) | h
 . exact .inl (.inl (s _ _ h))
 . exact .inl (.inr ⟨o,s _ _ h⟩)
 . exact .inr h
mutual
theorem Rep.mono {K:FG} {Z Z':ZG} (s:iy Z Z'):∀ {p:PV} {v:V},Rep K Z p v->Rep K Z' p v
 | .non,v,h=>h
 | .bl _,v,h=>h
 | .int _,v,h=>h
 | .str _,v,h=>h
 | .tup ps,v,h=>by
  unfold Rep at h ⊢
  obtain ⟨a,vs,e,h1,h2⟩:=h
  exact ⟨a,vs,e,cI.same s.1 h1,aJ.mono s h2⟩
 | .lst ps,v,h=>by
  unfold Rep at h ⊢
  obtain ⟨a,vs,e,h1,h2⟩:=h
  exact ⟨a,vs,e,bI.same s.1 h1,aJ.mono s h2⟩
 | .dk ks ps,v,h=>by
  unfold Rep at h ⊢
  obtain ⟨a,kvs,e,h1,h2,h3⟩:=h
  exact ⟨a,kvs,e,s.1 _ _ h1,h2,aJ.mono s h3⟩
 | .dt ks ps,v,h=>by
  unfold Rep at h ⊢
  obtain ⟨a,kvs,e,h1,h2,h3⟩:=h
  exact ⟨a,kvs,e,s.1 _ _ h1,h2,aJ.mono s h3⟩
 | .obj C ks ps,v,h=>by
  unfold Rep at h ⊢
  obtain ⟨a,c,dx,fs,e,cn,h1,h2,h3⟩:=h
  exact ⟨a,c,dx,fs,e,cn,s.1 _ _ h1,h2,aJ.mono s h3⟩
 | .df ks ps,v,h=>by
  unfold Rep at h ⊢
  obtain ⟨a,o,kvs,e,h1,h2,h3⟩:=h
  exact ⟨a,o,kvs,e,s.1 _ _ h1,h2,aJ.mono s h3⟩
 | .dtf ks ps,v,h=>by
  unfold Rep at h ⊢
  obtain ⟨a,o,kvs,e,h1,h2,h3⟩:=h
  exact ⟨a,o,kvs,e,s.1 _ _ h1,h2,aJ.mono s h3⟩
 | .dx hk ks ps,v,h=>by
  unfold Rep at h ⊢
  obtain ⟨a,xs,e,h1,h2,h4,h3⟩:=h
  exact ⟨a,xs,e,s.1 _ _ h1,h2,fun x hx=>cI.same s.1 (h4 x hx),aJ.mono s h3⟩
 | .exc C,v,h=>by
  unfold Rep at h ⊢
  obtain ⟨a,c,e,cn,h1⟩:=h
  exact ⟨a,c,e,cn,s.1 _ _ h1⟩
 | .ptr n,v,h=>by
  unfold Rep at h ⊢
  obtain ⟨a,e,h1⟩:=h
  exact ⟨a,e,T5 s.2 h1⟩
theorem aJ.mono {K:FG} {Z Z':ZG} (s:iy Z Z'):∀ {ps:List PV} {vs:List V},aJ K Z ps vs->aJ K Z' ps vs
 | [],vs,h=>by unfold aJ at h ⊢; exact h
 | p::ps,vs,h=>by
  unfold aJ at h ⊢
  obtain ⟨v,r,e,h1,h2⟩:=h
  exact ⟨v,r,e,Rep.mono s h1,aJ.mono s h2⟩
end
section
variable {K:FG} {Z:ZG}
theorem aJ.length:∀ {ps:List PV} {vs:List V},aJ K Z ps vs->vs.length=ps.length
 | [],vs,h=>by unfold aJ at h; subst h; rfl
 | p::ps,vs,h=>by
  unfold aJ at h
  obtain ⟨v,r,rfl,_,h2⟩:=h
  simp [aJ.length h2]
theorem aJ.nil:aJ K Z [] []:=by unfold aJ; rfl
theorem aJ.cons {p:PV} {ps:List PV} {v:V} {vs:List V} (h:Rep K Z p v) (t:aJ K Z ps vs):aJ K Z (p::ps) (v::vs):=by unfold aJ; exact ⟨v,vs,rfl,h,t⟩
theorem aJ.inv {p:PV} {ps:List PV} {vs:List V} (h:aJ K Z (p::ps) vs):∃ v r,vs=v::r/\Rep K Z p v/\aJ K Z ps r:=by unfold aJ at h; exact h
theorem aJ.inv0 {vs:List V} (h:aJ K Z [] vs):vs=[]:=by unfold aJ at h; exact h
theorem aJ.append:∀ {ps qs:List PV} {vs ws:List V},aJ K Z ps vs->aJ K Z qs ws->aJ K Z (ps++qs) (vs++ws)
 | [],qs,vs,ws,h,g=>by have:=h.inv0; subst this; exact g
 | p::ps,qs,vs,ws,h,g=>by
  obtain ⟨v,r,rfl,h1,h2⟩:=h.inv
  exact aJ.cons h1 (aJ.append h2 g)
theorem aJ.get:∀ {ps:List PV} {vs:List V} {i:Nat} {p:PV},aJ K Z ps vs->ps[i]?=some p->∃ v,vs[i]?=some v/\Rep K Z p v
 | [],vs,i,p,h,e=>by simp at e
 | q::ps,vs,0,p,h,e=>by
  obtain ⟨v,r,rfl,h1,h2⟩:=h.inv
  simp at e; subst e
  exact ⟨v,rfl,h1⟩
 | q::ps,vs,i+1,p,h,e=>by
  obtain ⟨v,r,rfl,h1,h2⟩:=h.inv
  obtain ⟨u,h3,h4⟩:=aJ.get (i:=i) (p:=p) h2 (by simpa using e)
  exact ⟨u,by simpa using h3,h4⟩
theorem aJ.getV {ps:List PV} {vs:List V} {i:Nat} {v:V} (h:aJ K Z ps vs) (e:vs[i]?=some v):∃ p,ps[i]?=some p/\Rep K Z p v:=by
 have hi:i<ps.length:=by rw [← h.length]; exact (aan.mp e).1
 obtain ⟨u,h1,h2⟩:=h.get (i:=i) (p:=ps[i]) (aaC hi)
 rw [e] at h1; cases h1
 exact ⟨_,aaC hi,h2⟩
theorem aJ.set {q:PV} {u:V} (hq:Rep K Z q u):∀ {ps:List PV} {vs:List V} (i:Nat),aJ K Z ps vs->aJ K Z (ps.set i q) (vs.set i u)
 | [],vs,i,h=>by have:=h.inv0; subst this; exact h
 | p::ps,vs,0,h=>by
  obtain ⟨v,r,rfl,h1,h2⟩:=h.inv
  exact aJ.cons hq h2
 | p::ps,vs,i+1,h=>by
  obtain ⟨v,r,rfl,h1,h2⟩:=h.inv
  exact aJ.cons h1 (aJ.set hq i h2)
theorem aJ.take:∀ {ps:List PV} {vs:List V} (n:Nat),aJ K Z ps vs->aJ K Z (ps.take n) (vs.take n)
 | [],vs,n,h=>by have:=h.inv0; subst this; simp; exact .nil
 | p::ps,vs,0,h=>by simp; exact .nil
 | p::ps,vs,n+1,h=>by
  obtain ⟨v,r,rfl,h1,h2⟩:=h.inv
  exact aJ.cons h1 (aJ.take n h2)
theorem aJ.drop:∀ {ps:List PV} {vs:List V} (n:Nat),aJ K Z ps vs->aJ K Z (ps.drop n) (vs.drop n)
 | [],vs,n,h=>by have:=h.inv0; subst this; simp; exact .nil
 | p::ps,vs,0,h=>h
 | p::ps,vs,n+1,h=>by
  obtain ⟨v,r,rfl,h1,h2⟩:=h.inv
  exact aJ.drop n h2
end
inductive Lc where
 | sh (p:PV)
 | own (p:PV)
def Lc.pv:Lc->PV
 | .sh p=>p
 | .own p=>p
abbrev Mu:=List (Option PV)
structure Ev where
 vs:List (Option Lc)
 mu:Mu
abbrev Pd:=List (V×Lc)
def qX (K:FG) (Z:ZG) (H:Hp) (a:Addr):PV->Prop
 | .lst ps=>∃ vs,H a=some (.lst vs)/\aJ K Z ps vs
 | .dk ks ps=>∃ kvs,H a=some (.dK kvs)/\kvs.map (·.1)=ks/\aJ K Z ps (kvs.map (·.2))
 | .dt ks ps=>∃ kvs,H a=some (.dT kvs)/\kvs.map (·.1)=ks/\aJ K Z ps (kvs.map (·.2))
 | .dx hk ks ps=>∃ xs,H a=some (.ext (ug hk a xs))/\xs.map (·.1)=ks/\(∀ x∈xs,cI K Z.z x.2.1 (x.1.map sJ))/\aJ K Z ps (xs.map (·.2.2))
 | .exc C=>∃ c,CN K C c/\H a=some (.ext (Wt a c))
 | .obj C ks ps=>∃ c dx fs,CN K C c/\H a=some (.ins c dx fs)/\fs.map (·.1)=ks/\aJ K Z ps (fs.map (·.2))
 | _=>False
def VR (K:FG) (H0:Hp) (Z:ZG) (H:Hp) (v:Option V):Option Lc->Prop
 | none=>True
 | some (.sh p)=>∃ x,v=some x/\Rep K Z p x
 | some (.own p)=>∃ a,v=some (.ref a)/\qX K Z H a p/\Z.z a=none/\H0 a=none
def kE:Option V×Option Lc->Option Addr
 | (some (.ref a),some (.own _))=>some a
 | _=>none
abbrev Sl:=List (Option V×Option Lc)
def Slots (K:FG) (H0:Hp) (Z:ZG) (H:Hp) (L:Sl):Prop:=(∀ e∈L,VR K H0 Z H e.1 e.2)/\(L.filterMap kE).Nodup
def cel (g:List Addr) (mu:Mu):Sl:=(g.map fun a=>some (V.ref a)).zip (mu.map fun o=>o.map Lc.own)
def qY (g:List Addr) (mu:Mu):List Addr:=(cel g mu).filterMap kE
def sl (g:List Addr) (σ:L2.St) (ρ:Ev) (pd:Pd):Sl:=cel g ρ.mu++(σ.zip ρ.vs++pd.map fun e=>(some e.1,some e.2))
def Eh:HO->Prop
 | .tup _=>True
 | .frz _ _=>True
 | _=>False
structure jO (H0:Hp) (Z0 Z:ZG) (H:Hp):Prop where
 zh:cZ Z.z H
 h0:cZ H0 H
 z0:iy Z0 Z
 new:∀ b o,Z.z b=some o->Z0.z b=some o\/H0 b=none\/Eh o
def SR (K:FG) (H0:Hp) (Z0:ZG) (σ:L2.St) (H:Hp) (ρ:Ev) (pd:Pd):Prop:=σ.length=ρ.vs.length/\∃ Z,ρ.mu.length=Z.g.length/\jO H0 Z0 Z H/\Slots K H0 Z H (sl Z.g σ ρ pd)
section
variable {K:FG} {H0 H H':Hp} {Z0 Z Z':ZG} {L L':Sl} {σ:L2.St} {ρ:Ev} {pd:Pd}
theorem Slots.sub (h:Slots K H0 Z H L) (s:List.Sublist L' L):Slots K H0 Z H L':=⟨fun e he=>h.1 e (s.subset he),h.2.sublist (s.filterMap kE)⟩
theorem Slots.perm (h:Slots K H0 Z H L) (s:List.Perm L' L):Slots K H0 Z H L':=⟨fun e he=>h.1 e (s.subset he),(s.filterMap kE).nodup_iff.mpr h.2⟩
theorem qX.keep {a:Addr} {p:PV} (h:qX K Z H a p) (z:iy Z Z') (e:H' a=H a):qX K Z' H' a p:=by
 cases p with
 | lst ps=>obtain ⟨vs,h1,h2⟩:=h; exact ⟨vs,by rw [e]; exact h1,h2.mono z⟩
 | dk ks ps=>obtain ⟨vs,h1,h2,h3⟩:=h; exact ⟨vs,by rw [e]; exact h1,h2,h3.mono z⟩
 | dt ks ps=>obtain ⟨vs,h1,h2,h3⟩:=h; exact ⟨vs,by rw [e]; exact h1,h2,h3.mono z⟩
 | dx hk ks ps=>obtain ⟨vs,h1,h2,h4,h3⟩:=h; exact ⟨vs,by rw [e]; exact h1,h2,fun x hx=>cI.same z.1 (h4 x hx),h3.mono z⟩
 | exc C=>obtain ⟨c,cn,h1⟩:=h; exact ⟨c,cn,by rw [e]; exact h1⟩
 | obj C ks ps=>obtain ⟨c,dx,fs,cn,h1,h2,h3⟩:=h; exact ⟨c,dx,fs,cn,by rw [e]; exact h1,h2,h3.mono z⟩
 | _=>exact h
theorem qX.some {a:Addr} {p:PV} (h:qX K Z H a p):∃ o,H a=some o/\¬ Eh o:=by
 cases p with
 | lst ps=>obtain ⟨vs,h1,h2⟩:=h; exact ⟨_,h1,fun z=>z⟩
 | dk ks ps=>obtain ⟨vs,h1,h2,h3⟩:=h; exact ⟨_,h1,fun z=>z⟩
 | dt ks ps=>obtain ⟨vs,h1,h2,h3⟩:=h; exact ⟨_,h1,fun z=>z⟩
 | dx hk ks ps=>obtain ⟨vs,h1,h2,h3⟩:=h; exact ⟨_,h1,fun z=>z⟩
 | exc C=>obtain ⟨c,cn,h1⟩:=h; exact ⟨_,h1,fun z=>z⟩
 | obj C ks ps=>obtain ⟨c,dx,fs,cn,h1,h2,h3⟩:=h; exact ⟨_,h1,fun z=>z⟩
 | _=>exact h.elim
theorem qX.rep {a:Addr} {p:PV} (h:qX K Z H a p) (z:iy Z Z') (e:Z'.z a=H a):Rep K Z' p (.ref a):=by
 cases p with
 | lst ps=>obtain ⟨vs,h1,h2⟩:=h; unfold Rep; exact ⟨a,vs,rfl,bI.of (by rw [e]; exact h1),h2.mono z⟩
 | dk ks ps=>obtain ⟨vs,h1,h2,h3⟩:=h; unfold Rep; exact ⟨a,vs,rfl,by rw [e]; exact h1,h2,h3.mono z⟩
 | dt ks ps=>obtain ⟨vs,h1,h2,h3⟩:=h; unfold Rep; exact ⟨a,vs,rfl,by rw [e]; exact h1,h2,h3.mono z⟩
 | dx hk ks ps=>obtain ⟨vs,h1,h2,h4,h3⟩:=h; unfold Rep; exact ⟨a,vs,rfl,by rw [e]; exact h1,h2,fun x hx=>cI.same z.1 (h4 x hx),h3.mono z⟩
 | exc C=>obtain ⟨c,cn,h1⟩:=h; unfold Rep; exact ⟨a,c,rfl,cn,by rw [e]; exact h1⟩
 | obj C ks ps=>obtain ⟨c,dx,fs,cn,h1,h2,h3⟩:=h; unfold Rep; exact ⟨a,c,dx,fs,rfl,cn,by rw [e]; exact h1,h2,h3.mono z⟩
 | _=>exact h.elim
theorem Slots.step (h:Slots K H0 Z H L) (z:iy Z Z') (hk:∀ e∈L,∀ a,kE e=some a->H' a=H a/\Z'.z a=none):Slots K H0 Z' H' L:=by
 refine ⟨fun e he=>?_,h.2⟩
 have q:=h.1 e he
 obtain ⟨v,l⟩:=e
 cases l with
 | none=>trivial
 | some l=>
  cases l with
  | sh p=>obtain ⟨x,e1,e2⟩:=q; exact ⟨x,e1,e2.mono z⟩
  | own p=>
   obtain ⟨a,e1,e2,e3,e4⟩:=q
   have e1':v=some (.ref a):=e1
   subst e1'
   obtain ⟨k1,k2⟩:=hk _ he a rfl
   exact ⟨a,rfl,e2.keep z k1,k2,e4⟩
theorem iT (h:Slots K H0 Z H L) {e:Option V×Option Lc} (he:e∈L) {a:Addr} (ha:kE e=some a):Z.z a=none/\H0 a=none/\∃ o,H a=some o/\¬ Eh o:=by
 obtain ⟨v,l⟩:=e
 have q:=h.1 _ he
 cases l with
 | none=>cases v with
  | none=>cases ha
  | some x=>cases x<;>cases ha
 | some l=>
  cases l with
  | sh p=>cases v with
   | none=>cases ha
   | some x=>cases x<;>cases ha
  | own p=>
   obtain ⟨b,e1,e2,e3,e4⟩:=q
   have e1':v=some (.ref b):=e1
   subst e1'
   cases ha
   exact ⟨e3,e4,e2.some⟩
theorem Slots.new (h:Slots K H0 Z H L) (zo:jO H0 Z0 Z H) {a:Addr} {o:HO} {p:PV} (ha:H a=none) (hp:qX K Z (upd H a o) a p):jO H0 Z0 Z (upd H a o)/\Slots K H0 Z (upd H a o) ((some (.ref a),some (.own p))::L):=by
 have hz:Z.z a=none:=zo.zh.free ha
 have h0:H0 a=none:=zo.h0.free ha
 refine ⟨⟨fun b u e=>by rw [cj (dB e hz)]; exact zo.zh b u e,fun b u e=>by rw [cj (dB e h0)]; exact zo.h0 b u e,zo.z0,zo.new⟩,?_⟩
 have hne:∀ e∈L,∀ b,kE e=some b->b≠a:=fun e he b hb=>by
  obtain ⟨_,_,o',h3,_⟩:=iT h he hb
  exact dB h3 ha
 have st:=h.step (Z':=Z) (H':=upd H a o) (iy.refl Z) fun e he b hb=>⟨cj (hne e he b hb),(iT h he hb).1⟩
 refine ⟨fun e he=>?_,?_⟩
 . rcases aao.mp he with rfl | he
   . exact ⟨a,rfl,hp,hz,h0⟩
   . exact st.1 e he
 . show (a::L.filterMap kE).Nodup
   refine aaM.mpr ⟨fun hm=>?_,st.2⟩
   obtain ⟨e,he,hb⟩:=aaX.mp hm
   exact hne e he a hb rfl
abbrev ZG.put (Z:ZG) (a:Addr) (o:HO):ZG:=⟨upd Z.z a o,Z.g⟩
theorem Slots.newF (h:Slots K H0 Z H L) (zo:jO H0 Z0 Z H) {a:Addr} {o:HO} (ha:H a=none):jO H0 Z0 (Z.put a o) (upd H a o)/\iy Z (Z.put a o)/\Slots K H0 (Z.put a o) (upd H a o) L:=by
 have hz:Z.z a=none:=zo.zh.free ha
 have h0:H0 a=none:=zo.h0.free ha
 have sz:cZ Z.z (upd Z.z a o):=fun b u e=>by rw [cj (dB e hz)]; exact e
 have lz:iy Z (Z.put a o):=⟨sz,aa8 _⟩
 refine ⟨⟨fun b u e=>?_,fun b u e=>by rw [cj (dB e h0)]; exact zo.h0 b u e,zo.z0.trans lz,fun b u e=>?_⟩,lz,?_⟩
 . have e:upd Z.z a o b=some u:=e
   unfold upd at e ⊢
   split
   . rename_i q; rw [ab7 q] at e; exact e
   . rename_i q; rw [ab8 q] at e; exact zo.zh b u e
 . have e:upd Z.z a o b=some u:=e
   unfold upd at e
   split at e
   . rename_i q; rw [q]; exact .inr (.inl h0)
   . exact zo.new b u e
 . refine h.step lz fun e he b hb=>?_
   obtain ⟨h1,h2,o',h3,_⟩:=iT h he hb
   have hba:=dB h3 ha
   exact ⟨cj hba,by show upd Z.z a o b=none; rw [cj hba]; exact h1⟩
theorem Slots.freeze {v:Option V} {p:PV} (h:Slots K H0 Z H ((v,some (.own p))::L)) (zo:jO H0 Z0 Z H):∃ Z',iy Z Z'/\Z'.g=Z.g/\jO H0 Z0 Z' H/\Slots K H0 Z' H ((v,some (.sh p))::L):=by
 obtain ⟨a,e1,e2,e3,e4⟩:=h.1 _ aab
 have e1':v=some (.ref a):=e1
 subst e1'
 obtain ⟨o,ho,_⟩:=e2.some
 have sz:cZ Z.z (upd Z.z a o):=fun b u e=>by rw [cj (dB e e3)]; exact e
 have lz:iy Z (Z.put a o):=⟨sz,aa8 _⟩
 have nd:(a::L.filterMap kE).Nodup:=h.2
 have hL:Slots K H0 Z H L:=h.sub (aap _ _)
 refine ⟨Z.put a o,lz,rfl,⟨fun b u e=>?_,zo.h0,zo.z0.trans lz,fun b u e=>?_⟩,fun e he=>?_,(aaM.mp nd).2⟩
 . have e:upd Z.z a o b=some u:=e
   unfold upd at e
   split at e
   . rename_i q; cases e; rw [q]; exact ho
   . exact zo.zh b u e
 . have e:upd Z.z a o b=some u:=e
   unfold upd at e
   split at e
   . rename_i q; rw [q]; exact .inr (.inl e4)
   . exact zo.new b u e
 . rcases aao.mp he with rfl | he
   . exact ⟨.ref a,rfl,e2.rep lz (by show upd Z.z a o a=_; rw [bM,ho])⟩
   . refine (hL.step (Z':=Z.put a o) (H':=H) lz fun e' he' b hb=>⟨rfl,?_⟩).1 e he
     have:b≠a:=fun q=>by
      rw [q] at hb
      exact (aaM.mp nd).1 (aaX.mpr ⟨e',he',hb⟩)
     show upd Z.z a o b=none
     rw [cj this]
     exact (iT hL he' hb).1
theorem Slots.write {a:Addr} {p q:PV} {o:HO} (h:Slots K H0 Z H ((some (.ref a),some (.own p))::L)) (zo:jO H0 Z0 Z H) (hq:qX K Z (upd H a o) a q):jO H0 Z0 Z (upd H a o)/\Slots K H0 Z (upd H a o) ((some (.ref a),some (.own q))::L):=by
 obtain ⟨b,e1,e2,e3,e4⟩:=h.1 _ aab
 cases e1
 have nd:(a::L.filterMap kE).Nodup:=h.2
 have hL:Slots K H0 Z H L:=h.sub (aap _ _)
 refine ⟨⟨fun b u e=>by rw [cj (dB e e3)]; exact zo.zh b u e,fun b u e=>by rw [cj (dB e e4)]; exact zo.h0 b u e,zo.z0,zo.new⟩,fun e he=>?_,nd⟩
 rcases aao.mp he with rfl | he
 . exact ⟨a,rfl,hq,e3,e4⟩
 . refine (hL.step (Z':=Z) (H':=upd H a o) (iy.refl Z) fun e' he' b hb=>⟨cj fun q=>?_,(iT hL he' hb).1⟩).1 e he
   rw [q] at hb
   exact (aaM.mp nd).1 (aaX.mpr ⟨e',he',hb⟩)
end
variable {K:FG} {H0 H:Hp} {Z0:ZG} {σ:L2.St} {ρ:Ev} {pd:Pd}
theorem v8 {α:Type}:∀ {l:List α} {i:Nat} {a:α},l[i]?=some a->∃ R,List.Perm l (a::R)/\∀ b,List.Perm (l.set i b) (b::R)
 | [],i,a,h=>by simp at h
 | x::r,0,a,h=>by
  simp at h; subst h
  exact ⟨r,List.Perm.refl _,fun b=>List.Perm.refl _⟩
 | x::r,i+1,a,h=>by
  obtain ⟨R,h1,h2⟩:=v8 (l:=r) (i:=i) (a:=a) (by simpa using h)
  refine ⟨x::R,(h1.cons x).trans (List.Perm.swap _ _ _),fun b=>?_⟩
  simp only [List.set_cons_succ]
  exact ((h2 b).cons x).trans (List.Perm.swap _ _ _)
theorem Bj {α β:Type}:∀ (l:List α) (r:List β) (i:Nat) (a:α) (b:β),(l.set i a).zip (r.set i b)=(l.zip r).set i (a,b)
 | [],r,i,a,b=>by simp
 | x::l,[],i,a,b=>by simp
 | x::l,y::r,0,a,b=>by simp
 | x::l,y::r,i+1,a,b=>by simp [Bj l r i a b]
theorem zip_get {α β:Type}:∀ {l:List α} {r:List β} {i:Nat} {a:α} {b:β},l[i]?=some a->r[i]?=some b->(l.zip r)[i]?=some (a,b)
 | [],r,i,a,b,h,g=>by simp at h
 | x::l,[],i,a,b,h,g=>by simp at g
 | x::l,y::r,0,a,b,h,g=>by simp at h g; simp [h,g]
 | x::l,y::r,i+1,a,b,h,g=>by
  have:=zip_get (l:=l) (r:=r) (i:=i) (by simpa using h) (by simpa using g)
  simpa using this
theorem ach {α:Type}:∀ {l:List α} {i:Nat} {a:α},l[i]?=some a->l.set i a=l
 | [],i,a,h=>by simp at h
 | x::r,0,a,h=>by simp at h; subst h; simp
 | x::r,i+1,a,h=>by simp [ach (l:=r) (i:=i) (a:=a) (by simpa using h)]
def Ev.set (ρ:Ev) (i:Nat) (x:Option Lc):Ev:=⟨ρ.vs.set i x,ρ.mu⟩
section
variable {K:FG} {H0 H H':Hp} {Z0 Z:ZG} {σ:L2.St} {ρ:Ev} {pd pd':Pd} {v w:V} {l:Lc} {p:PV} {L:Sl} {g:List Addr}
theorem bZ:List.Perm (sl g σ ρ ((v,l)::pd)) ((some v,some l)::sl g σ ρ pd):=by
 unfold sl
 exact (List.perm_middle.append_left _).trans aaW
theorem SR.top (h:SR K H0 Z0 σ H ρ ((v,l)::pd)):σ.length=ρ.vs.length/\∃ Z,ρ.mu.length=Z.g.length/\jO H0 Z0 Z H/\Slots K H0 Z H ((some v,some l)::sl Z.g σ ρ pd):=
 let ⟨e,Z,hg,z,s⟩:=h
 ⟨e,Z,hg,z,s.perm bZ.symm⟩
theorem SR.mk (e:σ.length=ρ.vs.length) (hg:ρ.mu.length=Z.g.length) (z:jO H0 Z0 Z H) (s:Slots K H0 Z H ((some v,some l)::sl Z.g σ ρ pd)):SR K H0 Z0 σ H ρ ((v,l)::pd):=⟨e,Z,hg,z,s.perm bZ⟩
theorem SR.pop (h:SR K H0 Z0 σ H ρ ((v,l)::pd)):SR K H0 Z0 σ H ρ pd:=
 let ⟨e,Z,hg,z,s⟩:=h.top
 ⟨e,Z,hg,z,s.sub (aap _ _)⟩
theorem SR.perm (h:SR K H0 Z0 σ H ρ pd) (q:List.Perm pd' pd):SR K H0 Z0 σ H ρ pd':=
 let ⟨e,Z,hg,z,s⟩:=h
 ⟨e,Z,hg,z,s.perm (((q.map _).append_left _).append_left _)⟩
theorem SR.swap {l2:Lc} (h:SR K H0 Z0 σ H ρ ((v,l)::(w,l2)::pd)):SR K H0 Z0 σ H ρ ((w,l2)::(v,l)::pd):=h.perm (List.Perm.swap _ _ _)
theorem SR.freeze (h:SR K H0 Z0 σ H ρ ((v,l)::pd)):SR K H0 Z0 σ H ρ ((v,.sh l.pv)::pd):=by
 cases l with
 | sh p=>exact h
 | own p=>
  obtain ⟨e,Z,hg,z,s⟩:=h.top
  obtain ⟨Z',_,eg,z',s'⟩:=s.freeze z
  refine .mk (Z:=Z') e (by rw [eg]; exact hg) z' ?_
  rw [eg]; exact s'
theorem SR.sh (h:SR K H0 Z0 σ H ρ ((v,.sh p)::pd)):σ.length=ρ.vs.length/\∃ Z,ρ.mu.length=Z.g.length/\jO H0 Z0 Z H/\Rep K Z p v/\Slots K H0 Z H (sl Z.g σ ρ pd):=by
 obtain ⟨e,Z,hg,z,s⟩:=h.top
 obtain ⟨x,e1,e2⟩:=s.1 _ aab
 cases e1
 exact ⟨e,Z,hg,z,e2,s.sub (aap _ _)⟩
theorem SR.rep (h:SR K H0 Z0 σ H ρ ((v,.sh p)::pd)):∃ Z:ZG,cZ Z.z H/\Rep K Z p v:=let ⟨_,Z,_,z,r,_⟩:=h.sh; ⟨Z,z.zh,r⟩
theorem SR.repH (h:SR K H0 Z0 σ H ρ ((v,.sh p)::pd)):∃ g,Rep K ⟨H,g⟩ p v:=let ⟨_,Z,_,z,r,_⟩:=h.sh; ⟨Z.g,r.mono (Z':=⟨H,Z.g⟩) ⟨z.zh,aa8 _⟩⟩
theorem Slots.consS (s:Slots K H0 Z H L) (r:Rep K Z p v):Slots K H0 Z H ((some v,some (.sh p))::L):=by
 refine ⟨fun e he=>?_,?_⟩
 . rcases aao.mp he with rfl | he
   . exact ⟨v,rfl,r⟩
   . exact s.1 e he
 . have:kE (some v,some (Lc.sh p))=none:=by cases v<;>rfl
   rw [aaU this]
   exact s.2
theorem SR.scal (h:SR K H0 Z0 σ H ρ pd) (r:∀ Z,Rep K Z p v):SR K H0 Z0 σ H ρ ((v,.sh p)::pd):=
 let ⟨e,Z,hg,z,s⟩:=h
 .mk e hg z (s.consS (r Z))
theorem Fo {i:Nat} {o:Option Lc} (el:σ.length=ρ.vs.length) (e:ρ.vs[i]?=some o):∃ R:Sl,∃ x,σ[i]?=some x/\(∀ g pd,List.Perm (sl g σ ρ pd) ((x,o)::(cel g ρ.mu++(R++pd.map fun e=>(some e.1,some e.2)))))/\
 ∀ g pd y o',List.Perm (sl g (σ.set i y) (ρ.set i o') pd) ((y,o')::(cel g ρ.mu++(R++pd.map fun e=>(some e.1,some e.2)))):=by
 have hi:i<σ.length:=by rw [el]; exact (aan.mp e).1
 have hσ:σ[i]?=some σ[i]:=aaC hi
 obtain ⟨R,h1,h2⟩:=v8 (zip_get hσ e)
 refine ⟨R,σ[i],hσ,fun g pd=>?_,fun g pd y o'=>?_⟩
 . unfold sl
   exact ((h1.append_right _).append_left _).trans aaW
 . unfold sl
   show List.Perm (cel g ρ.mu++((σ.set i y).zip (ρ.vs.set i o')++_)) _
   rw [Bj]
   exact (((h2 _).append_right _).append_left _).trans aaW
theorem Ev.set_mu {i:Nat} {x:Option Lc}:(ρ.set i x).mu=ρ.mu:=rfl
theorem Ev.set_len {i:Nat} {x:Option Lc}:(ρ.set i x).vs.length=ρ.vs.length:=by show (ρ.vs.set i x).length=_; rw [aaJ]
theorem SR.var {i:Nat} (h:SR K H0 Z0 σ H ρ pd) (e:ρ.vs[i]?=some (some l)):∃ v,σ[i]?=some (some v)/\SR K H0 Z0 σ H (ρ.set i (some (.sh l.pv))) ((v,.sh l.pv)::pd):=by
 obtain ⟨el,Z,hg,z,s⟩:=h
 obtain ⟨R,x,hσ,h1,h2⟩:=Fo el e
 have s1:=s.perm (h1 Z.g pd).symm
 have el':σ.length=(ρ.set i (some (.sh l.pv))).vs.length:=by rw [Ev.set_len]; exact el
 have fin:∀ {Z':ZG} {v:V},Z'.g=Z.g->jO H0 Z0 Z' H->x=some v->Slots K H0 Z' H ((x,some (.sh l.pv))::(cel Z.g ρ.mu++(R++pd.map fun e=>(some e.1,some e.2))))->Rep K Z' l.pv v->SR K H0 Z0 σ H (ρ.set i (some (.sh l.pv))) ((v,.sh l.pv)::pd):=
  fun {Z' v} eg z ev s2 r=>by
   have p2:=h2 Z.g pd x (some (.sh l.pv))
   rw [ach hσ] at p2
   refine .mk (Z:=Z') el' (by rw [eg,Ev.set_mu]; exact hg) z ?_
   rw [eg]
   exact (s2.perm p2).consS r
 cases l with
 | sh p=>
  obtain ⟨v,e1,e2⟩:=s1.1 _ aab
  exact ⟨v,hσ.trans (congrArg some e1),fin rfl z e1 s1 e2⟩
 | own p=>
  obtain ⟨Z',sz,eg,z',s'⟩:=s1.freeze z
  obtain ⟨v,e1,e2⟩:=s'.1 _ aab
  exact ⟨v,hσ.trans (congrArg some e1),fin eg z' e1 s' e2⟩
theorem SR.store {i:Nat} (h:SR K H0 Z0 σ H ρ ((v,l)::pd)) (hi:i<ρ.vs.length):SR K H0 Z0 (σ.set i (some v)) H (ρ.set i (some l)) pd:=by
 obtain ⟨el,Z,hg,z,s⟩:=h.top
 have hρ:ρ.vs[i]?=some ρ.vs[i]:=aaC hi
 obtain ⟨R,x,hσ,h1,h2⟩:=Fo el hρ
 refine ⟨by rw [aaJ,Ev.set_len]; exact el,Z,hg,z,?_⟩
 refine (Slots.sub (L:=(some v,some l)::((x,ρ.vs[i])::(cel Z.g ρ.mu++(R++pd.map fun e=>(some e.1,some e.2))))) (s.perm ((h1 Z.g pd).symm.cons _)) ?_).perm (h2 Z.g pd (some v) (some l))
 exact (aap _ _).cons_cons _
theorem SR.take {i:Nat} (h:SR K H0 Z0 σ H ρ pd) (e:ρ.vs[i]?=some (some l)):∃ v,σ[i]?=some (some v)/\SR K H0 Z0 σ H (ρ.set i none) ((v,l)::pd):=by
 obtain ⟨el,Z,hg,z,s⟩:=h
 obtain ⟨R,x,hσ,h1,h2⟩:=Fo el e
 have s1:=s.perm (h1 Z.g pd).symm
 obtain ⟨v,hv⟩:∃ v,x=some v:=by
  have q:=s1.1 _ aab
  cases l with
  | sh p=>obtain ⟨x,e1,_⟩:=q; exact ⟨x,e1⟩
  | own p=>obtain ⟨a,e1,_⟩:=q; exact ⟨_,e1⟩
 subst hv
 refine ⟨v,hσ,.mk (Z:=Z) (by rw [Ev.set_len]; exact el) hg z ?_⟩
 have p2:=h2 Z.g pd (some v) none
 rw [ach hσ] at p2
 refine Slots.perm ?_ (p2.cons _)
 have ht:Slots K H0 Z H ((some v,none)::(some v,some l)::(cel Z.g ρ.mu++(R++pd.map fun e=>(some e.1,some e.2)))):=by
  refine ⟨fun e he=>?_,?_⟩
  . rcases aao.mp he with rfl | he
    . trivial
    . exact s1.1 e he
  . have:kE (some v,none)=none:=by cases v<;>rfl
    rw [aaU this]
    exact s1.2
 exact ht.perm (List.Perm.swap _ _ _)
theorem SR.put {i:Nat} (h:SR K H0 Z0 σ H ρ ((v,l)::pd)) (e:σ[i]?=some (some v)):SR K H0 Z0 σ H (ρ.set i (some l)) pd:=by
 have hi:i<ρ.vs.length:=by rw [← h.1]; exact (aan.mp e).1
 have:=h.store hi
 rw [ach e] at this
 exact this
end
abbrev EF:=Ev->Option (Lc×Ev)
abbrev TF:=Ev->Option (Bool×Ev)
abbrev AF:=Ev->Option (List Lc×Ev)
inductive Fl where
 | nx (ρ:Ev)
 | rt (r:Lc) (ρ:Ev)
 | bk (ρ:Ev)
 | ct (ρ:Ev)
abbrev SF:=Ev->Option Fl
def tP (K:FG) (f:EF):TE:=fun σ H Q=>∃ H0 Z0 ρ pd r ρ',SR K H0 Z0 σ H ρ pd/\f ρ=some (r,ρ')/\∀ v H',SR K H0 Z0 σ H' ρ' ((v,r)::pd)->Q v H'
def gO (K:FG) (f:TF):TT:=fun σ H Q=>∃ H0 Z0 ρ pd b ρ',SR K H0 Z0 σ H ρ pd/\f ρ=some (b,ρ')/\∀ H',SR K H0 Z0 σ H' ρ' pd->Q b H'
def iz (K:FG) (f:AF):TA:=fun σ H Q=>∃ H0 Z0 ρ pd ls ρ',SR K H0 Z0 σ H ρ pd/\f ρ=some (ls,ρ')/\∀ vs H',vs.length=ls.length->SR K H0 Z0 σ H' ρ' (vs.zip ls++pd)->Q vs H'
def Fp (K:FG) (H0:Hp) (Z0:ZG) (pd:Pd) (D:Ends):Fl->Prop
 | .nx ρ'=>∀ σ' H',SR K H0 Z0 σ' H' ρ' pd->D.nx σ' H'
 | .rt r ρ'=>∀ v σ' H',SR K H0 Z0 σ' H' ρ' ((v,r)::pd)->D.rt v H'
 | .bk ρ'=>∀ σ' H',SR K H0 Z0 σ' H' ρ' pd->D.bk σ' H'
 | .ct ρ'=>∀ σ' H',SR K H0 Z0 σ' H' ρ' pd->D.ct σ' H'
def fO (K:FG) (g:SF):TS:=fun D σ H=>∃ H0 Z0 ρ pd fl,SR K H0 Z0 σ H ρ pd/\g ρ=some fl/\Fp K H0 Z0 pd D fl
section
variable {X:Cx} {e:Expr} {es:List Expr} {st:Stmt} {sts:List Stmt}
theorem PE.imp {t t':TE} (h:PE X e t) (i:∀ σ H Q,t' σ H Q->t σ H Q):PE X e t':=fun pins s σ H Q I q=>h pins s σ H Q I (i σ H Q q)
theorem PT.imp {t t':TT} (h:PT X e t) (i:∀ σ H Q,t' σ H Q->t σ H Q):PT X e t':=fun pins s σ H Q I q=>h pins s σ H Q I (i σ H Q q)
theorem PW.imp {t t':TT} (h:PW X e t) (i:∀ σ H Q,t' σ H Q->t σ H Q):PW X e t':=fun wh pins s σ H Q I q=>h wh pins s σ H Q I (i σ H Q q)
theorem PA.imp {t t':TA} (h:PA X es t) (i:∀ σ H Q,t' σ H Q->t σ H Q):PA X es t':=fun pos pins s σ H Q I q=>h pos pins s σ H Q I (i σ H Q q)
theorem PS.imp {t t':TS} (h:PS X st t) (i:∀ D σ H,t' D σ H->t D σ H):PS X st t':=fun pins s σ H D I q=>h pins s σ H D I (i D σ H q)
theorem iu.imp {t t':TS} (h:iu X sts t) (i:∀ D σ H,t' D σ H->t D σ H):iu X sts t':=fun pins s σ H D I q=>h pins s σ H D I (i D σ H q)
def aj (i:Nat):EF:=fun ρ=>match ρ.vs[i]? with
 | some (some l)=>some (.sh l.pv,ρ.set i (some (.sh l.pv)))
 | _=>none
def eC (p:PV):EF:=fun ρ=>some (.sh p,ρ)
theorem qv {i:Nat} (h:PE X e (qT i)):PE X e (tP X.K (aj i)):=PE.imp h fun σ H Q q=>by
 obtain ⟨H0,Z0,ρ,pd,r,ρ',s,f,k⟩:=q
 unfold aj at f
 split at f
 . rename_i l e1
   cases f
   obtain ⟨v,h1,h2⟩:=s.var e1
   exact ⟨v,h1,k v H h2⟩
 . cases f
theorem qc {p:PV} {v:V} (h:PE X e (tC v)) (r:∀ Z,Rep X.K Z p v):PE X e (tP X.K (eC p)):=PE.imp h fun σ H Q q=>by
 obtain ⟨H0,Z0,ρ,pd,l,ρ',s,f,k⟩:=q
 cases f
 exact k v H (s.scal r)
theorem eV {i:Int}:∀ Z,Rep K Z (.int i) (.int i):=fun Z=>by unfold Rep; rfl
theorem xm {i:Str}:∀ Z,Rep K Z (.str i) (.str i):=fun Z=>by unfold Rep; rfl
theorem dM {i:Bool}:∀ Z,Rep K Z (.bl i) (.bl i):=fun Z=>by unfold Rep; rfl
theorem uh:∀ Z,Rep K Z .non .non:=fun Z=>by unfold Rep; rfl
def iU (K:FG) (r:R2) (g:PV->PV->Option Lc):Prop:=∀ H0 Z0 σ ρ pd H v w x y l Q,SR K H0 Z0 σ H ρ ((w,.sh y)::(v,.sh x)::pd)->g x y=some l->(∀ u H',SR K H0 Z0 σ H' ρ ((u,l)::pd)->Q u H')->r v w H Q
def aA (g:PV->PV->Option Lc) (fa fb:EF):EF:=fun ρ=>(fa ρ).bind fun x=>(fb x.2).bind fun y=>(g x.1.pv y.1.pv).map fun l=>(l,y.2)
theorem Qd {g:PV->PV->Option Lc} {fa fb:EF} {ρ ρ':Ev} {l:Lc} (h:aA g fa fb ρ=some (l,ρ')):∃ x ρ1 y,fa ρ=some (x,ρ1)/\fb ρ1=some (y,ρ')/\g x.pv y.pv=some l:=by
 unfold aA at h
 cases h1:fa ρ with
 | none=>rw [h1] at h; cases h
 | some x=>
  rw [h1,aaa] at h
  cases h2:fb x.2 with
  | none=>rw [h2] at h; cases h
  | some y=>
   rw [h2,aaa] at h
   cases h3:g x.1.pv y.1.pv with
   | none=>rw [h3] at h; cases h
   | some z=>
    rw [h3] at h
    cases h
    exact ⟨x.1,x.2,y.1,rfl,h2,h3⟩
theorem Fq {r:R2} {g:PV->PV->Option Lc} (hs:iU X.K r g) {fa fb:EF}:∀ σ H Q,tP X.K (aA g fa fb) σ H Q->HQ r (tP X.K fa) (tP X.K fb) σ H Q:=fun σ H Q q=>by
 obtain ⟨H0,Z0,ρ,pd,l,ρ',s,f,k⟩:=q
 obtain ⟨x,ρ1,y,h1,h2,h3⟩:=Qd f
 refine ⟨H0,Z0,ρ,pd,x,ρ1,s,h1,fun v H1 s1=>⟨H0,Z0,ρ1,_,y,ρ',s1,h2,fun w H2 s2=>?_⟩⟩
 exact hs H0 Z0 σ ρ' pd H2 v w x.pv y.pv l Q (s2.freeze.swap.freeze.swap) h3 fun u H' s3=>k u H' s3
theorem cu {op:Operator} {a b:Expr} {pos:Pos} {r:R2} {g:PV->PV->Option Lc} {fa fb:EF} (ho:eN X (binaryOp op) r) (hs:iU X.K r g) (ha:PE X a (tP X.K fa)) (hb:PE X b (tP X.K fb)):PE X (.BinOp a op b pos) (tP X.K (aA g fa fb)):=
 PE.imp (Ym ho ha hb) (Fq hs)
theorem uQ {op:CmpOp} {a b:Expr} {pos:Pos} {r:R2} {g:PV->PV->Option Lc} {fa fb:EF} (ho:eN X (compareOp op) r) (hs:iU X.K r g) (ha:PE X a (tP X.K fa)) (hb:PE X b (tP X.K fb)) (hm:behindInMarks op b=false):PE X (.Compare a [op] [b] pos) (tP X.K (aA g fa fb)):=
 PE.imp (S9 ho ha hb hm) (Fq hs)
def sO (C:Int->Int->Bool) (g:Int->Int->PV):PV->PV->Option Lc
 | .int i,.int j=>if C i j=true then some (.sh (g i j)) else none
 | _,_=>none
theorem Ft {C:Int->Int->Bool} {g:Int->Int->PV} {x y:PV} {l:Lc} (h:sO C g x y=some l):∃ i j,x=.int i/\y=.int j/\C i j=true/\l=.sh (g i j):=by
 cases x with
 | int i=>
  cases y with
  | int j=>
   have h':(if C i j=true then some (Lc.sh (g i j)) else none)=some l:=h
   split at h'
   . rename_i c; cases h'; exact ⟨i,j,rfl,rfl,c,rfl⟩
   . cases h'
  | _=>cases h
 | _=>cases h
theorem bH {Z:ZG} {i:Int} {v:V} (h:Rep K Z (.int i) v):v=.int i:=by unfold Rep at h; exact h
theorem dw {Z:ZG} {i:Str} {v:V} (h:Rep K Z (.str i) v):v=.str i:=by unfold Rep at h; exact h
theorem dC {Z:ZG} {i:Bool} {v:V} (h:Rep K Z (.bl i) v):v=.bl i:=by unfold Rep at h; exact h
theorem gk {Z:ZG} {v:V} (h:Rep K Z .non v):v=.non:=by unfold Rep at h; exact h
theorem zN {C':Int->Int->Prop} {C:Int->Int->Bool} {gV:Int->Int->V} {g:Int->Int->PV} (hc:∀ i j,C i j=true->C' i j) (hg:∀ i j Z,Rep K Z (g i j) (gV i j)):iU K (rI C' gV) (sO C g):=by
 intro H0 Z0 σ ρ pd H v w x y l Q s e k
 obtain ⟨i,j,rfl,rfl,c,rfl⟩:=Ft e
 obtain ⟨_,rw'⟩:=s.repH
 obtain ⟨_,rv'⟩:=s.pop.repH
 have hw:=bH rw'
 have hv:=bH rv'
 exact ⟨i,j,hv,hw,hc i j c,k _ H (s.pop.pop.scal (hg i j))⟩
theorem v9 {gV:Int->Int->V} {g:Int->Int->PV} (hg:∀ i j Z,Rep K Z (g i j) (gV i j)):iU K (qW gV) (sO (fun _ _=>true) g):=by
 intro H0 Z0 σ ρ pd H v w x y l Q s e k
 obtain ⟨i,j,rfl,rfl,c,rfl⟩:=Ft e
 obtain ⟨_,rw'⟩:=s.repH
 obtain ⟨_,rv'⟩:=s.pop.repH
 exact ⟨i,j,bH rv',bH rw',k _ H (s.pop.pop.scal (hg i j))⟩
end
section
variable {X:Cx}
section
variable {K:FG} {H0 H H':Hp} {Z0 Z:ZG} {σ:L2.St} {ρ:Ev} {pd pd':Pd} {v w:V} {l:Lc} {p:PV} {g:List Addr}
theorem SR.newO (h:SR K H0 Z0 σ H ρ pd) {a:Addr} {o:HO} (ha:H a=none) (hp:∀ Z,jO H0 Z0 Z H->Slots K H0 Z H (sl Z.g σ ρ pd)->qX K Z (upd H a o) a p):SR K H0 Z0 σ (upd H a o) ρ ((.ref a,.own p)::pd):=by
 obtain ⟨e,Z,hg,z,s⟩:=h
 obtain ⟨z',s'⟩:=s.new z ha (hp Z z s)
 exact .mk e hg z' s'
theorem Ei {α:Type} (A B C:List α):List.Perm (A++(B++C)) (B++(A++C)):=by
 rw [← aah A B C,← aah B A C]
 exact List.perm_append_comm.append_right _
theorem Fv {pe:Pd}:List.Perm (sl g σ ρ (pe++pd)) (pe.map (fun e=>((some e.1:Option V),(some e.2:Option Lc)))++sl g σ ρ pd):=by
 unfold sl
 rw [aaz]
 exact ((Ei _ _ _).append_left _).trans (Ei _ _ _)
theorem SR.freezeAll:∀ {vs:List V} {ls:List Lc} {pd:Pd},SR K H0 Z0 σ H ρ (vs.zip ls++pd)->SR K H0 Z0 σ H ρ (vs.zip (ls.map fun l=>.sh l.pv)++pd)
 | [],ls,pd,h=>by simpa using h
 | v::vs,[],pd,h=>by simpa using h
 | v::vs,l::ls,pd,h=>by
  have h1:SR K H0 Z0 σ H ρ ((v,l)::(vs.zip ls++pd)):=h
  have h2:=h1.freeze.perm (pd':=vs.zip ls++((v,.sh l.pv)::pd)) aaW
  have h3:=SR.freezeAll h2
  exact h3.perm (pd':=(v,.sh l.pv)::(vs.zip (ls.map fun l=>.sh l.pv)++pd)) aaW.symm
theorem Slots.repl {L:Sl}:∀ {vs:List V} {ps:List PV},vs.length=ps.length->Slots K H0 Z H ((vs.zip (ps.map fun p=>Lc.sh p)).map (fun e=>(some e.1,some e.2))++L)->aJ K Z ps vs
 | [],[],_,_=>.nil
 | v::vs,p::ps,e,h=>by
  have h1:Slots K H0 Z H ((some v,some (.sh p))::((vs.zip (ps.map fun p=>Lc.sh p)).map (fun e=>(some e.1,some e.2))++L)):=h
  obtain ⟨x,e1,e2⟩:=h1.1 _ aab
  cases e1
  exact aJ.cons e2 (Slots.repl (by simpa using e) (h1.sub (aap _ _)))
 | [],p::ps,e,_=>by simp at e
 | v::vs,[],e,_=>by simp at e
theorem SR.repl {vs:List V} {ls:List Lc} (h:SR K H0 Z0 σ H ρ (vs.zip ls++pd)) (e:vs.length=ls.length):σ.length=ρ.vs.length/\∃ Z,ρ.mu.length=Z.g.length/\jO H0 Z0 Z H/\aJ K Z (ls.map Lc.pv) vs/\Slots K H0 Z H (sl Z.g σ ρ pd):=by
 obtain ⟨el,Z,hg,z,s⟩:=h.freezeAll
 have hm:(ls.map fun l=>Lc.sh l.pv)=(ls.map Lc.pv).map fun p=>Lc.sh p:=by rw [aaY]; rfl
 rw [hm] at s
 have pm:List.Perm (sl Z.g σ ρ (vs.zip ((ls.map Lc.pv).map fun p=>Lc.sh p)++pd)) ((vs.zip ((ls.map Lc.pv).map fun p=>Lc.sh p)).map (fun e=>(some e.1,some e.2))++sl Z.g σ ρ pd):=Fv
 have s':=s.perm pm.symm
 exact ⟨el,Z,hg,z,Slots.repl (by simpa using e) s',s'.sub (abm _ _)⟩
end
theorem yp {α:Type} {l:List α} (h:l.length=1):∃ a,l=[a]:=List.length_eq_one_iff.mp h
theorem ln2 {α:Type} {l:List α} (h:l.length=2):∃ a b,l=[a,b]:=by
 cases l with
 | nil=>cases h
 | cons a l=>obtain ⟨b,rfl⟩:=yp (ab2 h); exact ⟨a,b,rfl⟩
theorem Y4 {α:Type} {l:List α} (h:l.length=3):∃ a b c,l=[a,b,c]:=by
 cases l with
 | nil=>cases h
 | cons a l=>obtain ⟨b,c,rfl⟩:=ln2 (ab2 h); exact ⟨a,b,c,rfl⟩
theorem Y5 {α:Type} {l:List α} (h:l.length=4):∃ a b c d,l=[a,b,c,d]:=by
 cases l with
 | nil=>cases h
 | cons a l=>obtain ⟨b,c,d,rfl⟩:=Y4 (ab2 h); exact ⟨a,b,c,d,rfl⟩
theorem ln5 {α:Type} {l:List α} (h:l.length=5):∃ a b c d e,l=[a,b,c,d,e]:=by
 cases l with
 | nil=>cases h
 | cons a l=>obtain ⟨b,c,d,e,rfl⟩:=Y5 (ab2 h); exact ⟨a,b,c,d,e,rfl⟩
def ao:AF:=fun ρ=>some ([],ρ)
def aa (f:EF) (g:AF):AF:=fun ρ=>(f ρ).bind fun x=>(g x.2).map fun y=>(x.1::y.1,y.2)
theorem aq:PA X [] (iz X.K ao):=PA.imp gK fun σ H Q q=>by
 obtain ⟨H0,Z0,ρ,pd,l,ρ',s,f,k⟩:=q
 cases f
 exact k [] H rfl s
theorem ak {e:Expr} {es:List Expr} {f:EF} {g:AF} (ha:PE X e (tP X.K f)) (hr:PA X es (iz X.K g)) (hs:starEach (e::es) X.env=(false,eval e X.env)::starEach es X.env:=by rfl):PA X (e::es) (iz X.K (aa f g)):=PA.imp (bY ha hr hs) fun σ H Q q=>by
 obtain ⟨H0,Z0,ρ,pd,l,ρ',s,h,k⟩:=q
 unfold aa at h
 cases h1:f ρ with
 | none=>rw [h1] at h; cases h
 | some x=>
  rw [h1,aaa] at h
  cases h2:g x.2 with
  | none=>rw [h2] at h; cases h
  | some y=>
   rw [h2] at h
   cases h
   refine ⟨H0,Z0,ρ,pd,x.1,x.2,s,h1,fun v H1 s1=>⟨H0,Z0,x.2,_,y.1,y.2,s1,h2,fun vs H2 e2 s2=>?_⟩⟩
   refine k (v::vs) H2 (by simp [e2]) (s2.perm (pd':=(v,x.1)::(vs.zip y.1++pd)) aaW.symm)
def aV (g:AF):EF:=fun ρ=>(g ρ).bind fun y=>if y.1.length<=1000 then some (.own (.lst (y.1.map Lc.pv)),y.2) else none
def aQ (g:AF):EF:=fun ρ=>(g ρ).bind fun y=>if y.1.length<=1000 then some (.sh (.tup (y.1.map Lc.pv)),y.2) else none
theorem small {n:Nat} (h:n<=100000):n<=sizeLine:=by rw [sizeLine_eq]; omega
theorem dh {es:List Expr} {g:AF} {pos:Pos} (h:PA X es (iz X.K g)):PE X (.List es pos) (tP X.K (aV g)):=PE.imp (V6 h) fun σ H Q q=>by
 obtain ⟨H0,Z0,ρ,pd,l,ρ',s,f,k⟩:=q
 unfold aV at f
 cases h2:g ρ with
 | none=>rw [h2] at f; cases f
 | some y=>
  rw [h2,aaa] at f
  split at f
  . rename_i hl
    cases f
    refine ⟨H0,Z0,ρ,pd,y.1,y.2,s,h2,fun vs H2 e2 s2=>⟨small (by omega),fun p hp=>k _ _ ?_⟩⟩
    obtain ⟨el,Z,hg,z,r,sl'⟩:=s2.repl e2
    obtain ⟨z',s'⟩:=sl'.new (o:=.lst vs) (p:=.lst (y.1.map Lc.pv)) z hp ⟨vs,bM,r⟩
    exact .mk el hg z' s'
  . cases f
theorem cM {es:List Expr} {g:AF} {x1} {pos:Pos} (h:PA X es (iz X.K g)):PE X (.Tuple es x1 pos) (tP X.K (aQ g)):=PE.imp (Li h) fun σ H Q q=>by
 obtain ⟨H0,Z0,ρ,pd,l,ρ',s,f,k⟩:=q
 unfold aQ at f
 cases h2:g ρ with
 | none=>rw [h2] at f; cases f
 | some y=>
  rw [h2,aaa] at f
  split at f
  . rename_i hl
    cases f
    refine ⟨H0,Z0,ρ,pd,y.1,y.2,s,h2,fun vs H2 e2 s2=>⟨small (by omega),fun p hp=>k _ _ ?_⟩⟩
    obtain ⟨el,Z,hg,z,r,sl'⟩:=s2.repl e2
    obtain ⟨z',sz,s'⟩:=sl'.newF (o:=.tup vs) z hp
    refine .mk (Z:=Z.put p (.tup vs)) el hg z' (s'.consS ?_)
    unfold Rep
    exact ⟨p,vs,rfl,cI.of bM,r.mono sz⟩
  . cases f
def tT (f:EF) (tr:PV->Option Bool):TF:=fun ρ=>(f ρ).bind fun x=>(tr x.1.pv).map fun b=>(b,x.2)
def gn:PV->Option Bool
 | .non=>some false
 | .bl b=>some b
 | .int i=>some (i != 0)
 | .str x=>if x.length<=100000 then some ((x.length:Int) != 0) else none
 | .tup ps=>some (!ps.isEmpty)
 | .lst ps=>some (!ps.isEmpty)
 | .dk ks ps=>some (!ps.isEmpty)
 | _=>none
theorem ZM {H:Hp} {g:List Addr} {p:PV} {v:V} {b:Bool} (r:Rep K ⟨H,g⟩ p v) (h:gn p=some b):O2 K v H b:=by
 cases p with
 | non=>have:=gk r; subst this; cases h; exact rfl
 | bl c=>have:=dC r; subst this; cases h; exact rfl
 | int i=>have:=bH r; subst this; cases h; exact rfl
 | str x=>
  have:=dw r; subst this
  have h:(if x.length<=100000 then some ((x.length:Int) != 0) else none)=some b:=h
  split at h
  . rename_i hl; cases h; exact ⟨small hl,rfl⟩
  . cases h
 | tup ps=>
  unfold Rep at r
  obtain ⟨a,vs,rfl,h1,h2⟩:=r
  cases h
  refine .inr (.inl ⟨vs,h1,?_⟩)
  have:=h2.length
  cases ps<;>cases vs<;>simp at this<;>rfl
 | lst ps=>
  unfold Rep at r
  obtain ⟨a,vs,rfl,h1,h2⟩:=r
  cases h
  refine .inl ⟨vs,h1,?_⟩
  have:=h2.length
  cases ps<;>cases vs<;>simp at this<;>rfl
 | dk ks ps=>
  unfold Rep at r
  obtain ⟨a,kvs,rfl,h1,h3,h2⟩:=r
  cases h
  refine .inr (.inr ⟨kvs,h1,?_⟩)
  have:=h2.length
  cases ps<;>cases kvs<;>simp at this<;>rfl
 | _=>cases h
theorem Ie {f:EF} {tr:PV->Option Bool} {ρ ρ':Ev} {b:Bool} (h:tT f tr ρ=some (b,ρ')):∃ x,f ρ=some (x,ρ')/\tr x.pv=some b:=by
 unfold tT at h
 cases h1:f ρ with
 | none=>rw [h1] at h; cases h
 | some x=>
  rw [h1,aaa] at h
  cases h2:tr x.1.pv with
  | none=>rw [h2] at h; cases h
  | some y=>rw [h2] at h; cases h; exact ⟨x.1,rfl,h2⟩
theorem kI {a:Expr} {f:EF} (ha:PE X a (tP X.K f)) (he:∀ whole,isTrue a X.env whole=(do let v ← whole; standAt a.pos; holding [v] (truthy v))):PT X a (gO X.K (tT f gn)):=PT.imp (Ey ha he) fun σ H Q q=>by
 obtain ⟨H0,Z0,ρ,pd,b,ρ',s,f',k⟩:=q
 obtain ⟨x,h1,h2⟩:=Ie f'
 refine ⟨H0,Z0,ρ,pd,x,ρ',s,h1,fun v H1 s1=>⟨b,ZM s1.freeze.repH.choose_spec h2,k H1 s1.pop⟩⟩
def bB:PV->Option Bool
 | .bl b=>some b
 | _=>none
theorem J5 {a:Expr} {f:EF} (ha:PT X a (JM (tP X.K f))):PT X a (gO X.K (tT f bB)):=PT.imp ha fun σ H Q q=>by
 obtain ⟨H0,Z0,ρ,pd,b,ρ',s,f',k⟩:=q
 obtain ⟨x,h1,h2⟩:=Ie f'
 refine ⟨H0,Z0,ρ,pd,x,ρ',s,h1,fun v H1 s1=>⟨b,?_,k H1 s1.pop⟩⟩
 obtain ⟨_,r⟩:=s1.freeze.repH
 cases e:x.pv with
 | bl c=>rw [e] at h2 r; cases h2; exact dC r
 | _=>rw [e] at h2; cases h2
theorem bU {op:CmpOp} {a b:Expr} {pos:Pos} {r:R2} {g:PV->PV->Option Lc} {fa fb:EF} (ho:eN X (compareOp op) r) (hs:iU X.K r g) (ha:PE X a (tP X.K fa)) (hb:PE X b (tP X.K fb)) (hm:behindInMarks op b=false):PT X (.Compare a [op] [b] pos) (gO X.K (tT (aA g fa fb) bB)):=
 J5 (PT.imp (HR ho ha hb hm) fun σ H Q q=>Fq hs σ H _ q)
def mj (f g:TF):TF:=fun ρ=>(f ρ).bind fun x=>if x.1=true then g x.2 else some (false,x.2)
def m6 (f g:TF):TF:=fun ρ=>(f ρ).bind fun x=>if x.1=true then some (true,x.2) else g x.2
def jh (f:TF):TF:=fun ρ=>(f ρ).map fun x=>(!x.1,x.2)
theorem T6 {f g:TF}:∀ σ H Q,gO X.K (mj f g) σ H Q->Vt (gO X.K f) (gO X.K g) σ H Q:=fun σ H Q q=>by
 obtain ⟨H0,Z0,ρ,pd,b,ρ',s,h,k⟩:=q
 unfold mj at h
 cases h1:f ρ with
 | none=>rw [h1] at h; cases h
 | some x=>
  rw [h1,aaa] at h
  refine ⟨H0,Z0,ρ,pd,x.1,x.2,s,h1,fun H1 s1=>?_⟩
  dsimp only
  split
  . rename_i c; rw [ab7 c] at h; exact ⟨H0,Z0,x.2,pd,b,ρ',s1,h,k⟩
  . rename_i c; rw [ab8 c] at h; cases h; exact k H1 s1
theorem Wu {f g:TF}:∀ σ H Q,gO X.K (m6 f g) σ H Q->YZ (gO X.K f) (gO X.K g) σ H Q:=fun σ H Q q=>by
 obtain ⟨H0,Z0,ρ,pd,b,ρ',s,h,k⟩:=q
 unfold m6 at h
 cases h1:f ρ with
 | none=>rw [h1] at h; cases h
 | some x=>
  rw [h1,aaa] at h
  refine ⟨H0,Z0,ρ,pd,x.1,x.2,s,h1,fun H1 s1=>?_⟩
  dsimp only
  split
  . rename_i c; rw [ab7 c] at h; cases h; exact k H1 s1
  . rename_i c; rw [ab8 c] at h; exact ⟨H0,Z0,x.2,pd,b,ρ',s1,h,k⟩
theorem Bk {a:Expr} {f:TF} {pos:Pos} (ha:PT X a (gO X.K f)):PW X (.BoolOp .And [a] pos) (gO X.K f):=SX ha
theorem Fw {a:Expr} {f:TF} {pos:Pos} (ha:PT X a (gO X.K f)):PW X (.BoolOp .Or [a] pos) (gO X.K f):=Vu ha
theorem Fx {a b:Expr} {rest:List Expr} {f g:TF} {pos:Pos} (ha:PT X a (gO X.K f)) (hb:PW X (.BoolOp .And (b::rest) pos) (gO X.K g)):PW X (.BoolOp .And (a::b::rest) pos) (gO X.K (mj f g)):=PW.imp (Vv ha hb) T6
theorem J6 {a b:Expr} {rest:List Expr} {f g:TF} {pos:Pos} (ha:PT X a (gO X.K f)) (hb:PW X (.BoolOp .Or (b::rest) pos) (gO X.K g)):PW X (.BoolOp .Or (a::b::rest) pos) (gO X.K (m6 f g)):=PW.imp (Yd ha hb) Wu
theorem wg {a:Expr} {f:TF} {pos:Pos} (ha:PT X a (gO X.K f)):PT X (.UnaryOp .Not a pos) (gO X.K (jh f)):=PT.imp (Vw ha) fun σ H Q q=>by
 obtain ⟨H0,Z0,ρ,pd,b,ρ',s,h,k⟩:=q
 unfold jh at h
 cases h1:f ρ with
 | none=>rw [h1] at h; cases h
 | some x=>
  rw [h1] at h
  cases h
  exact ⟨H0,Z0,ρ,pd,x.1,x.2,s,h1,fun H1 s1=>k H1 s1⟩
def jq (f g:EF):EF:=fun ρ=>(f ρ).bind fun x=>match x.1.pv with
 | .bl true=>g x.2
 | .bl false=>some (.sh (.bl false),x.2)
 | _=>none
def wj (f:EF):EF:=fun ρ=>(f ρ).bind fun x=>match x.1.pv with
 | .bl b=>some (.sh (.bl (!b)),x.2)
 | _=>none
theorem Bl {op} {a:Expr} {f:EF} {pos:Pos} (h:PE X a (tP X.K f)):PE X (.BoolOp op [a] pos) (tP X.K f):=Vx h
theorem uR {a b:Expr} {rest:List Expr} {f g:EF} {pos:Pos} (ha:PE X a (tP X.K f)) (hb:PE X (.BoolOp .And (b::rest) pos) (tP X.K g)):PE X (.BoolOp .And (a::b::rest) pos) (tP X.K (jq f g)):=PE.imp (Vy ha hb) fun σ H Q q=>by
 obtain ⟨H0,Z0,ρ,pd,b,ρ',s,h,k⟩:=q
 unfold jq at h
 cases h1:f ρ with
 | none=>rw [h1] at h; cases h
 | some x=>
  rw [h1,aaa] at h
  refine ⟨H0,Z0,ρ,pd,x.1,x.2,s,h1,fun v H1 s1=>?_⟩
  obtain ⟨_,r⟩:=s1.freeze.repH
  split at h
  . rename_i e
    rw [e] at r
    refine ⟨true,dC r,?_⟩
    rw [ab7 rfl]
    exact ⟨H0,Z0,x.2,pd,b,ρ',s1.pop,h,k⟩
  . rename_i e
    rw [e] at r
    refine ⟨false,dC r,?_⟩
    rw [ab8 aaA]
    cases h
    exact k _ H1 (s1.pop.scal dM)
  . cases h
theorem Wv {a:Expr} {f:EF} {pos:Pos} (ha:PE X a (tP X.K f)):PE X (.UnaryOp .Not a pos) (tP X.K (wj f)):=PE.imp (Vz ha) fun σ H Q q=>by
 obtain ⟨H0,Z0,ρ,pd,b,ρ',s,h,k⟩:=q
 unfold wj at h
 cases h1:f ρ with
 | none=>rw [h1] at h; cases h
 | some x=>
  rw [h1,aaa] at h
  refine ⟨H0,Z0,ρ,pd,x.1,x.2,s,h1,fun v H1 s1=>?_⟩
  obtain ⟨_,r⟩:=s1.freeze.repH
  split at h
  . rename_i c e
    rw [e] at r
    cases h
    exact ⟨c,dC r,k _ H1 (s1.pop.scal dM)⟩
  . cases h
def qg (c:TF) (f g:EF):EF:=fun ρ=>(c ρ).bind fun x=>if x.1=true then f x.2 else g x.2
theorem Ig {c a b:Expr} {fc:TF} {f g:EF} {pos:Pos} (hc:PT X c (gO X.K fc)) (ha:PE X a (tP X.K f)) (hb:PE X b (tP X.K g)):PE X (.IfExp c a b pos) (tP X.K (qg fc f g)):=PE.imp (Ot hc ha hb) fun σ H Q q=>by
 obtain ⟨H0,Z0,ρ,pd,b,ρ',s,h,k⟩:=q
 unfold qg at h
 cases h1:fc ρ with
 | none=>rw [h1] at h; cases h
 | some x=>
  rw [h1,aaa] at h
  refine ⟨H0,Z0,ρ,pd,x.1,x.2,s,h1,fun H1 s1=>?_⟩
  dsimp only
  split
  . rename_i c; rw [ab7 c] at h; exact ⟨H0,Z0,x.2,pd,b,ρ',s1,h,k⟩
  . rename_i c; rw [ab8 c] at h; exact ⟨H0,Z0,x.2,pd,b,ρ',s1,h,k⟩
def bN:SF:=fun ρ=>some (.nx ρ)
def aF (f g:SF):SF:=fun ρ=>(f ρ).bind fun x=>match x with
 | .nx ρ'=>g ρ'
 | y=>some y
theorem bD:iu X [] (fO X.K bN):=iu.imp S5 fun D σ H q=>by
 obtain ⟨H0,Z0,ρ,pd,fl,s,h,k⟩:=q
 cases h
 exact k σ H s
theorem az {st:Stmt} {rest:List Stmt} {f g:SF} (h1:PS X st (fO X.K f)) (h2:iu X rest (fO X.K g)):iu X (st::rest) (fO X.K (aF f g)):=iu.imp (Ou h1 h2) fun D σ H q=>by
 obtain ⟨H0,Z0,ρ,pd,fl,s,h,k⟩:=q
 unfold aF at h
 cases e:f ρ with
 | none=>rw [e] at h; cases h
 | some x=>
  rw [e,aaa] at h
  refine ⟨H0,Z0,ρ,pd,x,s,e,?_⟩
  cases x with
  | nx ρ'=>exact fun σ' H' s'=>⟨H0,Z0,ρ',pd,fl,s',h,k⟩
  | rt r ρ'=>cases h; exact k
  | bk ρ'=>cases h; exact k
  | ct ρ'=>cases h; exact k
theorem aD {st:Stmt} {f:SF} (h1:PS X st (fO X.K f)):iu X [st] (fO X.K f):=S6 h1
def cW (f:EF):SF:=fun ρ=>(f ρ).map fun x=>.nx x.2
theorem acg {α β:Type} {o:Option α} {f:α->β} {b:β} (h:o.map f=some b):∃ a,o=some a/\f a=b:=by
 cases o with
 | none=>cases h
 | some a=>exact ⟨a,rfl,aaB h⟩
theorem acf {α β:Type} {o:Option α} {f:α->Option β} {b:β} (h:o.bind f=some b):∃ a,o=some a/\f a=some b:=by
 cases o with
 | none=>cases h
 | some a=>exact ⟨a,rfl,h⟩
theorem fH {e:Expr} {pos:Pos} {f:EF} (he:PE X e (tP X.K f)) (hs:swapsWith e none pos.line X.env=pure false:=by rfl):PS X (.Expr e pos) (fO X.K (cW f)):=PS.imp (ie he hs) fun D σ H q=>by
 obtain ⟨H0,Z0,ρ,pd,fl,s,h,k⟩:=q
 obtain ⟨x,h1,rfl⟩:=acg h
 exact ⟨H0,Z0,ρ,pd,x.1,x.2,s,h1,fun v H' s'=>k σ H' s'.pop⟩
def bO (f:EF):SF:=fun ρ=>(f ρ).map fun x=>.rt x.1 x.2
theorem bw {e:Expr} {pos:Pos} {f:EF} (he:PE X e (tP X.K f)):PS X (.Return (some e) pos) (fO X.K (bO f)):=PS.imp (K8 he) fun D σ H q=>by
 obtain ⟨H0,Z0,ρ,pd,fl,s,h,k⟩:=q
 obtain ⟨x,h1,rfl⟩:=acg h
 exact ⟨H0,Z0,ρ,pd,x.1,x.2,s,h1,fun v H' s'=>k v σ H' s'⟩
def qx (i:Nat):SF:=fun ρ=>match ρ.vs[i]? with
 | some (some l)=>some (.rt l (ρ.set i none))
 | _=>none
theorem ou {i:Nat} {e:Expr} {pos:Pos} (he:PE X e (qT i)):PS X (.Return (some e) pos) (fO X.K (qx i)):=PS.imp (K8 he) fun D σ H q=>by
 obtain ⟨H0,Z0,ρ,pd,fl,s,h,k⟩:=q
 unfold qx at h
 split at h
 . rename_i l e1
   cases h
   obtain ⟨v,h1,h2⟩:=s.take e1
   exact ⟨v,h1,k v σ H h2⟩
 . cases h
def xn:SF:=fun ρ=>some (.rt (.sh .non) ρ)
theorem Ih {pos:Pos}:PS X (.Return none pos) (fO X.K xn):=PS.imp S7 fun D σ H q=>by
 obtain ⟨H0,Z0,ρ,pd,fl,s,h,k⟩:=q
 cases h
 exact k .non σ H (s.scal uh)
def cG (c:TF) (f g:SF):SF:=fun ρ=>(c ρ).bind fun x=>if x.1=true then f x.2 else g x.2
theorem bQ {c:Expr} {a b:List Stmt} {fc:TF} {f g:SF} {pos:Pos} (hc:PT X c (gO X.K fc)) (ha:iu X a (fO X.K f)) (hb:iu X b (fO X.K g)):PS X (.If c a b pos) (fO X.K (cG fc f g)):=PS.imp (Yj hc ha hb) fun D σ H q=>by
 obtain ⟨H0,Z0,ρ,pd,fl,s,h,k⟩:=q
 obtain ⟨x,h1,h2⟩:=acf h
 refine ⟨H0,Z0,ρ,pd,x.1,x.2,s,h1,fun H1 s1=>?_⟩
 dsimp only
 split
 . rename_i c; rw [ab7 c] at h2; exact ⟨H0,Z0,x.2,pd,fl,s1,h2,k⟩
 . rename_i c; rw [ab8 c] at h2; exact ⟨H0,Z0,x.2,pd,fl,s1,h2,k⟩
def aO (i:Nat) (f:EF):SF:=fun ρ=>(f ρ).bind fun x=>if i<x.2.vs.length then some (.nx (x.2.set i (some x.1))) else none
theorem T7 {i:Nat} {f:EF} {t:TS} (h:∀ D σ H,(tP X.K f σ H fun v H1=>D.nx (σ.set i (some v)) H1)->t D σ H):∀ D σ H,fO X.K (aO i f) D σ H->t D σ H:=fun D σ H q=>by
 obtain ⟨H0,Z0,ρ,pd,fl,s,h',k⟩:=q
 obtain ⟨x,h1,h2⟩:=acf h'
 split at h2
 . rename_i hl
   cases h2
   exact h D σ H ⟨H0,Z0,ρ,pd,x.1,x.2,s,h1,fun v H1 s1=>k _ _ (s1.store hl)⟩
 . cases h2
theorem Mq {i:Nat} {x:Str} {e:Expr} {pos pos':Pos} {f:EF} (hN:X.N.Nodup) (hi:X.N[i]?=some x) (hx:L2.Loc X.env.scope x) (he:PE X e (tP X.K f)) (hs:swapsWith e (some (.Name x pos')) pos.line X.env=pure false:=by rfl) (hf:X.fn x=true\/X.env.scope.names.lookup x=some .local:=by first | exact .inl rfl | exact .inr rfl | assumption):
 PS X (.Assign [.Name x pos'] e pos) (fO X.K (aO i f)):=PS.imp (VG hN hi hx he hs hf) (T7 fun D σ H q=>q)
abbrev GF:=List PV->Mu->Option (Lc×Mu)
def kJ (H:Hp) (g:List Addr):Hp:=fun b=>if b∈g then none else H b
theorem T8 {H:Hp} {g:List Addr} {b:Addr} {o:HO} (h:kJ H g b=some o):H b=some o/\b∉g:=by
 unfold kJ at h
 split at h
 . cases h
 . rename_i q; exact ⟨h,q⟩
theorem Qe {H:Hp} {g:List Addr} {b:Addr} (h:b∈g):kJ H g b=none:=by unfold kJ; rw [ab7 h]
theorem Fy {H:Hp} {g:List Addr} {b:Addr} (h:b∉g):kJ H g b=H b:=by unfold kJ; rw [ab8 h]
def Ww (K:FG) (H:Hp) (Z:ZG) (g:List Addr) (H':Hp) (mu':Mu) (v:V) (r:Lc):Prop:=∃ Z',mu'.length=Z'.g.length/\jO (kJ H g) Z Z' H'/\Slots K (kJ H g) Z' H' ((some v,some r)::cel Z'.g mu')
def bT (K:FG) (n:Nat) (g:GF):Sp:=fun vs H Q _=>∃ (Z:ZG) (ps:List PV) (mu:Mu) (r:Lc) (mu':Mu),vs.length=n/\mu.length=Z.g.length/\cZ Z.z H/\aJ K Z ps vs/\Slots K (kJ H (qY Z.g mu)) Z H (cel Z.g mu)/\g ps mu=some (r,mu')/\∀ v H',Ww K H Z (qY Z.g mu) H' mu' v r->Q v H'
def aK (g:GF) (a:AF):EF:=fun ρ=>(a ρ).bind fun y=>(g (y.1.map Lc.pv) y.2.mu).map fun r=>(r.1,⟨y.2.vs,r.2⟩)
theorem T9 {g:List Addr} {mu:Mu} {e:Option V×Option Lc} (he:e∈cel g mu):∃ a,e.1=some (.ref a)/\(e.2=none\/∃ p,e.2=some (.own p)):=by
 unfold cel at he
 obtain ⟨v,l⟩:=e
 obtain ⟨h1,h2⟩:=abe he
 obtain ⟨a,_,e1⟩:=aaD.mp h1
 obtain ⟨o,_,e2⟩:=aaD.mp h2
 refine ⟨a,e1.symm,?_⟩
 cases o with
 | none=>exact .inl e2.symm
 | some p=>exact .inr ⟨p,e2.symm⟩
theorem Slots.cells {Z:ZG} (hg:ρ.mu.length=Z.g.length) (s:Slots K H0 Z H (sl Z.g σ ρ pd)):Slots K (kJ H (qY Z.g ρ.mu)) Z H (cel Z.g ρ.mu):=by
 have s1:Slots K H0 Z H (cel Z.g ρ.mu):=s.sub (aaZ _ _)
 refine ⟨fun e he=>?_,s1.2⟩
 obtain ⟨a,h1,h2⟩:=T9 he
 obtain ⟨v,l⟩:=e
 have h1':v=some (.ref a):=h1
 subst h1'
 rcases h2 with h2 | ⟨p,h2⟩
 . have h2':l=none:=h2
   subst h2'; trivial
 . have h2':l=some (.own p):=h2
   subst h2'
   obtain ⟨b,e1,e2,e3,e4⟩:=s1.1 _ he
   cases e1
   exact ⟨a,rfl,e2,e3,Qe (aaX.mpr ⟨_,he,rfl⟩)⟩
theorem SR.called {H0 H H':Hp} {Z0 Z:ZG} {v:V} {r:Lc} {mu':Mu} (el:σ.length=ρ.vs.length) (hg:ρ.mu.length=Z.g.length) (z:jO H0 Z0 Z H) (s:Slots K H0 Z H (sl Z.g σ ρ pd)) (h:Ww K H Z (qY Z.g ρ.mu) H' mu' v r):SR K H0 Z0 σ H' ⟨ρ.vs,mu'⟩ ((v,r)::pd):=by
 obtain ⟨Z',hg',z',q⟩:=h
 have s1:Slots K H0 Z H (cel Z.g ρ.mu):=s.sub (aaZ _ _)
 have s0:Slots K H0 Z H (σ.zip ρ.vs++pd.map fun e=>(some e.1,some e.2)):=s.sub (abm _ _)
 have nd:(qY Z.g ρ.mu++(σ.zip ρ.vs++pd.map fun e=>(some e.1,some e.2)).filterMap kE).Nodup:=by
  have:=s.2
  unfold sl at this
  rw [List.filterMap_append] at this
  exact this
 have hc0:∀ a∈qY Z.g ρ.mu,H0 a=none:=fun a ha=>by
  obtain ⟨e,he,hb⟩:=aaX.mp ha
  exact (iT s1 he hb).2.1
 have h0:cZ H0 (kJ H (qY Z.g ρ.mu)):=fun b o e=>by
  rw [Fy fun hm=>by rw [hc0 b hm] at e; cases e]
  exact z.h0 b o e
 have z2:jO H0 Z0 Z' H':=⟨z'.zh,h0.trans z'.h0,z.z0.trans z'.z0,fun b o e=>by
  rcases z'.new b o e with e | e | e
  . exact z.new b o e
  . exact .inr (.inl (h0.free e))
  . exact .inr (.inr e)⟩
 have nog:∀ e∈(σ.zip ρ.vs++pd.map fun e=>((some e.1:Option V),(some e.2:Option Lc))),∀ a,kE e=some a->a∉qY Z.g ρ.mu/\kJ H (qY Z.g ρ.mu) a=H a:=fun e he a ha=>by
  have hn:a∉qY Z.g ρ.mu:=fun hm=>(abu.mp nd).2.2 a hm a (aaX.mpr ⟨e,he,ha⟩) rfl
  exact ⟨hn,Fy hn⟩
 have hk:∀ e∈(σ.zip ρ.vs++pd.map fun e=>((some e.1:Option V),(some e.2:Option Lc))),∀ a,kE e=some a->H' a=H a/\Z'.z a=none:=fun e he a ha=>by
  obtain ⟨h1,h2,o,h3,h4⟩:=iT s0 he ha
  obtain ⟨hn,ho⟩:=nog e he a ha
  have h5:=z'.h0 a o (by rw [ho]; exact h3)
  refine ⟨by rw [h3]; exact h5,?_⟩
  cases q:Z'.z a with
  | none=>rfl
  | some u=>
   rcases z'.new a u q with e | e | e
   . rw [h1] at e; cases e
   . rw [ho,h3] at e; cases e
   . have:=z'.zh a u q
     rw [h5] at this; cases this
     exact (h4 e).elim
 have s2:=s0.step z'.z0 hk
 have q':Slots K H0 Z' H' ((some v,some r)::cel Z'.g mu'):=by
  refine ⟨fun e he=>?_,q.2⟩
  have:=q.1 e he
  obtain ⟨w,l⟩:=e
  cases l with
  | none=>trivial
  | some l=>
   cases l with
   | sh p=>exact this
   | own p=>obtain ⟨a,e1,e2,e3,e4⟩:=this; exact ⟨a,e1,e2,e3,h0.free e4⟩
 have dis:∀ e∈((some v,some r)::cel Z'.g mu'),∀ a,kE e=some a->∀ e'∈(σ.zip ρ.vs++pd.map fun e=>((some e.1:Option V),(some e.2:Option Lc))),kE e'≠some a:=fun e he a ha e' he' ha'=>by
  obtain ⟨_,h2,_⟩:=iT q he ha
  obtain ⟨_,_,o,h3,_⟩:=iT s0 he' ha'
  rw [(nog e' he' a ha').2,h3] at h2; cases h2
 refine .mk (Z:=Z') el hg' z2 ?_
 refine ⟨fun e he=>?_,?_⟩
 . rcases aao.mp he with rfl | he
   . exact q'.1 _ aab
   . rcases aaF.mp he with he | he
     . exact q'.1 _ (aag _ he)
     . exact s2.1 e he
 . show (((some v,some r)::(cel Z'.g mu'++(σ.zip ρ.vs++pd.map fun e=>(some e.1,some e.2)))).filterMap kE).Nodup
   rw [← abd,List.filterMap_append]
   refine abu.mpr ⟨q'.2,s2.2,fun a ha b hb e=>?_⟩
   subst e
   obtain ⟨e1,he1,h1⟩:=aaX.mp ha
   obtain ⟨e2,he2,h2⟩:=aaX.mp hb
   exact dis e1 he1 a h1 e2 he2 h2
theorem Qf {n:Nat} {g:GF} {a:AF} {E:XK}:∀ σ H Q,(∃ H0 Z0 ρ pd r ρ',SR X.K H0 Z0 σ H ρ pd/\aK g a ρ=some (r,ρ')/\(∀ ls ρ1,a ρ=some (ls,ρ1)->ls.length=n)/\∀ v H',SR X.K H0 Z0 σ H' ρ' ((v,r)::pd)->Q v H')->JV (bT X.K n g) [] E (iz X.K a) σ H Q:=fun σ H Q q=>by
 obtain ⟨H0,Z0,ρ,pd,r,ρ',s,h,hn,k⟩:=q
 obtain ⟨y,h1,h2⟩:=acf h
 obtain ⟨r',h3,h4⟩:=acg h2
 cases h4
 refine ⟨H0,Z0,ρ,pd,y.1,y.2,s,h1,fun vs H2 e2 s2=>?_⟩
 obtain ⟨el,Z,hg,z,rl,sl'⟩:=s2.repl e2
 refine ⟨Z,y.1.map Lc.pv,y.2.mu,_,_,?_,hg,z.zh,?_,sl'.cells hg,h3,fun v H' rr=>k v H' (SR.called el hg z sl' rr)⟩
 . rw [aat,e2]; exact hn _ _ h1
 . rw [aat]; exact rl
end
section
variable {P:Program} {w:World} {K:FG} {mg:Str->Option Value} {base:Heap}
def cQ (K:FG) (mg:Str->Option Value) (x:Str) (st:Stmt) (ps:List Str):Prop:=∃ f fd,sH K x x st f fd/\mg x=some (.ref f)/\Binds K fd ps []
def Fz (b:Bool) (P:Program) (w:World) (K:FG) (mg:Str->Option Value) (base:Heap) (x:Str) (k:Nat) (ps:List Str) (sp:Sp):Prop:=∃ f fd,qt b P w K mg base nW k f fd ps sp/\mg x=some (.ref f)/\W.keepIn K (.ref f)=true/\Binds K fd ps []
abbrev bV:=Fz true
def env0 (n:Nat) (ps:List PV) (mu:Mu):Ev:=⟨ps.map (fun p=>some (Lc.sh p))++List.replicate (n-ps.length) none,mu⟩
def cA (n:Nat) (g:SF):GF:=fun ps mu=>(g (env0 n ps mu)).bind fun x=>match x with
 | .rt r ρ=>some (r,ρ.mu)
 | .nx ρ=>some (.sh .non,ρ.mu)
 | _=>none
theorem Ii {Z:ZG} {L:Sl} (s:Slots K H0 Z H L):∀ {ps:List PV} {vs:List V},aJ K Z ps vs->Slots K H0 Z H ((vs.map some).zip (ps.map fun p=>some (Lc.sh p))++L)
 | [],vs,h=>by have:=h.inv0; subst this; simpa using s
 | p::ps,vs,h=>by
  obtain ⟨v,r,rfl,h1,h2⟩:=h.inv
  exact (Ii s h2).consS h1
theorem nones {Z:ZG} {L:Sl} (s:Slots K H0 Z H L):∀ n:Nat,Slots K H0 Z H ((List.replicate n (none:Option V)).zip (List.replicate n (none:Option Lc))++L)
 | 0=>s
 | n+1=>by
  rw [List.replicate_succ,List.replicate_succ,aa5,abd]
  have ih:=nones s n
  refine ⟨fun e he=>?_,?_⟩
  . rcases aao.mp he with rfl | he
    . trivial
    . exact ih.1 e he
  . rw [aaU rfl]; exact ih.2
theorem yK {H:Hp} {Z:ZG} {ps:List PV} {mu:Mu} {vs:List V} {N:List Str} (hg:mu.length=Z.g.length) (z:cZ Z.z H) (r:aJ K Z ps vs) (c:Slots K (kJ H (qY Z.g mu)) Z H (cel Z.g mu)):SR K (kJ H (qY Z.g mu)) Z (L2.start N vs) H (env0 N.length ps mu) []:=by
 have hl:=r.length
 refine ⟨by simp [L2.start,env0,hl],Z,hg,⟨z,fun b o e=>(T8 e).1,iy.refl _,fun b o e=>.inl e⟩,?_⟩
 unfold sl L2.start env0
 rw [abg (by simp [hl]),abw,aat,hl]
 exact (Ii (nones c _) r).perm ((abh).trans (by rw [aah]))
theorem cQ.ok {b:Bool} {x:Str} {st:Stmt} {N ps:List Str} {k:Nat} {g:GF} (F:cQ K mg x st ps) (S:aU N ps (aH st))
 (h:∀ (f:Addr) (cdv:Value) (A:Around) (outer:List PySem.Env) (s:Shared) (H:Hp) (E:XK),fL b k (A.deeper (envOfC x (aH st) s.heap.objs.size f cdv))->
   ∃ g':SF,(∀ a mu,g a mu=cA N.length g' a mu)/\iu (sG b nW P w K mg base N x (aH st) f cdv A outer s H E).nox (iH st) (fO K g')):Fz b P w K mg base x (k+1) ps (bT K ps.length g):=by
 obtain ⟨f,fd,F,hm,hb⟩:=F
 refine ⟨f,fd,F.ok S (fun vs H Q E q=>?_) (fun cdv A outer s H vs Q E hr q=>?_),hm,F.kp,hb⟩
 . obtain ⟨Z,qs,mu,r,mu',e,_⟩:=q; exact e
 . obtain ⟨g',eg,b⟩:=h f cdv A outer s H E hr
   obtain ⟨Z,qs,mu,r,mu',e,hg,z,rl,c,hr',kk⟩:=q
   rw [eg] at hr'
   obtain ⟨fl,h1,h2⟩:=acf hr'
   refine ⟨_,b,kJ H (qY Z.g mu),Z,_,[],fl,yK hg z rl c,h1,?_⟩
   cases fl with
   | rt r' ρ'=>
    cases h2
    intro v σ' H' s'
    obtain ⟨el,Z',hg',z',s''⟩:=s'.top
    refine kk v H' ⟨Z',hg',z',s''.sub ?_⟩
    exact (aaZ _ _).cons_cons _
   | nx ρ'=>
    cases h2
    intro σ' H' s'
    obtain ⟨el,Z',hg',z',s''⟩:=s'
    exact kk .non H' ⟨Z',hg',z',(s''.sub (aaZ _ _)).consS (uh _)⟩
   | bk ρ'=>cases h2
   | ct ρ'=>cases h2
end
section
variable {X:Cx}
theorem bW {b:Bool} {x:Str} {k:Nat} {ps:List Str} {g:GF} {e:Expr} {es:List Expr} {a:AF} {p pos:Pos} (D:Fz b X.prog X.w X.K X.mg X.base x k ps (bT X.K ps.length g)) (hr:fL b k X.A) (hg:Gl X x)
 (ha:PA X (e::es) (iz X.K a)) (hn:∀ ρ ls ρ1,a ρ=some (ls,ρ1)->ls.length=ps.length) (hdb:(x==("__debug__" : Str))=false:=by decide) (he:starEach (e::es) X.env=(false,eval e X.env)::starEach es X.env:=by rfl) (hpl:(backTo pos (starEach es X.env)).any (·.1)=false:=by rfl):PE X (.Call (.Name x p) (e::es) [] pos) (tP X.K (aK g a)):=by
 obtain ⟨f,fd,F,hm,hk,hb⟩:=D
 refine PE.imp (HW (E:=E0) F hr hg hm hk hb .nil zy ha hdb he hpl) fun σ H Q q=>?_
 obtain ⟨H0,Z0,ρ,pd,r,ρ',s,h,kk⟩:=q
 exact Qf σ H Q ⟨H0,Z0,ρ,pd,r,ρ',s,h,fun ls ρ1 e=>hn ρ ls ρ1 e,kk⟩
section
variable {K:FG} {H0 H H':Hp} {Z0 Z:ZG} {σ:L2.St} {ρ:Ev} {pd pd':Pd} {v w:V} {l:Lc} {p:PV}
theorem SR.sub (h:SR K H0 Z0 σ H ρ pd') (q:List.Sublist pd pd'):SR K H0 Z0 σ H ρ pd:=
 let ⟨e,Z,hg,z,s⟩:=h
 ⟨e,Z,hg,z,s.sub ((abv _).append ((abv _).append (q.map _)))⟩
theorem SR.dup (h:SR K H0 Z0 σ H ρ ((v,.sh p)::pd)):SR K H0 Z0 σ H ρ ((v,.sh p)::(v,.sh p)::pd):=by
 obtain ⟨e,Z,hg,z,s⟩:=h.top
 obtain ⟨x,e1,e2⟩:=s.1 _ aab
 cases e1
 exact .mk e hg z ((s.perm bZ).consS e2)
theorem SR.part {u:V} {q:PV} (h:SR K H0 Z0 σ H ρ ((v,.sh p)::pd)) (k:∀ Z:ZG,cZ Z.z H->Rep K Z p v->Rep K Z q u):SR K H0 Z0 σ H ρ ((u,.sh q)::(v,.sh p)::pd):=by
 obtain ⟨e,Z,hg,z,s⟩:=h.top
 obtain ⟨x,e1,e2⟩:=s.1 _ aab
 cases e1
 exact .mk e hg z ((s.perm bZ).consS (k Z z.zh e2))
end
abbrev BF:=PV->Ev->Option Ev
def GS (K:FG) (g:TG) (b:BF):Prop:=∀ H0 Z0 σ H ρ pd v p ρ' Q,SR K H0 Z0 σ H ρ ((v,.sh p)::pd)->b p ρ=some ρ'->(∀ σ',SR K H0 Z0 σ' H ρ' pd->Q σ' H)->g v σ H Q
abbrev FJ:=List PV->Ev->Option Ev
def Ry (K:FG) (g:vI) (b:FJ):Prop:=∀ H0 Z0 σ H ρ pd vs ps ρ' Q,vs.length=ps.length->SR K H0 Z0 σ H ρ (vs.zip (ps.map Lc.sh)++pd)->b ps ρ=some ρ'->(∀ σ',SR K H0 Z0 σ' H ρ' pd->Q σ' H)->g vs σ H Q
def aG (i:Nat):BF:=fun p ρ=>if i<ρ.vs.length then some (ρ.set i (some (.sh p))) else none
theorem aX {i:Nat}:GS K (Ed i) (aG i):=by
 intro H0 Z0 σ H ρ pd v p ρ' Q s h k
 unfold aG at h
 split at h
 . rename_i hl; cases h; exact k _ (s.store hl)
 . cases h
def eF:FJ:=fun ps ρ=>match ps with
 | []=>some ρ
 | _=>none
def aL (b:BF) (bs:FJ):FJ:=fun ps ρ=>match ps with
 | p::r=>(b p ρ).bind fun ρ1=>bs r ρ1
 | []=>none
theorem jr:Ry K VD eF:=by
 intro H0 Z0 σ H ρ pd vs ps ρ' Q e s h k
 cases ps with
 | nil=>
  cases h
  have:vs=[]:=abN (by simpa using e)
  subst this
  exact ⟨rfl,k σ s⟩
 | cons p r=>cases h
theorem bJ {t:TG} {u:vI} {b:BF} {bs:FJ} (h1:GS K t b) (h2:Ry K u bs):Ry K (Rj t u) (aL b bs):=by
 intro H0 Z0 σ H ρ pd vs ps ρ' Q e s h k
 cases ps with
 | nil=>cases h
 | cons p r=>
  cases vs with
  | nil=>simp at e
  | cons v ws=>
   obtain ⟨ρ1,e1,e2⟩:=acf h
   refine ⟨v,ws,rfl,h1 H0 Z0 σ H ρ _ v p ρ1 _ s e1 fun σ' s'=>?_⟩
   exact h2 H0 Z0 σ' H ρ1 pd ws r ρ' Q (by simpa using e) s' e2 k
theorem Mr {Z:ZG} {L:Sl} (s:Slots K H0 Z H L):∀ {ps:List PV} {vs:List V},aJ K Z ps vs->Slots K H0 Z H ((vs.zip (ps.map Lc.sh)).map (fun e=>(some e.1,some e.2))++L)
 | [],vs,h=>by have:=h.inv0; subst this; simpa using s
 | p::ps,vs,h=>by
  obtain ⟨v,r,rfl,h1,h2⟩:=h.inv
  exact (Mr s h2).consS h1
theorem SR.items {Z0 Z:ZG} {vs:List V} {ps:List PV} (e:σ.length=ρ.vs.length) (hg:ρ.mu.length=Z.g.length) (z:jO H0 Z0 Z H) (r:aJ K Z ps vs) (s:Slots K H0 Z H (sl Z.g σ ρ pd)):SR K H0 Z0 σ H ρ (vs.zip (ps.map Lc.sh)++pd):=
 ⟨e,Z,hg,z,(Mr s r).perm Fv⟩
def aal (i j:Nat) (a:AF):SF:=fun ρ=>(a ρ).bind fun y=>match y.1 with
 | [l,m]=>if i<y.2.vs.length/\j<y.2.vs.length then some (.nx ((y.2.set i (some l)).set j (some m))) else none
 | _=>none
def m7 (K:FG) (H0:Hp) (Z0:ZG) (pd:Pd) (J:It) (xs:List PV):Prop:=∀ σ H ρ (i:Nat),SR K H0 Z0 σ H ρ pd->
 (∀ x,xs[i]?=some x->J.go i H/\∀ v H',J.yld i H v H'->SR K H0 Z0 σ H' ρ ((v,.sh x)::pd))/\(i=xs.length->J.stop i H)
abbrev IF:=Ev->Option (List PV×Ev)
def Dd (K:FG) (f:IF):TI:=fun σ H R=>∃ H0 Z0 ρ pd xs ρ',SR K H0 Z0 σ H ρ pd/\f ρ=some (xs,ρ')/\∀ J H' pd',SR K H0 Z0 σ H' ρ' pd'->m7 K H0 Z0 pd' J xs->List.Sublist pd pd'->R J H'
theorem PI.imp {tg iter:Expr} {t t':TI} (h:PI X tg iter t) (i:∀ σ H R,t' σ H R->t σ H R):PI X tg iter t':=fun pins s σ H R I q=>h pins s σ H R I (i σ H R q)
def gB (f:EF) (g:PV->Option (List PV)):IF:=fun ρ=>(f ρ).bind fun x=>(g x.1.pv).map fun xs=>(xs,x.2)
theorem De {H0:Hp} {a:Addr} {ps:List PV}:m7 K H0 Z0 ((.ref a,.sh (.lst ps))::pd) (HN K a) ps:=by
 intro σ H ρ i s
 obtain ⟨Z,z,r⟩:=s.rep
 unfold Rep at r
 obtain ⟨b,vs,e,h1,h2⟩:=r
 cases e
 have hq:=bI.same z h1
 refine ⟨fun x hx=>?_,fun hl=>⟨vs,hq,by rw [h2.length]; omega⟩⟩
 obtain ⟨v,hv,rv⟩:=h2.get hx
 refine ⟨⟨vs,v,hq,hv⟩,fun v' H' y=>?_⟩
 obtain ⟨e',y⟩:=y
 subst e'
 have:=y vs hq
 rw [hv] at this; cases this
 refine s.part fun Z' z' r'=>?_
 unfold Rep at r'
 obtain ⟨b',vs',e',h1',h2'⟩:=r'
 cases e'
 have:vs'[i]?=some v:=y vs' (bI.same z' h1')
 obtain ⟨p',hp',rp'⟩:=h2'.getV this
 rw [hx] at hp'; cases hp'
 exact rp'
theorem Qg {H0:Hp} {a:Addr} {ps:List PV}:m7 K H0 Z0 ((.ref a,.sh (.tup ps))::pd) (Rk K a) ps:=by
 intro σ H ρ i s
 obtain ⟨Z,z,r⟩:=s.rep
 unfold Rep at r
 obtain ⟨b,vs,e,h1,h2⟩:=r
 cases e
 have hq:=cI.same z h1
 refine ⟨fun x hx=>?_,fun hl=>⟨vs,hq,by rw [h2.length]; omega⟩⟩
 obtain ⟨v,hv,rv⟩:=h2.get hx
 refine ⟨⟨vs,v,hq,hv⟩,fun v' H' y=>?_⟩
 obtain ⟨e',y⟩:=y
 subst e'
 have:=y vs hq
 rw [hv] at this; cases this
 refine s.part fun Z' z' r'=>?_
 unfold Rep at r'
 obtain ⟨b',vs',e',h1',h2'⟩:=r'
 cases e'
 have:vs'[i]?=some v:=y vs' (cI.same z' h1')
 obtain ⟨p',hp',rp'⟩:=h2'.getV this
 rw [hx] at hp'; cases hp'
 exact rp'
def yL (lo:Int) (n:Nat):List PV:=(List.range n).map fun i=>.int (lo+(i:Nat))
def iI (a:AF):IF:=fun ρ=>(a ρ).bind fun y=>match y.1.map Lc.pv with
 | [.int j]=>if -(2 ^ 62)<=j/\j<2 ^ 62 then some (yL 0 j.toNat,y.2) else none
 | _=>none
theorem Qh {H0:Hp} {lo:Int} {n:Nat}:m7 K H0 Z0 pd (Rm lo n) (yL lo n):=by
 intro σ H ρ i s
 refine ⟨fun x hx=>?_,fun hl=>?_⟩
 . have hi:i<n:=by
    have:=(aan.mp hx).1
    simpa [yL] using this
   refine ⟨hi,fun v H' y=>?_⟩
   obtain ⟨rfl,rfl⟩:=y
   unfold yL at hx
   rw [aaN,List.getElem?_range hi] at hx
   cases hx
   exact s.scal eV
 . show n<=i
   simp [yL] at hl
   omega
theorem SR.ints {vs:List V} {ls:List Lc} {ns:List Int} (s:SR K H0 Z0 σ H ρ (vs.zip ls++pd)) (e:vs.length=ls.length) (h:ls.map Lc.pv=ns.map PV.int):vs=ns.map V.int/\SR K H0 Z0 σ H ρ pd:=by
 obtain ⟨el,Z,hg,z,r,sl'⟩:=s.repl e
 refine ⟨?_,el,Z,hg,z,sl'⟩
 rw [h] at r
 clear h e s sl'
 induction ns generalizing vs with
 | nil=>exact r.inv0
 | cons n ns ih=>
  obtain ⟨v,w,rfl,h1,h2⟩:=r.inv
  rw [bH h1,ih h2]
  rfl
theorem pK {tg a:Expr} {f:AF} {p pos:Pos} (hg:Gl X "range") (hm:X.mg "range" = none) (ha:PA X [a] (iz X.K f)) (hs:starEach [a] X.env=[(false,eval a X.env)]:=by rfl):PI X tg (.Call (.Name "range" p) [a] [] pos) (Dd X.K (iI f)):=PI.imp (La hg hm ha hs) fun σ H R q=>by
 obtain ⟨H0,Z0,ρ,pd,xs,ρ',s,h,k⟩:=q
 obtain ⟨y,h1,h2⟩:=acf h
 refine ⟨H0,Z0,ρ,pd,y.1,y.2,s,h1,fun vs H1 e1 s1=>?_⟩
 split at h2
 . rename_i j e
   split at h2
   . rename_i hj
     cases h2
     obtain ⟨rfl,s2⟩:=s1.ints (ns:=[j]) e1 e
     exact ⟨j,rfl,hj.1,hj.2,k _ _ _ s2 Qh (abv _)⟩
   . cases h2
 . cases h2
def fD (b:BF) (body:SF):List PV->SF
 | [],ρ=>some (.nx ρ)
 | x::xs,ρ=>(b x ρ).bind fun ρ1=>(body ρ1).bind fun fl=>match fl with
  | .nx ρ'=>fD b body xs ρ'
  | .ct ρ'=>fD b body xs ρ'
  | .bk ρ'=>some (.nx ρ')
  | .rt r ρ'=>some (.rt r ρ')
def iG (f:IF) (b:BF) (body:SF):SF:=fun ρ=>(f ρ).bind fun y=>fD b body y.1 y.2
theorem Bo {P:Prop} (h:∀ G:Prop,(P->G)->G):P:=h P id
def FW (K:FG) (H0:Hp) (Z0:ZG) (pd:Pd) (b:BF) (fb:SF) (xs:List PV) (fl:Fl) (i m:Nat) (σ:L2.St) (H:Hp):Prop:=m=xs.length-i/\i<=xs.length/\∃ ρ,SR K H0 Z0 σ H ρ pd/\fD b fb (xs.drop i) ρ=some fl
theorem Qi {g:TG} {b:BF} {fb:SF} (hb:GS K g b) {J:It} {xs:List PV} {fl:Fl} {D:Ends} (it:m7 K H0 Z0 pd J xs) (k:Fp K H0 Z0 pd D fl) (s:SR K H0 Z0 σ H ρ pd) (h:fD b fb xs ρ=some fl):
 ∃ W:Nat->Nat->L2.St->Hp->Prop,(∃ m,W 0 m σ H)/\∀ i m σ H,W i m σ H->
  (J.stop i H/\D.nx σ H)\/(J.go i H/\∃ N:L2.St->Hp->Prop,(∀ σ' H',N σ' H'->∃ m',m'<m/\W (i+1) m' σ' H')/\∀ x H',J.yld i H x H'->g x σ H' fun σ2 H2=>fO K fb { D with nx:=N,ct:=N,bk:=D.nx } σ2 H2):=by
 refine ⟨FW K H0 Z0 pd b fb xs fl,⟨_,rfl,aa3 _,ρ,s,h⟩,fun i m σ' H' w=>?_⟩
 refine Bo fun G kG=>?_
 obtain ⟨rfl,hi,ρ',s',h'⟩:=w
 obtain ⟨i1,i2⟩:=it σ' H' ρ' i s'
 by_cases hlt:i<xs.length
 . obtain ⟨go,yl⟩:=i1 _ (aaC hlt)
   rw [abn hlt] at h'
   obtain ⟨ρ1,e1,e2⟩:=acf h'
   obtain ⟨fl1,e3,e4⟩:=acf e2
   refine kG (.inr ⟨go,fun σ'' H''=>FW K H0 Z0 pd b fb xs fl (i+1) (xs.length-(i+1)) σ'' H'',fun σ'' H'' w=>⟨_,by omega,w⟩,fun x H2 hy=>hb H0 Z0 σ' H2 ρ' pd x _ ρ1 _ (yl x H2 hy) e1 fun σ2 s2=>⟨H0,Z0,ρ1,pd,fl1,s2,e3,?_⟩⟩)
   cases fl1 with
   | nx ρ2=>exact fun σ3 H3 s3=>⟨rfl,hlt,ρ2,s3,e4⟩
   | ct ρ2=>exact fun σ3 H3 s3=>⟨rfl,hlt,ρ2,s3,e4⟩
   | bk ρ2=>cases e4; exact k
   | rt r ρ2=>cases e4; exact k
 . have e:i=xs.length:=Nat.le_antisymm hi (abJ hlt)
   subst e
   rw [ab3] at h'
   cases h'
   exact kG (.inl ⟨i2 rfl,k σ' H' s'⟩)
theorem Fp.imp {H0:Hp} {Z0 Z₁:ZG} {pd pd':Pd} {D:Ends} {fl:Fl} (k:Fp K H0 Z0 pd D fl) (w:∀ {τ:L2.St} {J:Hp} {q:Ev},SR K H0 Z₁ τ J q pd'->SR K H0 Z0 τ J q pd) (w':∀ {τ:L2.St} {J:Hp} {q:Ev} {e:V×Lc},SR K H0 Z₁ τ J q (e::pd')->SR K H0 Z0 τ J q (e::pd)):Fp K H0 Z₁ pd' D fl:=by
 cases fl with
 | rt r ρ=>exact fun v σ H s=>k v σ H (w' s)
 | _=>exact fun σ H s=>k σ H (w s)
theorem iV {tg iter:Expr} {body:List Stmt} {f:IF} {g:TG} {b:BF} {fb:SF} {pos:Pos} (hp:PassesOwn (model X.prog X.w) X.A X.env X.xe) (hc:X.calm=true) (hi:PI X tg iter (Dd X.K f)) (hg:PG X tg g) (hb':GS X.K g b) (hb:iu X body (fO X.K fb))
 (hs:∀ x,foldedSetIterable iter X.env x=pure x:=by intro _; rfl):PS X (.For tg iter body [] pos) (fO X.K (iG f b fb)):=PS.imp (Ld hp hc hi hg hb hs) fun D σ H q=>by
 refine Bo fun G kG=>?_
 obtain ⟨H0,Z0,ρ,pd,fl,s,h,k⟩:=q
 obtain ⟨y,h1,h2⟩:=acf h
 exact kG ⟨H0,Z0,ρ,pd,y.1,y.2,s,h1,fun J H1 pd' s1 it sub=>Qi hb' it (k.imp (fun s=>s.sub sub) fun s=>s.sub (sub.cons_cons _)) s1 h2⟩
def lV (c:TF) (body:SF):Nat->SF
 | 0,_=>none
 | n+1,ρ=>(c ρ).bind fun x=>if x.1=true then (body x.2).bind fun fl=>match fl with
  | .nx ρ'=>lV c body n ρ'
  | .ct ρ'=>lV c body n ρ'
  | .bk ρ'=>some (.nx ρ')
  | .rt r ρ'=>some (.rt r ρ') else some (.nx x.2)
def pL (n:Nat) (c:TF) (body:SF):SF:=lV c body n
theorem Qj (n:Nat) {c:Expr} {body:List Stmt} {fc:TF} {fb:SF} {pos:Pos} (hp:PassesOwn (model X.prog X.w) X.A X.env X.xe) (hc:PT X c (gO X.K fc)) (hb:iu X body (fO X.K fb)):PS X (.While c body [] pos) (fO X.K (pL n fc fb)):=PS.imp (Ox hp hc hb) fun D σ H q=>by
 obtain ⟨H0,Z0,ρ,pd,fl,s,h,k⟩:=q
 refine ⟨fun m σ' H'=>∃ ρ',SR X.K H0 Z0 σ' H' ρ' pd/\lV fc fb m ρ'=some fl,⟨n,ρ,s,h⟩,?_⟩
 rintro m σ' H' ⟨ρ',s',h'⟩
 cases m with
 | zero=>cases h'
 | succ m=>
  obtain ⟨x,e1,e2⟩:=acf h'
  refine ⟨H0,Z0,ρ',pd,x.1,x.2,s',e1,fun H1 s1=>?_⟩
  dsimp only
  split
  . rename_i hx
    rw [ab7 hx] at e2
    obtain ⟨fl1,e3,e4⟩:=acf e2
    refine ⟨fun σ'' H''=>∃ ρ'',SR X.K H0 Z0 σ'' H'' ρ'' pd/\lV fc fb m ρ''=some fl,fun σ'' H'' q=>⟨m,abb _,q⟩,H0,Z0,x.2,pd,fl1,s1,e3,?_⟩
    cases fl1 with
    | nx ρ2=>exact fun σ3 H3 s3=>⟨ρ2,s3,e4⟩
    | ct ρ2=>exact fun σ3 H3 s3=>⟨ρ2,s3,e4⟩
    | bk ρ2=>cases e4; exact fun σ3 H3 s3=>k σ3 H3 s3
    | rt r ρ2=>cases e4; exact fun v σ3 H3 s3=>k v σ3 H3 s3
  . rename_i hx
    rw [ab8 hx] at e2
    cases e2
    exact k σ' H1 s1
end
section
variable {K:FG} {H0 H H':Hp} {Z0 Z:ZG} {σ:L2.St} {ρ:Ev} {pd pe:Pd} {v w:V} {l:Lc} {p:PV} {g:List Addr}
def Ev.app (ρ:Ev) (pe:Pd):Ev:=⟨ρ.vs++pe.map (fun x=>some x.2),ρ.mu⟩
theorem FN (e:σ.length=ρ.vs.length):sl g (σ++pe.map fun x=>some x.1) (ρ.app pe) pd=sl g σ ρ (pe++pd):=by
 unfold sl Ev.app
 rw [abg e,aaz,aah]
 congr 3
 induction pe with
 | nil=>rfl
 | cons a r ih=>simp [ih]
theorem SR.shift (h:SR K H0 Z0 σ H ρ (pe++pd)):SR K H0 Z0 (σ++pe.map fun x=>some x.1) H (ρ.app pe) pd:=by
 obtain ⟨e,Z,hg,z,s⟩:=h
 refine ⟨by simp [Ev.app,e],Z,hg,z,?_⟩
 rw [FN e]
 exact s
theorem SR.unshift (e:σ.length=ρ.vs.length) (h:SR K H0 Z0 (σ++pe.map fun x=>some x.1) H (ρ.app pe) pd):SR K H0 Z0 σ H ρ (pe++pd):=by
 obtain ⟨_,Z,hg,z,s⟩:=h
 refine ⟨e,Z,hg,z,?_⟩
 rw [FN e] at s
 exact s
theorem m7.more {J:It} {xs:List PV} (h:m7 K H0 Z0 pd J xs):m7 K H0 Z0 (pe++pd) J xs:=by
 intro σ H ρ i s
 obtain ⟨h1,h2⟩:=h _ H _ i s.shift
 refine ⟨fun x hx=>?_,h2⟩
 obtain ⟨g,y⟩:=h1 x hx
 refine ⟨g,fun v H' q=>?_⟩
 have s':=y v H' q
 have e:σ.length=ρ.vs.length:=s.1
 have s2:SR K H0 Z0 (σ++pe.map fun x=>some x.1) H' (ρ.app pe) ((v,.sh x)::pd):=s'
 exact (SR.unshift e s2).perm (pd':=(v,.sh x)::(pe++pd)) aaW.symm
def pR (σ:L2.St) (ρ:Ev):Pd:=(σ.zip ρ.vs).filterMap fun e=>match e with
 | (some v,some l)=>some (v,l)
 | _=>none
theorem uT:∀ {L:Sl},(∀ e∈L,e.2=none\/∃ v l,e=(some v,some l))->∀ {T:Sl},
 (Slots K H0 Z H (L++T) ↔ Slots K H0 Z H ((L.filterMap fun e=>match e with | (some v,some l)=>some (v,l) | _=>none).map (fun e=>((some e.1:Option V),(some e.2:Option Lc)))++T))
 | [],_,T=>by simp
 | (v,l)::L,h,T=>by
  have h':∀ e∈L,e.2=none\/∃ v l,e=(some v,some l):=fun e he=>h e (aag _ he)
  rcases h (v,l) aab with e | ⟨v',l',e⟩
  . have e':l=none:=e
    subst e'
    have e1:((v,(none:Option Lc))::L).filterMap (fun e=>match e with | (some v,some l)=>some (v,l) | _=>none)=L.filterMap (fun e=>match e with | (some v,some l)=>some (v,l) | _=>none):=by
     rw [aaU]
     cases v<;>rfl
    rw [e1,← uT h' (T:=T)]
    have o1:kE (v,none)=none:=by
     cases v with
     | none=>rfl
     | some x=>cases x<;>rfl
    constructor
    . exact fun s=>s.sub (aap _ _)
    . intro s
      refine ⟨fun e he=>?_,?_⟩
      . rcases aao.mp he with rfl | he
        . trivial
        . exact s.1 e he
      . rw [abd,aaU o1]
        exact s.2
  . cases e
    have e1:((some v',some l')::L).filterMap (fun e=>match e with | (some v,some l)=>some (v,l) | _=>none)=(v',l')::L.filterMap (fun e=>match e with | (some v,some l)=>some (v,l) | _=>none):=by
     rfl
    rw [e1]
    have ih1:=uT h' (T:=T++[(some v',some l')])
    have perm1:∀ A:Sl,List.Perm ((some v',some l')::(A++T)) (A++(T++[(some v',some l')])):=fun A=>by
     rw [← aah]
     exact (List.perm_append_singleton _ _).symm
    constructor
    . intro s
      exact (ih1.mp (s.perm (perm1 L).symm)).perm (perm1 _)
    . intro s
      exact (ih1.mpr (s.perm (perm1 _).symm)).perm (perm1 L)
theorem SR.both (s:SR K H0 Z0 σ H ρ pd):∀ e∈σ.zip ρ.vs,e.2=none\/∃ v l,e=(some v,some l):=by
 obtain ⟨_,Z,_,z,s⟩:=s
 intro e he
 have q:=s.1 e (aaE _ (aaT _ he))
 obtain ⟨v,l⟩:=e
 cases l with
 | none=>exact .inl rfl
 | some l=>
  cases l with
  | sh p=>obtain ⟨x,e1,_⟩:=q; have e1':v=some x:=e1; subst e1'; exact .inr ⟨_,_,rfl⟩
  | own p=>obtain ⟨x,e1,_⟩:=q; have e1':v=some (.ref x):=e1; subst e1'; exact .inr ⟨_,_,rfl⟩
theorem Df (hb:∀ e∈σ.zip ρ.vs,e.2=none\/∃ v l,e=(some v,some l)):Slots K H0 Z H (sl g σ ρ pd) ↔ Slots K H0 Z H (cel g ρ.mu++(pR σ ρ++pd).map fun e=>(some e.1,some e.2)):=by
 have h1:=uT (K:=K) (H0:=H0) (Z:=Z) (H:=H) hb (T:=(pd.map fun e=>(some e.1,some e.2))++cel g ρ.mu)
 have c1:List.Perm (sl g σ ρ pd) (σ.zip ρ.vs++((pd.map fun e=>(some e.1,some e.2))++cel g ρ.mu)):=by
  unfold sl
  rw [← aah (σ.zip ρ.vs)]
  exact abh
 have c2:List.Perm (cel g ρ.mu++(pR σ ρ++pd).map fun e=>((some e.1:Option V),(some e.2:Option Lc))) ((pR σ ρ).map (fun e=>(some e.1,some e.2))++((pd.map fun e=>(some e.1,some e.2))++cel g ρ.mu)):=by
  rw [aaz,← aah ((pR σ ρ).map _)]
  exact abh
 exact ⟨fun s=>(h1.mp (s.perm c1.symm)).perm c2,fun s=>(h1.mpr (s.perm c2.symm)).perm c1⟩
theorem SR.back {σ':L2.St} {ρ':Ev} (el:σ.length=ρ.vs.length) (hb:∀ e∈σ.zip ρ.vs,e.2=none\/∃ v l,e=(some v,some l)) (s:SR K H0 Z0 σ' H ρ' (pR σ ρ++pd)):SR K H0 Z0 σ H ⟨ρ.vs,ρ'.mu⟩ pd:=by
 obtain ⟨_,Z,hg,z,s⟩:=s
 refine ⟨el,Z,hg,z,(Df (ρ:=⟨ρ.vs,ρ'.mu⟩) hb).mpr ?_⟩
 exact s.sub ((abv _).append (abm _ _))
def ji (ixs:List Nat) (ρ:Ev):Ev:=ixs.foldl (fun ρ i=>match ρ.vs[i]? with
 | some (some l)=>ρ.set i (some (.sh l.pv))
 | _=>ρ) ρ
theorem SR.frz:∀ {ixs:List Nat} {ρ:Ev},SR K H0 Z0 σ H ρ pd->SR K H0 Z0 σ H (ji ixs ρ) pd
 | [],ρ,s=>s
 | i::r,ρ,s=>by
  unfold ji
  rw [abf]
  refine SR.frz (ixs:=r) ?_
  split
  . rename_i l e
    obtain ⟨v,_,h2⟩:=s.var e
    exact h2.pop
  . exact s
def yM:Option Lc->Bool
 | some (.own _)=>false
 | _=>true
theorem FP {j:Nat}:∀ {ixs:List Nat} {ρ:Ev},yM (ρ.vs[j]?).join=true->yM ((ji ixs ρ).vs[j]?).join=true
 | [],ρ,h=>h
 | i::r,ρ,h=>by
  unfold ji
  rw [abf]
  refine FP (ixs:=r) ?_
  split
  . rename_i l e
    by_cases hij:i=j
    . subst hij
      have hi:=(aan.mp e).1
      show yM ((ρ.vs.set i _)[i]?).join=true
      rw [aax hi]
      rfl
    . show yM ((ρ.vs.set i _)[j]?).join=true
      rw [aaw hij]; exact h
  . exact h
theorem Ms {j:Nat}:∀ {ixs:List Nat} {ρ:Ev},j∈ixs->yM ((ji ixs ρ).vs[j]?).join=true
 | [],ρ,h=>by cases h
 | i::r,ρ,h=>by
  unfold ji
  rw [abf]
  rcases aao.mp h with e | h
  . subst e
    refine FP (ixs:=r) ?_
    split
    . rename_i l e
      have hi:=(aan.mp e).1
      show yM ((ρ.vs.set j _)[j]?).join=true
      rw [aax hi]
      rfl
    . rename_i hn
      cases q:ρ.vs[j]? with
      | none=>rfl
      | some o=>
       cases o with
       | none=>rfl
       | some l=>exact (hn l q).elim
  . exact Ms h
def qZ (m:Nat) (ixs:List Nat) (ρ:Ev):Ev:=⟨List.replicate m none++ixs.map fun i=>(ρ.vs[i]?).join,ρ.mu⟩
theorem SR.block {m:Nat} {ixs:List Nat} (s:SR K H0 Z0 σ H ρ pd) (hs:∀ j∈ixs,yM (ρ.vs[j]?).join=true):SR K H0 Z0 (v7 m ixs σ) H (qZ m ixs ρ) (pR σ ρ++pd):=by
 have hb:=s.both
 obtain ⟨el,Z,hg,z,so⟩:=s
 refine ⟨by simp [v7,qZ],Z,hg,z,?_⟩
 have s3:=(Df hb).mp so
 have fin:Slots K H0 Z H ((ixs.map fun i=>(σ[i]?).join).zip (ixs.map fun i=>(ρ.vs[i]?).join)++(cel Z.g ρ.mu++(pR σ ρ++pd).map fun e=>(some e.1,some e.2)))->Slots K H0 Z H (sl Z.g (v7 m ixs σ) (qZ m ixs ρ) (pR σ ρ++pd)):=fun h=>by
  unfold sl v7 qZ
  rw [abg (by simp),aah]
  refine (nones h m).perm ?_
  exact (Ei _ _ _).trans ((Ei _ _ _).append_left _)
 refine fin ?_
 clear fin
 induction ixs with
 | nil=>simpa using s3
 | cons i r ih=>
  have ih':=ih fun j hj=>hs j (aag _ hj)
  rw [aav,aav,aa5,abd]
  have h1:=hs i aab
  cases q:ρ.vs[i]? with
  | none=>
   refine ⟨fun e he=>?_,?_⟩
   . rcases aao.mp he with rfl | he
     . trivial
     . exact ih'.1 e he
   . rw [aaU]
     . exact ih'.2
     . cases (σ[i]?).join with
       | none=>rfl
       | some x=>cases x<;>rfl
  | some o=>
   cases o with
   | none=>
    refine ⟨fun e he=>?_,?_⟩
    . rcases aao.mp he with rfl | he
      . trivial
      . exact ih'.1 e he
    . rw [aaU]
      . exact ih'.2
      . cases (σ[i]?).join with
        | none=>rfl
        | some x=>cases x<;>rfl
   | some l=>
    rw [q] at h1
    cases l with
    | own p=>cases h1
    | sh p=>
     have hi:i<σ.length:=by rw [el]; exact (aan.mp q).1
     have hσ:σ[i]?=some σ[i]:=aaC hi
     have hm:=aa9 (zip_get hσ q)
     obtain ⟨x,e1,e2⟩:=so.1 _ (aaE _ (aaT _ hm))
     have e1':σ[i]=some x:=e1
     have ej:(σ[i]?).join=some x:=by rw [hσ,e1']; rfl
     rw [ej]
     exact ih'.consS e2
end
theorem SR.pushO {v:V} {l:Lc} {a:Addr} {ws:List PV} (s:SR K H0 Z0 σ H ρ ((v,l)::(.ref a,.own (.lst ws))::pd)):
 ∃ us,H a=some (.lst us)/\us.length=ws.length/\SR K H0 Z0 σ (upd H a (.lst (us++[v]))) ρ ((.ref a,.own (.lst (ws++[l.pv])))::pd):=by
 obtain ⟨el,Z,hg,z,r,so⟩:=s.freeze.sh
 have so2:=so.perm bZ.symm
 obtain ⟨b,eb,⟨us,hu,hr⟩,_⟩:=so2.1 _ aab
 cases eb
 refine ⟨us,hu,hr.length,?_⟩
 obtain ⟨z',s'⟩:=so2.write (o:=.lst (us++[v])) (q:=.lst (ws++[l.pv])) z ⟨us++[v],bM,hr.append (aJ.cons r .nil)⟩
 exact .mk el hg z' s'
def jj (b:BF) (tc:TF) (te:EF):List PV->Ev->List PV->Option (List PV×Mu)
 | [],ρ,acc=>some (acc,ρ.mu)
 | x::xs,ρ,acc=>(b x ρ).bind fun ρ1=>(tc ρ1).bind fun c=>if c.1=true then (te c.2).bind fun v=>if acc.length<100000 then jj b tc te xs v.2 (acc++[v.1.pv]) else none else jj b tc te xs c.2 acc
def eO (f:IF) (m:Nat) (ixs:List Nat) (b:BF) (tc:TF) (te:EF):EF:=fun ρ=>(f ρ).bind fun y=>(jj b tc te y.1 (qZ m ixs (ji ixs y.2)) []).map fun ys=>(.own (.lst ys.1),⟨(ji ixs y.2).vs,ys.2⟩)
def CW (K:FG) (H0:Hp) (Z0:ZG) (b:BF) (tc:TF) (te:EF) (p:Addr) (PD:Pd) (xs:List PV) (zs:List PV×Mu) (i n:Nat) (σ':L2.St) (H':Hp):Prop:=
 n=xs.length-i/\i<=xs.length/\∃ ρi ws,SR K H0 Z0 σ' H' ρi ((.ref p,.own (.lst ws))::PD)/\jj b tc te (xs.drop i) ρi ws=some zs
theorem Mt {g:TG} {b:BF} {tc:TF} {te:EF} (hb:GS K g b) {H0:Hp} {p:Addr} {PD:Pd} {J:It} {xs:List PV} {zs:List PV×Mu} {Q:VK}
 (it:∀ ws,m7 K H0 Z0 ((.ref p,.own (.lst ws))::PD) J xs) (fin:∀ σ' H' ρi ws,SR K H0 Z0 σ' H' ρi ((.ref p,.own (.lst ws))::PD)->jj b tc te [] ρi ws=some zs->Q (.ref p) H') (i n:Nat) (σ':L2.St) (H':Hp) (w:CW K H0 Z0 b tc te p PD xs zs i n σ' H'):
 (J.stop i H'/\Q (.ref p) H')\/(J.go i H'/\∀ x H2,J.yld i H' x H2->g x σ' H2 fun σ3 H3=>gO K tc σ3 H3 fun b' H4=>
   if b'=true then tP K te σ3 H4 fun v H5=>∃ ys,H5 p=some (.lst ys)/\ys.length<sizeLine/\∃ n',n'<n/\CW K H0 Z0 b tc te p PD xs zs (i+1) n' σ3 (upd H5 p (.lst (ys++[v])))
   else ∃ n',n'<n/\CW K H0 Z0 b tc te p PD xs zs (i+1) n' σ3 H4):=by
 refine Bo fun G kG=>?_
 obtain ⟨rfl,hi,ρi,ws,s',h'⟩:=w
 obtain ⟨i1,i2⟩:=it ws σ' H' ρi i s'
 by_cases hlt:i<xs.length
 . obtain ⟨go,yl⟩:=i1 _ (aaC hlt)
   rw [abn hlt] at h'
   obtain ⟨ρ1,e1,e2⟩:=acf h'
   obtain ⟨c,e3,e4⟩:=acf e2
   have hn:xs.length-(i+1)<xs.length-i:=by omega
   refine kG (.inr ⟨go,fun x H2 hy=>hb H0 Z0 σ' H2 ρi _ x _ ρ1 _ (yl x H2 hy) e1 fun σ2 s5=>⟨H0,Z0,ρ1,_,c.1,c.2,s5,e3,fun H4 s6=>?_⟩⟩)
   dsimp only
   split
   . rename_i hc
     refine Bo fun G kG=>?_
     rw [ab7 hc] at e4
     obtain ⟨v,e5,e6⟩:=acf e4
     split at e6
     . rename_i hz
       refine kG ⟨H0,Z0,c.2,_,v.1,v.2,s6,e5,fun vv H5 s7=>?_⟩
       refine Bo fun G kG=>?_
       obtain ⟨us,hu,hl,s8⟩:=s7.pushO
       exact kG ⟨us,hu,by rw [hl,sizeLine_eq]; omega,_,hn,rfl,hlt,v.2,_,s8,e6⟩
     . cases e6
   . rename_i hc
     rw [ab8 hc] at e4
     exact ⟨_,hn,rfl,hlt,c.2,ws,s6,e4⟩
 . have e:i=xs.length:=Nat.le_antisymm hi (abJ hlt)
   subst e
   rw [ab3] at h'
   exact kG (.inl ⟨i2 rfl,fin _ _ _ _ s' h'⟩)
theorem Qk {f:IF} {m:Nat} {ixs:List Nat} {g:TG} {b:BF} {tc:TF} {te:EF} (hb:GS K g b):∀ σ H Q,tP K (eO f m ixs b tc te) σ H Q->Rt (Dd K f) m ixs g (gO K tc) (tP K te) σ H Q:=fun σ H Q q=>by
 refine Bo fun G kG=>?_
 obtain ⟨H0,Z0,ρ,pd,r,ρ',s,h,k⟩:=q
 obtain ⟨y,h1,h2⟩:=acf h
 obtain ⟨zs,h3,h4⟩:=acg h2
 cases h4
 refine kG ⟨H0,Z0,ρ,pd,y.1,y.2,s,h1,fun J H1 pd' s1 it sub p hp=>?_⟩
 have s2:SR K H0 Z0 σ H1 (ji ixs y.2) pd':=s1.frz
 have s3:=s2.block (m:=m) (ixs:=ixs) fun j hj=>Ms hj
 have s4:SR K H0 Z0 (v7 m ixs σ) (upd H1 p (.lst [])) (qZ m ixs (ji ixs y.2)) ((.ref p,.own (.lst []))::(pR σ (ji ixs y.2)++pd')):=s3.newO hp fun Z _ _=>⟨[],bM,.nil⟩
 refine ⟨CW K H0 Z0 b tc te p (pR σ (ji ixs y.2)++pd') y.1 zs,⟨_,rfl,aa3 _,_,[],s4,h3⟩,Mt hb (fun ws=>m7.more (pe:=(.ref p,.own (.lst ws))::pR σ (ji ixs y.2)) it) fun σ' H' ρi ws s' h'=>?_⟩
 cases h'
 have s5:SR K H0 Z0 σ' H' ρi (pR σ (ji ixs y.2)++((.ref p,.own (.lst ws))::pd')):=s'.perm aaW
 exact k _ _ ((SR.back s2.1 s2.both s5).sub (sub.cons_cons _))
section
variable {X:Cx}
theorem oW (M F:List Str) (ixs:List Nat) {sc:Scope} {tg iter elt:Expr} {ifs:List Expr} {f:IF} {g:TG} {b:BF} {tc:TF} {te:EF} {pos:Pos} (hcalm:X.calm=true) (c:jN X M F ixs sc) (hi:PI X tg iter (Dd X.K f))
 (hg:∀ C fp s H,PG (iR X M F sc C fp s H) tg g) (hb:GS X.K g b) (hc:∀ C fp s H,Bf (iR X M F sc C fp s H) ifs (gO X.K tc)) (he:∀ C fp s H,PE (iR X M F sc C fp s H) elt (tP X.K te))
 (hs:∀ x,foldedSetIterable iter X.env x=pure x:=by intro _; rfl):PE X (.ListComp elt [⟨tg,iter,ifs,0⟩] sc pos) (tP X.K (eO f M.length ixs b tc te)):=PE.imp (TQ M F ixs hcalm c hi hg hc he hs) (Qk hb)
def dq:TF:=fun ρ=>some (true,ρ)
theorem jd:Bf X [] (gO X.K dq):=fun pins s σ H Q I q=>PB pins s σ H Q I (by
 obtain ⟨H0,Z0,ρ,pd,b,ρ',s,h,k⟩:=q
 cases h
 exact k H s)
end
def uU (f:PV->PV->Option Bool):List PV->List PV->Option Bool
 | p::ps,q::qs=>(f p q).bind fun b=>(uU f ps qs).map fun c=>b&&c
 | _,_=>some true
def lQ:Nat->PV->PV->Option Bool
 | 0,_,_=>none
 | n+1,p,q=>match p,q with
  | .tup ps,.tup qs=>(uU (lQ n) ps qs).map fun b=>b&&(ps.length==qs.length)
  | .lst ps,.lst qs=>if ps.length=qs.length then uU (lQ n) ps qs else some false
  | .non,.non=>some true
  | .bl a,.bl b=>some (a==b)
  | .int a,.int b=>some (a==b)
  | .str a,.str b=>some (a==b)
  | .bl a,.int b=>some ((if a then 1 else 0)==b)
  | .int a,.bl b=>some (a==(if b then 1 else 0))
  | .non,.bl _=>some false
  | .non,.int _=>some false
  | .non,.str _=>some false
  | .non,.tup _=>some false
  | .non,.lst _=>some false
  | .bl _,.non=>some false
  | .bl _,.str _=>some false
  | .bl _,.tup _=>some false
  | .bl _,.lst _=>some false
  | .int _,.non=>some false
  | .int _,.str _=>some false
  | .int _,.tup _=>some false
  | .int _,.lst _=>some false
  | .str _,.non=>some false
  | .str _,.bl _=>some false
  | .str _,.int _=>some false
  | .str _,.tup _=>some false
  | .str _,.lst _=>some false
  | .tup _,.non=>some false
  | .tup _,.bl _=>some false
  | .tup _,.int _=>some false
  | .tup _,.str _=>some false
  | .tup _,.lst _=>some false
  | .lst _,.non=>some false
  | .lst _,.bl _=>some false
  | .lst _,.int _=>some false
  | .lst _,.str _=>some false
  | .lst _,.tup _=>some false
  | _,_=>none
theorem xq {f:PV->PV->Option Bool}:∀ {ps qs:List PV} {b:Bool},uU f ps qs=some b->(∀ (j:Nat) p q,ps[j]?=some p->qs[j]?=some q->f p q=some ((f (ps.getD j .non) (qs.getD j .non)).getD false))/\
 b=(List.range (min ps.length qs.length)).all fun j=>(f (ps.getD j .non) (qs.getD j .non)).getD false
 | [],qs,b,h=>by
  cases h
  exact ⟨fun j p q e=>by simp at e,by simp⟩
 | p::ps,[],b,h=>by
  cases h
  exact ⟨fun j p q _ e=>by simp at e,by simp⟩
 | p::ps,q::qs,b,h=>by
  obtain ⟨c,h1,h2⟩:=acf h
  obtain ⟨d,h3,rfl⟩:=acg h2
  obtain ⟨i1,i2⟩:=xq h3
  refine ⟨fun j p' q' e1 e2=>?_,?_⟩
  . cases j with
    | zero=>
     simp at e1 e2
     subst e1 e2
     simp [h1]
    | succ j=>
     have:=i1 j p' q' (by simpa using e1) (by simpa using e2)
     simpa using this
  . have e:min (p::ps).length (q::qs).length=min ps.length qs.length+1:=by simp only [aae]; omega
    rw [e,List.range_succ_eq_map,List.all_cons,List.all_map]
    have e0:(f ((p::ps).getD 0 .non) ((q::qs).getD 0 .non)).getD false=c:=by simp [h1]
    rw [e0,i2]
    rfl
theorem elts {Z:ZG} {ps:List PV} {vs:List V} {its:List Value} (r:aJ K Z ps vs) (rv:Vals vs its) {j:Nat} (h:j<its.length):∃ p v,ps[j]?=some p/\Rep K Z p v/\RelV v its[j]:=by
 have hl:=rv.length
 have hv:vs[j]?=some vs[j]:=aaC (by omega)
 obtain ⟨u,e1,e2⟩:=rv.get hv
 rw [aaC h] at e1
 cases e1
 obtain ⟨p,e3,e4⟩:=r.getV hv
 exact ⟨p,vs[j],e3,e4,e2⟩
section
open PySem.SeqAt
variable {X:Cx} {pins:List (Addr×Obj)} {σ:L2.St} {H:Hp} {s:Shared} {g:List Addr}
theorem wk (I:Inv X pins σ H s) {ps:List PV} {v:V} {u:Value} (r:Rep X.K ⟨H,g⟩ (.tup ps) v) (ru:RelV v u):∃ a vs its,u=.ref a/\cI X.K H a vs/\aJ X.K ⟨H,g⟩ ps vs/\Vals vs its/\s.heap.IsTuple a its.toArray:=by
 unfold Rep at r
 obtain ⟨a,vs,rfl,h1,h2⟩:=r
 obtain ⟨its,r1,t1,_⟩:=I.tuple h1
 exact ⟨a,vs,its,ru,h1,h2,r1,t1⟩
theorem wu (I:Inv X pins σ H s) {ps:List PV} {v:V} {u:Value} (r:Rep X.K ⟨H,g⟩ (.lst ps) v) (ru:RelV v u):∃ a vs its,u=.ref a/\bI X.K H a vs/\aJ X.K ⟨H,g⟩ ps vs/\Vals vs its/\s.heap.IsList a its.toArray:=by
 unfold Rep at r
 obtain ⟨a,vs,rfl,h1,h2⟩:=r
 obtain ⟨its,r1,t1,_⟩:=I.list h1
 exact ⟨a,vs,its,ru,h1,h2,r1,t1.isList⟩
def kn:PV->Nat
 | .non=>0 | .bl _=>1 | .int _=>2 | .str _=>3 | .tup _=>4 | .lst _=>5 | _=>6
theorem Y6 {p:PV} (h:kn p=4):∃ ps,p=.tup ps:=by cases p<;>first | exact ⟨_,rfl⟩ | cases h
theorem Y7 {p:PV} (h:kn p=5):∃ ps,p=.lst ps:=by cases p<;>first | exact ⟨_,rfl⟩ | cases h
theorem J7 {n:Nat} {p q:PV} {b:Bool} (h:lQ (n+1) p q=some b):kn p<6:=by
 cases p<;>first | cases h; done | exact Nat.le.step (Nat.le.step (Nat.le.step (Nat.le.step (Nat.le.step .refl)))) | exact Nat.le.step (Nat.le.step (Nat.le.step (Nat.le.step .refl))) | exact Nat.le.step (Nat.le.step (Nat.le.step .refl)) | exact Nat.le.step (Nat.le.step .refl) | exact Nat.le.step .refl | exact Nat.le.refl
theorem Rz {n:Nat} {p q:PV} {b:Bool} (h:lQ (n+1) p q=some b):kn q<6:=by
 have no:lQ (n+1) p q=none->kn q<6:=fun e=>absurd (h.symm.trans e) (Option.some_ne_none b)
 cases q with
 | dk _ _=>exact no (by cases p<;>rfl)
 | dt _ _=>exact no (by cases p<;>rfl)
 | obj _ _ _=>exact no (by cases p<;>rfl)
 | df _ _=>exact no (by cases p<;>rfl)
 | dtf _ _=>exact no (by cases p<;>rfl)
 | dx _ _ _=>exact no (by cases p<;>rfl)
 | exc _=>exact no (by cases p<;>rfl)
 | ptr _=>exact no (by cases p<;>rfl)
 | _=>first | exact Nat.le.step (Nat.le.step (Nat.le.step (Nat.le.step (Nat.le.step .refl)))) | exact Nat.le.step (Nat.le.step (Nat.le.step (Nat.le.step .refl))) | exact Nat.le.step (Nat.le.step (Nat.le.step .refl)) | exact Nat.le.step (Nat.le.step .refl) | exact Nat.le.step .refl | exact Nat.le.refl
def back:V->Option PV
 | .non=>some .non | .bl b=>some (.bl b) | .int i=>some (.int i) | .str x=>some (.str x) | _=>none
inductive Sh (K:FG) (Z:ZG) (v:V):PV->Prop
 | at {p:PV}:back v=some p->Sh K Z v p
 | tup {a:Addr} {ps:List PV} {vs:List V}:v=.ref a->cI K Z.z a vs->aJ K Z ps vs->Sh K Z v (.tup ps)
 | lst {a:Addr} {ps:List PV} {vs:List V}:v=.ref a->bI K Z.z a vs->aJ K Z ps vs->Sh K Z v (.lst ps)
theorem RB {Z:ZG} {v:V} {p:PV} (r:Rep K Z p v) (h:kn p<6):Sh K Z v p:=by
 cases p with
 | non=>exact .at (congrArg back (gk r))
 | bl b=>exact .at (congrArg back (dC r))
 | int b=>exact .at (congrArg back (bH r))
 | str b=>exact .at (congrArg back (dw r))
 | tup ps=>unfold Rep at r; obtain ⟨a,vs,e,h1,h2⟩:=r; exact .tup e h1 h2
 | lst ps=>unfold Rep at r; obtain ⟨a,vs,e,h1,h2⟩:=r; exact .lst e h1 h2
 | _=>exact absurd h (aba 6)
inductive Tw (K:FG) (Z:ZG):PV->PV->Prop
 | at {v:V} {p:PV}:back v=some p->Tw K Z p p
 | tup {ps qs:List PV} {vs:List V}:aJ K Z ps vs->aJ K Z qs vs->Tw K Z (.tup ps) (.tup qs)
 | lst {ps qs:List PV} {vs:List V}:aJ K Z ps vs->aJ K Z qs vs->Tw K Z (.lst ps) (.lst qs)
theorem RC (I:Inv X pins σ H s) {a:Addr} {vs ws:List V} (h1:cI X.K H a vs) (h3:bI X.K H a ws):False:=by
 obtain ⟨its,r1,⟨o1,n1,g1,c1,_⟩,_⟩:=I.list h3
 obtain ⟨its2,r2,⟨o2,g2,c2,_⟩,_⟩:=I.tuple h1
 rw [g1] at g2
 cases g2
 rw [c1] at c2
 exact absurd c2 (by decide)
theorem uV {v:V} {a:Addr} {p:PV} (e:v=.ref a) (h:back v=some p):False:=by subst e; cases h
theorem Sh.two (I:Inv X pins σ H s) {p q:PV} {v:V} (h1:Sh X.K ⟨H,g⟩ v p) (h2:Sh X.K ⟨H,g⟩ v q):Tw X.K ⟨H,g⟩ p q:=by
 cases h1 with
 | «at» e=>
  cases h2 with
  | «at» e'=>exact (aaB (e.symm.trans e'))▸.at e
  | tup e'=>exact (uV e' e).elim
  | lst e'=>exact (uV e' e).elim
 | tup e k1 k2=>
  cases h2 with
  | «at» e'=>exact (uV e e').elim
  | tup e' m1 m2=>exact .tup k2 (I.tuple_inj k1 (V.ref.inj (e'.symm.trans e)▸m1)▸m2)
  | lst e' m1=>exact (RC I k1 (V.ref.inj (e'.symm.trans e)▸m1)).elim
 | lst e k1 k2=>
  cases h2 with
  | «at» e'=>exact (uV e e').elim
  | tup e' m1=>exact (RC I m1 (V.ref.inj (e.symm.trans e')▸k1)).elim
  | lst e' m1 m2=>exact .lst k2 (I.list_inj k1 (V.ref.inj (e'.symm.trans e)▸m1)▸m2)
theorem Wx {n:Nat} {v:V} {p:PV} {b:Bool} (e:back v=some p) (h:lQ (n+1) p p=some b):b=true:=by
 cases v with
 | non=>cases e; cases h; rfl
 | bl z=>cases e; cases h; exact ace z
 | int z=>cases e; cases h; exact ace z
 | str z=>cases e; cases h; exact ace z
 | _=>cases e
theorem ww {f:PV->PV->Option Bool} {Z:ZG} (ih:∀ (p q:PV) (v:V) (b:Bool),Rep K Z p v->Rep K Z q v->f p q=some b->b=true):∀ {ps qs:List PV} {vs:List V} {c:Bool},aJ K Z ps vs->aJ K Z qs vs->uU f ps qs=some c->c=true
 | [],qs,vs,c,a,b,h=>by cases h; rfl
 | p::ps,[],vs,c,a,b,h=>by cases h; rfl
 | p::ps,q::qs,vs,c,a,b,h=>by
  obtain ⟨w1,r1,e1,e2,e3⟩:=a.inv
  obtain ⟨w2,r2,f1,f2,f3⟩:=b.inv
  obtain ⟨g1,g2⟩:=List.cons.inj (e1.symm.trans f1)
  subst g1 g2
  obtain ⟨c,h1,h2⟩:=acf h
  obtain ⟨d,h3,rfl⟩:=acg h2
  rw [ih _ _ _ _ e2 f2 h1,ww ih e3 f3 h3]
  rfl
theorem eq_self (I:Inv X pins σ H s):∀ (n:Nat) {p q:PV} {v:V} {b:Bool},Rep X.K ⟨H,g⟩ p v->Rep X.K ⟨H,g⟩ q v->lQ n p q=some b->b=true
 | 0,p,q,v,b,_,_,h=>by cases h
 | n+1,p,q,v,b,rp,rq,h=>by
  cases Sh.two I (RB rp (J7 h)) (RB rq (Rz h)) with
  | «at» e=>exact Wx e h
  | tup h2 h4=>
   obtain ⟨c,h5,rfl⟩:=acg h
   rw [ww (fun _ _ _ _=>eq_self I n) h2 h4 h5,h2.length.symm.trans h4.length,ace]
   rfl
  | lst h2 h4=>exact ww (fun _ _ _ _=>eq_self I n) h2 h4 ((ab7 (h2.length.symm.trans h4.length)).symm.trans h)
inductive U (s:Shared):PV->Value->Prop
 | non:U s .non .none
 | bl {b:Bool}:U s (.bl b) (.bool b)
 | int {i:Int} {t}:U s (.int i) (.int i t)
 | str {x:Str} {t}:U s (.str x) (.str x t)
 | tup {ps:List PV} {a:Addr} {its}:s.heap.IsTuple a its->U s (.tup ps) (.ref a)
 | lst {ps:List PV} {a:Addr} {its}:s.heap.IsList a its->U s (.lst ps) (.ref a)
theorem Wy (I:Inv X pins σ H s) {p:PV} {v:V} {u:Value} (r:Rep X.K ⟨H,g⟩ p v) (ru:RelV v u) (h:kn p<6):U s p u:=by
 cases p with
 | non=>cases gk r; cases ru; exact .non
 | bl b=>cases dC r; cases ru; exact .bl
 | int b=>cases bH r; obtain ⟨t,rfl⟩:=ru; exact .int
 | str b=>cases dw r; obtain ⟨t,rfl⟩:=ru; exact .str
 | tup ps=>obtain ⟨a,vs,its,rfl,_,_,_,x⟩:=wk I r ru; exact .tup x
 | lst ps=>obtain ⟨a,vs,its,rfl,_,_,_,x⟩:=wu I r ru; exact .lst x
 | _=>exact absurd h (aba 6)
def E3 (A:Around) (s:Shared) (x y:Value) (b:Bool):Prop:=EqAt A s x y b/\RcAt A s x y b/\RcNeAt A s x y (!b)
theorem E3.of {A:Around} {s:Shared} {x y:Value} {b c:Bool} (h:some c=some b) (e:EqAt A s x y c) (r:RcAt A s x y c) (q:RcNeAt A s x y (!c)):E3 A s x y b:=aaB h▸⟨e,r,q⟩
def two (p q:PV):Bool:=kn p==kn q&&Nat.ble 4 (kn p)
theorem Ua {A:Around} {p q:PV} {u1 u2:Value} {n:Nat} {b:Bool} (hu:A.units<cLine) (h1:U s p u1) (h2:U s q u2) (e:two p q=false) (h:lQ (n+1) p q=some b):E3 A s u1 u2 b:=by
 cases h1 with
 | non=>
  cases h2 with
  | non=>exact E3.of h (EqAt.same .none) RcAt.none_none RcNeAt.none_none
  | bl=>exact E3.of h (EqAt.none_bool _) (RcAt.none_bool _) (RcNeAt.none_bool _)
  | int=>exact E3.of h (EqAt.none_int _ _) (RcAt.none_int _ _) (RcNeAt.none_int _ _)
  | str=>exact E3.of h (EqAt.none_str _ _) (RcAt.none_str _ _) (RcNeAt.none_str _ _)
  | tup x2=>exact E3.of h (EqAt.none_tuple x2 hu) (RcAt.none_tuple x2 hu) (RcNeAt.none_tuple x2 hu)
  | lst x2=>exact E3.of h (EqAt.none_list x2 hu) (RcAt.none_list x2 hu) (RcNeAt.none_list x2 hu)
 | bl=>
  cases h2 with
  | non=>exact E3.of h (EqAt.bool_none _) (RcAt.bool_none _) (RcNeAt.bool_none _)
  | bl=>exact E3.of h (EqAt.bool_bool _ _) (RcAt.bool_bool _ _) (RcNeAt.bool_bool _ _)
  | int=>exact E3.of h (EqAt.bool_int _ _ _) (RcAt.bool_int _ _ _) (RcNeAt.bool_int _ _ _)
  | str=>exact E3.of h (EqAt.bool_str _ _ _) (RcAt.bool_str _ _ _) (RcNeAt.bool_str _ _ _)
  | tup x2=>exact E3.of h (EqAt.bool_tuple _ x2 hu) (RcAt.bool_tuple _ x2 hu) (RcNeAt.bool_tuple _ x2 hu)
  | lst x2=>exact E3.of h (EqAt.bool_list _ x2 hu) (RcAt.bool_list _ x2 hu) (RcNeAt.bool_list _ x2 hu)
 | int=>
  cases h2 with
  | non=>exact E3.of h (EqAt.int_none _ _) (RcAt.int_none _ _) (RcNeAt.int_none _ _)
  | bl=>exact E3.of h (EqAt.int_bool _ _ _) (RcAt.int_bool _ _ _) (RcNeAt.int_bool _ _ _)
  | int=>exact E3.of h (EqAt.int_int _ _ _ _) (RcAt.int_int _ _ _ _) (RcNeAt.int_int _ _ _ _)
  | str=>exact E3.of h (EqAt.int_str _ _ _ _) (RcAt.int_str _ _ _ _) (RcNeAt.int_str _ _ _ _)
  | tup x2=>exact E3.of h (EqAt.int_tuple _ _ x2 hu) (RcAt.int_tuple _ _ x2 hu) (RcNeAt.int_tuple _ _ x2 hu)
  | lst x2=>exact E3.of h (EqAt.int_list _ _ x2 hu) (RcAt.int_list _ _ x2 hu) (RcNeAt.int_list _ _ x2 hu)
 | str=>
  cases h2 with
  | non=>exact E3.of h (EqAt.str_none _ _) (RcAt.str_none _ _) (RcNeAt.str_none _ _)
  | bl=>exact E3.of h (EqAt.str_bool _ _ _) (RcAt.str_bool _ _ _) (RcNeAt.str_bool _ _ _)
  | int=>exact E3.of h (EqAt.str_int _ _ _ _) (RcAt.str_int _ _ _ _) (RcNeAt.str_int _ _ _ _)
  | str=>exact E3.of h (EqAt.str_str _ _ _ _) (RcAt.str_str _ _ _ _) (RcNeAt.str_str _ _ _ _)
  | tup x2=>exact E3.of h (EqAt.str_tuple _ _ x2 hu) (RcAt.str_tuple _ _ x2 hu) (RcNeAt.str_tuple _ _ x2 hu)
  | lst x2=>exact E3.of h (EqAt.str_list _ _ x2 hu) (RcAt.str_list _ _ x2 hu) (RcNeAt.str_list _ _ x2 hu)
 | tup x1=>
  cases h2 with
  | non=>exact E3.of h (EqAt.tuple_none x1 hu) (RcAt.tuple_none x1 hu) (RcNeAt.tuple_none x1 hu)
  | bl=>exact E3.of h (EqAt.tuple_bool _ x1 hu) (RcAt.tuple_bool _ x1 hu) (RcNeAt.tuple_bool _ x1 hu)
  | int=>exact E3.of h (EqAt.tuple_int _ _ x1 hu) (RcAt.tuple_int _ _ x1 hu) (RcNeAt.tuple_int _ _ x1 hu)
  | str=>exact E3.of h (EqAt.tuple_str _ _ x1 hu) (RcAt.tuple_str _ _ x1 hu) (RcNeAt.tuple_str _ _ x1 hu)
  | tup x2=>cases e
  | lst x2=>exact E3.of h (EqAt.tuple_list x1 x2 hu) (RcAt.tuple_list x1 x2 hu) (RcNeAt.tuple_list x1 x2 hu)
 | lst x1=>
  cases h2 with
  | non=>exact E3.of h (EqAt.list_none x1 hu) (RcAt.list_none x1 hu) (RcNeAt.list_none x1 hu)
  | bl=>exact E3.of h (EqAt.list_bool _ x1 hu) (RcAt.list_bool _ x1 hu) (RcNeAt.list_bool _ x1 hu)
  | int=>exact E3.of h (EqAt.list_int _ _ x1 hu) (RcAt.list_int _ _ x1 hu) (RcNeAt.list_int _ _ x1 hu)
  | str=>exact E3.of h (EqAt.list_str _ _ x1 hu) (RcAt.list_str _ _ x1 hu) (RcNeAt.list_str _ _ x1 hu)
  | tup x2=>exact E3.of h (EqAt.list_tuple x1 x2 hu) (RcAt.list_tuple x1 x2 hu) (RcNeAt.list_tuple x1 x2 hu)
  | lst x2=>cases e
theorem uW {v:V} {a:Addr} (r:RelV v (.ref a)):v=.ref a:=by
 cases v with
 | ref b=>cases r; rfl
 | non=>cases r
 | bl _=>cases r
 | ty _=>cases r
 | _=>obtain ⟨t,e⟩:=r; cases e
theorem FQ (I:Inv X pins σ H s) {n:Nat} {p q:PV} {a1 a2:Addr} {b:Bool} {A:Around} (rp:Rep X.K ⟨H,g⟩ p (.ref a1)) (rq:Rep X.K ⟨H,g⟩ q (.ref a2)) (h:lQ n p q=some b) (rc:RcAt A s (.ref a1) (.ref a2) b):EqAt A s (.ref a1) (.ref a2) b:=by
 by_cases ea:a1=a2
 . subst ea
   exact eq_self I n rp rq h▸EqAt.same _
 . exact EqAt.of_refs ea rc
theorem Ej (I:Inv X pins σ H s):∀ (n:Nat) {p q:PV} {v w:V} {u1 u2:Value} {b:Bool},Rep X.K ⟨H,g⟩ p v->Rep X.K ⟨H,g⟩ q w->RelV v u1->RelV w u2->lQ n p q=some b->∀ A:Around,A.units+n<cLine->
 EqAt A s u1 u2 b/\RcAt A s u1 u2 b/\RcNeAt A s u1 u2 (!b)
 | 0,p,q,v,w,u1,u2,b,_,_,_,_,h,_,_=>by cases h
 | n+1,p,q,v,w,u1,u2,b,rp,rq,r1,r2,h,A,hA=>by
  have hu:A.units<cLine:=abC (abK _ _) hA
  have hin:A.in1.units+n<cLine:=by show A.units+1+n<cLine; omega
  have item:∀ {ps qs:List PV} {vs ws:List V} {its its2:List Value} {c:Bool},aJ X.K ⟨H,g⟩ ps vs->Vals vs its->aJ X.K ⟨H,g⟩ qs ws->Vals ws its2->uU (lQ n) ps qs=some c->
   ∀ j (h1:j<its.toArray.size) (h2:j<its2.toArray.size),EqAt A.in1 s its.toArray[j] its2.toArray[j] ((lQ n (ps.getD j .non) (qs.getD j .non)).getD false):=fun {ps qs vs ws its its2 c} a b c' d e j h1 h2=>by
   obtain ⟨p,v,e1,e2,e3⟩:=elts a b (j:=j) (by simpa using h1)
   obtain ⟨q,w,f1,f2,f3⟩:=elts c' d (j:=j) (by simpa using h2)
   have:=(xq e).1 j p q e1 f1
   exact (Ej I n e2 f2 e3 f3 this A.in1 hin).1
  cases e:two p q with
  | false=>exact Ua hu (Wy I rp r1 (J7 h)) (Wy I rq r2 (Rz h)) e h
  | true=>
   have e':kn p=kn q/\4<=kn p:=by unfold two at e; simpa using e
   have hk:=J7 h
   rcases (by omega:kn p=4\/kn p=5) with hp | hp
   . obtain ⟨ps,rfl⟩:=Y6 hp
     obtain ⟨qs,rfl⟩:=Y6 (e'.1.symm.trans hp)
     clear e e' hk hp
     obtain ⟨a1,vs1,its1,rfl,q1,l1,rv1,x1⟩:=wk I rp r1
     obtain ⟨a2,vs2,its2,rfl,q2,l2,rv2,x2⟩:=wk I rq r2
     have e1:=uW r1
     have e2:=uW r2
     subst e1 e2
     obtain ⟨c,h5,rfl⟩:=acg h
     have it:=item l1 rv1 l2 rv2 h5
     have z1:its1.toArray.size=ps.length:=by rw [aar,← rv1.length,l1.length]
     have z2:its2.toArray.size=qs.length:=by rw [aar,← rv2.length,l2.length]
     have rc:=RcAt.tuples x1 x2 hu it
     have rn:=RcNeAt.tuples x1 x2 hu it
     rw [z1,z2,← (xq h5).2] at rc rn
     exact ⟨FQ I rp rq h rc,rc,rn⟩
   . obtain ⟨ps,rfl⟩:=Y7 hp
     obtain ⟨qs,rfl⟩:=Y7 (e'.1.symm.trans hp)
     clear e e' hk hp
     obtain ⟨a1,vs1,its1,rfl,q1,l1,rv1,x1⟩:=wu I rp r1
     obtain ⟨a2,vs2,its2,rfl,q2,l2,rv2,x2⟩:=wu I rq r2
     have e1:=uW r1
     have e2:=uW r2
     subst e1 e2
     have z1:its1.toArray.size=ps.length:=by rw [aar,← rv1.length,l1.length]
     have z2:its2.toArray.size=qs.length:=by rw [aar,← rv2.length,l2.length]
     by_cases hl:ps.length=qs.length
     . have h':=(ab7 hl).symm.trans h
       have it:=item l1 rv1 l2 rv2 h'
       have hz:=(z1.trans hl).trans z2.symm
       have rc:=RcAt.lists x1 x2 hz hu it
       have rn:=RcNeAt.lists x1 x2 hz hu it
       rw [z1,← (show min ps.length qs.length=ps.length by rw [← hl,Nat.min_self]),← (xq h').2] at rc rn
       exact ⟨FQ I rp rq h rc,rc,rn⟩
     . have h':=aaB ((ab8 hl).symm.trans h)
       subst h'
       have hz:(its1.toArray.size != its2.toArray.size)=true:=by rw [z1,z2]; exact bne_iff_ne.mpr hl
       have rc:=RcAt.lists_lengths x1 x2 hz hu
       exact ⟨FQ I rp rq h rc,rc,RcNeAt.lists_lengths x1 x2 hz hu⟩
end
section
open PySem.SeqAt
variable {X:Cx} {pins:List (Addr×Obj)} {σ:L2.St} {H:Hp} {s:Shared} {g:List Addr}
def Ql (f:PV->PV->Option Bool) (x:PV):List PV->Option Bool
 | []=>some false
 | q::qs=>(f q x).bind fun b=>(Ql f x qs).map fun c=>b||c
end
section
variable {X:Cx}
theorem SR.rep2 {v w:V} {p q:PV} (h:SR K H0 Z0 σ H ρ ((w,.sh q)::(v,.sh p)::pd)):∃ Z:ZG,cZ Z.z H/\Rep K Z p v/\Rep K Z q w:=by
 obtain ⟨_,Z,_,z,r,s⟩:=h.sh
 obtain ⟨x,e1,e2⟩:=(s.perm bZ.symm).1 _ aab
 cases e1
 exact ⟨Z,z.zh,e2,r⟩
theorem SR.rep2H {v w:V} {p q:PV} (h:SR K H0 Z0 σ H ρ ((w,.sh q)::(v,.sh p)::pd)):∃ g,Rep K ⟨H,g⟩ p v/\Rep K ⟨H,g⟩ q w:=by
 obtain ⟨Z,z,a,b⟩:=h.rep2
 exact ⟨Z.g,a.mono (Z':=⟨H,Z.g⟩) ⟨z,aa8 _⟩,b.mono (Z':=⟨H,Z.g⟩) ⟨z,aa8 _⟩⟩
def FT (K:FG) (neg:Bool):R2:=fun x y H Q=>∃ g p q b,Rep K ⟨H,g⟩ p x/\Rep K ⟨H,g⟩ q y/\lQ 150 p q=some b/\Q (.bl (if neg then !b else b)) H
theorem fP {b:Bool} {k:Nat} (hr:fL b k X.A):eN X (compareOp .Eq) (FT X.K false):=by
 intro pins s σ H x y v u Q I rx ry h
 obtain ⟨g,p,q,b,rp,rq,e,k'⟩:=h
 have hA:X.A.units+150<cLine:=by have:=hr.un; omega
 obtain ⟨_,rc,_⟩:=Ej I 150 rp rq rx ry e X.A hA
 exact rc _ _ _ _ ⟨.bl b,H,I,rfl,k'⟩
theorem wy {b:Bool} {k:Nat} (hr:fL b k X.A):eN X (compareOp .NotEq) (FT X.K true):=by
 intro pins s σ H x y v u Q I rx ry h
 obtain ⟨g,p,q,b,rp,rq,e,k'⟩:=h
 have hA:X.A.units+150<cLine:=by have:=hr.un; omega
 obtain ⟨_,_,rn⟩:=Ej I 150 rp rq rx ry e X.A hA
 exact rn _ _ _ _ ⟨.bl (!b),H,I,rfl,k'⟩
def eqP (p q:PV):Option Lc:=(lQ 150 p q).map fun b=>.sh (.bl b)
def yq (p q:PV):Option Lc:=(lQ 150 p q).map fun b=>.sh (.bl (!b))
theorem fQ:iU K (FT K false) eqP:=by
 intro H0 Z0 σ ρ pd H v w x y l Q s e k
 obtain ⟨b,e1,rfl⟩:=acg e
 obtain ⟨g,r1,r2⟩:=s.rep2H
 exact ⟨g,x,y,b,r1,r2,e1,k _ H (s.pop.pop.scal dM)⟩
theorem wz:iU K (FT K true) yq:=by
 intro H0 Z0 σ ρ pd H v w x y l Q s e k
 obtain ⟨b,e1,rfl⟩:=acg e
 obtain ⟨g,r1,r2⟩:=s.rep2H
 exact ⟨g,x,y,b,r1,r2,e1,k _ H (s.pop.pop.scal dM)⟩
def isIn (x y:PV):Option Bool:=match y with
 | .lst qs=>Ql (lQ 150) x qs
 | .tup qs=>Ql (lQ 150) x qs
 | .str j=>match x with
  | .str i=>some (!(Builtin.Str.occurrences j i 0 j.length 1).isEmpty)
  | _=>none
 | _=>none
def RD:PV->Bool
 | .non=>true
 | _=>false
def Qm (p q:PV):Option Lc:=match q with
 | .non=>some (.sh (.bl (RD p)))
 | _=>none
theorem Ub {Z:ZG} {p:PV} {v:V} (r:Rep K Z p v):decide (v=.non)=RD p:=by
 cases p with
 | non=>have:=gk r; subst this; rfl
 | bl b=>have:=dC r; subst this; rfl
 | int b=>have:=bH r; subst this; rfl
 | str b=>have:=dw r; subst this; rfl
 | tup ps=>unfold Rep at r; obtain ⟨a,vs,rfl,_⟩:=r; rfl
 | lst ps=>unfold Rep at r; obtain ⟨a,vs,rfl,_⟩:=r; rfl
 | dk ks ps=>unfold Rep at r; obtain ⟨a,vs,rfl,_⟩:=r; rfl
 | dt ks ps=>unfold Rep at r; obtain ⟨a,vs,rfl,_⟩:=r; rfl
 | obj c ks ps=>unfold Rep at r; obtain ⟨a,c,dx,fs,rfl,_⟩:=r; rfl
 | df ks ps=>unfold Rep at r; obtain ⟨a,o,kvs,rfl,_⟩:=r; rfl
 | dtf ks ps=>unfold Rep at r; obtain ⟨a,o,kvs,rfl,_⟩:=r; rfl
 | dx hk ks ps=>unfold Rep at r; obtain ⟨a,xs,rfl,_⟩:=r; rfl
 | exc n=>unfold Rep at r; obtain ⟨a,c,rfl,_⟩:=r; rfl
 | ptr n=>unfold Rep at r; obtain ⟨a,rfl,_⟩:=r; rfl
theorem Ij:iU K (fun x y H Q=>y=.non/\Q (.bl (decide (x=.non))) H) Qm:=by
 intro H0 Z0 σ ρ pd H v w x y l Q s e k
 obtain ⟨g,r1,r2⟩:=s.rep2H
 cases y with
 | non=>
  have e':=aaB e
  subst e'
  refine ⟨gk r2,?_⟩
  rw [Ub r1]
  exact k _ H (s.pop.pop.scal dM)
 | _=>cases e
def wA:=sO (fun _ _=>true) fun i j=>.bl (decide (i<j))
def zP:=sO (fun _ _=>true) fun i j=>.bl (decide (i<=j))
def zQ:=sO (fun _ _=>true) fun i j=>.bl (decide (j<i))
def RG:=sO (fun _ _=>true) fun i j=>.bl (decide (j<=i))
theorem zR:iU K (qW fun i j=>.bl (decide (i<j))) wA:=v9 fun _ _ _=>dM _
theorem FZ:iU K (qW fun i j=>.bl (decide (i<=j))) zP:=v9 fun _ _ _=>dM _
theorem Ga:iU K (qW fun i j=>.bl (decide (j<i))) zQ:=v9 fun _ _ _=>dM _
theorem Wz:iU K (qW fun i j=>.bl (decide (j<=i))) RG:=v9 fun _ _ _=>dM _
def m8:=sO (fun _ _=>true) fun i j=>.int (i-j)
def cF:=sO (fun _ j=>decide (0<j)) fun i j=>.int (i%j)
def m9:=sO (fun _ j=>decide (0<j/\j<1073741824)) fun i j=>.int (i/j)
def kO:=sO (fun i j=>decide ((-(2 ^ 64)<i/\i<2 ^ 64)\/(-(2 ^ 64)<j/\j<2 ^ 64))) fun i j=>.int (i*j)
def Bp:=sO (fun i j=>decide (0<=j/\j<=1000000/\i.natAbs<2 ^ 64)) fun i j=>.int (i ^ j.toNat)
theorem mR:iU K (qW fun i j=>.int (i-j)) m8:=v9 fun _ _ _=>eV _
theorem dg:iU K (rI (fun _ j=>0<j) fun i j=>.int (i%j)) cF:=zN (fun _ _ h=>of_decide_eq_true h) fun _ _ _=>eV _
theorem yN:iU K (rI VM fun i j=>.int (i/j)) m9:=zN (fun i j h=>(of_decide_eq_true h:0<j/\j<1073741824)) fun _ _ _=>eV _
theorem mU:iU K (rI JH fun i j=>.int (i*j)) kO:=zN (fun i j h=>(of_decide_eq_true h:(-(2 ^ 64)<i/\i<2 ^ 64)\/(-(2 ^ 64)<j/\j<2 ^ 64))) fun _ _ _=>eV _
theorem Bq:iU K (rI VN fun i j=>.int (i ^ j.toNat)) Bp:=zN (fun i j h=>(of_decide_eq_true h:0<=j/\j<=1000000/\i.natAbs<2 ^ 64)) fun _ _ _=>eV _
def O6 (K:FG):R2:=fun x y H Q=>qW (fun i j=>.int (i+j)) x y H Q\/(∃ i j,x=.str i/\y=.str j/\i.length+j.length<=sizeLine/\Q (.str (i++j)) H)\/
 (∃ a b xs ys,x=.ref a/\y=.ref b/\bI K H a xs/\bI K H b ys/\xs.length+ys.length<=sizeLine/\∀ p,H p=none->Q (.ref p) (upd H p (.lst (xs++ys))))\/Rp K x y H Q
theorem dZ:eN X (binaryOp .Add) (O6 X.K):=VP.or (JP.or (TV.or Tn))
def cN:PV->PV->Option Lc
 | .int i,.int j=>some (.sh (.int (i+j)))
 | .str i,.str j=>if i.length+j.length<=100000 then some (.sh (.str (i++j))) else none
 | .lst ps,.lst qs=>if ps.length+qs.length<=100000 then some (.own (.lst (ps++qs))) else none
 | .tup (p::ps),.tup qs=>if ps.length+qs.length<=10000 then some (.sh (.tup (p::ps++qs))) else none
 | _,_=>none
theorem yO {α:Type} {c:Prop} [Decidable c] {a b:α} (e:(if c then some a else none)=some b):c/\a=b:=by
 split at e
 . rename_i h
   exact ⟨h,aaB e⟩
 . cases e
theorem Uc {x y:PV} {l:Lc} (e:cN x y=some l):(∃ i j,x=.int i/\y=.int j/\l=.sh (.int (i+j)))\/(∃ i j,x=.str i/\y=.str j/\i.length+j.length<=100000/\l=.sh (.str (i++j)))
 \/ (∃ ps qs,x=.lst ps/\y=.lst qs/\ps.length+qs.length<=100000/\l=.own (.lst (ps++qs)))\/∃ p ps qs,x=.tup (p::ps)/\y=.tup qs/\ps.length+qs.length<=10000/\l=.sh (.tup (p::ps++qs)):=by
 unfold cN at e
 split at e
 . cases e
   exact .inl ⟨_,_,rfl,rfl,rfl⟩
 . obtain ⟨h,e⟩:=yO e
   exact .inr (.inl ⟨_,_,rfl,rfl,h,e.symm⟩)
 . obtain ⟨h,e⟩:=yO e
   exact .inr (.inr (.inl ⟨_,_,rfl,rfl,h,e.symm⟩))
 . obtain ⟨h,e⟩:=yO e
   exact .inr (.inr (.inr ⟨_,_,_,rfl,rfl,h,e.symm⟩))
 . cases e
theorem d7:iU K (O6 K) cN:=by
 intro H0 Z0 σ ρ pd H v w x y l Q s e k
 obtain ⟨g,r1,r2⟩:=s.rep2H
 rcases Uc e with ⟨i,j,rfl,rfl,rfl⟩ | ⟨i,j,rfl,rfl,hl,rfl⟩ | ⟨ps,qs,rfl,rfl,hl,rfl⟩ | ⟨p,ps,qs,rfl,rfl,hl,rfl⟩
 . exact .inl ⟨i,j,bH r1,bH r2,k _ H (s.pop.pop.scal eV)⟩
 . exact .inr (.inl ⟨i,j,dw r1,dw r2,small hl,k _ H (s.pop.pop.scal xm)⟩)
 . obtain ⟨el,Z,hg,z,rq,s1⟩:=s.sh
   have s2:=s1.perm bZ.symm
   obtain ⟨_,e1,rp⟩:=s2.1 _ aab
   cases e1
   unfold Rep at rp rq
   obtain ⟨a,xs,rfl,h1,h2⟩:=rp
   obtain ⟨b,ys,rfl,h3,h4⟩:=rq
   refine .inr (.inr (.inl ⟨a,b,xs,ys,rfl,rfl,bI.same z.zh h1,bI.same z.zh h3,by rw [h2.length,h4.length]; exact small hl,fun p hp=>k _ _ ?_⟩))
   obtain ⟨z',s'⟩:=(s2.sub (aap _ _)).new (o:=.lst (xs++ys)) (p:=.lst (ps++qs)) z hp ⟨xs++ys,bM,h2.append h4⟩
   exact .mk el hg z' s'
 . obtain ⟨el,Z,hg,z,rq,s1⟩:=s.sh
   have s2:=s1.perm bZ.symm
   obtain ⟨_,e1,rp⟩:=s2.1 _ aab
   cases e1
   unfold Rep at rp rq
   obtain ⟨a,xs,rfl,h1,h2⟩:=rp
   obtain ⟨b,ys,rfl,h3,h4⟩:=rq
   have hx:xs≠[]:=fun h=>by have:=h2.length; rw [h] at this; simp at this
   have hz:=h2.length
   have hz':=h4.length
   rw [aae] at hz
   refine .inr (.inr (.inr ⟨a,b,xs,ys,rfl,rfl,cI.same z.zh h1,cI.same z.zh h3,hx,small (by omega),fun h=>?_,fun h q hq=>?_⟩))
   . subst h
     have:qs=[]:=abN hz'.symm
     subst this
     rw [aat] at k
     exact k _ H s.pop
   . have s3:=s2.sub (aap _ _)
     obtain ⟨z',sz,s'⟩:=s3.newF (o:=.tup (xs++ys)) z hq
     refine k _ _ (.mk (Z:=Z.put q (.tup (xs++ys))) el hg z' (s'.consS ?_))
     unfold Rep
     exact ⟨q,xs++ys,rfl,cI.of bM,(h2.append h4).mono sz⟩
def yr:PV->PV->Option Lc
 | .lst ps,.int i=>(gM ps i).map .sh
 | .tup ps,.int i=>(gM ps i).map .sh
 | .str x,.int i=>if x.length<=100000 then (gM x.cps.toList i).map fun c=>.sh (.str ⟨#[c]⟩) else none
 | _,_=>none
theorem xu {α β:Type} {l:List α} {r:List β} {i:Int} {x:α} (h:gM l i=some x) (e:r.length=l.length):∃ (j:Nat),l[j]?=some x/\∀ y,r[j]?=some y->gM r i=some y:=by
 unfold gM at h
 obtain ⟨j,h1,h2⟩:=acf h
 refine ⟨j,h2,fun y hy=>?_⟩
 unfold gM
 rw [e,h1]
 exact hy
theorem WD {x y:PV} {l:Lc} (e:yr x y=some l):∃ i,y=.int i/\((∃ ps,(x=.lst ps\/x=.tup ps)/\(gM ps i).map Lc.sh=some l)\/∃ t c,x=.str t/\t.length<=100000/\gM t.cps.toList i=some c/\l=.sh (.str ⟨#[c]⟩)):=by
 unfold yr at e
 split at e
 . exact ⟨_,rfl,.inl ⟨_,.inl rfl,e⟩⟩
 . exact ⟨_,rfl,.inl ⟨_,.inr rfl,e⟩⟩
 . split at e
   . rename_i h
     obtain ⟨c,h1,rfl⟩:=acg e
     exact ⟨_,rfl,.inr ⟨_,c,rfl,h,h1,rfl⟩⟩
   . cases e
 . cases e
theorem Mv:iU K (Wf K) yr:=by
 intro H0 Z0 σ ρ pd H v w x y l Q s e k
 obtain ⟨i,rfl,hx⟩:=WD e
 obtain ⟨el,Z,hg,z,r2,s1⟩:=s.sh
 have s2:=s1.perm bZ.symm
 obtain ⟨_,e1,r1⟩:=s2.1 _ aab
 cases e1
 have s3:=s2.sub (aap _ _)
 have ew:=bH r2
 rcases hx with ⟨ps,hx,h0⟩ | ⟨x,c,rfl,hl,h1,rfl⟩
 . obtain ⟨p,h1,rfl⟩:=acg h0
   rcases hx with rfl | rfl
   . unfold Rep at r1
     obtain ⟨a,vs,rfl,h2,h3⟩:=r1
     obtain ⟨j,e1,e2⟩:=xu h1 h3.length
     obtain ⟨u,e3,e4⟩:=h3.get e1
     exact .inl ⟨a,vs,i,u,rfl,ew,bI.same z.zh h2,e2 u e3,k _ H (.mk el hg z (s3.consS e4))⟩
   . unfold Rep at r1
     obtain ⟨a,vs,rfl,h2,h3⟩:=r1
     obtain ⟨j,e1,e2⟩:=xu h1 h3.length
     obtain ⟨u,e3,e4⟩:=h3.get e1
     exact .inr (.inl ⟨a,vs,i,u,rfl,ew,cI.same z.zh h2,e2 u e3,k _ H (.mk el hg z (s3.consS e4))⟩)
 . exact .inr (.inr ⟨x,i,c,dw r1,ew,small hl,h1,k _ H (s.pop.pop.scal xm)⟩)
def J8 (ps:List PV) (lo hi:Option Int):List PV:=(ps.drop (HT.sIx ps.length 0 lo)).take (HT.sIx ps.length ps.length hi-HT.sIx ps.length 0 lo)
abbrev OF:=Ev->Option (Option Int×Ev)
def RJ (K:FG) (f:OF):TO:=fun σ H Q=>∃ H0 Z0 ρ pd r ρ',SR K H0 Z0 σ H ρ pd/\f ρ=some (r,ρ')/\∀ H',SR K H0 Z0 σ H' ρ' pd->Q r H'
theorem PO.imp {e:Option Expr} {t t':TO} (h:PO X e t) (i:∀ σ H Q,t' σ H Q->t σ H Q):PO X e t':=fun pins s σ H Q I q=>h pins s σ H Q I (i σ H Q q)
def zU:OF:=fun ρ=>some (none,ρ)
def zV (f:EF):OF:=fun ρ=>(f ρ).bind fun x=>match x.1.pv with
 | .int i=>some (some i,x.2)
 | _=>none
theorem Ud:PO X none (RJ X.K zU):=PO.imp Ti fun σ H Q q=>by
 obtain ⟨H0,Z0,ρ,pd,r,ρ',s,h,k⟩:=q
 cases h
 exact k H s
theorem Ue {e:Expr} {f:EF} (h:PE X e (tP X.K f)):PO X (some e) (RJ X.K (zV f)):=PO.imp (Tj h) fun σ H Q q=>by
 obtain ⟨H0,Z0,ρ,pd,r,ρ',s,h,k⟩:=q
 obtain ⟨x,h1,h2⟩:=acf h
 refine ⟨H0,Z0,ρ,pd,x.1,x.2,s,h1,fun v H1 s1=>?_⟩
 obtain ⟨_,r1⟩:=s1.freeze.repH
 cases e:x.1.pv with
 | int i=>
  rw [e] at h2 r1
  cases h2
  exact ⟨i,bH r1,k H1 s1.pop⟩
 | _=>rw [e] at h2; cases h2
theorem aJ.cut {Z:ZG} {ps:List PV} {vs:List V} {lo hi:Option Int} (h:aJ K Z ps vs):aJ K Z (J8 ps lo hi) (tL vs lo hi):=by
 unfold J8 tL
 rw [h.length]
 exact (h.drop _).take _
def j7 (K:FG) (r:List V->Hp->VK->Prop) (g:List PV->Option Lc):Prop:=∀ H0 Z0 σ ρ pd H vs ps l Q,vs.length=ps.length->SR K H0 Z0 σ H ρ (vs.zip (ps.map Lc.sh)++pd)->g ps=some l->(∀ u H',SR K H0 Z0 σ H' ρ ((u,l)::pd)->Q u H')->r vs H Q
def eB (g:List PV->Option Lc) (a:AF):EF:=fun ρ=>(a ρ).bind fun y=>(g (y.1.map Lc.pv)).map fun l=>(l,y.2)
theorem wB {r:List V->Hp->VK->Prop} {g:List PV->Option Lc} (hs:j7 X.K r g) {a:AF}:∀ σ H Q,tP X.K (eB g a) σ H Q->CQ r (iz X.K a) σ H Q:=fun σ H Q q=>by
 obtain ⟨H0,Z0,ρ,pd,l,ρ',s,f,k⟩:=q
 obtain ⟨y,h1,h2⟩:=acf f
 obtain ⟨l',h3,h4⟩:=acg h2
 cases h4
 refine ⟨H0,Z0,ρ,pd,y.1,y.2,s,h1,fun vs H2 e2 s2=>?_⟩
 have s3:=s2.freezeAll
 have hm:(y.1.map fun l=>Lc.sh l.pv)=(y.1.map Lc.pv).map Lc.sh:=by rw [aaY]; rfl
 rw [hm] at s3
 exact hs H0 Z0 σ y.2 pd H2 vs (y.1.map Lc.pv) _ Q (by simpa using e2) s3 h3 k
theorem zW {x:Str} {id:String} {r:List V->Hp->VK->Prop} {g:List PV->Option Lc} {e:Expr} {es:List Expr} {a:AF} {p pos:Pos} (hc:oU X (.builtin id) r) (hs:j7 X.K r g) (h:PE X (.Call (.Name x p) (e::es) [] pos) (CQ r (iz X.K a))):PE X (.Call (.Name x p) (e::es) [] pos) (tP X.K (eB g a)):=PE.imp h (wB hs)
theorem j7.one {r:List V->Hp->VK->Prop} {g:PV->Option Lc} (h:∀ H0 Z0 σ ρ pd H v p l Q,SR K H0 Z0 σ H ρ ((v,.sh p)::pd)->g p=some l->(∀ u H',SR K H0 Z0 σ H' ρ ((u,l)::pd)->Q u H')->r [v] H Q):
 j7 K r (fun ps=>match ps with | [p]=>g p | _=>none):=by
 intro H0 Z0 σ ρ pd H vs ps l Q e s hg k
 match ps,vs,e,s,hg with
 | [p],[v],_,s,hg=>exact h H0 Z0 σ ρ pd H v p l Q s hg k
 | [p],[],e,_,_=>simp at e
 | [p],_::_::_,e,_,_=>simp at e
 | [],_,_,_,hg=>cases hg
 | _::_::_,_,_,_,hg=>cases hg
def Qn:PV->Option Lc
 | .str x=>if x.length<=100000 then some (.sh (.int x.length)) else none
 | .lst ps=>some (.sh (.int ps.length))
 | .tup ps=>some (.sh (.int ps.length))
 | _=>none
abbrev gR:List PV->Option Lc:=fun ps=>match ps with | [p]=>Qn p | _=>none
theorem Mw:j7 K (fun xs H Q=>∃ x n,xs=[x]/\O3 K x H n/\Q (.int n) H) gR:=j7.one fun H0 Z0 σ ρ pd H v p l Q s e k=>by
 obtain ⟨_,r⟩:=s.repH
 cases p with
 | str x=>
  have e':(if x.length<=100000 then some (Lc.sh (.int x.length)) else none)=some l:=e
  split at e'
  . rename_i hl
    cases e'
    have:=dw r
    subst this
    exact ⟨_,x.length,rfl,⟨small hl,rfl⟩,k _ H (s.pop.scal eV)⟩
  . cases e'
 | lst ps=>
  cases e
  unfold Rep at r
  obtain ⟨a,vs,rfl,h1,h2⟩:=r
  exact ⟨_,ps.length,rfl,.inl ⟨vs,h1,h2.length.symm⟩,k _ H (s.pop.scal eV)⟩
 | tup ps=>
  cases e
  unfold Rep at r
  obtain ⟨a,vs,rfl,h1,h2⟩:=r
  exact ⟨_,ps.length,rfl,.inr ⟨vs,h1,h2.length.symm⟩,k _ H (s.pop.scal eV)⟩
 | _=>cases e
def Yw:PV->Option Lc
 | .lst ps=>some (.own (.lst ps))
 | .tup ps=>some (.own (.lst ps))
 | _=>none
abbrev list1:List PV->Option Lc:=fun ps=>match ps with | [p]=>Yw p | _=>none
theorem xx:j7 K (fun xs H Q=>∃ p ys,xs=[.ref p]/\(bI K H p ys\/cI K H p ys)/\∀ l,H l=none->Q (.ref l) (upd H l (.lst ys))) list1:=j7.one fun H0 Z0 σ ρ pd H v p l Q s e k=>by
 obtain ⟨el,Z,hg,z,r,s1⟩:=s.sh
 cases p with
 | lst ps=>
  cases e
  unfold Rep at r
  obtain ⟨a,vs,rfl,h1,h2⟩:=r
  refine ⟨a,vs,rfl,.inl (bI.same z.zh h1),fun q hq=>k _ _ ?_⟩
  obtain ⟨z',s'⟩:=s1.new (o:=.lst vs) (p:=.lst ps) z hq ⟨_,bM,h2⟩
  exact .mk el hg z' s'
 | tup ps=>
  cases e
  unfold Rep at r
  obtain ⟨a,vs,rfl,h1,h2⟩:=r
  refine ⟨a,vs,rfl,.inr (cI.same z.zh h1),fun q hq=>k _ _ ?_⟩
  obtain ⟨z',s'⟩:=s1.new (o:=.lst vs) (p:=.lst ps) z hq ⟨_,bM,h2⟩
  exact .mk el hg z' s'
 | _=>cases e
theorem Ev.set_set {i:Nat} {x y:Option Lc}:(ρ.set i x).set i y=ρ.set i y:=by
 show Ev.mk ((ρ.vs.set i x).set i y) ρ.mu=_
 rw [aa7]
 rfl
theorem SR.takeO {i:Nat} {ws:List PV} (s:SR K H0 Z0 σ H ρ pd) (e:ρ.vs[i]?=some (some (.own (.lst ws)))):
 ∃ a,σ[i]?=some (some (.ref a))/\(∃ us,H a=some (.lst us))/\SR K H0 Z0 σ H (ρ.set i none) ((.ref a,.own (.lst ws))::pd):=by
 obtain ⟨v,e1,s1⟩:=s.take e
 obtain ⟨_,Z,_,z,so⟩:=s1.top
 obtain ⟨a,ea,⟨us,hu,_⟩,_⟩:=so.1 _ aab
 have ea':v=.ref a:=aaB ea
 subst ea'
 exact ⟨a,e1,⟨us,hu⟩,s1⟩
def j0 (i:Nat) (f:EF):SF:=fun ρ=>match ρ.vs[i]? with
 | some (some (.own (.lst _)))=>(f ρ).bind fun y=>match y.2.vs[i]? with
  | some (some (.own (.lst ws)))=>if ws.length<100000 then some (.nx (y.2.set i (some (.own (.lst (ws++[y.1.pv])))))) else none
  | _=>none
 | _=>none
theorem WF {i:Nat} {o e:Expr} {f:EF} {apos cpos pos:Pos} (h:PS X (.Expr (.Call (.Attribute o "append" apos) [e] [] cpos) pos) (uI (Lq X.K "list" Bd (qT i) (iz X.K (aa f ao))))):
 PS X (.Expr (.Call (.Attribute o "append" apos) [e] [] cpos) pos) (fO X.K (j0 i f)):=PS.imp h fun D σ H q=>by
 obtain ⟨H0,Z0,ρ,pd,fl,s,h,k⟩:=q
 unfold j0 at h
 split at h
 . rename_i ws0 e0
   obtain ⟨y,h1,h2⟩:=acf h
   obtain ⟨a,ea,⟨us,hu⟩,_⟩:=s.takeO e0
   refine ⟨.ref a,ea,.inl ⟨rfl,us,bI.of hu⟩,H0,Z0,ρ,pd,[y.1],y.2,s,?_,fun vs H2 e2 s2=>?_⟩
   . unfold aa ao
     rw [h1]
     rfl
   . obtain ⟨v1,rfl⟩:=yp e2
     split at h2
     . rename_i ws e3
       split at h2
       . rename_i hz
         cases h2
         obtain ⟨a',ea',_,s3⟩:=SR.takeO s2 e3
         rw [ea] at ea'; cases ea'
         have s4:SR X.K H0 Z0 σ H2 (y.2.set i none) ((v1,y.1)::(.ref a,.own (.lst ws))::pd):=s3.swap
         obtain ⟨us2,hu2,hl,s5⟩:=s4.pushO
         refine ⟨a,us2,v1,rfl,rfl,hu2,by rw [hl,sizeLine_eq]; omega,k σ _ ?_⟩
         have s6:=s5.put ea
         rw [Ev.set_set] at s6
         exact s6
       . cases h2
     . cases h2
 . cases h
theorem SR.extO {v:V} {ps:List PV} {a:Addr} {ws:List PV} (s:SR K H0 Z0 σ H ρ ((v,.sh (.lst ps))::(.ref a,.own (.lst ws))::pd)):
 ∃ b us zs,v=.ref b/\bI K H b zs/\H a=some (.lst us)/\us.length=ws.length/\zs.length=ps.length/\SR K H0 Z0 σ (upd H a (.lst (us++zs))) ρ ((.ref a,.own (.lst (ws++ps)))::pd):=by
 obtain ⟨el,Z,hg,z,r,so⟩:=s.sh
 unfold Rep at r
 obtain ⟨b,zs,rfl,h1,h2⟩:=r
 have so2:=so.perm bZ.symm
 obtain ⟨_,eb,⟨us,hu,hr⟩,_⟩:=so2.1 _ aab
 cases eb
 refine ⟨b,us,zs,rfl,bI.same z.zh h1,hu,hr.length,h2.length,?_⟩
 obtain ⟨z',s'⟩:=so2.write (o:=.lst (us++zs)) (q:=.lst (ws++ps)) z ⟨us++zs,bM,hr.append h2⟩
 exact .mk el hg z' s'
def ni (i:Nat) (f:EF):SF:=fun ρ=>match ρ.vs[i]? with
 | some (some (.own (.lst _)))=>(f ρ).bind fun y=>match y.1.pv,y.2.vs[i]? with
  | .lst ps,some (some (.own (.lst ws)))=>if ws.length+ps.length<=100000 then some (.nx (y.2.set i (some (.own (.lst (ws++ps)))))) else none
  | _,_=>none
 | _=>none
theorem WK {i:Nat} {o e:Expr} {f:EF} {apos cpos pos:Pos} (h:PS X (.Expr (.Call (.Attribute o "extend" apos) [e] [] cpos) pos) (uI (Lq X.K "list" (yJ X.K) (qT i) (iz X.K (aa f ao))))):
 PS X (.Expr (.Call (.Attribute o "extend" apos) [e] [] cpos) pos) (fO X.K (ni i f)):=PS.imp h fun D σ H q=>by
 obtain ⟨H0,Z0,ρ,pd,fl,s,h,k⟩:=q
 unfold ni at h
 split at h
 . rename_i ws0 e0
   obtain ⟨y,h1,h2⟩:=acf h
   obtain ⟨a,ea,⟨us,hu⟩,_⟩:=s.takeO e0
   refine ⟨.ref a,ea,.inl ⟨rfl,us,bI.of hu⟩,H0,Z0,ρ,pd,[y.1],y.2,s,?_,fun vs H2 e2 s2=>?_⟩
   . unfold aa ao
     rw [h1]
     rfl
   . obtain ⟨v1,rfl⟩:=yp e2
     split at h2
     . rename_i ps ws ep e3
       split at h2
       . rename_i hz
         cases h2
         obtain ⟨a',ea',_,s3⟩:=SR.takeO s2 e3
         rw [ea] at ea'; cases ea'
         have s4:SR X.K H0 Z0 σ H2 (y.2.set i none) ((v1,.sh y.1.pv)::(.ref a,.own (.lst ws))::pd):=s3.swap.freeze
         rw [ep] at s4
         obtain ⟨b,us2,zs,rfl,hb,hu2,hl,hl2,s5⟩:=s4.extO
         refine ⟨a,b,us2,zs,rfl,rfl,hu2,hb,by rw [hl,hl2]; exact small hz,k σ _ ?_⟩
         have s6:=s5.put ea
         rw [Ev.set_set] at s6
         exact s6
       . cases h2
     . cases h2
 . cases h
def aaj (i:Nat) (fi fv:EF):SF:=fun ρ=>(fv ρ).bind fun x=>match x.2.vs[i]? with
 | some (some (.own (.lst _)))=>(fi x.2).bind fun y=>match y.1.pv,y.2.vs[i]? with
  | .int k,some (some (.own (.lst ws)))=>(zu ws.length k).map fun j=>.nx (y.2.set i (some (.own (.lst (ws.set j x.1.pv)))))
  | _,_=>none
 | _=>none
theorem wC {g:List Addr} {mu:Mu} {n:Nat} {a:Addr} {o:Option PV} (hg:g[n]?=some a) (hm:mu[n]?=some o):∃ R:Sl,List.Perm (cel g mu) ((some (.ref a),o.map Lc.own)::R)/\∀ o',List.Perm (cel g (mu.set n o')) ((some (.ref a),o'.map Lc.own)::R):=by
 have h1:(g.map fun a=>some (V.ref a))[n]?=some (some (.ref a)):=by rw [aaN,hg]; rfl
 have h2:(mu.map fun o=>o.map Lc.own)[n]?=some (o.map Lc.own):=by rw [aaN,hm]; rfl
 obtain ⟨R,p1,p2⟩:=v8 (zip_get h1 h2)
 refine ⟨R,p1,fun o'=>?_⟩
 have:=p2 (some (.ref a),o'.map Lc.own)
 rw [← Bj,ach h1] at this
 unfold cel
 rw [List.map_set]
 exact this
theorem SR.cellO {v:V} {n:Nat} {p:PV} (s:SR K H0 Z0 σ H ρ ((v,.sh (.ptr n))::pd)) (hm:ρ.mu[n]?=some (some p)):
 ∃ a,v=.ref a/\SR K H0 Z0 σ H ⟨ρ.vs,ρ.mu.set n none⟩ ((.ref a,.own p)::(.ref a,.sh (.ptr n))::pd):=by
 obtain ⟨el,Z,hg,z,r,so⟩:=s.sh
 have r0:=r
 unfold Rep at r
 obtain ⟨a,rfl,ha⟩:=r
 obtain ⟨R,p1,p2⟩:=wC ha hm
 refine ⟨a,rfl,.mk (Z:=Z) el (by simpa using hg) z ?_⟩
 have so2:Slots K H0 Z H ((some (.ref a),some (.own p))::(R++(σ.zip ρ.vs++pd.map fun e=>(some e.1,some e.2)))):=so.perm (p1.append_right _).symm
 have so3:Slots K H0 Z H ((some (.ref a),none)::(some (.ref a),some (.own p))::(R++(σ.zip ρ.vs++pd.map fun e=>(some e.1,some e.2)))):=by
  refine ⟨fun e he=>?_,?_⟩
  . rcases aao.mp he with rfl | he
    . trivial
    . exact so2.1 e he
  . rw [aaU rfl]; exact so2.2
 have so4:Slots K H0 Z H ((some (.ref a),some (.own p))::sl Z.g σ ⟨ρ.vs,ρ.mu.set n none⟩ pd):=(so3.perm (List.Perm.swap _ _ _)).perm (List.Perm.cons _ ((p2 none).append_right _))
 exact ((so4.consS r0).perm (List.Perm.swap _ _ _)).perm (List.Perm.cons _ bZ)
theorem SR.cellP {a:Addr} {n:Nat} {q:PV} (s:SR K H0 Z0 σ H ρ ((.ref a,.own q)::(.ref a,.sh (.ptr n))::pd)) (hm:ρ.mu[n]?=some none):SR K H0 Z0 σ H ⟨ρ.vs,ρ.mu.set n (some q)⟩ pd:=by
 obtain ⟨el,Z,hg,z,r,so⟩:=s.swap.sh
 unfold Rep at r
 obtain ⟨b,eb,ha⟩:=r
 cases eb
 obtain ⟨R,p1,p2⟩:=wC ha hm
 have so2:=so.perm bZ.symm
 refine ⟨el,Z,by simpa using hg,z,?_⟩
 have p3:List.Perm (sl Z.g σ ρ pd) ((some (.ref a),none)::(R++(σ.zip ρ.vs++pd.map fun e=>(some e.1,some e.2)))):=p1.append_right _
 have so3:=so2.perm (p3.symm.cons _)
 have so4:=so3.sub (L':=(some (.ref a),some (.own q))::(R++(σ.zip ρ.vs++pd.map fun e=>(some e.1,some e.2)))) ((aap _ _).cons_cons _)
 exact so4.perm ((p2 (some q)).append_right _)
def aak (fo fi fv:EF):SF:=fun ρ=>(fv ρ).bind fun x=>(fo x.2).bind fun o=>(fi o.2).bind fun y=>match o.1.pv,y.1.pv with
 | .ptr n,.int k=>match y.2.mu[n]? with
  | some (some (.lst ws))=>(zu ws.length k).map fun j=>.nx ⟨y.2.vs,y.2.mu.set n (some (.lst (ws.set j x.1.pv)))⟩
  | _=>none
 | _,_=>none
def bx (fa fb:EF):EF:=fun ρ=>(fa ρ).bind fun x=>(fb x.2).bind fun y=>match x.1.pv,y.1.pv with
 | .ptr n,.int k=>match y.2.mu[n]? with
  | some (some (.lst ws))=>(gM ws k).map fun p=>(.sh p,y.2)
  | _=>none
 | p,q=>(yr p q).map fun l=>(l,y.2)
theorem tO {a b:Expr} {pos:Pos} {fa fb:EF} (ha:PE X a (tP X.K fa)) (hb:PE X b (tP X.K fb)) (hm:xg b):PE X (.Subscript a b pos) (tP X.K (bx fa fb)):=PE.imp (J0 Ln ha hb hm) fun σ H Q q=>by
 obtain ⟨H0,Z0,ρ,pd,l,ρ',s,f,k⟩:=q
 obtain ⟨x,h1,h2⟩:=acf f
 obtain ⟨y,h3,h4⟩:=acf h2
 refine ⟨H0,Z0,ρ,pd,x.1,x.2,s,h1,fun v H1 s1=>⟨H0,Z0,x.2,_,y.1,y.2,s1,h3,fun w H2 s2=>?_⟩⟩
 have s3:=s2.freeze.swap.freeze.swap
 split at h4
 . rename_i n kk en ek
   split at h4
   . rename_i ws em
     obtain ⟨p,h5,h6⟩:=acg h4
     cases h6
     rw [en,ek] at s3
     obtain ⟨_,rw'⟩:=s3.repH
     have ew:=bH rw'
     obtain ⟨a,rfl,s5⟩:=s3.pop.cellO em
     obtain ⟨el,Z,hg,z,so⟩:=s5.top
     obtain ⟨_,ea,⟨us,hu,hr⟩,_⟩:=so.1 _ aab
     cases ea
     obtain ⟨j,e1,e2⟩:=xu h5 hr.length
     obtain ⟨u,e3,e4⟩:=hr.get e1
     refine .inl ⟨a,us,kk,u,rfl,ew,bI.of hu,e2 u e3,k u H2 ?_⟩
     have s6:SR X.K H0 Z0 σ H2 ⟨y.2.vs,y.2.mu.set n none⟩ ((u,.sh p)::(.ref a,.own (.lst ws))::(.ref a,.sh (.ptr n))::pd):=.mk (Z:=Z) el hg z ((so.perm bZ).consS e4)
     have hn:n<y.2.mu.length:=(aan.mp em).1
     have s7:SR X.K H0 Z0 σ H2 ⟨y.2.vs,y.2.mu.set n none⟩ ((.ref a,.own (.lst ws))::(.ref a,.sh (.ptr n))::(u,.sh p)::pd):=s6.perm (((List.Perm.swap _ _ _).cons _).trans (List.Perm.swap _ _ _))
     have s8:=s7.cellP (by show (y.2.mu.set n none)[n]?=_; rw [aax hn])
     have e8:(y.2.mu.set n none).set n (some (.lst ws))=y.2.mu:=by rw [aa7]; exact ach em
     have s9:SR X.K H0 Z0 σ H2 ⟨y.2.vs,(y.2.mu.set n none).set n (some (.lst ws))⟩ ((u,.sh p)::pd):=s8
     rw [e8] at s9
     exact s9
   . cases h4
 . obtain ⟨l',h5,h6⟩:=acg h4
   cases h6
   exact Mv H0 Z0 σ y.2 pd H2 v w x.1.pv y.1.pv _ Q s3 h5 k
mutual
def jF:PV->Bool
 | .non=>true
 | .bl _=>true
 | .int _=>true
 | .str _=>true
 | .tup ps=>rz ps
 | _=>false
def rz:List PV->Bool
 | []=>true
 | p::ps=>jF p&&rz ps
end
def sS:Lc->Bool
 | .sh p=>jF p
 | .own (.lst ps)=>rz ps
 | _=>false
def RK:Option Lc->Option Lc
 | some l=>some (.sh l.pv)
 | none=>none
def Ev.peek (ρ:Ev):Ev:=⟨ρ.vs.map RK,ρ.mu.map fun _=>none⟩
def qy (f:EF):EF:=fun ρ=>(f ρ.peek).bind fun x=>if sS x.1=true then some (x.1,ρ) else none
def xG (f:TF):TF:=fun ρ=>(f ρ.peek).map fun x=>(x.1,ρ)
def zb:Option HO->Option HO->Option HO->Option HO
 | some (.tup vs),_,_=>some (.tup vs)
 | some (.frz o u),_,_=>some (.frz o u)
 | some _,z,_=>z
 | none,_,z=>z
def qz (H:Hp) (Z Z':ZG):ZG:=⟨fun b=>zb (H b) (Z.z b) (Z'.z b),Z.g⟩
theorem Mx {H H':Hp} {Z Z':ZG} (hh:cZ H H') (zh:cZ Z'.z H') {a:Addr} {vs:List V} (h:cI K Z'.z a vs):cI K (qz H Z Z').z a vs:=by
 rcases h with (h | ⟨o,h⟩) | h
 . refine .inl (.inl ?_)
   show zb (H a) (Z.z a) (Z'.z a)=_
   cases q:H a with
   | none=>exact h
   | some o=>
    have e1:=hh a o q
    rw [zh a _ h] at e1
    cases e1
    rfl
 . refine .inl (.inr ⟨o,?_⟩)
   show zb (H a) (Z.z a) (Z'.z a)=_
   cases q:H a with
   | none=>exact h
   | some o'=>
    have e1:=hh a o' q
    rw [zh a _ h] at e1
    cases e1
    rfl
 . exact .inr h
mutual
theorem Gb {H H':Hp} {Z Z':ZG} (hh:cZ H H') (zh:cZ Z'.z H'):∀ {p:PV} {v:V},jF p=true->Rep K Z' p v->Rep K (qz H Z Z') p v
 | .non,v,_,h=>by unfold Rep at h ⊢; exact h
 | .bl _,v,_,h=>by unfold Rep at h ⊢; exact h
 | .int _,v,_,h=>by unfold Rep at h ⊢; exact h
 | .str _,v,_,h=>by unfold Rep at h ⊢; exact h
 | .tup ps,v,f,h=>by
  unfold Rep at h ⊢
  obtain ⟨a,vs,e,h1,h2⟩:=h
  unfold jF at f
  exact ⟨a,vs,e,Mx hh zh h1,wD hh zh f h2⟩
 | .lst _,v,f,_=>by unfold jF at f; cases f
 | .dk _ _,v,f,_=>by unfold jF at f; cases f
 | .dt _ _,v,f,_=>by unfold jF at f; cases f
 | .obj _ _ _,v,f,_=>by unfold jF at f; cases f
 | .df _ _,v,f,_=>by unfold jF at f; cases f
 | .dtf _ _,v,f,_=>by unfold jF at f; cases f
 | .dx _ _ _,v,f,_=>by unfold jF at f; cases f
 | .exc _,v,f,_=>by unfold jF at f; cases f
 | .ptr _,v,f,_=>by unfold jF at f; cases f
theorem wD {H H':Hp} {Z Z':ZG} (hh:cZ H H') (zh:cZ Z'.z H'):∀ {ps:List PV} {vs:List V},rz ps=true->aJ K Z' ps vs->aJ K (qz H Z Z') ps vs
 | [],vs,_,h=>by unfold aJ at h ⊢; exact h
 | p::ps,vs,f,h=>by
  obtain ⟨v,r,rfl,h1,h2⟩:=h.inv
  unfold rz at f
  rw [ab0] at f
  exact aJ.cons (Gb hh zh f.1 h1) (wD hh zh f.2 h2)
end
theorem SR.lookB (s:SR K H0 Z0 σ H ρ pd):
 ∃ Z,(σ.length=ρ.vs.length/\ρ.mu.length=Z.g.length/\iy Z ⟨H,Z.g⟩/\Slots K H0 Z H (sl Z.g σ ρ pd))/\(∀ H' v r ρ1,SR K H ⟨H,Z.g⟩ σ H' ρ1 [(v,r)]->sS r=true->SR K H0 Z0 σ H' ρ ((v,r)::pd))/\∀ H' ρ1,SR K H ⟨H,Z.g⟩ σ H' ρ1 []->SR K H0 Z0 σ H' ρ pd:=by
 obtain ⟨el,Z,hg,z,so⟩:=s
 have lz:iy Z ⟨H,Z.g⟩:=⟨z.zh,aa8 _⟩
 have back:∀ {H':Hp} {Z':ZG},jO H ⟨H,Z.g⟩ Z' H'->jO H0 Z0 (qz H Z Z') H'/\Slots K H0 (qz H Z Z') H' (sl Z.g σ ρ pd):=fun {H' Z'} z'=>by
  have zz:iy Z (qz H Z Z'):=⟨fun b o e=>by
   show zb (H b) (Z.z b) (Z'.z b)=_
   have hb:=z.zh b o e
   rw [hb]
   cases o<;>first | rfl | exact e,aa8 _⟩
  have cas:∀ b o,(qz H Z Z').z b=some o->(∃ u,H b=some u/\((Eh u/\o=u)\/Z.z b=some o))\/(H b=none/\Z'.z b=some o):=fun b o e=>by
   have e:zb (H b) (Z.z b) (Z'.z b)=some o:=e
   cases q:H b with
   | none=>rw [q] at e; exact .inr ⟨rfl,e⟩
   | some u=>
    rw [q] at e
    refine .inl ⟨u,rfl,?_⟩
    cases u with
    | tup vs=>cases e; exact .inl ⟨trivial,rfl⟩
    | frz o' u=>cases e; exact .inl ⟨trivial,rfl⟩
    | _=>exact .inr e
  refine ⟨⟨fun b o e=>?_,z.h0.trans z'.h0,z.z0.trans zz,fun b o e=>?_⟩,?_⟩
  . rcases cas b o e with ⟨u,hu,⟨_,rfl⟩ | hz⟩ | ⟨_,hz⟩
    . exact z'.h0 b _ hu
    . exact z'.h0 b o (z.zh b o hz)
    . exact z'.zh b o hz
  . rcases cas b o e with ⟨u,hu,⟨hi,rfl⟩ | hz⟩ | ⟨hn,hz⟩
    . exact .inr (.inr hi)
    . exact z.new b o hz
    . exact .inr (.inl (z.h0.free hn))
  . refine so.step zz fun e he a ha=>?_
    obtain ⟨h1,h2,o,h3,h4⟩:=iT so he ha
    refine ⟨by rw [h3]; exact z'.h0 a o h3,?_⟩
    show zb (H a) (Z.z a) (Z'.z a)=_
    rw [h3]
    cases o with
    | tup vs=>exact (h4 trivial).elim
    | frz o u=>exact (h4 trivial).elim
    | _=>exact h1
 refine ⟨Z,⟨el,hg,lz,so⟩,fun H' v r ρ1 s1 hf=>?_,fun H' ρ1 s1=>?_⟩
 . obtain ⟨_,Z',hg',z',s2⟩:=s1.top
   obtain ⟨zo,ss⟩:=back z'
   have q:=s2.1 _ aab
   refine .mk (Z:=qz H Z Z') el hg zo ?_
   cases r with
   | sh p=>
    obtain ⟨x,e1,e2⟩:=q
    cases e1
    exact ss.consS (Gb z'.h0 z'.zh hf e2)
   | own p=>
    obtain ⟨a,e1,e2,e3,e4⟩:=q
    have e1':v=.ref a:=aaB e1
    subst e1'
    cases p with
    | lst ps=>
     obtain ⟨vs,g1,g2⟩:=e2
     refine ⟨fun e he=>?_,?_⟩
     . rcases aao.mp he with rfl | he
       . refine ⟨a,rfl,⟨vs,g1,wD z'.h0 z'.zh hf g2⟩,?_,z.h0.free e4⟩
         show zb (H a) (Z.z a) (Z'.z a)=_
         rw [e4]
         exact e3
       . exact ss.1 e he
     . show (a::(sl Z.g σ ρ pd).filterMap kE).Nodup
       refine aaM.mpr ⟨fun hm=>?_,ss.2⟩
       obtain ⟨e,he,hb⟩:=aaX.mp hm
       obtain ⟨_,_,o,h3,_⟩:=iT so he hb
       rw [h3] at e4; cases e4
    | _=>cases hf
 . obtain ⟨_,Z',hg',z',s2⟩:=s1
   obtain ⟨zo,ss⟩:=back z'
   exact ⟨el,qz H Z Z',hg,zo,ss⟩
theorem SR.peeked {H:Hp} {Z:ZG} {pk:Option Lc->Option Lc} (el:σ.length=ρ.vs.length) (hg:ρ.mu.length=Z.g.length)
 (hs:∀ v o,(v,o)∈σ.zip ρ.vs->pk o=none\/∃ x p,pk o=some (.sh p)/\v=some x/\Rep K ⟨H,Z.g⟩ p x):SR K H ⟨H,Z.g⟩ σ H ⟨ρ.vs.map pk,ρ.mu.map fun _=>none⟩ []:=by
 have key:∀ v l,(v,l)∈sl Z.g σ ⟨ρ.vs.map pk,ρ.mu.map fun _=>none⟩ []->l=none\/∃ x p,l=some (.sh p)/\v=some x/\Rep K ⟨H,Z.g⟩ p x:=fun v l he=>by
  rcases aaF.mp he with he | he
  . obtain ⟨_,h2⟩:=abe he
    obtain ⟨o,ho,e2⟩:=aaD.mp h2
    obtain ⟨o',_,e3⟩:=aaD.mp ho
    subst e3
    exact .inl e2.symm
  . rw [abw,aat] at he
    have he:(v,l)∈σ.zip (ρ.vs.map pk):=he
    rw [List.zip_map_right] at he
    obtain ⟨e,he2,e1⟩:=aaD.mp he
    cases e1
    exact hs _ _ he2
 refine ⟨by simp [el],⟨H,Z.g⟩,by simp [hg],⟨cZ.refl _,cZ.refl _,iy.refl _,fun b o e=>.inl e⟩,fun e he=>?_,?_⟩
 . obtain ⟨v,l⟩:=e
   rcases key v l he with rfl | ⟨x,p,rfl,rfl,r⟩
   . trivial
   . exact ⟨x,rfl,r⟩
 . have:(sl Z.g σ ⟨ρ.vs.map pk,ρ.mu.map fun _=>none⟩ []).filterMap kE=[]:=by
    rw [List.filterMap_eq_nil_iff]
    intro e he
    obtain ⟨v,l⟩:=e
    rcases key v l he with rfl | ⟨x,p,rfl,rfl,_⟩
    . cases v with
      | none=>rfl
      | some x=>cases x<;>rfl
    . cases x<;>rfl
   show ((sl Z.g σ ⟨ρ.vs.map pk,ρ.mu.map fun _=>none⟩ []).filterMap kE).Nodup
   rw [this]
   exact abD
theorem SR.look (s:SR K H0 Z0 σ H ρ pd):
 ∃ Zt,SR K H Zt σ H ρ.peek []/\(∀ H' v r ρ1,SR K H Zt σ H' ρ1 [(v,r)]->sS r=true->SR K H0 Z0 σ H' ρ ((v,r)::pd))/\∀ H' ρ1,SR K H Zt σ H' ρ1 []->SR K H0 Z0 σ H' ρ pd:=by
 obtain ⟨Z,⟨el,hg,lz,so⟩,b1,b2⟩:=s.lookB
 refine ⟨_,SR.peeked (pk:=RK) el hg fun v o he=>?_,b1,b2⟩
 have q:=so.1 _ (aaE _ (aaT _ he))
 match o,q with
 | none,_=>exact .inl rfl
 | some (.sh p),⟨x,e1,e2⟩=>exact .inr ⟨x,p,rfl,e1,e2.mono lz⟩
 | some (.own p),⟨a,e1,e2,_,_⟩=>exact .inr ⟨.ref a,p,rfl,e1,e2.rep lz rfl⟩
def ZP (mu:Mu):PV->PV
 | .ptr n=>match mu[n]? with
  | some (some p)=>p
  | _=>.ptr n
 | p=>p
def peekC (mu:Mu):Option Lc->Option Lc
 | some l=>some (.sh (ZP mu l.pv))
 | none=>none
def Ev.peekC (ρ:Ev):Ev:=⟨ρ.vs.map (PL.peekC ρ.mu),ρ.mu.map fun _=>none⟩
theorem Qo {f:EF}:∀ σ H Q,tP K (qy f) σ H Q->tP K f σ H Q:=fun σ H Q q=>by
 obtain ⟨H0,Z0,ρ,pd,r,ρ',s,h,k⟩:=q
 obtain ⟨x,h1,h2⟩:=acf h
 obtain ⟨Zt,s1,b1,_⟩:=s.look
 split at h2
 . rename_i hf
   cases h2
   exact ⟨H,Zt,ρ.peek,[],x.1,x.2,s1,h1,fun v H' s2=>k v H' (b1 H' v x.1 x.2 s2 hf)⟩
 . cases h2
theorem Ek {e:Expr} {f:EF} (h:PE X e (tP X.K f)):PE X e (tP X.K (qy f)):=PE.imp h Qo
theorem WL {e:Expr} {f:TF} (h:PT X e (gO X.K f)):PT X e (gO X.K (xG f)):=PT.imp h fun σ H Q q=>by
 obtain ⟨H0,Z0,ρ,pd,r,ρ',s,h,k⟩:=q
 obtain ⟨x,h1,h2⟩:=acg h
 cases h2
 obtain ⟨Zt,s1,_,b2⟩:=s.look
 exact ⟨H,Zt,ρ.peek,[],x.1,x.2,s1,h1,fun H' s2=>k H' (b2 H' x.2 s2)⟩
end
def uX (x:Str):It:=⟨fun i _=>i<x.cps.size,fun i H v H'=>H'=H/\∃ c,x.cps[i]?=some c/\v=.str ⟨#[c]⟩,fun i _=>i=x.cps.size⟩
theorem Ge {P:Program} {w:World} {tg:Expr} (it:Addr) (x:Str) {St:Nat->Heap->Prop} (W:∀ A':Around,A'.handled=none->Walks P w A' it [it] [it] x.cps.size (SignAt x) St)
 (hob:∀ i h,St i h->∃ o,h.get? it=some o/\∀ v,o.data≠.cell v) (slf:∀ (A:Around) (i:Nat) (s:Shared) (Q:Value->Shared->Prop) (E:Value->Shared->Prop),St i s.heap->Q (.ref it) s->wpAny (model P w) A (pyIter (.ref it)) Q E s):Turn P w K tg (uX x) [it] it St where
 mem:=by simp
 obj:=fun i h st b hb=>by
  have e:b=it:=by simpa using hb
  subst e
  exact hob i h st
 keep:=fun i h h' st k=>(W {} rfl).frame i h h' st k
 item:=by
  intro X hP hw hK hc i pins s σ H E I hf st hg
  subst hP hw hK
  obtain ⟨f0,f1,f2,f3,f4,f5⟩:=hf it (by simp)
  refine (W X.A (I.ok.hd hc)).item i s _ E hg st fun v h' tk hv st' hk=>?_
  obtain ⟨c,u,e1,rfl⟩:=hv
  have I1:Inv X pins σ H { s with heap:=h',toks:=tk }:=I.turned (fun b o hb e=>hk b o (by simpa using hb) e) f0 f1 f3 f4 f5
  refine ⟨_,rfl,?_⟩
  have fin:∃ x_1 H',Inv X pins σ H' { s with heap:=h',toks:=tk }/\RelV x_1 (.str ⟨#[c]⟩ u)/\(uX x).yld i H x_1 H'/\St (i+1) h'/\∀ b∈[it],H' b=none:=⟨.str ⟨#[c]⟩,H,I1,⟨u,rfl⟩,⟨rfl,c,e1,rfl⟩,st',fun b hb=>(hf b hb).1⟩
  unfold letOwnedTupleGo
  cases tg<;>exact ab9 fin
 done:=by
  intro X hP hw hK hc i pins s σ H E I hf st hg
  subst hP hw hK
  obtain ⟨f0,f1,f2,f3,f4,f5⟩:=hf it (by simp)
  have hg:i=x.cps.size:=hg
  subst hg
  exact (W X.A (I.ok.hd hc)).done s _ E st fun h' tk hk=>⟨rfl,I.turned (fun b o hb e=>hk b o (by simpa using hb) e) f0 f1 f3 f4 f5⟩
 self:=fun A i s Q E st h=>slf A i s Q E st h
section
variable {X:Cx}
def signs (x:Str):List PV:=x.cps.toList.map fun c=>.str ⟨#[c]⟩
theorem Qp {H0:Hp} {x:Str}:m7 K H0 Z0 pd (uX x) (signs x):=by
 intro σ H ρ i s
 refine ⟨fun p hp=>?_,fun hl=>?_⟩
 . unfold signs at hp
   rw [aaN] at hp
   obtain ⟨c,hc,rfl⟩:=acg hp
   have hi:=(aan.mp hc).1
   refine ⟨(show i<x.cps.size by simpa using hi),fun v H' y=>?_⟩
   obtain ⟨rfl,c',hc',rfl⟩:=y
   have:c'=c:=by
    rw [Array.getElem?_toList] at hc
    rw [hc] at hc'
    exact (aaB hc').symm
   subst this
   exact s.scal xm
 . show i=x.cps.size
   simpa [signs] using hl
theorem Hs {P:Program} {w:World} {A:Around} {ys:List V} {its:List Value} {bs:List Bool} (rv:Vals ys its) (e:ys=bs.map V.bl):TruthOf P w A (fun i v=>its.toArray[i]?=some v) (fun i=>bs.getD i false):=by
 intro i v s Q E hv q
 have hv':its[i]?=some v:=by simpa using hv
 have hi:=(aan.mp hv').1
 have hl:=rv.length
 have hb:i<bs.length:=by rw [e,aad] at hl; omega
 obtain ⟨u,h1,h2⟩:=rv.get (i:=i) (x:=.bl bs[i]) (by rw [e,aaN,aaC hb]; rfl)
 rw [hv'] at h1; cases h1
 cases h2
 have:bs.getD i false=bs[i]:=by simp [hb]
 have q':Q (bs.getD i false) s:=q
 rw [this] at q'
 exact wpAny_truthy_bool q'
theorem range_all {bs:List Bool}:((List.range bs.length).all fun i=>bs.getD i false)=bs.all id:=by
 induction bs with
 | nil=>rfl
 | cons b r ih=>
  rw [aae,List.range_succ_eq_map,List.all_cons,List.all_map,List.all_cons]
  have:((List.range r.length).all ((fun i=>(b::r).getD i false) ∘ Nat.succ))=(List.range r.length).all fun i=>r.getD i false:=rfl
  rw [this,ih]
  rfl
theorem uY (hc:X.calm=true):oU X (.builtin "all") (fun xs H Q=>∃ (p:Addr) (bs:List Bool),xs=[.ref p]/\bI X.K H p (bs.map V.bl)/\Q (.bl (bs.all id)) H):=by
 intro pins s σ H xs us Q I r h
 obtain ⟨p,bs,rfl,hq,q⟩:=h
 obtain ⟨u,rfl,ru⟩:=vals1 r
 cases ru
 obtain ⟨its,rv,pl,_⟩:=I.list hq
 have hlt:p<s.heap.objs.size:=by obtain ⟨o,n,g1,_⟩:=pl; exact aaq g1
 refine call_all_walk (wpAny_pyIter_list pl.isList ?_)
 have old:∀ b o,s.heap.get? b=some o->(s.heap.push { cls:=.type "list_iterator",data:=.fields #[.ref p,.int 0 0] }).get? b=some o:=fun b o e=>aac _ e
 have hl:its.toArray.size=bs.length:=by rw [aar,← rv.length,aad]
 refine ⟨s.heap.objs.size,_,_,_,_,_,fun i=>bs.getD i false,rfl,Walks.list (A:=X.A.in1) (show X.A.in1.handled=none from I.ok.hd hc) _ p (aaG hlt) its.toArray,⟨⟨_,aau _ rfl,rfl,rfl⟩,?_⟩,Hs rv rfl,fun h' tk hk=>?_⟩
 . obtain ⟨o,g1,g2⟩:=pl.isList
   exact ⟨o,old _ _ g1,g2⟩
 . rw [hl,range_all]
   refine ⟨.bl _,H,I.kept (t':=tk) fun b o e=>hk b o ?_ (old b o e),rfl,q⟩
   have:=aaq e
   simp
   exact aaG this
def boolsOf:List PV->Option (List Bool)
 | []=>some []
 | .bl b::r=>(boolsOf r).map (b::·)
 | _=>none
theorem Dg {Z:ZG}:∀ {ps:List PV} {bs:List Bool} {vs:List V},boolsOf ps=some bs->aJ K Z ps vs->vs=bs.map V.bl
 | [],bs,vs,h,r=>by cases h; exact r.inv0
 | p::ps,bs,vs,h,r=>by
  cases p with
  | bl b=>
   obtain ⟨cs,h1,rfl⟩:=acg h
   obtain ⟨v,w,rfl,r1,r2⟩:=r.inv
   rw [dC r1,Dg h1 r2]
   rfl
  | _=>cases h
def ZQ:PV->Option Lc
 | .lst ps=>(boolsOf ps).map fun bs=>.sh (.bl (bs.all id))
 | _=>none
abbrev all1:List PV->Option Lc:=fun ps=>match ps with | [p]=>ZQ p | _=>none
theorem My:j7 K (fun xs H Q=>∃ (p:Addr) (bs:List Bool),xs=[.ref p]/\bI K H p (bs.map V.bl)/\Q (.bl (bs.all id)) H) all1:=j7.one fun H0 Z0 σ ρ pd H v p l Q s e k=>by
 obtain ⟨_,r⟩:=s.repH
 cases p with
 | lst ps=>
  obtain ⟨bs,h1,rfl⟩:=acg (show (boolsOf ps).map (fun bs=>Lc.sh (.bl (bs.all id)))=some l from e)
  unfold Rep at r
  obtain ⟨a,vs,rfl,h2,h3⟩:=r
  have:=Dg h1 h3
  subst this
  exact ⟨a,bs,rfl,h2,k _ H (s.pop.scal dM)⟩
 | _=>cases e
def RL:PV->Option String
 | .non=>some "NoneType"
 | .bl _=>some "bool"
 | .int _=>some "int"
 | .str _=>some "str"
 | .tup _=>some "tuple"
 | .lst _=>some "list"
 | _=>none
def wF (p:PV) (C:String):Option Bool:=(RL p).bind fun T=>if (Value.type T==Value.type C)=true then some true else if W.kitMeta C=true then (fastBuiltinMro T).map fun x=>x.contains (.type C) else none
theorem mG {p:PV} {T C:String} {b:Bool} (h1:RL p=some T) (h:wF p C=some b):W.kitOne K (.type T) (.type C)=some b:=by
 unfold wF at h
 rw [h1,aaa] at h
 exact h
theorem dz:oU X (.builtin "isinstance") (fun xs H Q=>∃ x C g p b,xs=[x,.ty C]/\Rep X.K ⟨H,g⟩ p x/\wF p C=some b/\Q (.bl b) H):=by
 intro pins s σ H xs us Q I r h
 obtain ⟨x,C,g,p,b,rfl,rp,e,q⟩:=h
 obtain ⟨u,w',rfl,ru,rw'⟩:=vals2 r
 cases rw'
 have fin:∀ tk,EP X pins σ Q (.bool b) { s with toks:=tk }:=fun tk=>⟨.bl b,H,I.tok tk,rfl,q⟩
 cases p with
 | non=>have:=gk rp; subst this; cases ru; exact abS W.kitx_none I.kIn trivial (mG rfl e) (by intro z; cases z) fin
 | bl c=>have:=dC rp; subst this; cases ru; exact abS W.kitx_bool I.kIn trivial (mG rfl e) (by intro z; cases z) fin
 | int i=>have:=bH rp; subst this; obtain ⟨t,rfl⟩:=ru; exact abS W.kitx_int I.kIn trivial (mG rfl e) (by intro z; cases z) fin
 | str i=>have:=dw rp; subst this; obtain ⟨t,rfl⟩:=ru; exact abS W.kitx_str I.kIn trivial (mG rfl e) (by intro z; cases z) fin
 | tup ps=>
  obtain ⟨a,vs,its,rfl,_,_,_,o,t1,t2,_⟩:=wk I rp ru
  exact abS (t:=.type "tuple") W.kitx_tuple I.kIn ⟨o,t1,t2⟩ (mG rfl e) (by intro z; cases z) fin
 | lst ps=>
  obtain ⟨a,vs,its,rfl,_,_,_,o,t1,t2,_⟩:=wu I rp ru
  exact abS (t:=.type "list") W.kitx_list I.kIn ⟨o,t1,t2⟩ (mG rfl e) (by intro z; cases z) fin
 | _=>cases e
def jt (C:String) (f:EF):EF:=fun ρ=>(f ρ).bind fun x=>(wF x.1.pv C).map fun b=>(.sh (.bl b),x.2)
theorem ul {C:String} {f:EF} {e c:Expr} {pp pos:Pos} (h:PE X (.Call (.Name "isinstance" pp) [e,c] [] pos) (CQ (fun xs H Q=>∃ x C g p b,xs=[x,.ty C]/\Rep X.K ⟨H,g⟩ p x/\wF p C=some b/\Q (.bl b) H) (xf (tP X.K f) (xf (tC (.ty C)) Ez)))):
 PE X (.Call (.Name "isinstance" pp) [e,c] [] pos) (tP X.K (jt C f)):=PE.imp h fun σ H Q q=>by
 obtain ⟨H0,Z0,ρ,pd,r,ρ',s,h,k⟩:=q
 obtain ⟨x,h1,h2⟩:=acf h
 obtain ⟨b,h3,h4⟩:=acg h2
 cases h4
 refine ⟨H0,Z0,ρ,pd,x.1,x.2,s,h1,fun v H1 s1=>?_⟩
 obtain ⟨g,r1⟩:=s1.freeze.repH
 exact ⟨v,C,g,_,b,rfl,r1,h3,k _ H1 (s1.pop.scal dM)⟩
end
section
variable {prog:Program} {w:World} {A:Around} {E:Value->Shared->Prop} {s:Shared}
theorem Dh {it t:Addr} {items:Array Value} (hne:t≠it):∀ (n i:Nat) (s:Shared) (Q:List Value->Shared->Prop),s.heap.IsListIter it t i->s.heap.IsList t items->i+n<=items.size->
 (∀ h',h'.IsListIter it t (i+n)->Heap.SameBut it s.heap h'->Q ((items.toList.drop i).take n) { s with heap:=h' })->wpAny (model prog w) A (draw (.ref it) n) Q E s
 | 0,i,s,Q,hit,_,_,hQ=>by
  show wpAny _ _ (pure []) Q E s
  exact ab9 (by simpa using hQ s.heap hit (Heap.SameBut.refl ..))
 | n+1,i,s,Q,hit,ht,hle,hQ=>by
  have hlt:i<items.size:=by omega
  show wpAny _ _ (pyNext (.ref it) >>= _) Q E s
  refine ab6 (wpAny_pyNext_list_item hit ht (x:=items[i]) (by simp [hlt]) fun h₁ hit₁ hs₁=>?_)
  refine ab6 (wpAny_holding (Dh hne n (i+1) _ _ hit₁ (ht.extBut hs₁.extBut hne) (by omega) fun h₂ hit₂ hs₂=>ab9 ?_))
  have hd:items.toList.drop i=items[i]::items.toList.drop (i+1):=by simp [abn,hlt]
  have:=hQ h₂ (by rw [show i+(n+1)=i+1+n by omega]; exact hit₂) (hs₁.trans hs₂)
  rw [hd,List.take_succ_cons] at this
  exact this
theorem yP {t:Addr} {items:Array Value} {Q:List Value->Shared->Prop} (hh:A.handled=none) (ht:s.heap.IsList t items)
 (hQ:∀ h',Heap.ExtBut s.heap.objs.size s.heap h'->Q items.toList { s with heap:=h' }):wpAny (model prog w) A (unpackItems (.ref t) items.size none) Q E s:=by
 have hlt:t≠s.heap.objs.size:=by obtain ⟨o,ho,_⟩:=ht; exact aaG (aaq ho)
 unfold unpackItems
 refine ab6 ?_
 . unfold notIterableAtAll
   refine ab6 (wpAny_specialOf ht.typeIs slot_list_iter.lookup ?_)
   refine ab9 ?_
   simp only [abT,if_false]
   refine ab6 (wpAny_holding (wpAny_pyIter_list ht ?_))
   refine ab6 (wpAny_holding (Dh hlt items.size 0 _ _ ⟨_,aau _ rfl,rfl,rfl⟩ (by obtain ⟨o,g1,g2⟩:=ht; exact ⟨o,aac _ g1,g2⟩) (by omega) fun h₁ hit₁ hs₁=>?_))
   have hall:List.take items.size (List.drop 0 items.toList)=items.toList:=by
    rw [List.drop_zero]; exact List.take_of_length_le (by simp)
   rw [hall]
   rw [ab8 (by simp)]
   have ht₁:h₁.IsList t items:=Heap.IsList.extBut (by obtain ⟨o,g1,g2⟩:=ht; exact ⟨o,aac _ g1,g2⟩) hs₁.extBut hlt
   refine ab6 (wpAny_holding (wpAny_pyNext_list_end hh hit₁ ht₁ (by simp) fun h₂ he₂=>?_))
   simp only [Option.isSome_none,abT,if_false]
   refine ab9 (hQ h₂ fun b o hb e=>he₂ b o hb (hs₁.extBut b o hb (aac _ e)))
end
section
variable {X:Cx} {pos:Pos}
def WM (K:FG) (n:Nat) (t:vI):TG:=fun v σ H Q=>∃ a xs,v=.ref a/\(cI K H a xs\/bI K H a xs)/\xs.length=n/\t xs σ H Q
theorem ju {es:List Expr} {k:Nat} {t:vI} {n:Nat} (hc:X.calm=true) (h:K9 X es t)
 (hn:(assignEach es X.env).length=n:=by rfl) (hst:(assignEach es X.env).findIdx? (·.1)=none:=by rfl):PG X (.Tuple es k pos) (WM X.K n t):=by
 intro pins s σ H v u Q I r hw
 obtain ⟨a,xs,e1,hq,hl,hw⟩:=hw
 rcases hq with hq | hq
 . exact VF hc h hn hst pins s σ H v u Q I r ⟨a,xs,e1,hq,hl,hw⟩
 . subst e1
   cases r
   obtain ⟨its,rv,ht,hz⟩:=I.list hq
   rw [assign_Tuple]
   refine ab6 (wpAny_standAt ?_)
   unfold unpack
   have hsz:(assignEach es X.env).length=its.toArray.size:=by simp [hn,← hl,rv.length]
   rw [hsz,hst]
   refine ab6 (wpAny_holding (yP (I.ok.hd hc) ht.isList fun h' hx=>?_))
   have I1:Inv X pins σ H { s with heap:=h' }:=I.kept (t':=s.toks) fun b o e=>hx b o (aaG (aaq e)) e
   exact h pins _ σ H xs _ Q I1 (by simpa using rv) hw
def eG (n:Nat) (bs:FJ):BF:=fun p ρ=>match p with
 | .tup ps=>if ps.length=n then bs ps ρ else none
 | .lst ps=>if ps.length=n then bs ps ρ else none
 | _=>none
theorem jw {n:Nat} {t:vI} {bs:FJ} (h1:Ry K t bs):GS K (WM K n t) (eG n bs):=by
 intro H0 Z0 σ H ρ pd v p ρ' Q s h k
 cases p with
 | tup ps=>
  have h':(if ps.length=n then bs ps ρ else none)=some ρ':=h
  split at h'
  . rename_i hn
    obtain ⟨e,Z,hg,z,r,sl'⟩:=s.sh
    unfold Rep at r
    obtain ⟨a,vs,rfl,h2,h3⟩:=r
    exact ⟨a,vs,rfl,.inl (cI.same z.zh h2),by rw [h3.length]; exact hn,h1 H0 Z0 σ H ρ pd vs ps ρ' Q h3.length (SR.items e hg z h3 sl') h' k⟩
  . cases h'
 | lst ps=>
  have h':(if ps.length=n then bs ps ρ else none)=some ρ':=h
  split at h'
  . rename_i hn
    obtain ⟨e,Z,hg,z,r,sl'⟩:=s.sh
    unfold Rep at r
    obtain ⟨a,vs,rfl,h2,h3⟩:=r
    exact ⟨a,vs,rfl,.inr (bI.same z.zh h2),by rw [h3.length]; exact hn,h1 H0 Z0 σ H ρ pd vs ps ρ' Q h3.length (SR.items e hg z h3 sl') h' k⟩
  . cases h'
 | _=>cases h
def ZR (K:FG) (tl:TE):TI:=fun σ H R=>tl σ H fun x H1=>(∃ a,x=.ref a/\(∃ xs,bI K H1 a xs)/\R (HN K a) H1)\/(∃ a,x=.ref a/\(∃ xs,cI K H1 a xs)/\R (Rk K a) H1)\/∃ z,x=.str z/\R (uX z) H1
theorem WN {tg l:Expr} {tl:TE} (hl:PE X l tl):PI X tg l (ZR X.K tl):=by
 intro pins s σ H R I h
 have at':∀ (v:Value) (s1:Shared) (x:V) (H1:Hp),Inv X pins σ H1 s1->RelV x v->((∃ a,x=.ref a/\(∃ xs,bI X.K H1 a xs)/\R (HN X.K a) H1)\/(∃ a,x=.ref a/\(∃ xs,cI X.K H1 a xs)/\R (Rk X.K a) H1)\/∃ z,x=.str z/\R (uX z) H1)->
  wpAny (model X.prog X.w) X.A (pyIter v) (PIE X pins σ tg R) X.xe s1:=fun v s1 x H1 I1 r1 q=>by
  have fp:∀ b,b∈[s1.heap.objs.size]->mC X pins H1 b:=fun b hb=>by
   have e:b=s1.heap.objs.size:=by simpa using hb
   subst e
   exact I1.fpOk (aaf _) (I1.hok.fresh (aaf _))
  rcases q with ⟨a,rfl,⟨xs,hq⟩,q⟩ | ⟨a,rfl,⟨xs,hq⟩,q⟩ | ⟨z,rfl,q⟩
  . cases r1
    obtain ⟨its,rv,p,hz⟩:=I1.list hq
    exact wpAny_pyIter_list p.isList ⟨s1.heap.objs.size,[s1.heap.objs.size],_,_,H1,rfl,I1.kept (t':=s1.toks) fun b o e=>aac _ e,Cy a _,⟨_,aau _ rfl,rfl,rfl⟩,fp,q⟩
  . cases r1
    obtain ⟨its,rv,p,hz⟩:=I1.tuple hq
    exact wpAny_pyIter_tuple p ⟨s1.heap.objs.size,[s1.heap.objs.size],_,_,H1,rfl,I1.kept (t':=s1.toks) fun b o e=>aac _ e,JD a _,⟨_,aau _ rfl,rfl,rfl⟩,fp,q⟩
  . obtain ⟨t,rfl⟩:=r1
    have kp:∀ (o:Obj),Inv X pins σ H1 { s1 with heap:=s1.heap.push o }:=fun o=>I1.kept (t':=s1.toks) fun b u e=>aac _ e
    have ob:∀ {n:String} (i:Nat) (h:Heap),h.IsStrIter s1.heap.objs.size n z t i->∃ o,h.get? s1.heap.objs.size=some o/\∀ v,o.data≠.cell v:=fun i h st=>by
     obtain ⟨o,ho,_,hd⟩:=st
     exact ⟨o,ho,fun v e=>by rw [hd] at e; cases e⟩
    cases ha:z.cps.all (·<128)
    . exact wpAny_pyIter_wide ha ⟨s1.heap.objs.size,[s1.heap.objs.size],_,uX z,H1,rfl,kp _,Ge _ z (fun A' hA=>Walks.strWide hA _ z t) ob (fun A i s Q E st h=>wpAny_pyIter_striter_wide st h),⟨_,aau _ rfl,rfl,rfl⟩,fp,q⟩
    . exact wpAny_pyIter_ascii ha ⟨s1.heap.objs.size,[s1.heap.objs.size],_,uX z,H1,rfl,kp _,Ge _ z (fun A' hA=>Walks.strAscii hA _ z t) ob (fun A i s Q E st h=>wpAny_pyIter_striter_ascii st h),⟨_,aau _ rfl,rfl,rfl⟩,fp,q⟩
 exact bG (hl pins s σ H _ I h) fun v s1 ⟨x,H1,I1,r1,q⟩=>at' v s1 x H1 I1 r1 q
def cX:PV->Option (List PV)
 | .lst ps=>some ps
 | .tup ps=>some ps
 | .str x=>some (signs x)
 | _=>none
theorem jx {tg l:Expr} {f:EF} (hl:PE X l (tP X.K f)):PI X tg l (Dd X.K (gB f cX)):=PI.imp (WN hl) fun σ H R q=>by
 obtain ⟨H0,Z0,ρ,pd,xs,ρ',s,h,k⟩:=q
 obtain ⟨x,h1,h2⟩:=acf h
 obtain ⟨ys,h3,h4⟩:=acg h2
 cases h4
 refine ⟨H0,Z0,ρ,pd,x.1,x.2,s,h1,fun v H1 s1=>?_⟩
 have s2:=s1.freeze
 cases e:x.1.pv with
 | lst ps=>
  rw [e] at h3 s2
  cases h3
  obtain ⟨Z,z,r⟩:=s2.rep
  unfold Rep at r
  obtain ⟨b,vs,rfl,h1',h2'⟩:=r
  exact .inl ⟨b,rfl,⟨vs,bI.same z h1'⟩,k _ _ _ s2 De (aap _ _)⟩
 | tup ps=>
  rw [e] at h3 s2
  cases h3
  obtain ⟨Z,z,r⟩:=s2.rep
  unfold Rep at r
  obtain ⟨b,vs,rfl,h1',h2'⟩:=r
  exact .inr (.inl ⟨b,rfl,⟨vs,cI.same z h1'⟩,k _ _ _ s2 Qg (aap _ _)⟩)
 | str z=>
  rw [e] at h3 s2
  cases h3
  obtain ⟨_,r⟩:=s2.repH
  exact .inr (.inr ⟨z,dw r,k _ _ _ s2.pop Qp (abv _)⟩)
 | _=>rw [e] at h3; cases h3
def nj (g g':PV->PV->Option Lc) (fa fb fc:EF):EF:=fun ρ=>(fa ρ).bind fun x=>(fb x.2).bind fun y=>(g x.1.pv y.1.pv).bind fun z=>match z.pv with
 | .bl true=>(fc y.2).bind fun w=>(g' y.1.pv w.1.pv).map fun l=>(l,w.2)
 | .bl false=>some (.sh (.bl false),y.2)
 | _=>none
theorem Di {r r':R2} {g g':PV->PV->Option Lc} (hs:iU X.K r g) (hs':iU X.K r' g') {fa fb fc:EF}:∀ σ H Q,tP X.K (nj g g' fa fb fc) σ H Q->Ew r r' (tP X.K fa) (tP X.K fb) (tP X.K fc) σ H Q:=fun σ H Q q=>by
 obtain ⟨H0,Z0,ρ,pd,l,ρ',s,f,k⟩:=q
 obtain ⟨x,h1,h2⟩:=acf f
 obtain ⟨y,h3,h4⟩:=acf h2
 obtain ⟨z,h5,h6⟩:=acf h4
 refine ⟨H0,Z0,ρ,pd,x.1,x.2,s,h1,fun v H1 s1=>⟨H0,Z0,x.2,_,y.1,y.2,s1,h3,fun w H2 s2=>?_⟩⟩
 have s3:=s2.freeze.swap.freeze.swap
 have s4:SR X.K H0 Z0 σ H2 y.2 ((w,.sh y.1.pv)::(v,.sh x.1.pv)::(w,.sh y.1.pv)::pd):=s3.dup.perm ((List.Perm.swap _ _ _).cons _)
 refine hs H0 Z0 σ y.2 _ H2 v w x.1.pv y.1.pv z _ s4 h5 fun u H3 s5=>?_
 obtain ⟨_,ru⟩:=s5.freeze.repH
 split at h6
 . rename_i e
   rw [e] at ru
   refine ⟨true,dC ru,?_⟩
   rw [ab7 rfl]
   obtain ⟨t,h7,h8⟩:=acf h6
   obtain ⟨l',h9,h10⟩:=acg h8
   cases h10
   refine ⟨H0,Z0,y.2,_,t.1,t.2,s5.pop,h7,fun b H4 s6=>?_⟩
   exact hs' H0 Z0 σ t.2 pd H4 w b y.1.pv t.1.pv _ Q s6.freeze h9 k
 . rename_i e
   rw [e] at ru
   refine ⟨false,dC ru,?_⟩
   rw [ab8 aaA]
   cases h6
   exact k _ H3 (s5.pop.pop.scal dM)
 . cases h6
theorem WP {op op':CmpOp} {a b c:Expr} {r r':R2} {g g':PV->PV->Option Lc} {fa fb fc:EF} (ho:eN X (compareOp op) r) (ho':eN X (compareOp op') r') (hs:iU X.K r g) (hs':iU X.K r' g') (ha:PE X a (tP X.K fa)) (hb:PE X b (tP X.K fb)) (hc:PE X c (tP X.K fc))
 (hm:lastMarks [op,op'] [b,c]=false:=by with_unfolding_all rfl):PE X (.Compare a [op,op'] [b,c] pos) (tP X.K (nj g g' fa fb fc)):=PE.imp (OJ ho ho' ha hb hc hm) (Di hs hs')
theorem Ug {op op':CmpOp} {a b c:Expr} {r r':R2} {g g':PV->PV->Option Lc} {fa fb fc:EF} (ho:eN X (compareOp op) r) (ho':eN X (compareOp op') r') (hs:iU X.K r g) (hs':iU X.K r' g') (ha:PE X a (tP X.K fa)) (hb:PE X b (tP X.K fb)) (hc:PE X c (tP X.K fc))
 (hm:lastMarks [op,op'] [b,c]=false:=by with_unfolding_all rfl):PT X (.Compare a [op,op'] [b,c] pos) (gO X.K (tT (nj g g' fa fb fc) bB)):=J5 (PT.imp (O1 ho ho' ha hb hc hm) fun σ H Q q=>Di hs hs' σ H _ q)
end
section
variable {P:Program} {w:World} {K:FG} {mg:Str->Option Value} {base:Heap}
def Ik (mg:Str->Option Value) (L:List Str):Prop:=∀ x∈L,mg x=none
theorem um {x:Str} {st:Stmt} {ps:List Str} {k:Nat} (F:cQ K mg x st ps):bV P w K mg base x k ps (bT K ps.length fun _ _=>none):=by
 obtain ⟨f,fd,F,hm,hb⟩:=F
 have no:∀ vs H Q E,¬ bT K ps.length (fun _ _=>none) vs H Q E:=fun vs H Q E h=>by
  obtain ⟨_,_,_,_,_,_,_,_,_,_,h,_⟩:=h
  cases h
 exact ⟨f,fd,⟨fun vs H Q E h=>absurd h (no vs H Q E),fun A outer s H args us vs Q E _ _ _ _ h=>absurd h (no vs H Q E)⟩,hm,F.kp,hb⟩
def El (K:FG):Sp:=fun vs H Q _=>∃ (a:Addr) (ns:List Int),vs=[.ref a]/\bI K H a (ns.map V.int)/\ns.length<=63/\∀ H',Q (.bl true) H'
theorem WQ {f:Addr} {fd:FuncData} {k:Nat} {g:GF} (F:mD P w K mg base nW k f fd ["_law_script"] (bT K 1 g)) (h:∀ ns:List Int,ns.length<=63->∃ mu',g [.lst (ns.map PV.int)] []=some (.sh (.bl true),mu')):mD P w K mg base nW k f fd ["_law_script"] (El K):=
 F.imp fun vs H Q E q=>by
  obtain ⟨a,ns,rfl,hs,hl,k⟩:=q
  obtain ⟨mu',e⟩:=h ns hl
  refine ⟨⟨H,[]⟩,[.lst (ns.map PV.int)],[],_,mu',rfl,rfl,cZ.refl _,aJ.cons ?_ .nil,⟨fun e he=>(by cases he),abD⟩,e,fun v H' r=>?_⟩
  . unfold Rep
    refine ⟨a,ns.map V.int,rfl,hs,?_⟩
    clear hs e hl
    induction ns with
    | nil=>exact .nil
    | cons n r ih=>exact aJ.cons (eV _) ih
  . obtain ⟨Z',_,_,s⟩:=r
    obtain ⟨x,e1,e2⟩:=s.1 _ aab
    cases e1
    rw [dC e2]
    exact k H'
end
theorem aP:∀ ρ ls ρ1,ao ρ=some (ls,ρ1)->ls.length=0:=fun ρ ls ρ1 h=>by cases h; rfl
theorem au {f:EF} {g:AF} {n:Nat} (h:∀ ρ ls ρ1,g ρ=some (ls,ρ1)->ls.length=n):∀ ρ ls ρ1,aa f g ρ=some (ls,ρ1)->ls.length=n+1:=fun ρ ls ρ1 e=>by
 obtain ⟨x,h1,h2⟩:=acf e
 obtain ⟨y,h3,h4⟩:=acg h2
 cases h4
 rw [aae,h _ _ _ h3]
theorem Yx {X:Cx} {M F:List Str} {ixs:List Nat} {sc:Scope} (S:Scope) (hS:X.env.scope=S) (kind:sc.kind=.function) (locs:∀ y∈sc.names,y.2=.local->sc.names.lookup y.1=some .local) (cel:∀ y∈sc.names,y.2=.cell->sc.names.lookup y.1=some .cell)
 (own:∀ p∈sc.names,p.2=.free->S.names.lookup p.1=some .cell\/S.names.lookup p.1=some .free) (frs:∀ x∈F,sc.names.lookup x=some .free) (ix:ixs.map (fun i=>X.N[i]?)=F.map some):jN X M F ixs sc:=by
 refine ⟨kind,locs,cel,fun p hp e=>by rw [hS]; exact own p hp e,frs,?_,fun j i h=>?_⟩
 . have:=congrArg List.length ix
   simpa using this
 . have h2:(ixs.map (fun i=>X.N[i]?))[j]?=some X.N[i]?:=by rw [aaN,h]; rfl
   rw [ix,aaN] at h2
   cases q:F[j]? with
   | none=>rw [q] at h2; cases h2
   | some x=>rw [q] at h2; exact (aaB h2).symm
section
variable {P:Program} {w:World} {K:FG} {mg:Str->Option Value} {base:Heap}
theorem sH.okP {x:Str} {st:Stmt} {N ps:List Str} {k:Nat} {g:GF} {f:Addr} {fd:FuncData} (F:sH K x x st f fd) (S:aU N ps (aH st))
 (h:∀ (cdv:Value) (A:Around) (outer:List PySem.Env) (s:Shared) (H:Hp) (E:XK),kj k (A.deeper (envOfC x (aH st) s.heap.objs.size f cdv))->
   ∃ g':SF,(∀ a mu,g a mu=cA N.length g' a mu)/\iu (O9 nW P w K mg base N x (aH st) f cdv A outer s H E).nox (iH st) (fO K g')):mD P w K mg base nW (k+1) f fd ps (bT K ps.length g):=by
 refine F.ok S (fun vs H Q E q=>?_) (fun cdv A outer s H vs Q E hr q=>?_)
 . obtain ⟨Z,qs,mu,r,mu',e,_⟩:=q; exact e
 . obtain ⟨g',eg,b⟩:=h cdv A outer s H E hr
   obtain ⟨Z,qs,mu,r,mu',e,hg,z,rl,c,hr',kk⟩:=q
   rw [eg] at hr'
   obtain ⟨fl,h1,h2⟩:=acf hr'
   refine ⟨_,b,kJ H (qY Z.g mu),Z,_,[],fl,yK hg z rl c,h1,?_⟩
   cases fl with
   | rt r' ρ'=>
    cases h2
    intro v σ' H' s'
    obtain ⟨el,Z',hg',z',s''⟩:=s'.top
    refine kk v H' ⟨Z',hg',z',s''.sub ?_⟩
    exact (aaZ _ _).cons_cons _
   | nx ρ'=>
    cases h2
    intro σ' H' s'
    obtain ⟨el,Z',hg',z',s''⟩:=s'
    exact kk .non H' ⟨Z',hg',z',(s''.sub (aaZ _ _)).consS (uh _)⟩
   | bk ρ'=>cases h2
   | ct ρ'=>cases h2
end
section
variable {X:Cx}
def ZS:PV->Option PV
 | .int i=>some (.int (-i))
 | _=>none
def rA (f:EF):EF:=fun ρ=>(f ρ).bind fun x=>(ZS x.1.pv).map fun p=>(.sh p,x.2)
theorem J9 {a:Expr} {f:EF} {pos:Pos} (ha:PE X a (tP X.K f)):PE X (.UnaryOp .USub a pos) (tP X.K (rA f)):=PE.imp (Yn V0 ha) fun σ H Q q=>by
 obtain ⟨H0,Z0,ρ,pd,r,ρ',s,h,k⟩:=q
 obtain ⟨x,h1,h2⟩:=acf h
 obtain ⟨p,h3,h4⟩:=acg h2
 cases h4
 refine ⟨H0,Z0,ρ,pd,x.1,x.2,s,h1,fun v H1 s1=>?_⟩
 obtain ⟨_,r1⟩:=s1.freeze.repH
 cases e:x.1.pv with
 | int i=>
  rw [e] at h3 r1
  cases h3
  exact ⟨i,bH r1,k _ H1 (s1.pop.scal eV)⟩
 | _=>rw [e] at h3; cases h3
end
theorem yQ {b:BF} {tc:TF} {te:EF} {mu:Mu} (J:Ev->Prop) (hJ:∀ ρ,J ρ->ρ.mu=mu) (c:PV->Bool) (f:PV->PV):∀ {xs:List PV} {ρ:Ev} {acc:List PV},J ρ->acc.length+xs.length<=100000->
 (∀ x∈xs,∀ ρ,J ρ->∃ ρ1,b x ρ=some ρ1/\∃ ρ2,tc ρ1=some (c x,ρ2)/\J ρ2/\(c x=true->∃ l ρ3,te ρ2=some (l,ρ3)/\l.pv=f x/\J ρ3))->jj b tc te xs ρ acc=some (acc++(xs.filter c).map f,mu)
 | [],ρ,acc,h,_,_=>by
  show some (acc,ρ.mu)=_
  rw [hJ ρ h]
  simp
 | x::xs,ρ,acc,h,hl,hs=>by
  obtain ⟨ρ1,e1,ρ2,e2,h2,h3⟩:=hs x aab ρ h
  have hs':∀ y∈xs,∀ ρ,J ρ->∃ ρ1,b y ρ=some ρ1/\∃ ρ2,tc ρ1=some (c y,ρ2)/\J ρ2/\(c y=true->∃ l ρ3,te ρ2=some (l,ρ3)/\l.pv=f y/\J ρ3):=fun y hy=>hs y (aag _ hy)
  rw [aae] at hl
  show (b x ρ).bind _=_
  rw [e1,aaa,e2,aaa]
  cases hc:c x with
  | false=>
   simp only [abT,if_false]
   rw [yQ J hJ c f h2 (by omega) hs',List.filter_cons_of_neg (by simp [hc])]
  | true=>
   obtain ⟨l,ρ3,e3,ef,h4⟩:=h3 hc
   simp only [if_true]
   rw [e3,aaa,ab7 (by omega),yQ J hJ c f h4 (by rw [aai,List.length_singleton]; omega) hs',List.filter_cons_of_pos (by simp [hc]),ef]
   simp
theorem kW {b:BF} {te:EF} {mu:Mu} (J:Ev->Prop) (hJ:∀ ρ,J ρ->ρ.mu=mu) (f:PV->PV) {xs:List PV} (h:J ρ) (hl:xs.length<=100000)
 (hs:∀ x∈xs,∀ ρ,J ρ->∃ ρ1,b x ρ=some ρ1/\∃ l ρ3,te ρ1=some (l,ρ3)/\l.pv=f x/\J ρ3) (hb:∀ x∈xs,∀ ρ ρ1,J ρ->b x ρ=some ρ1->J ρ1):jj b dq te xs ρ []=some (xs.map f,mu):=by
 rw [yQ J hJ (fun _=>true) f h (by simpa using hl) fun x hx ρ hρ=>?_]
 . rw [abi,List.filter_eq_self.mpr (fun _ _=>rfl)]
 . obtain ⟨ρ1,e1,l,ρ3,e3⟩:=hs x hx ρ hρ
   exact ⟨ρ1,e1,ρ1,rfl,hb x hx ρ ρ1 hρ e1,fun _=>⟨l,ρ3,e3⟩⟩
theorem oA (a b:Int):cN (.int a) (.int b)=some (.sh (.int (a+b))):=rfl
theorem di {a b:Int} (h:0<b):cF (.int a) (.int b)=some (.sh (.int (a%b))):=by
 show (if decide (0<b)=true then _ else _)=_
 rw [ab7 (acb h)]
theorem Mz {a b:Int} (h:0<b) (h2:b<1073741824):m9 (.int a) (.int b)=some (.sh (.int (a/b))):=by
 show (if decide (0<b/\b<1073741824)=true then _ else _)=_
 rw [ab7 (acb ⟨h,h2⟩)]
theorem zX {a b:Int} (h:-18446744073709551616<a) (h2:a<18446744073709551616):kO (.int a) (.int b)=some (.sh (.int (a*b))):=by
 show (if decide ((-(2 ^ 64)<a/\a<2 ^ 64)\/(-(2 ^ 64)<b/\b<2 ^ 64))=true then _ else _)=_
 rw [ab7 (acb (.inl ⟨by omega,by omega⟩))]
theorem zY {a b:Int} (h:-18446744073709551616<b) (h2:b<18446744073709551616):kO (.int a) (.int b)=some (.sh (.int (a*b))):=by
 show (if decide ((-(2 ^ 64)<a/\a<2 ^ 64)\/(-(2 ^ 64)<b/\b<2 ^ 64))=true then _ else _)=_
 rw [ab7 (acb (.inr ⟨by omega,by omega⟩))]
theorem cz {g:PV->PV->Option Lc} {fa fb:EF} {ρ ρ1 ρ2:Ev} {x y l:Lc} (h1:fa ρ=some (x,ρ1)) (h2:fb ρ1=some (y,ρ2)) (h3:g x.pv y.pv=some l):aA g fa fb ρ=some (l,ρ2):=by
 unfold aA
 rw [h1,aaa,h2,aaa,h3]
 rfl
theorem yR {α:Type} {l:List α} {i:Int} (h0:0<=i) (h1:i<l.length):∃ x,gM l i=some x/\l[i.toNat]?=some x:=by
 have hi:i.toNat<l.length:=by omega
 refine ⟨l[i.toNat],?_,aaC hi⟩
 unfold gM zu
 rw [ab7 h0,ab7 h1,aaa,aaC hi]
theorem uo {f g:SF} {ρ ρ':Ev} (h:f ρ=some (.nx ρ')):aF f g ρ=g ρ':=by unfold aF; rw [h,aaa]
theorem gh {f g:SF} {ρ ρ':Ev} {r:Lc} (h:f ρ=some (.rt r ρ')):aF f g ρ=some (.rt r ρ'):=by unfold aF; rw [h,aaa]
theorem Uh {i:Nat} {f:EF} {ρ ρ1:Ev} {l:Lc} (h:f ρ=some (l,ρ1)) (hi:i<ρ1.vs.length):aO i f ρ=some (.nx (ρ1.set i (some l))):=by unfold aO; rw [h,aaa,ab7 hi]
theorem dI {c:TF} {f g:SF} {ρ ρ1:Ev} (h:c ρ=some (true,ρ1)):cG c f g ρ=f ρ1:=by unfold cG; rw [h,aaa,ab7 rfl]
theorem bR {c:TF} {f g:SF} {ρ ρ1:Ev} (h:c ρ=some (false,ρ1)):cG c f g ρ=g ρ1:=by unfold cG; rw [h,aaa,ab8 aaA]
theorem Ui {f:EF} {ρ ρ1:Ev} {l:Lc} (h:f ρ=some (l,ρ1)):bO f ρ=some (.rt l ρ1):=by unfold bO; rw [h]; rfl
theorem Uj {f:IF} {b:BF} {body:SF} {ρ ρ1:Ev} {xs:List PV} (h:f ρ=some (xs,ρ1)):iG f b body ρ=fD b body xs ρ1:=by unfold iG; rw [h,aaa]
theorem bf {n:Nat} {g:SF} {ps:List PV} {mu:Mu} {r:Lc} (h:g (env0 n ps mu)=some (.rt r ρ)):cA n g ps mu=some (r,ρ.mu):=by unfold cA; rw [h,aaa]
theorem f9 {n:Nat} {g:SF} {ps:List PV} {mu:Mu} (h:g (env0 n ps mu)=some (.nx ρ)):cA n g ps mu=some (.sh .non,ρ.mu):=by unfold cA; rw [h,aaa]
theorem Qq {g:GF} {a:AF} {ρ ρ1:Ev} {ls:List Lc} {r:Lc} {mu:Mu} (h:a ρ=some (ls,ρ1)) (h2:g (ls.map Lc.pv) ρ1.mu=some (r,mu)):aK g a ρ=some (r,⟨ρ1.vs,mu⟩):=by unfold aK; rw [h,aaa,h2]; rfl
theorem Qs {f:EF} {a:AF} {ρ ρ1 ρ2:Ev} {l:Lc} {ls:List Lc} (h:f ρ=some (l,ρ1)) (h2:a ρ1=some (ls,ρ2)):aa f a ρ=some (l::ls,ρ2):=by unfold aa; rw [h,aaa,h2]; rfl
theorem Yy {g:List PV->Option Lc} {a:AF} {ρ ρ1:Ev} {ls:List Lc} {r:Lc} (h:a ρ=some (ls,ρ1)) (h2:g (ls.map Lc.pv)=some r):eB g a ρ=some (r,ρ1):=by unfold eB; rw [h,aaa,h2]; rfl
theorem je {f:IF} {m:Nat} {ixs:List Nat} {b:BF} {tc:TF} {te:EF} {ρ ρ1:Ev} {xs ys:List PV} {mu:Mu} (h:f ρ=some (xs,ρ1)) (h2:jj b tc te xs (qZ m ixs (ji ixs ρ1)) []=some (ys,mu)):eO f m ixs b tc te ρ=some (.own (.lst ys),⟨(ji ixs ρ1).vs,mu⟩):=by unfold eO; rw [h,aaa,h2]; rfl
theorem jP {f:EF} {g:PV->Option (List PV)} {ρ ρ1:Ev} {l:Lc} {xs:List PV} (h:f ρ=some (l,ρ1)) (h2:g l.pv=some xs):gB f g ρ=some (xs,ρ1):=by unfold gB; rw [h,aaa,h2]; rfl
theorem Qt {f:TF} {ρ ρ1:Ev} {b:Bool} (h:f ρ.peek=some (b,ρ1)):xG f ρ=some (b,ρ):=by unfold xG; rw [h]; rfl
theorem zZ {f:EF} {tr:PV->Option Bool} {ρ ρ1:Ev} {l:Lc} {b:Bool} (h:f ρ=some (l,ρ1)) (h2:tr l.pv=some b):tT f tr ρ=some (b,ρ1):=by unfold tT; rw [h,aaa,h2]; rfl
section
variable {f g:SF} {ρ ρ1 ρ2 ρ':Ev} {R:Option Fl} {l m r:Lc} {fa fb fc:EF} {c d:TF} {a:AF} {b:Bool}
theorem aB (h:f ρ=some (.nx ρ')) (h2:g ρ'=R):aF f g ρ=R:=(uo h).trans h2
theorem cH {i:Nat} (h:fa ρ=some (l,ρ1)) (hi:Nat.blt i ρ1.vs.length=true) (e:ρ1.set i (some l)=ρ'):aO i fa ρ=some (.nx ρ'):=by
 rw [Uh h (by simpa using hi),e]
theorem cD (h:fa ρ=some (l,ρ1)):bO fa ρ=some (.rt l ρ1):=Ui h
theorem fJ (h:fa ρ=some (l,ρ1)):cW fa ρ=some (.nx ρ1):=by unfold cW; rw [h]; rfl
theorem cO {o:PV->PV->Option Lc} {p q:PV} (h1:fa ρ=some (l,ρ1)) (hx:l.pv=p) (h2:fb ρ1=some (m,ρ2)) (hy:m.pv=q) (h3:o p q=some r):aA o fa fb ρ=some (r,ρ2):=cz h1 h2 (by rw [hx,hy]; exact h3)
theorem bh {G:GF} {ls:List Lc} {ps:List PV} {mu:Mu} {v:List (Option Lc)} {mu1:Mu} (h:a ρ=some (ls,ρ1)) (hp:ls.map Lc.pv=ps) (hv:ρ1.vs=v) (hm:ρ1.mu=mu1) (h2:G ps mu1=some (r,mu)):aK G a ρ=some (r,⟨v,mu⟩):=by
 subst hp hv hm
 exact Qq h h2
theorem uZ {G:List PV->Option Lc} {ls:List Lc} {ps:List PV} (h:a ρ=some (ls,ρ1)) (hp:ls.map Lc.pv=ps) (h2:G ps=some r):eB G a ρ=some (r,ρ1):=by
 subst hp
 exact Yy h h2
theorem aC {ls:List Lc} (h:fa ρ=some (l,ρ1)) (h2:a ρ1=some (ls,ρ2)):aa fa a ρ=some (l::ls,ρ2):=Qs h h2
theorem fM {tr:PV->Option Bool} {p:PV} (h:fa ρ=some (l,ρ1)) (hp:l.pv=p) (h2:tr p=some b):tT fa tr ρ=some (b,ρ1):=by
 subst hp
 exact zZ h h2
theorem wG (h:c ρ=some (b,ρ1)):jh c ρ=some (!b,ρ1):=by unfold jh; rw [h]; rfl
theorem Ka {b2:Bool} (h:c ρ=some (b,ρ1)) (h2:d ρ1=some (b2,ρ1)):m6 c d ρ=some (b||b2,ρ1):=by
 unfold m6
 rw [h,aaa]
 cases b with
 | true=>rfl
 | false=>rw [ab8 aaA,h2]; rfl
theorem Gf (h:c ρ.peek=some (b,ρ1)):xG c ρ=some (b,ρ):=Qt h
theorem wH {ls:List Lc} {ps:List PV} (h:a ρ=some (ls,ρ1)) (hl:Nat.ble ls.length 1000=true) (hp:ls.map Lc.pv=ps):aV a ρ=some (.own (.lst ps),ρ1):=by
 subst hp
 unfold aV
 rw [h,aaa,ab7 (by simpa using hl)]
theorem kY {ls:List Lc} {ps:List PV} (h:a ρ=some (ls,ρ1)) (hl:Nat.ble ls.length 1000=true) (hp:ls.map Lc.pv=ps):aQ a ρ=some (.sh (.tup ps),ρ1):=by
 subst hp
 unfold aQ
 rw [h,aaa,ab7 (by simpa using hl)]
theorem oX {p q:PV} (h1:fa ρ=some (l,ρ1)) (hx:l.pv=p) (h2:fb ρ1=some (m,ρ2)) (hy:m.pv=q) (hn:∀ n,p≠.ptr n) (h3:yr p q=some r):bx fa fb ρ=some (r,ρ2):=by
 subst hx hy
 unfold bx
 rw [h1,aaa,h2,aaa]
 split
 . rename_i n k e1 e2
   exact (hn n e1).elim
 . rw [h3]; rfl
theorem MF {n:Nat} {k:Int} {ws:List PV} {p:PV} (h1:fa ρ=some (l,ρ1)) (hx:l.pv=.ptr n) (h2:fb ρ1=some (m,ρ2)) (hy:m.pv=.int k) (hm:ρ2.mu[n]?=some (some (.lst ws))) (h3:gM ws k=some p):bx fa fb ρ=some (.sh p,ρ2):=by
 unfold bx
 rw [h1,aaa,h2,aaa,hx,hy]
 show (match ρ2.mu[n]? with | some (some (.lst ws))=>_ | _=>_)=_
 rw [hm]
 show (gM ws k).map _=_
 rw [h3]
 rfl
theorem wI {i:Nat} {ws0 ws:List PV} {p:PV} (h0:ρ.vs[i]?=some (some (.own (.lst ws0)))) (h:fa ρ=some (l,ρ1)) (hp:l.pv=p) (h1:ρ1.vs[i]?=some (some (.own (.lst ws)))) (hz:ws.length<100000) (e:ρ1.set i (some (.own (.lst (ws++[p]))))=ρ'):j0 i fa ρ=some (.nx ρ'):=by
 subst hp
 unfold j0
 rw [h0]
 show (fa ρ).bind _=_
 rw [h,aaa]
 show (match ρ1.vs[i]? with | some (some (.own (.lst ws)))=>_ | _=>_)=_
 rw [h1]
 show (if ws.length<100000 then _ else _)=_
 rw [ab7 hz,e]
theorem wJ {i:Nat} {ws0 ws ps:List PV} (h0:ρ.vs[i]?=some (some (.own (.lst ws0)))) (h:fa ρ=some (l,ρ1)) (hp:l.pv=.lst ps) (h1:ρ1.vs[i]?=some (some (.own (.lst ws)))) (hz:ws.length+ps.length<=100000) (e:ρ1.set i (some (.own (.lst (ws++ps))))=ρ'):ni i fa ρ=some (.nx ρ'):=by
 unfold ni
 rw [h0]
 show (fa ρ).bind _=_
 rw [h,aaa,hp]
 show (match PV.lst ps,ρ1.vs[i]? with | .lst ps,some (some (.own (.lst ws)))=>_ | _,_=>_)=_
 rw [h1]
 show (if ws.length+ps.length<=100000 then _ else _)=_
 rw [ab7 hz,e]
theorem sU {C:String} {p:PV} (h:fa ρ=some (l,ρ1)) (hp:l.pv=p) (h2:wF p C=some b):jt C fa ρ=some (.sh (.bl b),ρ1):=by
 subst hp
 unfold jt
 rw [h,aaa,h2]
 rfl
theorem jQ {F:IF} {B:BF} {body:SF} {xs:List PV} (h:F ρ=some (xs,ρ1)) (h2:fD B body xs ρ1=R):iG F B body ρ=R:=(Uj h).trans h2
end
section
variable {X:Cx}
def cV (f:EF):EF:=fun ρ=>(f ρ).bind fun x=>match x.1 with
 | .own p=>some (.sh (.ptr x.2.mu.length),⟨x.2.vs,x.2.mu++[some p]⟩)
 | _=>none
theorem mq {e:Expr} {f:EF} (h:PE X e (tP X.K f)):PE X e (tP X.K (cV f)):=PE.imp h fun σ H Q q=>by
 obtain ⟨H0,Z0,ρ,pd,l,ρ',s,f,k⟩:=q
 obtain ⟨x,h1,h2⟩:=acf f
 refine ⟨H0,Z0,ρ,pd,x.1,x.2,s,h1,fun v H1 s1=>?_⟩
 split at h2
 . rename_i p ep
   cases h2
   rw [ep] at s1
   obtain ⟨el,Z,hg,z,so⟩:=s1.top
   obtain ⟨a,ea,ra,za,ha0⟩:=so.1 _ aab
   have ea':v=.ref a:=aaB ea
   subst ea'
   have lz:iy Z ⟨Z.z,Z.g++[a]⟩:=⟨cZ.refl _,abU _ _⟩
   have so2:=so.step (Z':=⟨Z.z,Z.g++[a]⟩) (H':=H1) lz fun e he b hb=>⟨rfl,(iT so he hb).1⟩
   refine k _ H1 (.mk (Z:=⟨Z.z,Z.g++[a]⟩) el (by simp [hg]) ⟨z.zh,z.h0,z.z0.trans lz,z.new⟩ (Slots.consS ?_ ?_))
   . refine so2.perm ?_
     have ec:cel (Z.g++[a]) (x.2.mu++[some p])=cel Z.g x.2.mu++[(some (.ref a),some (.own p))]:=by
      unfold cel
      rw [aaz,aaz,abg (by simp [hg])]
      rfl
     unfold sl
     show List.Perm (cel (Z.g++[a]) (x.2.mu++[some p])++_) _
     rw [ec,aah]
     exact aaW
   . unfold Rep
     exact ⟨a,rfl,by show (Z.g++[a])[x.2.mu.length]?=some a; rw [hg,aas (aaf _)]; simp⟩
 . cases h2
theorem j7.two {r:List V->Hp->VK->Prop} {g:PV->PV->Option Lc} (h:∀ H0 Z0 σ ρ pd H v w p q l Q,SR K H0 Z0 σ H ρ ((v,.sh p)::(w,.sh q)::pd)->g p q=some l->(∀ u H',SR K H0 Z0 σ H' ρ ((u,l)::pd)->Q u H')->r [v,w] H Q):
 j7 K r (fun ps=>match ps with | [p,q]=>g p q | _=>none):=by
 intro H0 Z0 σ ρ pd H vs ps l Q e s hg k
 match ps,vs,e,s,hg with
 | [p,q],[v,w],_,s,hg=>exact h H0 Z0 σ ρ pd H v w p q l Q s hg k
 | [p,q],[],e,_,_=>simp at e
 | [p,q],[_],e,_,_=>simp at e
 | [p,q],_::_::_::_,e,_,_=>simp at e
 | [],_,_,_,hg=>cases hg
 | [_],_,_,_,hg=>cases hg
 | _::_::_::_,_,_,_,hg=>cases hg
def aam:PV->PV->Option Lc
 | .int i,.int j=>some (.sh (.int (if j<i then j else i)))
 | _,_=>none
def WR:PV->PV->Option Lc
 | .int i,.int j=>some (.sh (.int (if j>i then j else i)))
 | _,_=>none
abbrev max2:List PV->Option Lc:=fun ps=>match ps with | [p,q]=>WR p q | _=>none
theorem WT:j7 K (fun xs H Q=>∃ i j,xs=[.int i,.int j]/\Q (.int (if j>i then j else i)) H) max2:=j7.two fun H0 Z0 σ ρ pd H v w p q l Q s e k=>by
 obtain ⟨_,r1,r2⟩:=s.rep2H
 unfold WR at e
 split at e
 . cases e
   have a:=bH r1
   have b:=bH r2
   subst a b
   exact ⟨_,_,rfl,k _ H (s.pop.pop.scal eV)⟩
 . cases e
theorem SR.popO {a:Addr} {ws:List PV} {p:PV} (s:SR K H0 Z0 σ H ρ ((.ref a,.own (.lst ws))::pd)) (hp:ws[ws.length-1]?=some p):
 ∃ us y,H a=some (.lst us)/\us[us.length-1]?=some y/\SR K H0 Z0 σ (upd H a (.lst us.dropLast)) ρ ((.ref a,.own (.lst ws.dropLast))::(y,.sh p)::pd):=by
 obtain ⟨el,Z,hg,z,so⟩:=s.top
 obtain ⟨b,eb,⟨us,hu,hr⟩,_⟩:=so.1 _ aab
 cases eb
 obtain ⟨y,hy,ry⟩:=hr.get hp
 have hl:=hr.length
 refine ⟨us,y,hu,by rw [hl]; exact hy,?_⟩
 have hd:aJ K Z ws.dropLast us.dropLast:=by
  rw [List.dropLast_eq_take,List.dropLast_eq_take,hl]
  exact hr.take _
 obtain ⟨z',s'⟩:=so.write (o:=.lst us.dropLast) (q:=.lst ws.dropLast) z ⟨us.dropLast,bM,hd⟩
 have s2:=(s'.consS (v:=y) (p:=p) ry).perm (List.Perm.swap (some y,some (Lc.sh p)) (some (V.ref a),some (Lc.own (.lst ws.dropLast))) _)
 exact .mk (Z:=Z) el hg z' (s2.perm (bZ.cons _))
def qC (ps:List PV):List PV:=ps.zipIdx.map fun x=>.tup [.int (x.2:Nat),x.1]
theorem MJ {ps:List PV} {i:Nat}:(qC ps)[i]?=ps[i]?.map fun p=>.tup [.int (i:Nat),p]:=by
 unfold qC
 rw [aaN,List.getElem?_zipIdx]
 cases ps[i]?<;>simp
theorem MK {ps:List PV}:(qC ps).length=ps.length:=by unfold qC; simp
theorem MN {H0:Hp} {a:Addr} {ps:List PV}:m7 K H0 Z0 ((.ref a,.sh (.lst ps))::pd) (Wm K a) (qC ps):=by
 intro σ H ρ i s
 obtain ⟨el,Z,hg,z,r,so⟩:=s.sh
 have r0:=r
 unfold Rep at r
 obtain ⟨b,vs,e,h1,h2⟩:=r
 cases e
 have hq:=bI.same z.zh h1
 refine ⟨fun x hx=>?_,fun hl=>⟨vs,hq,by rw [h2.length]; rw [MK] at hl; omega⟩⟩
 rw [MJ] at hx
 obtain ⟨p,hp,rfl⟩:=acg hx
 obtain ⟨v,hv,rv⟩:=h2.get hp
 refine ⟨⟨vs,v,hq,hv⟩,fun v' H' y=>?_⟩
 obtain ⟨T,y,hT,rfl,rfl,hy⟩:=y
 have e1:=hy vs hq
 rw [hv] at e1
 cases e1
 obtain ⟨z',lz,so'⟩:=(so.consS r0).newF z (a:=T) (o:=.tup [.int (i:Nat),v]) hT
 refine .mk (Z:=Z.put T (.tup [.int (i:Nat),v])) el hg z' (Slots.perm (Slots.consS so' ?_) (bZ.cons _))
 unfold Rep
 exact ⟨T,[.int (i:Nat),v],rfl,.inl (.inl (by show upd Z.z T _ T=_; rw [bM])),aJ.cons (eV _) (aJ.cons (rv.mono lz) .nil)⟩
def wK (f:EF):IF:=fun ρ=>(f ρ).bind fun x=>match x.1.pv with
 | .lst ps=>some (qC ps,x.2)
 | _=>none
theorem Il {a:Expr} {f:EF} {p pos:Pos} {elts:List Expr} {x1} {tpos:Pos} (hg:Gl X "enumerate") (hm:X.mg "enumerate" = none) (ha:PA X [a] (iz X.K (aa f ao))) (hs:starEach [a] X.env=[(false,eval a X.env)]:=by rfl):PI X (.Tuple elts x1 tpos) (.Call (.Name "enumerate" p) [a] [] pos) (Dd X.K (wK f)):=PI.imp (TX hg hm ha hs) fun σ H R q=>by
 obtain ⟨H0,Z0,ρ,pd,xs,ρ',s,h,k⟩:=q
 obtain ⟨x,h1,h2⟩:=acf h
 refine ⟨H0,Z0,ρ,pd,[x.1],x.2,s,?_,fun vs H1 e1 s1=>?_⟩
 . unfold aa ao
   rw [h1]
   rfl
 . obtain ⟨v,rfl⟩:=yp e1
   have s2:SR X.K H0 Z0 σ H1 x.2 ((v,.sh x.1.pv)::pd):=SR.freeze s1
   cases e:x.1.pv with
   | lst ps=>
    rw [e] at h2 s2
    cases h2
    obtain ⟨Z,z,r⟩:=s2.rep
    unfold Rep at r
    obtain ⟨b,us,rfl,h1',h2'⟩:=r
    exact ⟨b,rfl,⟨us,bI.same z h1'⟩,k _ _ _ s2 MN (aap _ _)⟩
   | _=>rw [e] at h2; cases h2
abbrev PD:=List (Key×PV)
def b8:PD->Key->Option PV
 | [],_=>none
 | kv::r,k=>if kv.1=k then some kv.2 else b8 r k
def jG (k:Key) (v:PV):PD->PD
 | []=>[]
 | kv::r=>(if kv.1=k then (kv.1,v) else kv)::jG k v r
def gF (l:PD) (k:Key) (v:PV):PD:=match b8 l k with
 | some _=>jG k v l
 | none=>l++[(k,v)]
def oE:PV->Option Key
 | .int i=>some (.inl i)
 | .str x=>some (.inr x)
 | _=>none
def dN (l:PD):PV:=.dk (l.map (·.1)) (l.map (·.2))
def d9 (K:FG) (Z:ZG):PD->List (Key×V)->Prop:=Paired fun p q=>p.1=q.1/\Rep K Z p.2 q.2
section
variable {K:FG} {Z Z':ZG}
theorem iJ:∀ {kvs:List (Key×V)} {ks:List Key} {ps:List PV},kvs.map (·.1)=ks->aJ K Z ps (kvs.map (·.2))->d9 K Z (ks.zip ps) kvs
 | [],ks,ps,h1,h2=>by
  subst h1
  exact .nil
 | kv::r,ks,ps,h1,h2=>by
  subst h1
  cases ps with
  | nil=>have:=h2.inv0; simp at this
  | cons p ps=>
   obtain ⟨v,r',e,h3,h4⟩:=h2.inv
   rw [aav] at e
   injection e with e1 e2
   subst e1 e2
   rw [aav,aa5]
   exact .cons ⟨rfl,h3⟩ (iJ rfl h4)
theorem d9.keys:∀ {l:PD} {kvs:List (Key×V)},d9 K Z l kvs->kvs.map (·.1)=l.map (·.1)
 | _,_,.nil=>rfl
 | _,_,.cons h t=>by rw [aav,aav,h.1,d9.keys t]
theorem d9.vals:∀ {l:PD} {kvs:List (Key×V)},d9 K Z l kvs->aJ K Z (l.map (·.2)) (kvs.map (·.2))
 | _,_,.nil=>.nil
 | _,_,.cons h t=>aJ.cons h.2 (d9.vals t)
theorem d9.len:∀ {l:PD} {kvs:List (Key×V)},d9 K Z l kvs->kvs.length=l.length
 | _,_,.nil=>rfl
 | _,_,.cons h t=>by rw [aae,aae,d9.len t]
theorem d9.val {k:Key}:∀ {l:PD} {kvs:List (Key×V)},d9 K Z l kvs->(∀ p,b8 l k=some p->∃ v,km kvs k=some v/\Rep K Z p v)/\(b8 l k=none->km kvs k=none)
 | _,_,.nil=>⟨fun p h=>(by cases h),fun _=>rfl⟩
 | p::l,q::kvs,.cons h t=>by
  have ih:=d9.val (k:=k) t
  by_cases e:p.1=k
  . have e':q.1=k:=by rw [← h.1]; exact e
    refine ⟨fun x hx=>⟨q.2,uL e',?_⟩,fun hx=>?_⟩
    . unfold b8 at hx; rw [ab7 e] at hx; cases hx; exact h.2
    . unfold b8 at hx; rw [ab7 e] at hx; cases hx
  . have e':¬ q.1=k:=by rw [← h.1]; exact e
    rw [uM e']
    unfold b8
    rw [ab8 e]
    exact ih
theorem d9.repl {k:Key} {p:PV} {v:V} (r:Rep K Z p v):∀ {l:PD} {kvs:List (Key×V)},d9 K Z l kvs->d9 K Z (jG k p l) (kvs.map fun kv=>if kv.1=k then (kv.1,v) else kv)
 | _,_,.nil=>.nil
 | a::l,b::kvs,.cons h t=>by
  refine .cons ?_ (d9.repl r t)
  by_cases e:a.1=k
  . have e':b.1=k:=by rw [← h.1]; exact e
    rw [ab7 e]
    dsimp only
    rw [ab7 e']
    exact ⟨h.1,r⟩
  . have e':¬ b.1=k:=by rw [← h.1]; exact e
    rw [ab8 e]
    dsimp only
    rw [ab8 e']
    exact h
theorem d9.app:∀ {l l':PD} {kvs kvs':List (Key×V)},d9 K Z l kvs->d9 K Z l' kvs'->d9 K Z (l++l') (kvs++kvs')
 | _,_,_,_,.nil,h=>h
 | _,_,_,_,.cons a t,h=>.cons a (d9.app t h)
theorem d9.put {k:Key} {p:PV} {v:V} {l:PD} {kvs:List (Key×V)} (h:d9 K Z l kvs) (r:Rep K Z p v):d9 K Z (gF l k p) (putK kvs k v):=by
 have hv:=h.val (k:=k)
 unfold gF
 cases e:b8 l k with
 | none=>
  rw [Pq v (hv.2 e)]
  exact h.app (.cons ⟨rfl,r⟩ .nil)
 | some q=>
  obtain ⟨u,hu,_⟩:=hv.1 q e
  have e2:putK kvs k v=kvs.map fun kv=>if kv.1=k then (kv.1,v) else kv:=by
   unfold putK
   rw [uN,hu]
   rfl
  rw [e2]
  exact h.repl r
theorem oF {p:PV} {k:Key} {v:V} (h:oE p=some k) (r:Rep K Z p v):v=kV k:=by
 cases p with
 | int i=>cases h; exact bH r
 | str x=>cases h; exact dw r
 | _=>cases h
end
def bF (fa fb:EF):EF:=fun ρ=>(fa ρ).bind fun x=>(fb x.2).bind fun y=>match x.1.pv with
 | .dk ks ps=>(oE y.1.pv).bind fun k=>(b8 (ks.zip ps) k).map fun p=>(.sh p,y.2)
 | .df ks ps=>(oE y.1.pv).bind fun k=>(b8 (ks.zip ps) k).map fun p=>(.sh p,y.2)
 | _=>bx (fun _=>some x) (fun _=>some y) ρ
theorem Uk {ρ ρ0 ρ':Ev} {v w:V} {x y:Lc×Ev} {l:Lc} {Q:VK} (hy:y.2=ρ) (s3:SR X.K H0 Z0 σ H ρ ((w,.sh y.1.pv)::(v,.sh x.1.pv)::pd)) (h:bx (fun _=>some x) (fun _=>some y) ρ0=some (l,ρ')) (k:∀ u H',SR X.K H0 Z0 σ H' ρ' ((u,l)::pd)->Q u H'):Wf X.K v w H Q:=by
 unfold bx at h
 rw [aaa,aaa] at h
 subst hy
 split at h
 . rename_i n kk en ek
   split at h
   . rename_i ws em
     obtain ⟨p,h5,h6⟩:=acg h
     cases h6
     rw [en,ek] at s3
     obtain ⟨_,rw'⟩:=s3.repH
     have ew:=bH rw'
     obtain ⟨a,rfl,s5⟩:=s3.pop.cellO em
     obtain ⟨el,Z,hg,z,so⟩:=s5.top
     obtain ⟨_,ea,⟨us,hu,hr⟩,_⟩:=so.1 _ aab
     cases ea
     obtain ⟨j,e1,e2⟩:=xu h5 hr.length
     obtain ⟨u,e3,e4⟩:=hr.get e1
     refine .inl ⟨a,us,kk,u,rfl,ew,bI.of hu,e2 u e3,k u H ?_⟩
     have s6:SR X.K H0 Z0 σ H ⟨y.2.vs,y.2.mu.set n none⟩ ((u,.sh p)::(.ref a,.own (.lst ws))::(.ref a,.sh (.ptr n))::pd):=.mk (Z:=Z) el hg z ((so.perm bZ).consS e4)
     have hn:n<y.2.mu.length:=(aan.mp em).1
     have s7:SR X.K H0 Z0 σ H ⟨y.2.vs,y.2.mu.set n none⟩ ((.ref a,.own (.lst ws))::(.ref a,.sh (.ptr n))::(u,.sh p)::pd):=s6.perm (((List.Perm.swap _ _ _).cons _).trans (List.Perm.swap _ _ _))
     have s8:=s7.cellP (by show (y.2.mu.set n none)[n]?=_; rw [aax hn])
     have e8:(y.2.mu.set n none).set n (some (.lst ws))=y.2.mu:=by rw [aa7]; exact ach em
     have s9:SR X.K H0 Z0 σ H ⟨y.2.vs,(y.2.mu.set n none).set n (some (.lst ws))⟩ ((u,.sh p)::pd):=s8
     rw [e8] at s9
     exact s9
   . cases h
 . obtain ⟨l',h5,h6⟩:=acg h
   cases h6
   exact Mv H0 Z0 σ y.2 pd H v w x.1.pv y.1.pv _ Q s3 h5 k
theorem dY {a b:Expr} {pos:Pos} {fa fb:EF} (hu:X.A.units+1<cLine) (ha:PE X a (tP X.K fa)) (hb:PE X b (tP X.K fb)) (hm:xg b):PE X (.Subscript a b pos) (tP X.K (bF fa fb)):=PE.imp (J0 (Ln.or (HY hu)) ha hb hm) fun σ H Q q=>by
 obtain ⟨H0,Z0,ρ,pd,l,ρ',s,f,k⟩:=q
 obtain ⟨x,h1,h2⟩:=acf f
 obtain ⟨y,h3,h4⟩:=acf h2
 refine ⟨H0,Z0,ρ,pd,x.1,x.2,s,h1,fun v H1 s1=>⟨H0,Z0,x.2,_,y.1,y.2,s1,h3,fun w H2 s2=>?_⟩⟩
 have s3:=s2.freeze.swap.freeze.swap
 split at h4
 . rename_i ks ps en
   obtain ⟨kk,h5,h6⟩:=acf h4
   obtain ⟨p,h7,h8⟩:=acg h6
   cases h8
   obtain ⟨_,rw'⟩:=s3.repH
   have ew:=oF h5 rw'
   have s4:=s3.pop
   rw [en] at s4
   obtain ⟨Z,z,r⟩:=s4.rep
   unfold Rep at r
   obtain ⟨b',kvs,rfl,g1,g2,g3⟩:=r
   obtain ⟨u,hu',ru⟩:=(iJ g2 g3).val.1 p h7
   have e1:=z _ _ g1
   refine .inr ⟨b',u,rfl,.inl ⟨kvs,kk,.inl e1,ew,hu'.symm⟩,k u H2 ?_⟩
   refine (s4.part (u:=u) (q:=p) fun Z' z' r'=>?_).sub ((aap _ _).cons_cons _)
   unfold Rep at r'
   obtain ⟨b2,kvs2,eb,g1',g2',g3'⟩:=r'
   cases eb
   have e2:=z' _ _ g1'
   rw [e1] at e2
   cases e2
   obtain ⟨u2,hu2,ru2⟩:=(iJ g2' g3').val.1 p h7
   rw [hu'] at hu2
   cases hu2
   exact ru2
 . rename_i ks ps en
   obtain ⟨kk,h5,h6⟩:=acf h4
   obtain ⟨p,h7,h8⟩:=acg h6
   cases h8
   obtain ⟨_,rw'⟩:=s3.repH
   have ew:=oF h5 rw'
   have s4:=s3.pop
   rw [en] at s4
   obtain ⟨Z,z,r⟩:=s4.rep
   unfold Rep at r
   obtain ⟨b',ob,kvs,rfl,g1,g2,g3⟩:=r
   obtain ⟨u,hu',ru⟩:=(iJ g2 g3).val.1 p h7
   have e1:=z _ _ g1
   refine .inr ⟨b',u,rfl,.inl ⟨kvs,kk,.inr ⟨ob,e1⟩,ew,hu'.symm⟩,k u H2 ?_⟩
   refine (s4.part (u:=u) (q:=p) fun Z' z' r'=>?_).sub ((aap _ _).cons_cons _)
   unfold Rep at r'
   obtain ⟨b2,ob2,kvs2,eb,g1',g2',g3'⟩:=r'
   cases eb
   have e2:=z' _ _ g1'
   rw [e1] at e2
   cases e2
   obtain ⟨u2,hu2,ru2⟩:=(iJ g2' g3').val.1 p h7
   rw [hu'] at hu2
   cases hu2
   exact ru2
 . exact .inl (Uk rfl s3 h4 k)
theorem SR.takeD {i:Nat} {ks:List Key} {ps:List PV} (s:SR K H0 Z0 σ H ρ pd) (e:ρ.vs[i]?=some (some (.own (.dk ks ps)))):
 ∃ a,σ[i]?=some (some (.ref a))/\SR K H0 Z0 σ H (ρ.set i none) ((.ref a,.own (.dk ks ps))::pd):=by
 obtain ⟨v,e1,s1⟩:=s.take e
 obtain ⟨_,Z,_,z,so⟩:=s1.top
 obtain ⟨a,ea,_⟩:=so.1 _ aab
 have ea':v=.ref a:=aaB ea
 subst ea'
 exact ⟨a,e1,s1⟩
theorem SR.setD {v:V} {p:PV} {a:Addr} {ks:List Key} {ps:List PV} {k:Key} (s:SR K H0 Z0 σ H ρ ((v,.sh p)::(.ref a,.own (.dk ks ps))::pd)):
 ∃ kvs,H a=some (.dK kvs)/\kvs.length=ks.length/\SR K H0 Z0 σ (upd H a (.dK (putK kvs k v))) ρ ((.ref a,.own (dN (gF (ks.zip ps) k p)))::pd):=by
 obtain ⟨el,Z,hg,z,r,so⟩:=s.sh
 have so2:=so.perm bZ.symm
 obtain ⟨_,eb,⟨kvs,hu,hk,hr⟩,_⟩:=so2.1 _ aab
 cases eb
 refine ⟨kvs,hu,by rw [← hk,aad],?_⟩
 have d:=(iJ hk hr).put (k:=k) r
 obtain ⟨z',s'⟩:=so2.write (o:=.dK (putK kvs k v)) (q:=dN (gF (ks.zip ps) k p)) z ⟨putK kvs k v,bM,d.keys,d.vals⟩
 exact .mk el hg z' s'
def qD (i:Nat) (fi fv:EF):SF:=fun ρ=>(fv ρ).bind fun x=>match x.2.vs[i]? with
 | some (some (.own (.dk _ _)))=>(fi x.2).bind fun y=>match oE y.1.pv,y.2.vs[i]? with
  | some k,some (some (.own (.dk ks ps)))=>if ks.length<100000 then some (.nx (y.2.set i (some (.own (dN (gF (ks.zip ps) k x.1.pv)))))) else none
  | _,_=>none
 | _=>none
theorem Im {i:Nat} {o ix e:Expr} {fi fv:EF} {tpos pos:Pos} (h:PS X (.Assign [.Subscript o ix tpos] e pos) (JC (tP X.K fv) (Ow (qT i) (tP X.K fi) J3))):PS X (.Assign [.Subscript o ix tpos] e pos) (fO X.K (qD i fi fv)):=PS.imp h fun D σ H q=>by
 obtain ⟨H0,Z0,ρ,pd,fl,s,h,k⟩:=q
 obtain ⟨x,h1,h2⟩:=acf h
 refine ⟨H0,Z0,ρ,pd,x.1,x.2,s,h1,fun v H1 s1=>?_⟩
 split at h2
 . rename_i ks0 ps0 e0
   obtain ⟨y,h3,h4⟩:=acf h2
   obtain ⟨a,ea,_⟩:=s1.takeD e0
   refine ⟨.ref a,ea,H0,Z0,x.2,_,y.1,y.2,s1.freeze,h3,fun w H2 s2=>?_⟩
   split at h4
   . rename_i kk ks ps ek e3
     split at h4
     . rename_i hlen
       cases h4
       obtain ⟨_,rw'⟩:=s2.freeze.repH
       have ew:=oF ek rw'
       obtain ⟨a',ea',s3⟩:=s2.pop.takeD e3
       rw [ea] at ea'; cases ea'
       obtain ⟨kvs,hu,hl,s4⟩:=s3.swap.setD (k:=kk)
       refine ⟨a,_,rfl,.inl ⟨kvs,kk,hu,ew,by rw [hl,sizeLine_eq]; omega,rfl⟩,k σ _ ?_⟩
       have s5:=s4.put ea
       rw [Ev.set_set] at s5
       exact s5
     . cases h4
   . cases h4
 . cases h2
def iW (fo fv:EF):SF:=fun ρ=>(fo ρ).bind fun o=>match o.1.pv with
 | .ptr n=>match o.2.mu[n]? with
  | some (some (.lst _))=>(fv o.2).bind fun y=>match y.2.mu[n]? with
   | some (some (.lst ws))=>if ws.length<100000 then some (.nx ⟨y.2.vs,y.2.mu.set n (some (.lst (ws++[y.1.pv])))⟩) else none
   | _=>none
  | _=>none
 | _=>none
theorem oG {o e:Expr} {fo fv:EF} {apos cpos pos:Pos} (h:PS X (.Expr (.Call (.Attribute o "append" apos) [e] [] cpos) pos) (uI (Lq X.K "list" Bd (tP X.K fo) (iz X.K (aa fv ao))))):
 PS X (.Expr (.Call (.Attribute o "append" apos) [e] [] cpos) pos) (fO X.K (iW fo fv)):=PS.imp h fun D σ H q=>by
 obtain ⟨H0,Z0,ρ,pd,fl,s,h,k⟩:=q
 obtain ⟨o',h1,h2⟩:=acf h
 refine ⟨H0,Z0,ρ,pd,o'.1,o'.2,s,h1,fun v H1 s1=>?_⟩
 split at h2
 . rename_i n en
   split at h2
   . rename_i ws0 em0
     obtain ⟨y,h3,h4⟩:=acf h2
     have s2:=s1.freeze
     rw [en] at s2
     obtain ⟨a,rfl,s5⟩:=s2.cellO em0
     obtain ⟨_,Z,_,z,so⟩:=s5.top
     obtain ⟨_,ea,⟨us,hu,_⟩,_⟩:=so.1 _ aab
     cases ea
     refine ⟨.inl ⟨rfl,us,bI.of hu⟩,H0,Z0,o'.2,_,[y.1],y.2,s2,?_,fun vs H2 e2 sv=>?_⟩
     . unfold aa ao
       rw [h3]
       rfl
     . obtain ⟨v1,rfl⟩:=yp e2
       split at h4
       . rename_i ws em
         split at h4
         . rename_i hz
           cases h4
           have s3:SR X.K H0 Z0 σ H2 y.2 ((v1,.sh y.1.pv)::(.ref a,.sh (.ptr n))::pd):=SR.freeze sv
           obtain ⟨a',ea',s6⟩:=s3.swap.cellO em
           cases ea'
           have s7:SR X.K H0 Z0 σ H2 ⟨y.2.vs,y.2.mu.set n none⟩ ((v1,.sh y.1.pv)::(.ref a,.own (.lst ws))::(.ref a,.sh (.ptr n))::pd):=s6.perm ((List.Perm.swap _ _ _).trans ((List.Perm.swap _ _ _).cons _))
           obtain ⟨us2,hu2,hl,s8⟩:=s7.pushO
           have hn:n<y.2.mu.length:=(aan.mp em).1
           have s9:=s8.cellP (by show (y.2.mu.set n none)[n]?=_; rw [aax hn])
           refine ⟨a,us2,v1,rfl,rfl,hu2,by rw [hl,sizeLine_eq]; omega,k σ _ ?_⟩
           have e8:(y.2.mu.set n none).set n (some (.lst (ws++[y.1.pv])))=y.2.mu.set n (some (.lst (ws++[y.1.pv]))):=aa7 ..
           have s10:SR X.K H0 Z0 σ (upd H2 a (.lst (us2++[v1]))) ⟨y.2.vs,(y.2.mu.set n none).set n (some (.lst (ws++[y.1.pv])))⟩ pd:=s9
           rw [e8] at s10
           exact s10
         . cases h4
       . cases h4
   . cases h2
 . cases h2
abbrev DF:=Ev->Option (List (Lc×Lc)×Ev)
def Br:DF:=fun ρ=>some ([],ρ)
def fU (f g:EF) (d:DF):DF:=fun ρ=>(f ρ).bind fun x=>(g x.2).bind fun y=>(d y.2).map fun z=>((x.1,y.1)::z.1,z.2)
def qu:List (V×V)->List V
 | []=>[]
 | p::r=>p.1::p.2::qu r
def sV:List (Lc×Lc)->List Lc
 | []=>[]
 | p::r=>p.1::p.2::sV r
theorem Dj:∀ {ps:List (V×V)},(qu ps).length=2*ps.length
 | []=>rfl
 | p::r=>by show (qu r).length+1+1=_; rw [Dj,aae]; omega
theorem Dk:∀ {ps:List (Lc×Lc)},(sV ps).length=2*ps.length
 | []=>rfl
 | p::r=>by show (sV r).length+1+1=_; rw [Dk,aae]; omega
def tPD (K:FG) (d:DF) (σ:L2.St) (H:Hp) (Q:List (V×V)->Hp->Prop):Prop:=∃ H0 Z0 ρ pd zs ρ',SR K H0 Z0 σ H ρ pd/\d ρ=some (zs,ρ')/\∀ ps H',ps.length=zs.length->SR K H0 Z0 σ H' ρ' ((qu ps).zip (sV zs)++pd)->Q ps H'
def RM (X:Cx) (pos:Pos) (keys:List (Option Expr)) (values:List Expr) (d:DF):Prop:=∃ trs,LQ X pos keys values trs/\∀ σ H Q,tPD X.K d σ H Q->zG trs σ H Q
theorem MP {pos:Pos}:RM X pos [] [] Br:=⟨[],Tr,fun σ H Q q=>by
 obtain ⟨H0,Z0,ρ,pd,zs,ρ',s,h,k⟩:=q
 cases h
 exact k [] H rfl s⟩
theorem mV {pos:Pos} {ke ve:Expr} {ks:List (Option Expr)} {vs:List Expr} {f g:EF} {d:DF} (hk:PE X ke (tP X.K f)) (hv:PE X ve (tP X.K g)) (hr:RM X pos ks vs d):RM X pos (some ke::ks) (ve::vs) (fU f g d):=by
 obtain ⟨trs,h1,h2⟩:=hr
 refine ⟨_,Px hk hv h1,fun σ H Q q=>?_⟩
 obtain ⟨H0,Z0,ρ,pd,zs,ρ',s,h,k⟩:=q
 obtain ⟨x,e1,e2⟩:=acf h
 obtain ⟨y,e3,e4⟩:=acf e2
 obtain ⟨z,e5,e6⟩:=acg e4
 cases e6
 refine ⟨H0,Z0,ρ,pd,x.1,x.2,s,e1,fun v H1 s1=>⟨H0,Z0,x.2,_,y.1,y.2,s1,e3,fun w H2 s2=>h2 σ H2 _ ⟨H0,Z0,y.2,_,z.1,z.2,s2,e5,fun ps H3 hl s3=>?_⟩⟩⟩
 refine k ((v,w)::ps) H3 (by rw [aae,aae,hl]) (s3.perm ?_)
 show List.Perm ((v,x.1)::(w,y.1)::((qu ps).zip (sV z.1)++pd)) ((qu ps).zip (sV z.1)++((w,y.1)::(v,x.1)::pd))
 exact (List.Perm.swap _ _ _).trans ((List.perm_middle.symm.cons _).trans aaW.symm)
def keysOf:List (Lc×Lc)->Option PD
 | []=>some []
 | p::r=>(oE p.1.pv).bind fun k=>(keysOf r).map fun l=>(k,p.2.pv)::l
def jy (l:PD) (acc:PD):PD:=match l with
 | []=>acc
 | kv::r=>jy r (gF acc kv.1 kv.2)
def xH (d:DF):EF:=fun ρ=>(d ρ).bind fun z=>(keysOf z.1).bind fun l=>if l.length<=15 then some (.own (dN (jy l [])),z.2) else none
theorem Dl {Z:ZG}:∀ {zs:List (Lc×Lc)} {ps:List (V×V)} {l:PD},aJ K Z ((sV zs).map Lc.pv) (qu ps)->ps.length=zs.length->keysOf zs=some l->∃ kvs:List (Key×V),ps=kvs.map (fun kv=>(kV kv.1,kv.2))/\d9 K Z l kvs
 | [],[],l,_,_,h=>by cases h; exact ⟨[],rfl,.nil⟩
 | [],_::_,l,_,e,_=>by simp at e
 | _::_,[],l,_,e,_=>by simp at e
 | z::zs,p::ps,l,r,e,h=>by
  obtain ⟨k,h1,h2⟩:=acf h
  obtain ⟨l',h3,h4⟩:=acg h2
  subst h4
  obtain ⟨v,r1,e1,g1,g2⟩:=aJ.inv (show aJ K Z (z.1.pv::z.2.pv::(sV zs).map Lc.pv) (p.1::p.2::qu ps) from r)
  injection e1 with e1 e2
  subst e1 e2
  obtain ⟨v',r2,e3,g3,g4⟩:=g2.inv
  injection e3 with e3 e4
  subst e3 e4
  obtain ⟨kvs,e5,d⟩:=Dl (zs:=zs) (ps:=ps) g4 (by simpa using e) h3
  have ek:=oF h1 g1
  refine ⟨(k,p.2)::kvs,?_,.cons ⟨rfl,g3⟩ d⟩
  rw [aav,← e5,← ek]
theorem d9.merge {Z:ZG}:∀ {l:PD} {kvs:List (Key×V)} {a:PD} {b:List (Key×V)},d9 K Z l kvs->d9 K Z a b->d9 K Z (jy l a) (jn b kvs)
 | _,_,_,_,.nil,h=>h
 | p::l,q::kvs,a,b,.cons h t,g=>by
  have:=d9.merge t (g.put (k:=p.1) h.2)
  rw [h.1] at this
  unfold jy
  rw [h.1]
  exact this
theorem RN {pos:Pos} {keys:List (Option Expr)} {values:List Expr} {d:DF} (h:RM X pos keys values d) (hall:keys.all (·.isSome)=true) (hl:keys.length=values.length) (h0:keys≠[]) (h15:keys.length<=15):PE X (.Dict keys values pos) (tP X.K (xH d)):=by
 obtain ⟨trs,h1,h2⟩:=h
 refine PE.imp (Tt h1 hall hl h0 h15) fun σ H Q q=>?_
 obtain ⟨H0,Z0,ρ,pd,l,ρ',s,f,k⟩:=q
 obtain ⟨z,e1,e2⟩:=acf f
 obtain ⟨ll,e3,e4⟩:=acf e2
 split at e4
 . rename_i hlen
   cases e4
   intro p hp
   have s1:SR X.K H0 Z0 σ (upd H p (.dK [])) ρ ((.ref p,.own (.dk [] []))::pd):=s.newO hp fun Z _ _=>⟨[],bM,rfl,.nil⟩
   refine h2 σ _ _ ⟨H0,Z0,ρ,_,z.1,z.2,s1,e1,fun ps H2 hps s2=>?_⟩
   obtain ⟨el,Z,hg,zz,r,so⟩:=s2.repl (by rw [Dj,Dk,hps])
   obtain ⟨kvs,ek,dd⟩:=Dl r hps e3
   have so2:=so.perm bZ.symm
   obtain ⟨_,eb,⟨kvs0,hu,hk0,hr⟩,_⟩:=so2.1 _ aab
   cases eb
   have hn:kvs0=[]:=by cases kvs0 with
    | nil=>rfl
    | cons a b=>simp at hk0
   subst hn
   refine ⟨hu,kvs,ek,by rw [dd.len]; exact hlen,k _ _ ?_⟩
   have dm:=dd.merge (a:=[]) (b:=[]) .nil
   obtain ⟨z',s'⟩:=so2.write (o:=.dK (jn [] kvs)) (q:=dN (jy ll [])) zz ⟨_,bM,dm.keys,dm.vals⟩
   exact .mk el hg z' s'
 . cases e4
def kZ:EF:=fun ρ=>some (.own (.dk [] []),ρ)
theorem Aa {pos:Pos}:PE X (.Dict [] [] pos) (tP X.K kZ):=PE.imp Pu fun σ H Q q=>by
 obtain ⟨H0,Z0,ρ,pd,l,ρ',s,f,k⟩:=q
 cases f
 exact fun p hp=>k _ _ (s.newO hp fun Z _ _=>⟨[],bM,rfl,.nil⟩)
def lg (f:EF):EF:=fun ρ=>(f ρ).bind fun x=>match x.1.pv with
 | .ptr n=>match x.2.mu[n]? with
  | some (some (.lst ws))=>some (.sh (.int (ws.length:Nat)),x.2)
  | _=>none
 | p=>(Qn p).map fun l=>(l,x.2)
theorem Bt {x:Str} {e:Expr} {f:EF} {p pos:Pos} (h:PE X (.Call (.Name x p) [e] [] pos) (CQ (fun xs H Q=>∃ x n,xs=[x]/\O3 X.K x H n/\Q (.int n) H) (iz X.K (aa f ao)))):PE X (.Call (.Name x p) [e] [] pos) (tP X.K (lg f)):=PE.imp h fun σ H Q q=>by
 obtain ⟨H0,Z0,ρ,pd,l,ρ',s,ff,k⟩:=q
 obtain ⟨y,h1,h2⟩:=acf ff
 refine ⟨H0,Z0,ρ,pd,[y.1],y.2,s,?_,fun vs H1 e1 s1=>?_⟩
 . unfold aa ao
   rw [h1]
   rfl
 . obtain ⟨v,rfl⟩:=yp e1
   have s2:SR X.K H0 Z0 σ H1 y.2 ((v,.sh y.1.pv)::pd):=SR.freeze s1
   split at h2
   . rename_i n en
     split at h2
     . rename_i ws em
       cases h2
       rw [en] at s2
       obtain ⟨a,rfl,s5⟩:=s2.cellO em
       obtain ⟨_,Z,_,z,so⟩:=s5.top
       obtain ⟨_,ea,⟨us,hu,hr⟩,_⟩:=so.1 _ aab
       cases ea
       exact ⟨.ref a,ws.length,rfl,.inl ⟨us,bI.of hu,hr.length.symm⟩,k _ H1 (s2.pop.scal eV)⟩
     . cases h2
   . obtain ⟨l',h3,h4⟩:=acg h2
     cases h4
     exact Mw H0 Z0 σ y.2 pd H1 [v] [y.1.pv] _ Q rfl s2 h3 k
def dD:=sO (fun _ j=>decide (0<j/\j<18446744073709551616)) fun i j=>.int (i/j)
theorem gW:iU K (rI Ru fun i j=>.int (i/j)) dD:=zN (fun i j h=>(of_decide_eq_true h:0<j/\j<18446744073709551616)) fun _ _ _=>eV _
end
open PySem.SeqAt
section
variable {X:Cx}
def Kc (n:Nat):PD->PD->Option Bool
 | [],_=>some true
 | kv::r,lb=>match b8 lb kv.1 with
  | none=>some false
  | some q=>(lQ n kv.2 q).bind fun e=>(Kc n r lb).map fun c=>e&&c
def wL (n:Nat) (la lb:PD):Option Bool:=if la.length=lb.length then Kc n la lb else some false
theorem Io {pins:List (Addr×Obj)} {H:Hp} {s:Shared} {g:List Addr} (I:Inv X pins σ H s) {n:Nat} {A:Around} (hA:A.units+n<cLine) {lb:PD} {kb:List (Key×V)} {vb:List (Key×Value)} (rb:d9 X.K ⟨H,g⟩ lb kb) (qb:KV kb vb):
 ∀ {la:PD} {ka:List (Key×V)} {va:List (Key×Value)} {b:Bool},d9 X.K ⟨H,g⟩ la ka->KV ka va->Kc n la lb=some b->W.KeqHits A s vb va b
 | _,_,va,b,.nil,qa,h=>by
  cases h
  cases (show Paired _ [] va from qa)
  exact .nil
 | p::la,q::ka,va,b,.cons hpq t,qa,h=>by
  cases (show Paired _ (q::ka) va from qa) with
  | @cons _ u _ vr e qr=>
   obtain ⟨u1,u2⟩:=u
   have ek:p.1=u1:=hpq.1.trans e.1
   unfold Kc at h
   have rel:=qb.val p.1
   cases hv:b8 lb p.1 with
   | none=>
    rw [hv] at h
    cases h
    rw [rb.val.2 hv] at rel
    refine .miss ?_
    rw [← ek]
    cases hx:valueAt vb p.1 with
    | none=>rfl
    | some y=>rw [hx] at rel; exact rel.elim
   | some q'=>
    rw [hv] at h
    obtain ⟨e1,h1,h2⟩:=acf h
    obtain ⟨c,h3,h4⟩:=acg h2
    subst h4
    obtain ⟨v',hv',rv'⟩:=rb.val.1 q' hv
    rw [hv'] at rel
    cases hx:valueAt vb p.1 with
    | none=>rw [hx] at rel; exact rel.elim
    | some y=>
     rw [hx] at rel
     refine .hit (y:=y) (by rw [← ek]; exact hx) (Ej I n hpq.2 rv' e.2 rel h1 A hA).1 (Io I hA rb qb t qr h3)
def Qu (K:FG) (neg:Bool):R2:=fun x y H Q=>∃ g ks ps js qs b,Rep K ⟨H,g⟩ (.dk ks ps) x/\Rep K ⟨H,g⟩ (.dk js qs) y/\wL 150 (ks.zip ps) (js.zip qs)=some b/\Q (.bl (if neg then !b else b)) H
theorem MT {pins:List (Addr×Obj)} {H:Hp} {s:Shared} {g:List Addr} (I:Inv X pins σ H s) (hA:X.A.in1.units+150<cLine) {ks js:List Key} {ps qs:List PV} {x y:V} {v u:Value} {b:Bool}
 (r1:Rep X.K ⟨H,g⟩ (.dk ks ps) x) (r2:Rep X.K ⟨H,g⟩ (.dk js qs) y) (rx:RelV x v) (ry:RelV y u) (e:wL 150 (ks.zip ps) (js.zip qs)=some b):
 ∃ a a' va vb r,v=.ref a/\u=.ref a'/\(a==sysModules)=false/\(a'==sysModules)=false/\s.heap.DictOf (cU X.prog X.w) a va/\s.heap.DictOf (cU X.prog X.w) a' vb/\(va.length=vb.length->W.KeqHits X.A.in1 s vb va r)/\(va.length==vb.length&&r)=b:=by
 unfold Rep at r1 r2
 obtain ⟨a,ka,rfl,h1,h2,h3⟩:=r1
 obtain ⟨a',kb,rfl,h1',h2',h3'⟩:=r2
 cases rx
 cases ry
 obtain ⟨_,d1,va,q1,dd1⟩:=zA I.hok h1
 obtain ⟨_,d2,vb,q2,dd2⟩:=zA I.hok h1'
 have ra:=iJ h2 h3
 have rb:=iJ h2' h3'
 have la:va.length=(ks.zip ps).length:=by rw [← q1.length,ra.len]
 have lb:vb.length=(js.zip qs).length:=by rw [← q2.length,rb.len]
 unfold wL at e
 split at e
 . rename_i hl
   refine ⟨a,a',va,vb,b,rfl,rfl,d1,d2,dd1,dd2,fun _=>Io I hA rb q2 ra q1 e,?_⟩
   rw [la,lb,hl]
   simp
 . rename_i hl
   cases e
   refine ⟨a,a',va,vb,false,rfl,rfl,d1,d2,dd1,dd2,fun z=>(hl (by rw [← la,← lb]; exact z)).elim,by simp⟩
theorem WX {k:Nat} (hr:kj k X.A):eN X (compareOp .Eq) (Qu X.K false):=by
 intro pins s σ H x y v u Q I rx ry h
 obtain ⟨g,ks,ps,js,qs,b,r1,r2,e,k'⟩:=h
 have hA:X.A.in1.units+150<cLine:=by have:=hr.un; show X.A.units+1+150<cLine; omega
 obtain ⟨a,a',va,vb,r,rfl,rfl,d1,d2,dd1,dd2,hits,eb⟩:=MT I hA r1 r2 rx ry e
 refine W.keq_eq d1 d2 dd1 dd2 (by have:=hr.un; omega) hits ?_
 rw [eb]
 exact ⟨.bl b,H,I,rfl,k'⟩
theorem WY {k:Nat} (hr:kj k X.A):eN X (compareOp .NotEq) (Qu X.K true):=by
 intro pins s σ H x y v u Q I rx ry h
 obtain ⟨g,ks,ps,js,qs,b,r1,r2,e,k'⟩:=h
 have hA:X.A.in1.units+150<cLine:=by have:=hr.un; show X.A.units+1+150<cLine; omega
 obtain ⟨a,a',va,vb,r,rfl,rfl,d1,d2,dd1,dd2,hits,eb⟩:=MT I hA r1 r2 rx ry e
 refine W.keq_ne d1 d2 dd1 dd2 (by have:=hr.un; omega) hits ?_
 rw [eb]
 exact ⟨.bl (!b),H,I,rfl,k'⟩
def dO (p q:PV):Option Lc:=match p,q with
 | .dk ks ps,.dk js qs=>(wL 150 (ks.zip ps) (js.zip qs)).map fun b=>.sh (.bl b)
 | p,q=>eqP p q
def Dm (p q:PV):Option Lc:=match p,q with
 | .dk ks ps,.dk js qs=>(wL 150 (ks.zip ps) (js.zip qs)).map fun b=>.sh (.bl (!b))
 | p,q=>yq p q
def Kd (K:FG) (neg:Bool):R2:=fun x y H Q=>FT K neg x y H Q\/Qu K neg x y H Q
theorem fK {k:Nat} (hr:kj k X.A):eN X (compareOp .Eq) (Kd X.K false):=(fP hr).or (WX hr)
theorem M3 {k:Nat} (hr:kj k X.A):eN X (compareOp .NotEq) (Kd X.K true):=(wy hr).or (WY hr)
theorem dH:iU K (Kd K false) dO:=by
 intro H0 Z0 σ ρ pd H v w x y l Q s e k
 unfold dO at e
 split at e
 . obtain ⟨b,e1,rfl⟩:=acg e
   obtain ⟨g,r1,r2⟩:=s.rep2H
   exact .inr ⟨g,_,_,_,_,b,r1,r2,e1,k _ H (s.pop.pop.scal dM)⟩
 . exact .inl (fQ H0 Z0 σ ρ pd H v w _ _ l Q s e k)
theorem Ip:iU K (Kd K true) Dm:=by
 intro H0 Z0 σ ρ pd H v w x y l Q s e k
 unfold Dm at e
 split at e
 . obtain ⟨b,e1,rfl⟩:=acg e
   obtain ⟨g,r1,r2⟩:=s.rep2H
   exact .inr ⟨g,_,_,_,_,b,r1,r2,e1,k _ H (s.pop.pop.scal dM)⟩
 . exact .inl (wz H0 Z0 σ ρ pd H v w _ _ l Q s e k)
def nq (ps qs:List PV):List PV:=List.zipWith (fun p q=>.tup [p,q]) ps qs
theorem Qv {ps qs:List PV} {i:Nat} {x:PV} (h:(nq ps qs)[i]?=some x):∃ p q,ps[i]?=some p/\qs[i]?=some q/\x=.tup [p,q]:=by
 unfold nq at h
 rw [List.getElem?_zipWith] at h
 cases h1:ps[i]? with
 | none=>rw [h1] at h; cases h
 | some p=>
  cases h2:qs[i]? with
  | none=>rw [h1,h2] at h; cases h
  | some q=>rw [h1,h2] at h; cases h; exact ⟨p,q,rfl,rfl,rfl⟩
theorem Qw {ps qs:List PV}:(nq ps qs).length=min ps.length qs.length:=by unfold nq; simp
end
end PL
namespace L2
open PySem PySem.Spec PyProof.Rows
variable {pins:List (Addr×Obj)} {E:Value->Shared->Prop} {s:Shared} {A:Around} {w:World} {P:Program}
section
variable {X:Cx}
end
end L2
namespace PL
open PySem PySem.Spec PyProof.Rows L2
variable {K:FG} {H0 H:Hp} {Z0:ZG} {σ:L2.St} {ρ:Ev} {pd:Pd}
section
variable {X:Cx}
section
variable {K:FG} {Z Z':ZG}
end
theorem SR.ext {l:Addr} {o:HO} (s:SR K H0 Z0 σ H ρ pd) (hl:H l=none):SR K H0 Z0 σ (upd H l o) ρ pd:=by
 obtain ⟨el,Z,hg,z,so⟩:=s
 obtain ⟨z',lz,so'⟩:=so.newF z (o:=o) hl
 exact ⟨el,Z.put l o,hg,z',so'⟩
def u5:SF:=fun _=>none
theorem uq {st:Stmt}:PS X st (fO X.K u5):=fun pins s σ H D I q=>by
 obtain ⟨H0,Z0,ρ,pd,fl,s,h,k⟩:=q
 cases h
abbrev FD:=List (Str×PV)
def oY:FD->Str->Option PV
 | [],_=>none
 | kv::r,k=>if kv.1=k then some kv.2 else oY r k
def nu (f:Str) (p:PV):FD->FD
 | []=>[(f,p)]
 | kv::r=>if kv.1=f then (kv.1,p)::r else kv::nu f p r
def bA (C:Str) (l:FD):PV:=.obj C (l.map (·.1)) (l.map (·.2))
def nA (K:FG) (Z:ZG):FD->List (Str×V)->Prop:=Paired fun p q=>p.1=q.1/\Rep K Z p.2 q.2
section
variable {K:FG} {Z Z':ZG}
theorem Bu:∀ {kvs:List (Str×V)} {ks:List Str} {ps:List PV},kvs.map (·.1)=ks->aJ K Z ps (kvs.map (·.2))->nA K Z (ks.zip ps) kvs
 | [],ks,ps,h1,h2=>by
  subst h1
  exact .nil
 | kv::r,ks,ps,h1,h2=>by
  subst h1
  cases ps with
  | nil=>have:=h2.inv0; simp at this
  | cons p ps=>
   obtain ⟨v,r',e,h3,h4⟩:=h2.inv
   rw [aav] at e
   injection e with e1 e2
   subst e1 e2
   rw [aav,aa5]
   exact .cons ⟨rfl,h3⟩ (Bu rfl h4)
theorem nA.keys:∀ {l:FD} {kvs:List (Str×V)},nA K Z l kvs->kvs.map (·.1)=l.map (·.1)
 | _,_,.nil=>rfl
 | _,_,.cons h t=>by rw [aav,aav,h.1,nA.keys t]
theorem nA.vals:∀ {l:FD} {kvs:List (Str×V)},nA K Z l kvs->aJ K Z (l.map (·.2)) (kvs.map (·.2))
 | _,_,.nil=>.nil
 | _,_,.cons h t=>aJ.cons h.2 (nA.vals t)
theorem nA.look {f:Str}:∀ {l:FD} {kvs:List (Str×V)},nA K Z l kvs->(∀ p,oY l f=some p->∃ v,kvs.lookup f=some v/\Rep K Z p v)/\(oY l f=none->kvs.lookup f=none)
 | _,_,.nil=>⟨fun p h=>(by cases h),fun _=>rfl⟩
 | p::l,q::kvs,.cons h t=>by
  have ih:=nA.look (f:=f) t
  have e0:(q::kvs).lookup f=if f=q.1 then some q.2 else kvs.lookup f:=by
   obtain ⟨q1,q2⟩:=q
   rw [aaS]
   by_cases e:f=q1
   . subst e; simp
   . rw [ab8 e,show (f==q1)=false from acd.mpr e]
  rw [e0]
  by_cases e:p.1=f
  . have e':f=q.1:=by rw [← h.1]; exact e.symm
    rw [ab7 e']
    refine ⟨fun x hx=>⟨q.2,rfl,?_⟩,fun hx=>?_⟩
    . unfold oY at hx; rw [ab7 e] at hx; cases hx; exact h.2
    . unfold oY at hx; rw [ab7 e] at hx; cases hx
  . have e':¬ f=q.1:=by rw [← h.1]; exact fun z=>e z.symm
    rw [ab8 e']
    unfold oY
    rw [ab8 e]
    exact ih
theorem nA.put {f:Str} {p:PV} {v:V} (r:Rep K Z p v):∀ {l:FD} {kvs:List (Str×V)},nA K Z l kvs->nA K Z (nu f p l) (iD f v kvs)
 | _,_,.nil=>.cons ⟨rfl,r⟩ .nil
 | a::l,b::kvs,.cons h t=>by
  obtain ⟨b1,b2⟩:=b
  unfold nu iD
  have h1:a.1=b1:=h.1
  by_cases e:a.1=f
  . rw [ab7 e,ab7 (by rw [← h1]; exact e)]
    exact .cons ⟨h1,r⟩ t
  . rw [ab8 e,ab8 (by rw [← h1]; exact e)]
    exact .cons h (nA.put r t)
end
structure tQ (K:FG) (mg:Str->Option Value) (C:Str) (c:Addr):Prop where
 cn:CN K C c
 cl:vU K c
 mgC:mg C=some (.ref c)
theorem Ke {C:Str} {c d:Addr} (h:CN K C c) (g:CN K C d):c=d:=by
 have:(some (some (Value.ref c)))=some (some (.ref d)):=h.symm.trans g
 cases this
 rfl
def cg (C f:Str) (fo:EF):EF:=fun ρ=>(fo ρ).bind fun x=>match x.1.pv with
 | .ptr n=>match x.2.mu[n]? with
  | some (some (.obj D ks ps))=>if D=C then (oY (ks.zip ps) f).map fun p=>(.sh p,x.2) else none
  | _=>none
 | _=>none
theorem SR.cellB {pd pe:Pd} {a:Addr} {n:Nat} {p:PV} (hm:ρ.mu[n]?=some (some p)) (s:SR K H0 Z0 σ H ⟨ρ.vs,ρ.mu.set n none⟩ ((.ref a,.own p)::(.ref a,.sh (.ptr n))::pd)):SR K H0 Z0 σ H ρ pd:=by
 have hn:n<ρ.mu.length:=(aan.mp hm).1
 have s8:=s.cellP (by show (ρ.mu.set n none)[n]?=_; rw [aax hn])
 have e8:(ρ.mu.set n none).set n (some p)=ρ.mu:=by rw [aa7]; exact ach hm
 have s9:SR K H0 Z0 σ H ⟨ρ.vs,(ρ.mu.set n none).set n (some p)⟩ pd:=s8
 rw [e8] at s9
 exact s9
theorem SR.objAt {v:V} {n:Nat} {C:Str} {ks:List Str} {ps:List PV} (s:SR K H0 Z0 σ H ρ ((v,.sh (.ptr n))::pd)) (hm:ρ.mu[n]?=some (some (.obj C ks ps))):
 ∃ a c dx fs,v=.ref a/\CN K C c/\H a=some (.ins c dx fs)/\fs.map (·.1)=ks/\(∀ f p,oY (ks.zip ps) f=some p->∃ u,fs.lookup f=some u/\SR K H0 Z0 σ H ρ ((u,.sh p)::(v,.sh (.ptr n))::pd))/\∀ f,oY (ks.zip ps) f=none->fs.lookup f=none:=by
 have sdup:SR K H0 Z0 σ H ρ ((v,.sh (.ptr n))::(v,.sh (.ptr n))::pd):=s.part fun Z _ r=>r
 obtain ⟨a,rfl,s5⟩:=sdup.cellO hm
 obtain ⟨el,Z,hg,z,so⟩:=s5.top
 obtain ⟨_,ea,⟨c,dx,fs,cn,hu,hk,hr⟩,_⟩:=so.1 _ aab
 cases ea
 have rf:=Bu hk hr
 refine ⟨a,c,dx,fs,rfl,cn,hu,hk,fun f p hl=>?_,fun f hl=>rf.look.2 hl⟩
 obtain ⟨u,h1,h2⟩:=rf.look.1 p hl
 refine ⟨u,h1,?_⟩
 have s6:SR K H0 Z0 σ H ⟨ρ.vs,ρ.mu.set n none⟩ ((u,.sh p)::(.ref a,.own (.obj C ks ps))::(.ref a,.sh (.ptr n))::(.ref a,.sh (.ptr n))::pd):=.mk (Z:=Z) el hg z ((so.perm bZ).consS h2)
 have s7:SR K H0 Z0 σ H ⟨ρ.vs,ρ.mu.set n none⟩ ((.ref a,.own (.obj C ks ps))::(.ref a,.sh (.ptr n))::(u,.sh p)::(.ref a,.sh (.ptr n))::pd):=s6.perm (((List.Perm.swap _ _ _).cons _).trans (List.Perm.swap _ _ _))
 exact SR.cellB (pe:=pd) hm s7
theorem gq {C f:Str} {c:Addr} {o:Expr} {fo:EF} {pos:Pos} (T:tQ X.K X.mg C c) (na:jm X.K c f) (ho:PE X o (tP X.K fo)) (hb:attributeBase o f X.env (eval o X.env)=eval o X.env:=by rfl):PE X (.Attribute o f pos) (tP X.K (cg C f fo)):=PE.imp (V3 ho hb) fun σ H Q q=>by
 obtain ⟨H0,Z0,ρ,pd,l,ρ',s,h,k⟩:=q
 obtain ⟨x,h1,h2⟩:=acf h
 refine ⟨H0,Z0,ρ,pd,x.1,x.2,s,h1,fun v H1 s1=>?_⟩
 split at h2
 . rename_i n en
   split at h2
   . rename_i D ks ps em
     split at h2
     . rename_i eD
       subst eD
       obtain ⟨p,h3,h4⟩:=acg h2
       cases h4
       have s2:=s1.freeze
       rw [en] at s2
       obtain ⟨a,c',dx,fs,rfl,cn,hH,hk,hl,_⟩:=s2.objAt em
       have:=Ke T.cn cn
       subst this
       obtain ⟨u,h5,s6⟩:=hl f p h3
       exact ⟨a,c,dx,fs,u,rfl,hH,T.cl,na,h5,k u H1 (s6.sub ((aap _ _).cons_cons _))⟩
     . cases h2
   . cases h2
 . cases h2
def fj (C f:Str) (fo fv:EF):SF:=fun ρ=>(fv ρ).bind fun y=>(fo y.2).bind fun x=>match x.1.pv with
 | .ptr n=>match x.2.mu[n]? with
  | some (some (.obj D ks ps))=>if D=C/\ks.length<1000 then some (.nx ⟨x.2.vs,x.2.mu.set n (some (bA C (nu f y.1.pv (ks.zip ps))))⟩) else none
  | _=>none
 | _=>none
theorem iK {C f:Str} {c:Addr} {o value:Expr} {fo fv:EF} {pos' pos:Pos} (T:tQ X.K X.mg C c) (na:jm X.K c f) (ho:PE X o (tP X.K fo)) (hv:PE X value (tP X.K fv)) (hs:swapsWith value (some (.Attribute o f pos')) pos.line X.env=pure false:=by rfl):PS X (.Assign [.Attribute o f pos'] value pos) (fO X.K (fj C f fo fv)):=PS.imp (V4 ho hv hs) fun D σ H q=>by
 obtain ⟨H0,Z0,ρ,pd,fl,s,h,k⟩:=q
 obtain ⟨y,h1,h2⟩:=acf h
 obtain ⟨x,h3,h4⟩:=acf h2
 refine ⟨H0,Z0,ρ,pd,y.1,y.2,s,h1,fun v H1 s1=>⟨H0,Z0,y.2,_,x.1,x.2,s1.freeze,h3,fun w H2 s2=>?_⟩⟩
 split at h4
 . rename_i n en
   split at h4
   . rename_i D' ks ps em
     split at h4
     . rename_i eD
       obtain ⟨eD,hz⟩:=eD
       subst eD
       cases h4
       have s3:=s2.freeze
       rw [en] at s3
       obtain ⟨a,rfl,s5⟩:=s3.cellO em
       have s6:SR X.K H0 Z0 σ H2 ⟨x.2.vs,x.2.mu.set n none⟩ ((v,.sh y.1.pv)::(.ref a,.own (.obj D' ks ps))::(.ref a,.sh (.ptr n))::pd):=s5.perm ((List.Perm.swap _ _ _).trans ((List.Perm.swap _ _ _).cons _))
       obtain ⟨el,Z,hg,z,r,so⟩:=s6.sh
       have so2:=so.perm bZ.symm
       obtain ⟨_,eb,⟨c',dx,fs,cn,hu,hk,hr⟩,_⟩:=so2.1 _ aab
       cases eb
       have:=Ke T.cn cn
       subst this
       have rf:=Bu hk hr
       have rp:=rf.put (f:=f) r
       have hlen:fs.length=ks.length:=by rw [← hk,aad]
       refine ⟨a,c,dx,fs,rfl,hu,T.cl,na,by omega,k σ _ ?_⟩
       obtain ⟨z',s'⟩:=so2.write (o:=.ins c dx (iD f v fs)) (q:=bA D' (nu f y.1.pv (ks.zip ps))) z ⟨c,dx,iD f v fs,cn,bM,rp.keys,rp.vals⟩
       have s7:SR X.K H0 Z0 σ (upd H2 a (.ins c dx (iD f v fs))) ⟨x.2.vs,x.2.mu.set n none⟩ ((.ref a,.own (bA D' (nu f y.1.pv (ks.zip ps))))::(.ref a,.sh (.ptr n))::pd):=.mk el hg z' s'
       have hn:n<x.2.mu.length:=(aan.mp em).1
       have s8:=s7.cellP (by show (x.2.mu.set n none)[n]?=_; rw [aax hn])
       have e8:(x.2.mu.set n none).set n (some (bA D' (nu f y.1.pv (ks.zip ps))))=x.2.mu.set n (some (bA D' (nu f y.1.pv (ks.zip ps)))):=aa7 ..
       have s9:SR X.K H0 Z0 σ (upd H2 a (.ins c dx (iD f v fs))) ⟨x.2.vs,(x.2.mu.set n none).set n (some (bA D' (nu f y.1.pv (ks.zip ps))))⟩ pd:=s8
       rw [e8] at s9
       exact s9
     . cases h4
   . cases h4
 . cases h4
end
section
variable {P:Program} {w:World} {K:FG} {mg:Str->Option Value} {base:Heap}
def pM (K:FG) (c:Addr) (m qual:Str) (st:Stmt) (ps:List Str):Prop:=∃ f fd,sH K m qual st f fd/\W.findIn K (.ref c) m=some (some (.ref f))/\W.isFn K (.ref f)=true/\Binds K fd ps []
def nY (P:Program) (w:World) (K:FG) (mg:Str->Option Value) (base:Heap) (c:Addr) (m:Str) (k:Nat) (ps:List Str) (sp:Sp):Prop:=∃ f fd,mD P w K mg base nW k f fd ps sp/\Meth K c m f/\Binds K fd ps []
theorem sH.okQ {x qual:Str} {st:Stmt} {N ps:List Str} {k:Nat} {g:GF} {f:Addr} {fd:FuncData} (F:sH K x qual st f fd) (S:aU N ps (aH st))
 (h:∀ (cdv:Value) (A:Around) (outer:List PySem.Env) (s:Shared) (H:Hp) (E:XK),kj k (A.deeper (envOfC qual (aH st) s.heap.objs.size f cdv))->
   ∃ g':SF,(∀ a mu,g a mu=cA N.length g' a mu)/\iu (O9 nW P w K mg base N qual (aH st) f cdv A outer s H E).nox (iH st) (fO K g')):mD P w K mg base nW (k+1) f fd ps (bT K ps.length g):=by
 refine F.ok S (fun vs H Q E q=>?_) (fun cdv A outer s H vs Q E hr q=>?_)
 . obtain ⟨Z,qs,mu,r,mu',e,_⟩:=q; exact e
 . obtain ⟨g',eg,b⟩:=h cdv A outer s H E hr
   obtain ⟨Z,qs,mu,r,mu',e,hg,z,rl,c,hr',kk⟩:=q
   rw [eg] at hr'
   obtain ⟨fl,h1,h2⟩:=acf hr'
   refine ⟨_,b,kJ H (qY Z.g mu),Z,_,[],fl,yK hg z rl c,h1,?_⟩
   cases fl with
   | rt r' ρ'=>
    cases h2
    intro v σ' H' s'
    obtain ⟨el,Z',hg',z',s''⟩:=s'.top
    refine kk v H' ⟨Z',hg',z',s''.sub ?_⟩
    exact (aaZ _ _).cons_cons _
   | nx ρ'=>
    cases h2
    intro σ' H' s'
    obtain ⟨el,Z',hg',z',s''⟩:=s'
    exact kk .non H' ⟨Z',hg',z',(s''.sub (aaZ _ _)).consS (uh _)⟩
   | bk ρ'=>cases h2
   | ct ρ'=>cases h2
theorem pM.ok {c:Addr} {m qual:Str} {st:Stmt} {N ps:List Str} {k:Nat} {g:GF} (F:pM K c m qual st ps) (S:aU N ps (aH st))
 (h:∀ (f:Addr) (cdv:Value) (A:Around) (outer:List PySem.Env) (s:Shared) (H:Hp) (E:XK),kj k (A.deeper (envOfC qual (aH st) s.heap.objs.size f cdv))->
   ∃ g':SF,(∀ a mu,g a mu=cA N.length g' a mu)/\iu (O9 nW P w K mg base N qual (aH st) f cdv A outer s H E).nox (iH st) (fO K g')):nY P w K mg base c m (k+1) ps (bT K ps.length g):=by
 obtain ⟨f,fd,F,h1,h2,hb⟩:=F
 exact ⟨f,fd,sH.okQ F S (h f),⟨h1,h2,F.kp⟩,hb⟩
end
section
variable {X:Cx}
def cL (C m:Str) (g:GF) (fo:EF) (a:AF):EF:=fun ρ=>(fo ρ).bind fun x=>match x.1.pv with
 | .ptr n=>match x.2.mu[n]? with
  | some (some (.obj D ks _))=>if D=C/\ks.contains m=false then (a x.2).bind fun y=>(g (.ptr n::y.1.map Lc.pv) y.2.mu).map fun r=>(r.1,⟨y.2.vs,r.2⟩) else none
  | _=>none
 | _=>none
theorem Do {m:Str}:∀ {fs:List (Str×V)},(fs.map (·.1)).contains m=false->fs.lookup m=none
 | [],_=>rfl
 | (g,x)::r,h=>by
  rw [aav,List.contains_cons,Bool.or_eq_false_iff] at h
  rw [aaS,h.1]
  exact Do h.2
theorem Gg {C m:Str} {c:Addr} {g:GF} {fo:EF} {a:AF} {n':Nat} {E:XK} (T:tQ X.K X.mg C c) (hn:∀ ρ ls ρ1,a ρ=some (ls,ρ1)->ls.length+1=n'):∀ σ H Q,tP X.K (cL C m g fo a) σ H Q->JW c m (bT X.K n' g) [] E (tP X.K fo) (iz X.K a) σ H Q:=fun σ H Q q=>by
 obtain ⟨H0,Z0,ρ,pd,l,ρ',s,h,k⟩:=q
 obtain ⟨x,h1,h2⟩:=acf h
 refine ⟨H0,Z0,ρ,pd,x.1,x.2,s,h1,fun v H1 s1=>?_⟩
 split at h2
 . rename_i n en
   split at h2
   . rename_i D ks ps em
     split at h2
     . rename_i eD
       obtain ⟨eD,hk⟩:=eD
       subst eD
       obtain ⟨y,h3,h4⟩:=acf h2
       obtain ⟨r,h5,h6⟩:=acg h4
       cases h6
       have s2:=s1.freeze
       rw [en] at s2
       obtain ⟨a',c',dx,fs,rfl,cn,hH,hks,_,_⟩:=s2.objAt em
       have:=Ke T.cn cn
       subst this
       refine ⟨a',dx,fs,rfl,hH,Do (by rw [hks]; exact hk),H0,Z0,x.2,_,y.1,y.2,s2,h3,fun vs H2 e2 s3=>?_⟩
       have s4:SR X.K H0 Z0 σ H2 y.2 ((V.ref a'::vs).zip (Lc.sh (.ptr n)::y.1)++pd):=s3.perm (by
        rw [aa5,abd]
        exact aaW.symm)
       obtain ⟨el,Z,hg,z,rl,sl'⟩:=s4.repl (by rw [aae,aae,e2])
       refine ⟨Z,.ptr n::y.1.map Lc.pv,y.2.mu,r.1,r.2,?_,hg,z.zh,?_,sl'.cells hg,h5,fun v H' rr=>k v H' (SR.called el hg z sl' rr)⟩
       . rw [aat,aae,e2]; exact hn _ _ _ h3
       . rw [aat]; exact rl
     . cases h2
   . cases h2
 . cases h2
theorem iY {C m:Str} {c:Addr} {k:Nat} {ps:List Str} {g:GF} {fo:EF} {e o:Expr} {es:List Expr} {a:AF} {apos pos:Pos} {pl:Sem Bool} (T:tQ X.K X.mg C c) (M:nY X.prog X.w X.K X.mg X.base c m k ps (bT X.K ps.length g)) (hr:kj k X.A) (ho:PE X o (tP X.K fo)) (ha:PA X (e::es) (iz X.K a)) (hn:∀ ρ ls ρ1,a ρ=some (ls,ρ1)->ls.length+1=ps.length)
 (hst:starEach (e::es) X.env=(false,eval e X.env)::starEach es X.env:=by rfl) (hpl:(backTo pos (starEach es X.env)).any (·.1)=false:=by rfl)
 (ht:eval (.Call (.Attribute o m apos) (e::es) [] pos) X.env=(do
   let ov ← eval o X.env
   standAt apos.atName
   let (f,first) ← holding [ov] (getMethod ov m pl)
   callWith pos f first (backTo pos (starEach (e::es) X.env)) (backToKw pos (keywordEach [] X.env))):=by rfl):PE X (.Call (.Attribute o m apos) (e::es) [] pos) (tP X.K (cL C m g fo a)):=by
 obtain ⟨f,fd,F,hm,hb⟩:=M
 exact PE.imp (Tf (pl:=pl) (E:=E0) ho T.cl hm F hr hb .nil zy ha hst hpl ht) (Gg T hn)
theorem M4 {C m:Str} {c:Addr} {k:Nat} {ps:List Str} {g:GF} {fo:EF} {o:Expr} {apos pos:Pos} {pl:Sem Bool} (T:tQ X.K X.mg C c) (M:nY X.prog X.w X.K X.mg X.base c m k ps (bT X.K ps.length g)) (hr:kj k X.A) (ho:PE X o (tP X.K fo)) (hn:1=ps.length)
 (ht:eval (.Call (.Attribute o m apos) [] [] pos) X.env=(do
   let ov ← eval o X.env
   standAt apos.atName
   let (f,first) ← holding [ov] (getMethod ov m pl)
   callWith pos f first (backTo pos (starEach [] X.env)) (backToKw pos (keywordEach [] X.env))):=by rfl):PE X (.Call (.Attribute o m apos) [] [] pos) (tP X.K (cL C m g fo ao)):=by
 obtain ⟨f,fd,F,hm,hb⟩:=M
 refine PE.imp (O7 (pl:=pl) (E:=E0) ho T.cl hm F hr hb .nil zy ht) fun σ H Q q=>?_
 have:=Gg (X:=X) (E:=E0) (a:=ao) (n':=ps.length) T (fun ρ ls ρ1 h=>by cases h; rw [← hn]; rfl) σ H Q q
 obtain ⟨H0,Z0,ρ,pd,l,ρ',s,h,k⟩:=this
 refine ⟨H0,Z0,ρ,pd,l,ρ',s,h,fun v H1 s1=>?_⟩
 obtain ⟨a,dx,fs,e1,e2,e3,H0',Z0',ρ2,pd2,ls,ρ3,s2,h2,k2⟩:=k v H1 s1
 cases h2
 exact ⟨a,dx,fs,e1,e2,e3,k2 [] H1 rfl s2⟩
theorem SR.toCell {a:Addr} {p:PV} (s:SR K H0 Z0 σ H ρ ((.ref a,.own p)::pd)):SR K H0 Z0 σ H ⟨ρ.vs,ρ.mu++[some p]⟩ ((.ref a,.sh (.ptr ρ.mu.length))::pd):=by
 obtain ⟨el,Z,hg,z,so⟩:=s.top
 have lz:iy Z ⟨Z.z,Z.g++[a]⟩:=⟨cZ.refl _,abU _ _⟩
 have so2:=so.step (Z':=⟨Z.z,Z.g++[a]⟩) (H':=H) lz fun e he b hb=>⟨rfl,(iT so he hb).1⟩
 refine .mk (Z:=⟨Z.z,Z.g++[a]⟩) el (by simp [hg]) ⟨z.zh,z.h0,z.z0.trans lz,z.new⟩ (Slots.consS ?_ ?_)
 . refine so2.perm ?_
   have ec:cel (Z.g++[a]) (ρ.mu++[some p])=cel Z.g ρ.mu++[(some (.ref a),some (.own p))]:=by
    unfold cel
    rw [aaz,aaz,abg (by simp [hg])]
    rfl
   unfold sl
   show List.Perm (cel (Z.g++[a]) (ρ.mu++[some p])++_) _
   rw [ec,aah]
   exact aaW
 . unfold Rep
   exact ⟨a,rfl,by show (Z.g++[a])[ρ.mu.length]?=some a; rw [hg,aas (aaf _)]; simp⟩
def sW (C:Str) (g:GF) (a:AF):EF:=fun ρ=>(a ρ).bind fun y=>(g (.ptr y.2.mu.length::y.1.map Lc.pv) (y.2.mu++[some (.obj C [] [])])).bind fun r=>match r.1 with
 | .sh .non=>some (.sh (.ptr y.2.mu.length),⟨y.2.vs,r.2⟩)
 | _=>none
def Kf (P:Program) (w:World) (K:FG) (mg:Str->Option Value) (base:Heap) (c:Addr) (k:Nat) (ps:List Str) (sp:Sp):Prop:=∃ f fd,mD P w K mg base nW k f fd ps sp/\Mk K c f/\Binds K fd ps []
theorem Qx {C:Str} {c:Addr} {g:GF} {a:AF} {n':Nat} {E:XK} (T:tQ X.K X.mg C c) (hn:∀ ρ ls ρ1,a ρ=some (ls,ρ1)->ls.length+1=n'):∀ σ H Q,tP X.K (sW C g a) σ H Q->Ro c (bT X.K n' g) [] E (iz X.K a) σ H Q:=fun σ H Q q=>by
 obtain ⟨H0,Z0,ρ,pd,l,ρ',s,h,k⟩:=q
 obtain ⟨y,h1,h2⟩:=acf h
 obtain ⟨r,h3,h4⟩:=acf h2
 split at h4
 . rename_i er
   cases h4
   refine ⟨H0,Z0,ρ,pd,y.1,y.2,s,h1,fun vs H1 e1 s1 x dx hx hdx hne=>?_⟩
   have s2:SR X.K H0 Z0 σ (upd H1 dx (.own x)) y.2 (vs.zip y.1++pd):=s1.ext hdx
   have s3:SR X.K H0 Z0 σ (upd (upd H1 dx (.own x)) x (.ins c dx [])) y.2 ((.ref x,.own (.obj C [] []))::(vs.zip y.1++pd)):=s2.newO (by rw [cj hne.symm]; exact hx) fun Z _ _=>⟨c,dx,[],T.cn,bM,rfl,.nil⟩
   have s4:=s3.toCell
   have s5:SR X.K H0 Z0 σ (upd (upd H1 dx (.own x)) x (.ins c dx [])) ⟨y.2.vs,y.2.mu++[some (.obj C [] [])]⟩ ((.ref x,.sh (.ptr y.2.mu.length))::(.ref x,.sh (.ptr y.2.mu.length))::(vs.zip y.1++pd)):=s4.part fun Z _ r=>r
   have s6:SR X.K H0 Z0 σ (upd (upd H1 dx (.own x)) x (.ins c dx [])) ⟨y.2.vs,y.2.mu++[some (.obj C [] [])]⟩ ((V.ref x::vs).zip (Lc.sh (.ptr y.2.mu.length)::y.1)++(.ref x,.sh (.ptr y.2.mu.length))::pd):=s5.perm (by
    rw [aa5,abd]
    exact List.perm_middle.cons _)
   obtain ⟨el,Z,hg,z,rl,sl'⟩:=s6.repl (by rw [aae,aae,e1])
   refine ⟨Z,.ptr y.2.mu.length::y.1.map Lc.pv,y.2.mu++[some (.obj C [] [])],r.1,r.2,?_,hg,z.zh,?_,sl'.cells hg,h3,fun v H' rr=>?_⟩
   . rw [aat,aae,e1]; exact hn _ _ _ h1
   . rw [aat]; exact rl
   . have s7:=SR.called el hg z sl' rr
     rw [er] at s7
     obtain ⟨_,r0⟩:=s7.repH
     exact ⟨gk r0,k _ _ s7.pop⟩
 . cases h4
theorem RP {C:Str} {c:Addr} {k:Nat} {ps:List Str} {g:GF} {e:Expr} {es:List Expr} {a:AF} {p pos:Pos} (T:tQ X.K X.mg C c) (M:Kf X.prog X.w X.K X.mg X.base c k ps (bT X.K ps.length g)) (hr:kj (k+1) X.A) (hg:Gl X C) (ha:PA X (e::es) (iz X.K a)) (hn:∀ ρ ls ρ1,a ρ=some (ls,ρ1)->ls.length+1=ps.length)
 (hdb:(C==("__debug__" : Str))=false:=by decide) (he:starEach (e::es) X.env=(false,eval e X.env)::starEach es X.env:=by rfl) (hpl:(backTo pos (starEach es X.env)).any (·.1)=false:=by rfl):PE X (.Call (.Name C p) (e::es) [] pos) (tP X.K (sW C g a)):=by
 obtain ⟨f,fd,F,hm,hb⟩:=M
 exact PE.imp (Tg (E:=E0) hm F hr hg T.mgC hb .nil zy ha hdb he hpl) (Qx T hn)
end
theorem fV {a:AF} {n m:Nat} (h:∀ ρ ls ρ1,a ρ=some (ls,ρ1)->ls.length=n) (e:n+1=m:=by rfl):∀ ρ ls ρ1,a ρ=some (ls,ρ1)->ls.length+1=m:=fun ρ ls ρ1 g=>by rw [h _ _ _ g,e]
theorem RQ {P:Program} {w:World} {mg:Str->Option Value} {base:Heap} {c:Addr} {k:Nat} {ps:List Str} {sp:Sp} (h:nY P w K mg base c "__init__" k ps sp) (mk:W.makesIn K c=true) (kc:W.keepIn K (.ref c)=true):Kf P w K mg base c k ps sp:=by
 obtain ⟨f,fd,F,m,b⟩:=h
 exact ⟨f,fd,F,⟨mk,m.at_,m.fn,kc⟩,b⟩
end PL
namespace L2
open PySem PySem.Spec PyProof.Rows
variable {pins:List (Addr×Obj)} {E:Value->Shared->Prop} {s:Shared} {A:Around} {w:World} {P:Program}
section
variable {X:Cx}
end
end L2
namespace PL
open PySem PySem.Spec PyProof.Rows L2
variable {K:FG} {H0 H:Hp} {Z0:ZG} {σ:L2.St} {ρ:Ev} {pd:Pd}
section
variable {X:Cx}
theorem SR.wrO {a:Addr} {ws ws':List PV} {f:List V->List V} (hf:∀ {Z us},aJ K Z ws us->aJ K Z ws' (f us))
 (s:SR K H0 Z0 σ H ρ ((.ref a,.own (.lst ws))::pd)):∃ us,H a=some (.lst us)/\SR K H0 Z0 σ (upd H a (.lst (f us))) ρ ((.ref a,.own (.lst ws'))::pd):=by
 obtain ⟨el,Z,hg,z,so⟩:=s.top
 obtain ⟨b,eb,⟨us,hu,hr⟩,_⟩:=so.1 _ aab
 cases eb
 refine ⟨us,hu,?_⟩
 obtain ⟨z',s'⟩:=so.write (o:=.lst (f us)) (q:=.lst ws') z ⟨f us,bM,hf hr⟩
 exact .mk (Z:=Z) el hg z' s'
end
end PL
namespace L2
open PySem PySem.Spec PyProof.Rows
variable {pins:List (Addr×Obj)} {E:Value->Shared->Prop} {s:Shared} {A:Around} {w:World} {P:Program}
section
variable {X:Cx}
def pk {α:Type} (xs:List α) (lo hi st:Option Int):List α:=
 (sliceRange (sliceBounds lo hi st xs.length).1 (sliceBounds lo hi st xs.length).2.1 (sliceBounds lo hi st xs.length).2.2).filterMap fun i=>xs[i]?
end
end L2
namespace PL
open PySem PySem.Spec PyProof.Rows L2
variable {K:FG} {H0 H:Hp} {Z0:ZG} {σ:L2.St} {ρ:Ev} {pd:Pd}
section
variable {X:Cx}
theorem SR.lstAt {v:V} {n:Nat} {ps:List PV} (s:SR K H0 Z0 σ H ρ ((v,.sh (.ptr n))::pd)) (hm:ρ.mu[n]?=some (some (.lst ps))):
 ∃ a vs,v=.ref a/\H a=some (.lst vs)/\vs.length=ps.length/\∀ (i:Nat) p,ps[i]?=some p->∃ u,vs[i]?=some u/\SR K H0 Z0 σ H ρ ((u,.sh p)::(v,.sh (.ptr n))::pd):=by
 have sdup:SR K H0 Z0 σ H ρ ((v,.sh (.ptr n))::(v,.sh (.ptr n))::pd):=s.part fun Z _ r=>r
 obtain ⟨a,rfl,s5⟩:=sdup.cellO hm
 obtain ⟨el,Z,hg,z,so⟩:=s5.top
 obtain ⟨_,ea,⟨vs,hu,hr⟩,_⟩:=so.1 _ aab
 cases ea
 refine ⟨a,vs,rfl,hu,hr.length,fun i p hp=>?_⟩
 obtain ⟨u,h1,h2⟩:=hr.get hp
 refine ⟨u,h1,?_⟩
 have s6:SR K H0 Z0 σ H ⟨ρ.vs,ρ.mu.set n none⟩ ((u,.sh p)::(.ref a,.own (.lst ps))::(.ref a,.sh (.ptr n))::(.ref a,.sh (.ptr n))::pd):=.mk (Z:=Z) el hg z ((so.perm bZ).consS h2)
 have s7:SR K H0 Z0 σ H ⟨ρ.vs,ρ.mu.set n none⟩ ((.ref a,.own (.lst ps))::(.ref a,.sh (.ptr n))::(u,.sh p)::(.ref a,.sh (.ptr n))::pd):=s6.perm (((List.Perm.swap _ _ _).cons _).trans (List.Perm.swap _ _ _))
 exact SR.cellB (pe:=pd) hm s7
def Holds (o:Option Nat) (ps:List PV) (ρ:Ev):Prop:=∀ n,o=some n->ρ.mu[n]?=some (some (.lst ps))
def Y8 (K:FG) (H0:Hp) (Z0:ZG) (pd:Pd) (J:It) (o:Option Nat) (ps:List PV):Prop:=∀ σ H ρ (i:Nat),SR K H0 Z0 σ H ρ pd->Holds o ps ρ->
 (∀ x,ps[i]?=some x->J.go i H/\∀ v H',J.yld i H v H'->SR K H0 Z0 σ H' ρ ((v,.sh x)::pd))/\(i=ps.length->J.stop i H)
theorem Qy {H0:Hp} {a:Addr} {n:Nat} {ps:List PV}:Y8 K H0 Z0 ((.ref a,.sh (.ptr n))::pd) (HN K a) (some n) ps:=by
 intro σ H ρ i s hm
 obtain ⟨b,vs,e,hH,hl,hg⟩:=s.lstAt (hm n rfl)
 cases e
 refine ⟨fun x hx=>?_,fun h=>⟨vs,bI.of hH,by omega⟩⟩
 obtain ⟨u,h1,s2⟩:=hg i x hx
 refine ⟨⟨vs,u,bI.of hH,h1⟩,fun v' H' y=>?_⟩
 obtain ⟨e',y⟩:=y
 subst e'
 have:=y vs (bI.of hH)
 rw [h1] at this; cases this
 exact s2
abbrev RT:=Ev->Option (Option Nat×List PV×Ev)
def xJ (f:EF):RT:=fun ρ=>(f ρ).bind fun x=>match x.1.pv with
 | .lst ps=>some (none,ps,x.2)
 | .ptr n=>match x.2.mu[n]? with
  | some (some (.lst ps))=>some (some n,ps,x.2)
  | _=>none
 | _=>none
def W0 (K:FG) (f:RT):TI:=fun σ H R=>∃ H0 Z0 ρ pd o xs ρ',SR K H0 Z0 σ H ρ pd/\f ρ=some (o,xs,ρ')/\∀ J H' pd',SR K H0 Z0 σ H' ρ' pd'->Y8 K H0 Z0 pd' J o xs->List.Sublist pd pd'->R J H'
theorem Ul {tg l:Expr} {f:EF} (hl:PE X l (tP X.K f)):PI X tg l (W0 X.K (xJ f)):=PI.imp (S8 hl) fun σ H R q=>by
 obtain ⟨H0,Z0,ρ,pd,n,xs,ρ',s,h,k⟩:=q
 obtain ⟨x,h1,h2⟩:=acf h
 refine ⟨H0,Z0,ρ,pd,x.1,x.2,s,h1,fun v H1 s1=>?_⟩
 have s2:=s1.freeze
 split at h2
 . rename_i ps en
   cases h2
   rw [en] at s2
   obtain ⟨Z,z,r⟩:=s2.rep
   unfold Rep at r
   obtain ⟨b,vs,rfl,h1',h2'⟩:=r
   exact ⟨b,rfl,⟨vs,bI.same z h1'⟩,k _ _ _ s2 (fun σ H ρ i s _=>De σ H ρ i s) (aap _ _)⟩
 . rename_i m en
   split at h2
   . rename_i ps em
     cases h2
     rw [en] at s2
     obtain ⟨a,vs,rfl,hH,_,_⟩:=s2.lstAt em
     exact ⟨a,rfl,⟨vs,bI.of hH⟩,k _ _ _ s2 Qy (aap _ _)⟩
   . cases h2
 . cases h2
open Classical in
def nC (o:Option Nat) (ps:List PV) (b:BF) (body:SF):List PV->SF
 | [],ρ=>if Holds o ps ρ then some (.nx ρ) else none
 | x::xs,ρ=>if Holds o ps ρ then (b x ρ).bind fun ρ1=>(body ρ1).bind fun fl=>match fl with
  | .nx ρ'=>nC o ps b body xs ρ'
  | .ct ρ'=>nC o ps b body xs ρ'
  | .bk ρ'=>some (.nx ρ')
  | .rt r ρ'=>some (.rt r ρ') else none
def Em (f:RT) (b:BF) (body:SF):SF:=fun ρ=>(f ρ).bind fun y=>nC y.1 y.2.1 b body y.2.1 y.2.2
theorem M5 {α:Type} {c:Prop} {_:Decidable c} {o:Option α} {r:α} (h:(if c then o else none)=some r):c/\o=some r:=by
 split at h
 . rename_i hc
   exact ⟨hc,h⟩
 . cases h
theorem Um {tg iter:Expr} {body:List Stmt} {f:RT} {g:TG} {b:BF} {fb:SF} {pos:Pos} (hp:PassesOwn (model X.prog X.w) X.A X.env X.xe) (hc:X.calm=true) (hi:PI X tg iter (W0 X.K f)) (hg:PG X tg g) (hb':GS X.K g b) (hb:iu X body (fO X.K fb))
 (hs:∀ x,foldedSetIterable iter X.env x=pure x:=by intro _; rfl):PS X (.For tg iter body [] pos) (fO X.K (Em f b fb)):=PS.imp (Ld hp hc hi hg hb hs) fun D σ H q=>by
 obtain ⟨H0,Z0,ρ,pd,fl,s,h,k⟩:=q
 obtain ⟨⟨n,ps,ρ0⟩,h1,h2⟩:=acf h
 have h2:nC n ps b fb ps ρ0=some fl:=h2
 refine ⟨H0,Z0,ρ,pd,n,ps,ρ0,s,h1,fun J H1 pd' s1 it sub=>?_⟩
 refine ⟨fun i m σ' H'=>m=ps.length-i/\i<=ps.length/\∃ ρ',SR X.K H0 Z0 σ' H' ρ' pd'/\nC n ps b fb (ps.drop i) ρ'=some fl,⟨_,rfl,aa3 _,ρ0,s1,h2⟩,?_⟩
 rintro i m σ' H' ⟨rfl,hi,ρ',s',h'⟩
 by_cases hlt:i<ps.length
 . have hx:ps[i]?=some ps[i]:=aaC hlt
   rw [abn hlt] at h'
   unfold nC at h'
   obtain ⟨hm,h'⟩:=M5 h'
   obtain ⟨i1,_⟩:=it σ' H' ρ' i s' hm
   obtain ⟨go,yl⟩:=i1 _ hx
   obtain ⟨ρ1,e1,e2⟩:=acf h'
   obtain ⟨fl1,e3,e4⟩:=acf e2
   refine .inr ⟨go,fun σ'' H''=>∃ ρ'',SR X.K H0 Z0 σ'' H'' ρ'' pd'/\nC n ps b fb (ps.drop (i+1)) ρ''=some fl,fun σ'' H'' ⟨ρ'',s'',h''⟩=>⟨ps.length-(i+1),by omega,rfl,hlt,ρ'',s'',h''⟩,fun x H2 hy=>?_⟩
   refine hb' H0 Z0 σ' H2 ρ' pd' x _ ρ1 _ (yl x H2 hy) e1 fun σ2 s2=>?_
   refine ⟨H0,Z0,ρ1,pd',fl1,s2,e3,?_⟩
   cases fl1 with
   | nx ρ2=>exact fun σ3 H3 s3=>⟨ρ2,s3,e4⟩
   | ct ρ2=>exact fun σ3 H3 s3=>⟨ρ2,s3,e4⟩
   | bk ρ2=>cases e4; exact fun σ3 H3 s3=>k σ3 H3 (s3.sub sub)
   | rt r ρ2=>cases e4; exact fun v σ3 H3 s3=>k v σ3 H3 (s3.sub (sub.cons_cons _))
 . have e:i=ps.length:=by omega
   subst e
   rw [ab3] at h'
   unfold nC at h'
   obtain ⟨hm,h'⟩:=M5 h'
   cases h'
   obtain ⟨_,i2⟩:=it σ' H' ρ' ps.length s' hm
   exact .inl ⟨i2 rfl,k σ' H' (s'.sub sub)⟩
theorem Uo {o:Option Nat} {ps:List PV} {b:BF} {body:SF} {x:PV} {xs:List PV} {ρ ρ1 ρ2:Ev} {r:Fl} (hm:Holds o ps ρ) (e1:b x ρ=some ρ1) (e2:body ρ1=some (.nx ρ2)) (e3:nC o ps b body xs ρ2=some r):nC o ps b body (x::xs) ρ=some r:=by
 unfold nC
 rw [ab7 hm,e1]
 show (body ρ1).bind _=_
 rw [e2]
 exact e3
theorem Qz {o:Option Nat} {ps:List PV} {b:BF} {body:SF} (hm:Holds o ps ρ):nC o ps b body [] ρ=some (.nx ρ):=by
 unfold nC
 rw [ab7 hm]
end
def bj (mu:Mu):Nat->PV->PV
 | 0,p=>p
 | k+1,.ptr n=>match mu[n]? with
  | some (some p)=>bj mu k p
  | _=>.ptr n
 | k+1,.tup ps=>.tup (ps.map (bj mu k))
 | k+1,.lst ps=>.lst (ps.map (bj mu k))
 | k+1,.dk ks ps=>.dk ks (ps.map (bj mu k))
 | _+1,p=>p
theorem rB {Z:ZG} {f:PV->PV} (hf:∀ p x,Rep K Z p x->Rep K Z (f p) x):∀ {ps:List PV} {vs:List V},aJ K Z ps vs->aJ K Z (ps.map f) vs
 | [],vs,h=>h
 | p::ps,vs,h=>by
  obtain ⟨v,r,rfl,h1,h2⟩:=h.inv
  exact aJ.cons (hf p v h1) (rB hf h2)
theorem mH {Z:ZG} (so:Slots K H0 Z H (sl Z.g σ ρ pd)) (lz:iy Z ⟨H,Z.g⟩):∀ (k:Nat) (p:PV) (x:V),Rep K ⟨H,Z.g⟩ p x->Rep K ⟨H,Z.g⟩ (bj ρ.mu k p) x
 | 0,p,x,r=>r
 | k+1,p,x,r=>by
  cases p with
  | ptr n=>
   show Rep K ⟨H,Z.g⟩ (match ρ.mu[n]? with | some (some p)=>bj ρ.mu k p | _=>.ptr n) x
   split
   . rename_i q hq
     unfold Rep at r
     obtain ⟨a,rfl,ha⟩:=r
     have hc:(some (V.ref a),some (Lc.own q))∈cel Z.g ρ.mu:=aa9 (zip_get (i:=n) (by rw [aaN,ha]; rfl) (by rw [aaN,hq]; rfl))
     obtain ⟨b,e1,e2,_,_⟩:=so.1 _ (aaT _ hc)
     cases e1
     exact mH so lz k q _ (e2.rep lz rfl)
   . exact r
  | tup ps=>
   show Rep K ⟨H,Z.g⟩ (.tup (ps.map (bj ρ.mu k))) x
   unfold Rep at r ⊢
   obtain ⟨a,vs,e,h1,h2⟩:=r
   exact ⟨a,vs,e,h1,rB (mH so lz k) h2⟩
  | lst ps=>
   show Rep K ⟨H,Z.g⟩ (.lst (ps.map (bj ρ.mu k))) x
   unfold Rep at r ⊢
   obtain ⟨a,vs,e,h1,h2⟩:=r
   exact ⟨a,vs,e,h1,rB (mH so lz k) h2⟩
  | dk ks ps=>
   show Rep K ⟨H,Z.g⟩ (.dk ks (ps.map (bj ρ.mu k))) x
   unfold Rep at r ⊢
   obtain ⟨a,vs,e,h1,h3,h2⟩:=r
   exact ⟨a,vs,e,h1,h3,rB (mH so lz k) h2⟩
  | _=>exact r
def peekD (mu:Mu):Option Lc->Option Lc
 | some l=>some (.sh (bj mu 40 l.pv))
 | none=>none
def Ev.peekD (ρ:Ev):Ev:=⟨ρ.vs.map (PL.peekD ρ.mu),ρ.mu.map fun _=>none⟩
theorem SR.lookD (s:SR K H0 Z0 σ H ρ pd):
 ∃ Zt,SR K H Zt σ H ρ.peekD []/\(∀ H' v r ρ1,SR K H Zt σ H' ρ1 [(v,r)]->sS r=true->SR K H0 Z0 σ H' ρ ((v,r)::pd))/\∀ H' ρ1,SR K H Zt σ H' ρ1 []->SR K H0 Z0 σ H' ρ pd:=by
 obtain ⟨Z,⟨el,hg,lz,so⟩,b1,b2⟩:=s.lookB
 refine ⟨_,SR.peeked (pk:=peekD ρ.mu) el hg fun v o he=>?_,b1,b2⟩
 have q:=so.1 _ (aaE _ (aaT _ he))
 match o,q with
 | none,_=>exact .inl rfl
 | some (.sh p),⟨x,e1,e2⟩=>exact .inr ⟨x,_,rfl,e1,mH so lz 40 _ _ (e2.mono lz)⟩
 | some (.own p),⟨a,e1,e2,_,_⟩=>exact .inr ⟨.ref a,_,rfl,e1,mH so lz 40 _ _ (e2.rep lz rfl)⟩
section
variable {X:Cx}
def lW (f:EF):EF:=fun ρ=>(f ρ.peekD).bind fun x=>if sS x.1=true then some (x.1,ρ) else none
theorem Gh {e:Expr} {f:EF} (h:PE X e (tP X.K f)):PE X e (tP X.K (lW f)):=PE.imp h fun σ H Q q=>by
 obtain ⟨H0,Z0,ρ,pd,r,ρ',s,h,k⟩:=q
 obtain ⟨x,h1,h2⟩:=acf h
 obtain ⟨Zt,s1,b1,_⟩:=s.lookD
 split at h2
 . rename_i hf
   cases h2
   exact ⟨H,Zt,ρ.peekD,[],x.1,x.2,s1,h1,fun v H' s2=>k v H' (b1 H' v x.1 x.2 s2 hf)⟩
 . cases h2
theorem yS {f:EF} {l:Lc} {ρ ρ1:Ev} (h:f ρ.peekD=some (l,ρ1)) (hf:sS l=true):lW f ρ=some (l,ρ):=by
 unfold lW
 rw [h,aaa,ab7 hf]
def xK (fo:EF):EF:=fun ρ=>(fo ρ).bind fun o=>match o.1.pv with
 | .ptr n=>match o.2.mu[n]? with
  | some (some (.lst ws))=>(ws[ws.length-1]?).map fun p=>(.sh p,⟨o.2.vs,o.2.mu.set n (some (.lst ws.dropLast))⟩)
  | _=>none
 | _=>none
theorem Yz {o:Expr} {fo:EF} {apos cpos:Pos} (h:PE X (.Call (.Attribute o "pop" apos) [] [] cpos) (Ph X.K "list" Wh (tP X.K fo))):PE X (.Call (.Attribute o "pop" apos) [] [] cpos) (tP X.K (xK fo)):=PE.imp h fun σ H Q q=>by
 obtain ⟨H0,Z0,ρ,pd,r,ρ',s,h,k⟩:=q
 obtain ⟨o',h1,h2⟩:=acf h
 refine ⟨H0,Z0,ρ,pd,o'.1,o'.2,s,h1,fun v H1 s1=>?_⟩
 split at h2
 . rename_i n en
   split at h2
   . rename_i ws em
     obtain ⟨p,h3,h4⟩:=acg h2
     cases h4
     have s2:=s1.freeze
     rw [en] at s2
     obtain ⟨a,rfl,s5⟩:=s2.cellO em
     obtain ⟨_,Z,_,z,so⟩:=s5.top
     obtain ⟨_,ea,⟨us,hu,_⟩,_⟩:=so.1 _ aab
     cases ea
     obtain ⟨us2,y,hu2,hy,s6⟩:=s5.popO h3
     have hn:n<o'.2.mu.length:=(aan.mp em).1
     have s7:=(s6.perm (pd':=(.ref a,.own (.lst ws.dropLast))::(.ref a,.sh (.ptr n))::(y,.sh p)::pd) ((List.Perm.swap _ _ _).cons _)).cellP (by show (o'.2.mu.set n none)[n]?=_; rw [aax hn])
     refine ⟨.inl ⟨rfl,us,bI.of hu⟩,a,us2,y,rfl,rfl,hu2,hy,k _ _ ?_⟩
     have e8:(o'.2.mu.set n none).set n (some (.lst ws.dropLast))=o'.2.mu.set n (some (.lst ws.dropLast)):=aa7 ..
     rw [show (⟨o'.2.vs,o'.2.mu.set n (some (.lst ws.dropLast))⟩:Ev)=⟨o'.2.vs,(o'.2.mu.set n none).set n (some (.lst ws.dropLast))⟩ by rw [e8]]
     exact s7
   . cases h2
 . cases h2
theorem QB {H0:Hp} {a:Addr} {ps:List PV}:m7 K H0 Z0 ((.ref a,.sh (.lst ps))::pd) (Wo K a ps.length) ps.reverse:=by
 intro σ H ρ i s
 obtain ⟨Z,z,r⟩:=s.rep
 unfold Rep at r
 obtain ⟨b,vs,e,h1,h2⟩:=r
 cases e
 have hq:=bI.same z h1
 refine ⟨fun x hx=>?_,fun hl=>⟨by rw [hl,aby],vs,hq,h2.length⟩⟩
 have hi:i<ps.length:=by
  have:=(aan.mp hx).1
  rwa [aby] at this
 have hx':ps[ps.length-1-i]?=some x:=by rw [← List.getElem?_reverse hi]; exact hx
 refine ⟨⟨hi,vs,hq,h2.length⟩,fun v' H' y=>?_⟩
 obtain ⟨e',y⟩:=y
 subst e'
 refine s.part fun Z' z' r'=>?_
 unfold Rep at r'
 obtain ⟨b',vs',e',h1',h2'⟩:=r'
 cases e'
 obtain ⟨p',hp',rp'⟩:=h2'.getV (y vs' (bI.same z' h1'))
 rw [hx'] at hp'
 cases hp'
 exact rp'
def En (f:EF):IF:=fun ρ=>(f ρ).bind fun x=>match x.1.pv with
 | .lst ps=>some (ps.reverse,x.2)
 | _=>none
theorem W2 {tg a:Expr} {f:EF} {p pos:Pos} (hg:Gl X "reversed") (hm:X.mg "reversed" = none) (ha:PA X [a] (iz X.K (aa f ao))) (hs:starEach [a] X.env=[(false,eval a X.env)]:=by rfl):PI X tg (.Call (.Name "reversed" p) [a] [] pos) (Dd X.K (En f)):=PI.imp (Wq hg hm ha hs) fun σ H R q=>by
 obtain ⟨H0,Z0,ρ,pd,xs,ρ',s,h,k⟩:=q
 obtain ⟨x,h1,h2⟩:=acf h
 refine ⟨H0,Z0,ρ,pd,[x.1],x.2,s,?_,fun vs H1 e1 s1=>?_⟩
 . unfold aa ao
   rw [h1]
   rfl
 . obtain ⟨v,rfl⟩:=yp e1
   have s2:SR X.K H0 Z0 σ H1 x.2 ((v,.sh x.1.pv)::pd):=SR.freeze s1
   cases e:x.1.pv with
   | lst ps=>
    rw [e] at h2 s2
    cases h2
    obtain ⟨Z,z,r⟩:=s2.rep
    unfold Rep at r
    obtain ⟨b,us,rfl,h1',h2'⟩:=r
    refine ⟨b,us,rfl,bI.same z h1',?_⟩
    rw [h2'.length]
    exact k _ _ _ s2 QB (aap _ _)
   | _=>rw [e] at h2; cases h2
def isAny (p:PV):List String->Option Bool
 | []=>(RL p).map fun _=>false
 | C::r=>match wF p C with
  | some true=>some true
  | some false=>isAny p r
  | none=>none
theorem lq {p:PV} {T:String} (h1:RL p=some T):∀ {Cs:List String} {b:Bool},isAny p Cs=some b->W.kitAny K (.type T) (Cs.map Value.type)=some b
 | [],b,h=>by
  unfold isAny at h
  rw [h1] at h
  exact h
 | C::r,b,h=>by
  unfold isAny at h
  show (match W.kitOne K (.type T) (.type C) with | some true=>some true | some false=>W.kitAny K (.type T) (r.map Value.type) | none=>none)=some b
  cases e:wF p C with
  | none=>rw [e] at h; cases h
  | some c=>
   rw [e] at h
   rw [mG h1 e]
   cases c with
   | true=>exact h
   | false=>exact lq h1 h
def W3 (K:FG):List V->Hp->VK->Prop:=fun xs H Q=>∃ x t Cs g p b,xs=[x,.ref t]/\H t=some (.tup (Cs.map V.ty))/\Rep K ⟨H,g⟩ p x/\isAny p Cs=some b/\Q (.bl b) H
theorem Ir:∀ {Cs:List String} {its:List Value},Vals (Cs.map V.ty) its->its=Cs.map Value.type
 | [],its,h=>by cases h; rfl
 | C::r,its,h=>by
  cases h with
  | cons a b=>cases a; rw [Ir b]; rfl
theorem Gi:oU X (.builtin "isinstance") (W3 X.K):=by
 intro pins s σ H xs us Q I r h
 obtain ⟨x,t,Cs,g,p,b,rfl,ht,rp,e,q⟩:=h
 obtain ⟨u,w',rfl,ru,rw'⟩:=vals2 r
 cases rw'
 have fin:∀ tk,EP X pins σ Q (.bool b) { s with toks:=tk }:=fun tk=>⟨.bl b,H,I.tok tk,rfl,q⟩
 obtain ⟨its,rv,⟨o,hp,hc,n,hd⟩,_⟩:=I.tuple (cI.of ht)
 have ei:=Ir rv
 subst ei
 obtain ⟨oc,od,oD,os⟩:=o
 have hc':oc=.type "tuple" := hc
 have hd':oD=.seq (Cs.map Value.type).toArray n:=hd
 subst hc' hd'
 cases p with
 | non=>have:=gk rp; subst this; cases ru; exact abV W.kitx_none I.kIn trivial hp (lq rfl e) (by intro z; cases z) fin
 | bl c=>have:=dC rp; subst this; cases ru; exact abV W.kitx_bool I.kIn trivial hp (lq rfl e) (by intro z; cases z) fin
 | int i=>have:=bH rp; subst this; obtain ⟨t,rfl⟩:=ru; exact abV W.kitx_int I.kIn trivial hp (lq rfl e) (by intro z; cases z) fin
 | str i=>have:=dw rp; subst this; obtain ⟨t,rfl⟩:=ru; exact abV W.kitx_str I.kIn trivial hp (lq rfl e) (by intro z; cases z) fin
 | tup ps=>
  obtain ⟨a,vs,its,rfl,_,_,_,o,t1,t2,_⟩:=wk I rp ru
  exact abV (t:=.type "tuple") W.kitx_tuple I.kIn ⟨o,t1,t2⟩ hp (lq rfl e) (by intro z; cases z) fin
 | lst ps=>
  obtain ⟨a,vs,its,rfl,_,_,_,o,t1,t2,_⟩:=wu I rp ru
  exact abV (t:=.type "list") W.kitx_list I.kIn ⟨o,t1,t2⟩ hp (lq rfl e) (by intro z; cases z) fin
 | _=>cases Cs<;>cases e
def QC (Cs:List String) (f:EF):EF:=fun ρ=>(f ρ).bind fun x=>(isAny x.1.pv Cs).map fun b=>(.sh (.bl b),x.2)
def QD:List String->TA
 | []=>Ez
 | C::r=>xf (tC (.ty C)) (QD r)
theorem Gj {Q:List V->Hp->Prop} {H:Hp}:∀ {Cs:List String},Q (Cs.map V.ty) H->QD Cs σ H Q
 | [],h=>h
 | C::r,h=>Gj (Q:=fun xs H2=>Q (V.ty C::xs) H2) (Cs:=r) h
theorem ZV {Cs:List String} {f:EF} {e c:Expr} {pp pos:Pos} (h:PE X (.Call (.Name "isinstance" pp) [e,c] [] pos) (CQ (W3 X.K) (xf (tP X.K f) (xf (V5 (QD Cs)) Ez)))) (hc:Cs.length<=1000:=by decide):
 PE X (.Call (.Name "isinstance" pp) [e,c] [] pos) (tP X.K (QC Cs f)):=PE.imp h fun σ H Q q=>by
 obtain ⟨H0,Z0,ρ,pd,r,ρ',s,h,k⟩:=q
 obtain ⟨x,h1,h2⟩:=acf h
 obtain ⟨b,h3,h4⟩:=acg h2
 cases h4
 refine ⟨H0,Z0,ρ,pd,x.1,x.2,s,h1,fun v H1 s1=>?_⟩
 refine Gj (Cs:=Cs) ⟨by rw [aad]; exact small (by omega),fun t ht=>?_⟩
 have s2:=s1.freeze
 obtain ⟨el,Z,hg,z,r1,so⟩:=s2.sh
 obtain ⟨z',lz,so'⟩:=(so.consS r1).newF z (a:=t) (o:=.tup (Cs.map V.ty)) ht
 have s3:SR X.K H0 Z0 σ (upd H1 t (.tup (Cs.map V.ty))) x.2 ((v,.sh x.1.pv)::pd):=.mk (Z:=Z.put t (.tup (Cs.map V.ty))) el hg z' so'
 obtain ⟨g,r2⟩:=s3.repH
 exact ⟨v,t,Cs,g,_,b,rfl,bM,r2,h3,k _ _ (s3.pop.scal dM)⟩
def Gk (f:EF) (fl fh:OF):EF:=fun ρ=>(f ρ).bind fun x=>(fl x.2).bind fun y=>(fh y.2).bind fun z=>match x.1.pv with
 | .tup ps=>if HT.sIx ps.length 0 y.1=0/\HT.sIx ps.length ps.length z.1=ps.length then none else some (.sh (.tup (J8 ps y.1 z.1)),z.2)
 | _=>none
theorem Up {e:Expr} {lo hi:Option Expr} {p2 pos:Pos} {f:EF} {fl fh:OF} (he:PE X e (tP X.K f)) (hl:PO X lo (RJ X.K fl)) (hu:PO X hi (RJ X.K fh)):PE X (.Subscript e (.Slice lo hi none p2) pos) (tP X.K (Gk f fl fh)):=PE.imp (Pb V9 he hl hu) fun σ H Q q=>by
 obtain ⟨H0,Z0,ρ,pd,r,ρ',s,h,k⟩:=q
 obtain ⟨x,h1,h2⟩:=acf h
 obtain ⟨y,h3,h4⟩:=acf h2
 obtain ⟨z,h5,h6⟩:=acf h4
 refine ⟨H0,Z0,ρ,pd,x.1,x.2,s,h1,fun v H1 s1=>⟨H0,Z0,x.2,_,y.1,y.2,s1.freeze,h3,fun H2 s2=>⟨H0,Z0,y.2,_,z.1,z.2,s2,h5,fun H3 s3=>?_⟩⟩⟩
 cases e:x.1.pv with
 | tup ps=>
  rw [e] at h6 s3
  have h6:(if HT.sIx ps.length 0 y.1=0/\HT.sIx ps.length ps.length z.1=ps.length then none else some (Lc.sh (.tup (J8 ps y.1 z.1)),z.2))=some (r,ρ'):=h6
  split at h6
  . cases h6
  . rename_i hw
    cases h6
    obtain ⟨el,Z,hg,zz,r1,s4⟩:=s3.sh
    unfold Rep at r1
    obtain ⟨a,vs,rfl,g1,g2⟩:=r1
    refine ⟨a,vs,rfl,cI.same zz.zh g1,by rw [g2.length]; exact hw,fun p hp=>k _ _ ?_⟩
    obtain ⟨z',lz,s'⟩:=s4.newF zz (a:=p) (o:=.tup (tL vs y.1 z.1)) hp
    refine .mk (Z:=Z.put p (.tup (tL vs y.1 z.1))) el hg z' (s'.consS ?_)
    unfold Rep
    exact ⟨p,_,rfl,cI.of bM,g2.cut.mono lz⟩
 | _=>rw [e] at h6; cases h6
def vK:Bool->List PV->PV
 | true,ps=>.lst ps
 | false,ps=>.tup ps
theorem Ab {Z:ZG} {k:Bool} {ps:List PV} {v:V} (r:Rep K Z (vK k ps) v):∃ a vs,v=.ref a/\m5 k K Z.z a vs/\aJ K Z ps vs:=by
 cases k
 . unfold vK Rep at r; exact r
 . unfold vK Rep at r; exact r
theorem m5.same {Z Z':Hp} {k:Bool} {a:Addr} {vs:List V} (s:cZ Z Z') (h:m5 k K Z a vs):m5 k K Z' a vs:=by
 cases k
 . exact cI.same s h
 . exact bI.same s h
theorem M6 {H0:Hp} {k:Bool} {a b:Addr} {ps qs:List PV}:m7 K H0 Z0 ((.ref a,.sh (vK k ps))::(.ref b,.sh (vK k qs))::pd) (PX k K a b) (nq ps qs):=by
 intro σ H ρ i s
 obtain ⟨el,Z,hg,z,rl,so⟩:=SR.repl (vs:=[.ref a,.ref b]) (ls:=[.sh (vK k ps),.sh (vK k qs)]) (pd:=pd) s rfl
 obtain ⟨_,_,ev,r,rl⟩:=rl.inv
 cases ev
 obtain ⟨_,_,ev,r',_⟩:=rl.inv
 cases ev
 have r0:Rep K Z (vK k ps) (.ref a):=r
 have r0':Rep K Z (vK k qs) (.ref b):=r'
 obtain ⟨a',vs,e,h1,h2⟩:=Ab r0
 obtain ⟨b',ws,e',h1',h2'⟩:=Ab r0'
 cases e
 cases e'
 have hq:=m5.same z.zh h1
 have hr:=m5.same z.zh h1'
 refine ⟨fun x hx=>?_,fun hl=>⟨vs,ws,hq,hr,?_⟩⟩
 . obtain ⟨p,q,hp,hq',rfl⟩:=Qv hx
   obtain ⟨v,hv,rv⟩:=h2.get hp
   obtain ⟨u,hu,ru⟩:=h2'.get hq'
   refine ⟨⟨vs,ws,v,u,hq,hr,hv,hu⟩,fun v' H' y=>?_⟩
   obtain ⟨T,y1,y2,hT,rfl,rfl,hy1,hy2⟩:=y
   have e1:=hy1 vs hq
   rw [hv] at e1
   cases e1
   have e2:=hy2 ws hr
   rw [hu] at e2
   cases e2
   obtain ⟨z',lz,so'⟩:=((so.consS r0').consS r0).newF z (a:=T) (o:=.tup [v,u]) hT
   refine .mk (Z:=Z.put T (.tup [v,u])) el hg z' (Slots.perm (Slots.consS so' ?_) ((bZ.trans (bZ.cons _)).cons _))
   unfold Rep
   exact ⟨T,[v,u],rfl,.inl (.inl (by show upd Z.z T _ T=_; rw [bM])),aJ.cons (rv.mono lz) (aJ.cons (ru.mono lz) .nil)⟩
 . rw [Qw] at hl
   rw [h2.length,h2'.length]
   omega
def ur (f g:EF):IF:=fun ρ=>(f ρ).bind fun x=>(g x.2).bind fun y=>match x.1.pv,y.1.pv with
 | .lst ps,.lst qs=>some (nq ps qs,y.2)
 | .tup ps,.tup qs=>some (nq ps qs,y.2)
 | _,_=>none
theorem Uq {α:Type} {p q:PV} {w r:α} {zs:List PV} (h:(match p,q with
 | .lst ps,.lst qs=>some (nq ps qs,w)
 | .tup ps,.tup qs=>some (nq ps qs,w)
 | _,_=>none)=some (zs,r)):∃ k ps qs,p=vK k ps/\q=vK k qs/\zs=nq ps qs/\w=r:=by
 split at h
 . rename_i ps qs; cases h; exact ⟨true,ps,qs,rfl,rfl,rfl,rfl⟩
 . rename_i ps qs; cases h; exact ⟨false,ps,qs,rfl,rfl,rfl,rfl⟩
 . cases h
theorem Bv {a b:Expr} {f g:EF} {p pos:Pos} {elts:List Expr} {x1} {tpos:Pos} (hg:Gl X "zip") (hm:X.mg "zip" = none) (ha:PA X [a,b] (iz X.K (aa f (aa g ao)))) (hs:starEach [a,b] X.env=(false,eval a X.env)::starEach [b] X.env:=by rfl) (hs2:(backTo pos (starEach [b] X.env)).any (·.1)=false:=by rfl):PI X (.Tuple elts x1 tpos) (.Call (.Name "zip" p) [a,b] [] pos) (Dd X.K (ur f g)):=PI.imp (TY hg hm ha hs hs2) fun σ H R q=>by
 obtain ⟨H0,Z0,ρ,pd,xs,ρ',s,h,k⟩:=q
 obtain ⟨x,h1,h2⟩:=acf h
 obtain ⟨y,h3,h4⟩:=acf h2
 refine ⟨H0,Z0,ρ,pd,[x.1,y.1],y.2,s,?_,fun vs H1 e1 s1=>?_⟩
 . unfold aa ao
   rw [h1]
   simp only [aaa,h3,abz]
 . obtain ⟨v,u,rfl⟩:=ln2 e1
   have s2:SR X.K H0 Z0 σ H1 y.2 ((v,.sh x.1.pv)::(u,.sh y.1.pv)::pd):=SR.freezeAll (vs:=[v,u]) (ls:=[x.1,y.1]) s1
   obtain ⟨kk,ps,qs,e,e',rfl,rfl⟩:=Uq h4
   rw [e,e'] at s2
   obtain ⟨Z,z,r,r'⟩:=s2.rep2
   obtain ⟨b',us,rfl,g1',g2'⟩:=Ab r
   obtain ⟨a',vs',rfl,g1,g2⟩:=Ab r'
   exact ⟨kk,a',b',rfl,⟨_,m5.same z g1⟩,⟨_,m5.same z g1'⟩,k _ _ _ s2 M6 ((aap _ _).cons _)⟩
def nD (g:GF) (a:AF):EF:=fun ρ=>(a ρ).bind fun y=>(g ((y.1.map Lc.pv).map (bj y.2.mu 40)) (y.2.mu.map fun _=>none)).bind fun r=>if sS r.1=true then some (r.1,y.2) else none
theorem Ac {Z:ZG} {L:Sl} (h:∀ e∈L,e.2=none):Slots K H0 Z H L:=by
 refine ⟨fun e he=>?_,?_⟩
 . obtain ⟨v,l⟩:=e
   have:l=none:=h _ he
   subst this
   trivial
 . have:L.filterMap kE=[]:=by
    rw [List.filterMap_eq_nil_iff]
    intro e he
    obtain ⟨v,l⟩:=e
    have:l=none:=h _ he
    subst this
    cases v with
    | none=>rfl
    | some x=>cases x<;>rfl
   rw [this]
   exact abD
theorem Gm {g:List Addr} {mu:Mu}:∀ e∈cel g (mu.map fun _=>none),e.2=none:=fun e he=>by
 obtain ⟨v,l⟩:=e
 obtain ⟨_,h2⟩:=abe he
 obtain ⟨o,ho,e2⟩:=aaD.mp h2
 obtain ⟨o',_,e3⟩:=aaD.mp ho
 subst e3
 exact e2.symm
theorem M7 {n:Nat} {g:GF} {a:AF} {E:XK} (hn:∀ ρ ls ρ1,a ρ=some (ls,ρ1)->ls.length=n):∀ σ H Q,tP X.K (nD g a) σ H Q->JV (bT X.K n g) [] E (iz X.K a) σ H Q:=fun σ H Q q=>by
 obtain ⟨H0,Z0,ρ,pd,r,ρ',s,h,k⟩:=q
 obtain ⟨y,h1,h2⟩:=acf h
 obtain ⟨⟨r1,mu'⟩,h3,h4⟩:=acf h2
 split at h4
 . rename_i hf
   cases h4
   refine ⟨H0,Z0,ρ,pd,y.1,y.2,s,h1,fun vs H2 e2 s2=>?_⟩
   have s3:=s2.freezeAll
   obtain ⟨Z,⟨el,hg,lz,so⟩,b1,_⟩:=s3.lookB
   have hm:(y.1.map fun l=>Lc.sh l.pv)=(y.1.map Lc.pv).map fun p=>Lc.sh p:=by rw [aaY]; rfl
   have so0:=so
   rw [hm] at so0
   have rl:aJ X.K Z (y.1.map Lc.pv) vs:=Slots.repl (by simpa using e2) (so0.perm Fv.symm)
   have rl2:=rB (mH so lz 40) (rl.mono lz)
   have z1:jO H2 ⟨H2,Z.g⟩ ⟨H2,Z.g⟩ H2:=⟨cZ.refl _,cZ.refl _,iy.refl _,fun b o e=>.inl e⟩
   have hs:Slots X.K H2 ⟨H2,Z.g⟩ H2 (sl Z.g σ ⟨y.2.vs.map fun _=>none,y.2.mu.map fun _=>none⟩ []):=Ac fun e he=>by
    rcases aaF.mp he with he | he
    . exact Gm e he
    . rw [abw,aat] at he
      obtain ⟨v,l⟩:=e
      obtain ⟨o,_,e3⟩:=aaD.mp (abe he).2
      exact e3.symm
   refine ⟨⟨H2,Z.g⟩,(y.1.map Lc.pv).map (bj y.2.mu 40),y.2.mu.map fun _=>none,r1,mu',?_,by simpa using hg,cZ.refl _,?_,Ac Gm,h3,fun v H' rr=>k v H' ?_⟩
   . rw [aat,e2]; exact hn _ _ _ h1
   . rw [aat]; exact rl2
   . have s4:=SR.called (ρ:=⟨y.2.vs.map fun _=>none,y.2.mu.map fun _=>none⟩) (Z:=⟨H2,Z.g⟩) (by simpa using el) (by simpa using hg) z1 hs rr
     exact (b1 H' v r1 _ s4 hf).sub ((abm _ _).cons_cons _)
 . cases h4
theorem M8 {x:Str} {k:Nat} {ps:List Str} {g:GF} {e:Expr} {es:List Expr} {a:AF} {p pos:Pos} (D:bV X.prog X.w X.K X.mg X.base x k ps (bT X.K ps.length g)) (hr:kj k X.A) (hg:Gl X x)
 (ha:PA X (e::es) (iz X.K a)) (hn:∀ ρ ls ρ1,a ρ=some (ls,ρ1)->ls.length=ps.length) (hdb:(x==("__debug__" : Str))=false:=by decide) (he:starEach (e::es) X.env=(false,eval e X.env)::starEach es X.env:=by rfl) (hpl:(backTo pos (starEach es X.env)).any (·.1)=false:=by rfl):PE X (.Call (.Name x p) (e::es) [] pos) (tP X.K (nD g a)):=by
 obtain ⟨f,fd,F,hm,hk,hb⟩:=D
 exact PE.imp (HW (E:=E0) F hr hg hm hk hb .nil zy ha hdb he hpl) (M7 hn)
theorem Gn {G:GF} {a:AF} {ρ ρ1:Ev} {ls:List Lc} {ps:List PV} {r:Lc} {mu:Mu} (h:a ρ=some (ls,ρ1)) (hp:(ls.map Lc.pv).map (bj ρ1.mu 40)=ps) (h2:G ps (ρ1.mu.map fun _=>none)=some (r,mu)) (hf:sS r=true):nD G a ρ=some (r,ρ1):=by
 unfold nD
 rw [h,aaa,hp,h2,aaa,ab7 hf]
end
class HK where
 hk:List cC->Int
def okP:PV->Option cC
 | .non=>some none
 | .int i=>some (some (.inl i))
 | .str x=>some (some (.inr x))
 | _=>none
def rC:List PV->Option (List cC)
 | []=>some []
 | p::ps=>(okP p).bind fun k=>(rC ps).map (k::·)
theorem W4 {Z:ZG} {p:PV} {v:V} {k:cC} (h:okP p=some k) (r:Rep K Z p v):v=sJ k:=by
 cases p with
 | non=>cases h; exact gk r
 | int i=>cases h; exact bH r
 | str x=>cases h; exact dw r
 | _=>cases h
theorem u6 {Z:ZG}:∀ {ps:List PV} {vs:List V} {ks:List cC},rC ps=some ks->aJ K Z ps vs->vs=ks.map sJ
 | [],vs,ks,h,r=>by
  cases h
  exact r.inv0
 | p::ps,vs,ks,h,r=>by
  obtain ⟨v,r',rfl,h1,h2⟩:=r.inv
  obtain ⟨k,g1,g2⟩:=acf h
  obtain ⟨t,g3,g4⟩:=acg g2
  cases g4
  rw [W4 g1 h1,u6 g3 h2]
  rfl
abbrev W5:=List (List cC×PV)
def jH:W5->List cC->Option PV
 | [],_=>none
 | kv::r,k=>if kv.1=k then some kv.2 else jH r k
theorem Kg {x:List cC×Addr×V} {xs:XD} {k:List cC}:jE (x::xs) k=if x.1=k then some x.2.2 else jE xs k:=by
 unfold jE
 by_cases e:x.1=k
 . rw [abH (by simpa using e),ab7 e]; rfl
 . rw [abI (by simpa using e),ab8 e]
theorem yU {Z:ZG} {k:List cC}:∀ {xs:XD} {ps:List PV},aJ K Z ps (xs.map (·.2.2))->(∀ p,jH ((xs.map (·.1)).zip ps) k=some p->∃ v,jE xs k=some v/\Rep K Z p v)/\(jH ((xs.map (·.1)).zip ps) k=none->jE xs k=none)
 | [],ps,h=>⟨fun p e=>(by cases e),fun _=>rfl⟩
 | x::xs,[],h=>by have:=h.inv0; cases this
 | x::xs,p::ps,h=>by
  obtain ⟨v,r,e,h1,h2⟩:=h.inv
  rw [aav] at e
  injection e with e1 e2
  subst e1 e2
  have ih:=yU (k:=k) h2
  rw [Kg]
  show (∀ q,(if x.1=k then some p else jH ((xs.map (·.1)).zip ps) k)=some q->_)/\((if x.1=k then some p else jH ((xs.map (·.1)).zip ps) k)=none->_)
  by_cases e:x.1=k
  . rw [ab7 e,ab7 e]
    exact ⟨fun q hq=>by cases hq; exact ⟨_,rfl,h1⟩,fun hq=>by cases hq⟩
  . rw [ab8 e,ab8 e]
    exact ih
theorem SR.setX {v kb:V} {p:PV} {kp:List PV} {a:Addr} {hk:List cC->Int} {ks:List (List cC)} {ps:List PV} {k:List cC} (s:SR K H0 Z0 σ H ρ ((v,.sh p)::(kb,.sh (.tup kp))::(.ref a,.own (.dx hk ks ps))::pd)) (ek:rC kp=some k):
 ∃ b xs,kb=.ref b/\H a=some (.ext (ug hk a xs))/\(∀ x∈xs,cI K H x.2.1 (x.1.map sJ))/\cI K H b (k.map sJ)/\xs.length=ks.length/\
  (jH (ks.zip ps) k=none->jE xs k=none/\SR K H0 Z0 σ (upd H a (.ext (ug hk a (xs++[(k,b,v)])))) ρ ((.ref a,.own (.dx hk (ks++[k]) (ps++[p])))::(v,.sh p)::pd))/\
  (∀ q,jH (ks.zip ps) k=some q->∃ u,jE xs k=some u/\SR K H0 Z0 σ H ρ ((u,.sh q)::(.ref a,.own (.dx hk ks ps))::pd)):=by
 obtain ⟨el,Z,hg,z,r,so⟩:=s.sh
 have so1:=so.perm bZ.symm
 obtain ⟨x,e1,rk⟩:=so1.1 _ aab
 cases e1
 unfold Rep at rk
 obtain ⟨b,ws,rfl,hb,rw'⟩:=rk
 have ew:=u6 ek rw'
 subst ew
 have so2:Slots K H0 Z H (sl Z.g σ ρ ((.ref a,.own (.dx hk ks ps))::pd)):=so1.sub (aap _ _)
 have so3:=so2.perm bZ.symm
 obtain ⟨_,eb,⟨xs,hu,hk1,hk2,hr⟩,_⟩:=so3.1 _ aab
 cases eb
 subst hk1
 have hv:=yU (k:=k) hr
 refine ⟨b,xs,rfl,hu,fun x hx=>cI.same z.zh (hk2 x hx),cI.same z.zh hb,by rw [aad],fun hn=>⟨hv.2 hn,?_⟩,fun q hq=>?_⟩
 . have so4:Slots K H0 Z H ((some (.ref a),some (.own (.dx hk (xs.map (·.1)) ps)))::(some v,some (.sh p))::sl Z.g σ ρ pd):=(so3.consS r).perm (List.Perm.swap _ _ _)
   obtain ⟨z',s'⟩:=so4.write (o:=.ext (ug hk a (xs++[(k,b,v)]))) (q:=.dx hk (xs.map (·.1)++[k]) (ps++[p])) z ⟨xs++[(k,b,v)],bM,by rw [aaz]; rfl,(fun x hx=>(by
    rcases aaF.mp hx with hx | hx
    . exact hk2 x hx
    . rw [aa4.mp hx]
      exact hb)),by rw [aaz]; exact hr.append (aJ.cons r .nil)⟩
   exact .mk el hg z' (s'.perm (bZ.symm.cons _).symm)
 . obtain ⟨u,e,ru⟩:=hv.1 q hq
   exact ⟨u,e,.mk el hg z (so2.consS ru)⟩
theorem SR.takeX {i:Nat} {hk:List cC->Int} {ks:List (List cC)} {ps:List PV} (s:SR K H0 Z0 σ H ρ pd) (e:ρ.vs[i]?=some (some (.own (.dx hk ks ps)))):
 ∃ a xs,σ[i]?=some (some (.ref a))/\H a=some (.ext (ug hk a xs))/\SR K H0 Z0 σ H (ρ.set i none) ((.ref a,.own (.dx hk ks ps))::pd):=by
 obtain ⟨v,e1,s1⟩:=s.take e
 obtain ⟨_,Z,_,z,so⟩:=s1.top
 obtain ⟨a,ea,⟨xs,hu,_⟩,_⟩:=so.1 _ aab
 have ea':v=.ref a:=aaB ea
 subst ea'
 exact ⟨a,xs,e1,hu,s1⟩
theorem SR.seal {v:V} {p:PV} (s1:SR K H0 Z0 σ H ρ ((v,.own p)::pd)):SR K H0 Z0 σ H ⟨ρ.vs,ρ.mu++[some p]⟩ ((v,.sh (.ptr ρ.mu.length))::pd):=by
 obtain ⟨el,Z,hg,z,so⟩:=s1.top
 obtain ⟨a,ea,ra,za,ha0⟩:=so.1 _ aab
 have ea':v=.ref a:=aaB ea
 subst ea'
 have lz:iy Z ⟨Z.z,Z.g++[a]⟩:=⟨cZ.refl _,abU _ _⟩
 have so2:=so.step (Z':=⟨Z.z,Z.g++[a]⟩) (H':=H) lz fun e he b hb=>⟨rfl,(iT so he hb).1⟩
 refine .mk (Z:=⟨Z.z,Z.g++[a]⟩) el (by simp [hg]) ⟨z.zh,z.h0,z.z0.trans lz,z.new⟩ (Slots.consS ?_ ?_)
 . refine so2.perm ?_
   have ec:cel (Z.g++[a]) (ρ.mu++[some p])=cel Z.g ρ.mu++[(some (.ref a),some (.own p))]:=by
    unfold cel
    rw [aaz,aaz,abg (by simp [hg])]
    rfl
   unfold sl
   show List.Perm (cel (Z.g++[a]) (ρ.mu++[some p])++_) _
   rw [ec,aah]
   exact aaW
 . unfold Rep
   exact ⟨a,rfl,by show (Z.g++[a])[ρ.mu.length]?=some a; rw [hg,aas (aaf _)]; simp⟩
theorem Ev.set_self {i:Nat} {l:Option Lc} (e:ρ.vs[i]?=some l):ρ.set i l=ρ:=by
 show Ev.mk (ρ.vs.set i l) ρ.mu=ρ
 obtain ⟨hi,he⟩:=aan.mp e
 rw [← he,List.set_getElem_self]
section
variable {X:Cx} [HK]
def M9:EF:=fun ρ=>some (.own (.dx HK.hk [] []),ρ)
theorem W6 (hx:HK.hk=zM X.prog X.w) {pos:Pos}:PE X (.Dict [] [] pos) (tP X.K M9):=PE.imp Qa fun σ H Q q=>by
 obtain ⟨H0,Z0,ρ,pd,l,ρ',s,f,k⟩:=q
 cases f
 exact fun p hp=>k _ _ (s.newO hp fun Z _ _=>⟨[],by rw [bM,hx]; rfl,rfl,(fun x hx=>(by cases hx)),aJ.nil⟩)
open Classical in
def xM (i:Nat) (fk:EF):EF:=fun ρ=>match ρ.vs[i]? with
 | some (some (.own (.dx _ _ _)))=>(fk ρ).bind fun y=>match y.1.pv,y.2.vs[i]? with
  | .tup kp,some (some (.own (.dx hk ks ps)))=>(rC kp).bind fun k=>if hk=HK.hk/\ks.length<100000 then
   (match jH (ks.zip ps) k with
   | some p=>some (.sh p,y.2)
   | none=>some (.sh (.ptr y.2.mu.length),⟨y.2.vs.set i (some (.own (.dx hk (ks++[k]) (ps++[.ptr y.2.mu.length])))),y.2.mu++[some (.lst [])]⟩))
   else none
  | _,_=>none
 | _=>none
theorem YB {i:Nat} {o e1 e2:Expr} {fk:EF} {apos cpos:Pos} (hx:HK.hk=zM X.prog X.w) (h:PE X (.Call (.Attribute o "setdefault" apos) [e1,e2] [] cpos) (fun σ H Q=>qT i σ H fun x H1=>(∃ a hk xs,x=.ref a/\H1 a=some (.ext (ug hk a xs)))/\iz X.K (aa fk (aa (aV ao) ao)) σ H1 fun vs H2=>Mm X.prog X.w X.K x vs H2 Q)):
 PE X (.Call (.Attribute o "setdefault" apos) [e1,e2] [] cpos) (tP X.K (xM i fk)):=PE.imp h fun σ H Q q=>by
 obtain ⟨H0,Z0,ρ,pd,r,ρ',s,h,k⟩:=q
 unfold xM at h
 split at h
 . rename_i hk0 ks0 ps0 e0
   obtain ⟨y,h1,h2⟩:=acf h
   obtain ⟨a,xs,ea,hu,_⟩:=s.takeX e0
   refine ⟨.ref a,ea,⟨a,hk0,xs,rfl,hu⟩,H0,Z0,ρ,pd,[y.1,.own (.lst [])],y.2,s,?_,fun vs H2 e2 s2=>?_⟩
   . unfold aa ao aV
     simp [h1]
   . obtain ⟨v1,v2,rfl⟩:=ln2 e2
     have s2':SR X.K H0 Z0 σ H2 y.2 ((v1,y.1)::(v2,.own (.lst []))::pd):=s2
     split at h2
     . rename_i kp hk ks ps e3 e4
       obtain ⟨kk,ek,h3⟩:=acf h2
       split at h3
       . rename_i hc
         obtain ⟨hc1,hc2⟩:=hc
         subst hc1
         have s3:=s2'.freeze
         rw [e3] at s3
         cases hv:jH (ks.zip ps) kk with
         | some p=>
          rw [hv] at h3
          cases h3
          obtain ⟨a',xs',ea',hu',s4⟩:=s3.swap.freeze.takeX e4
          rw [ea] at ea'; cases ea'
          have s5:=s4.perm (pd':=(v2,.sh (.lst []))::(v1,.sh (.tup kp))::(.ref a,.own (.dx HK.hk ks ps))::pd) (abh (l₁:=[(v2,Lc.sh (.lst [])),(v1,.sh (.tup kp))]) (l₂:=[(.ref a,.own (.dx HK.hk ks ps))]) |>.append_right pd)
          obtain ⟨b,xs2,rfl,g1,g2,g3,g4,_,g6⟩:=s5.setX ek
          obtain ⟨u,eu,s6⟩:=g6 p hv
          refine ⟨a,b,xs2,kk,v2,rfl,rfl,by rw [g1]; unfold dX; rw [hx],g2,g3,by rw [g4,sizeLine_eq]; omega,?_⟩
          rw [eu]
          have s7:=s6.swap.put ea
          rw [Ev.set_set,Ev.set_self e4] at s7
          exact k _ _ s7
         | none=>
          rw [hv] at h3
          cases h3
          have s3a:=s3.swap.seal
          obtain ⟨a',xs',ea',hu',s4⟩:=s3a.takeX (i:=i) (hk:=HK.hk) (ks:=ks) (ps:=ps) e4
          rw [ea] at ea'; cases ea'
          have s5:=s4.perm (pd':=(v2,.sh (.ptr y.2.mu.length))::(v1,.sh (.tup kp))::(.ref a,.own (.dx HK.hk ks ps))::pd) (abh (l₁:=[(v2,Lc.sh (.ptr y.2.mu.length)),(v1,.sh (.tup kp))]) (l₂:=[(.ref a,.own (.dx HK.hk ks ps))]) |>.append_right pd)
          obtain ⟨b,xs2,rfl,g1,g2,g3,g4,g5,_⟩:=s5.setX ek
          obtain ⟨eu,s6⟩:=g5 hv
          refine ⟨a,b,xs2,kk,v2,rfl,rfl,by rw [g1]; unfold dX; rw [hx],g2,g3,by rw [g4,sizeLine_eq]; omega,?_⟩
          rw [eu]
          have s7:=s6.put ea
          rw [Ev.set_set] at s7
          have e9:(.ext (ug (zM X.prog X.w) a (xs2++[(kk,b,v2)])):HO)=dX X.prog X.w a (xs2++[(kk,b,v2)]):=rfl
          rw [← e9,← hx]
          exact k _ _ s7
       . cases h3
     . cases h2
 . cases h
open Classical in
def u9 (fo fk:EF):EF:=fun ρ=>(fo ρ).bind fun x=>match x.1.pv with
 | .dx hk ks ps=>(fk x.2).bind fun y=>match y.1.pv with
  | .tup kp=>(rC kp).bind fun k=>if hk=HK.hk then some (match jH (ks.zip ps) k with | some p=>.sh p | none=>.own (.lst []),y.2) else none
  | _=>none
 | _=>none
theorem RV {o e1 e2:Expr} {fo fk:EF} {apos cpos:Pos} (hx:HK.hk=zM X.prog X.w) (h:PE X (.Call (.Attribute o "get" apos) [e1,e2] [] cpos) (fun σ H Q=>tP X.K fo σ H fun x H1=>(∃ a hk xs,x=.ref a/\H1 a=some (.ext (ug hk a xs)))/\iz X.K (aa fk (aa (aV ao) ao)) σ H1 fun vs H2=>Rw X.prog X.w X.K x vs H2 Q)):
 PE X (.Call (.Attribute o "get" apos) [e1,e2] [] cpos) (tP X.K (u9 fo fk)):=PE.imp h fun σ H Q q=>by
 obtain ⟨H0,Z0,ρ,pd,r,ρ',s,h,k⟩:=q
 obtain ⟨x,h1,h2⟩:=acf h
 refine ⟨H0,Z0,ρ,pd,x.1,x.2,s,h1,fun v H1 s1=>?_⟩
 split at h2
 . rename_i hk ks ps e0
   obtain ⟨y,h3,h4⟩:=acf h2
   have s2:=s1.freeze
   rw [e0] at s2
   have s2c:=s2
   obtain ⟨el,Z,hg,z,rd,so⟩:=s2.sh
   unfold Rep at rd
   obtain ⟨a,xs,rfl,g1,g2,g3,g4⟩:=rd
   refine ⟨⟨a,hk,xs,rfl,z.zh _ _ g1⟩,H0,Z,x.2,pd,[y.1,.own (.lst [])],y.2,⟨el,Z,hg,⟨z.zh,z.h0,iy.refl Z,fun b o e=>.inl e⟩,so⟩,?_,fun vs H2 e2 s3=>?_⟩
   . unfold aa ao aV
     simp [h3]
   . obtain ⟨v1,v2,rfl⟩:=ln2 e2
     have s3':SR X.K H0 Z σ H2 y.2 ((v1,y.1)::(v2,.own (.lst []))::pd):=s3
     split at h4
     . rename_i kp e3
       obtain ⟨kk,ek,h5⟩:=acf h4
       split at h5
       . rename_i hc
         subst hc
         cases h5
         have s4:=s3'.freeze
         rw [e3] at s4
         obtain ⟨el2,Z2,hg2,z2,rk,so2⟩:=s4.sh
         unfold Rep at rk
         obtain ⟨b,ws,rfl,hb,rw'⟩:=rk
         have ew:=u6 ek rw'
         subst ew
         subst g2
         have hv:=yU (k:=kk) g4
         refine ⟨a,b,xs,kk,v2,rfl,rfl,?_,fun x hx=>cI.same z2.zh (cI.same z2.z0.1 (g3 x hx)),cI.same z2.zh hb,?_⟩
         . rw [z2.zh _ _ (z2.z0.1 _ _ g1),hx]
           rfl
         have zz:jO H0 Z0 Z2 H2:=⟨z2.zh,z2.h0,z.z0.trans z2.z0,fun b o e=>by
          rcases z2.new b o e with q | q
          . exact z.new b o q
          . exact .inr q⟩
         cases hl:jH ((xs.map (·.1)).zip ps) kk with
         | some p=>
          obtain ⟨u,eu,ru⟩:=hv.1 p hl
          rw [eu]
          rw [hl] at k
          refine k _ _ (.mk el2 hg2 zz ((so2.perm bZ.symm).sub (aap _ _) |>.consS (ru.mono z2.z0)))
         | none=>
          rw [hv.2 hl]
          rw [hl] at k
          exact k _ _ (.mk el2 hg2 zz (so2.perm bZ.symm))
       . cases h5
     . cases h4
 . cases h2
def meltL:Mu->List PV->Option (List PV×Mu)
 | mu,[]=>some ([],mu)
 | mu,.ptr n::ps=>match mu[n]? with
  | some (some q)=>(meltL (mu.set n none) ps).map fun r=>(q::r.1,r.2)
  | _=>none
 | _,_=>none
theorem Slots.meltL {R:Sl}:∀ {ps qs:List PV} {mu mu':Mu} {vs:List V} {Z:ZG},PL.meltL mu ps=some (qs,mu')->aJ K Z ps vs->mu.length=Z.g.length->jO H0 Z0 Z H->Slots K H0 Z H (cel Z.g mu++R)->
 ∃ Z',iy Z Z'/\Z'.g=Z.g/\jO H0 Z0 Z' H/\Slots K H0 Z' H (cel Z'.g mu'++R)/\aJ K Z' qs vs/\mu'.length=mu.length
 | [],qs,mu,mu',vs,Z,h,r,hg,z,so=>by
  cases h
  exact ⟨Z,iy.refl Z,rfl,z,so,r,rfl⟩
 | p::ps,qs,mu,mu',vs,Z,h,r,hg,z,so=>by
  cases p with
  | ptr n=>
   unfold PL.meltL at h
   split at h
   . rename_i q hm
     obtain ⟨t,h1,h2⟩:=acg h
     cases h2
     obtain ⟨v,vr,rfl,r1,r2⟩:=r.inv
     unfold Rep at r1
     obtain ⟨a,rfl,ha⟩:=r1
     obtain ⟨C,p1,p2⟩:=wC ha hm
     have so2:Slots K H0 Z H ((some (.ref a),some (.own q))::(C++R)):=so.perm (p1.append_right _).symm
     obtain ⟨Z1,lz,eg,z1,so3⟩:=so2.freeze z
     obtain ⟨x,ex,rx⟩:=so3.1 _ aab
     cases ex
     have so4:Slots K H0 Z1 H (C++R):=so3.sub (aap _ _)
     have so5:Slots K H0 Z1 H ((some (.ref a),none)::(C++R)):=by
      refine ⟨fun e he=>?_,?_⟩
      . rcases aao.mp he with rfl | he
        . trivial
        . exact so4.1 e he
      . rw [aaU rfl]; exact so4.2
     have so6:Slots K H0 Z1 H (cel Z1.g (mu.set n none)++R):=by
      rw [eg]
      exact so5.perm ((p2 none).append_right _)
     obtain ⟨Z2,lz2,eg2,z2,so7,r7,l7⟩:=Slots.meltL h1 (r2.mono lz) (by rw [eg]; simpa using hg) z1 so6
     exact ⟨Z2,lz.trans lz2,eg2.trans eg,z2,so7,aJ.cons (rx.mono lz2) r7,by simpa using l7⟩
   . cases h
  | _=>cases h
def Gp (f:EF):EF:=fun ρ=>(f ρ).bind fun x=>match x.1.pv with
 | .dx hk ks ps=>(meltL x.2.mu ps).map fun r=>(.sh (.dx hk ks r.1),⟨x.2.vs,r.2⟩)
 | _=>none
theorem W7 {e:Expr} {f:EF} (h:PE X e (tP X.K f)):PE X e (tP X.K (Gp f)):=PE.imp h fun σ H Q q=>by
 obtain ⟨H0,Z0,ρ,pd,l,ρ',s,f,k⟩:=q
 obtain ⟨x,h1,h2⟩:=acf f
 refine ⟨H0,Z0,ρ,pd,x.1,x.2,s,h1,fun v H1 s1=>?_⟩
 split at h2
 . rename_i hk ks ps e0
   obtain ⟨r,h3,h4⟩:=acg h2
   cases h4
   have s2:=s1.freeze
   rw [e0] at s2
   obtain ⟨el,Z,hg,z,rd,so⟩:=s2.sh
   unfold Rep at rd
   obtain ⟨a,xs,rfl,g1,g2,g3,g4⟩:=rd
   obtain ⟨Z2,lz,eg,z2,so2,r2,l2⟩:=Slots.meltL (R:=σ.zip x.2.vs++pd.map fun e=>(some e.1,some e.2)) h3 g4 hg z so
   refine k _ H1 (.mk (Z:=Z2) el (by rw [eg]; simpa [l2] using hg) z2 (Slots.consS so2 ?_))
   unfold Rep
   exact ⟨a,xs,rfl,lz.1 _ _ g1,g2,fun x hx=>cI.same lz.1 (g3 x hx),r2⟩
 . cases h2
end
section
variable {X:Cx}
theorem qw (i:Nat) {x:Str} {pos:Pos} (hN:X.N[i]?=some x:=by rfl) (hv:K6 X.env.scope x:=by first | exact Or.inl rfl | exact Or.inr (Or.inl rfl) | exact Or.inr (Or.inr rfl)) (hd:(x==("__debug__" : Str))=false:=by decide) (hcd:(x==("__classdict__" : Str))=false:=by decide):PE X (.Name x pos) (tP X.K (aj i)):=qv (pv i hN hv hd hcd)
theorem aM {i:Int} {j} {pos:Pos}:PE X (.Constant (.int i) j pos) (tP X.K (eC (.int i))):=qc Vq eV
theorem aW {i:Str} {j} {pos:Pos}:PE X (.Constant (.str i) j pos) (tP X.K (eC (.str i))):=qc Vs xm
theorem Iu {j} {pos:Pos}:PE X (.Constant .none j pos) (tP X.K (eC .non)):=qc Vr uh
theorem qI {a:Expr} {i:Int} {j} {p pos:Pos} {fa:EF} (ha:PE X a (tP X.K fa)):PE X (.Subscript a (.Constant (.int i) j p) pos) (tP X.K (bx fa (eC (.int i)))):=tO ha aM (fun _ _=>rfl)
theorem qL {e:Expr} {f:EF} {p pos:Pos} (b:X.mg "len" = none) (h:PE X e (tP X.K f)) (hg:Gl X "len" := by rfl) (h0:starEach [e] X.env=(false,eval e X.env)::starEach [] X.env:=by rfl):PE X (.Call (.Name "len" p) [e] [] pos) (tP X.K (eB gR (aa f ao))):=zW kh Mw (cJ kh hg b abp (ak h aq h0) (he:=h0))
theorem dR (i:Nat) {x:Str} {e:Expr} {pos pos':Pos} {f:EF} (hN:X.N.Nodup) (he:PE X e (tP X.K f)) (hi:X.N[i]?=some x:=by rfl) (hx:L2.Loc X.env.scope x:=by exact Or.inl rfl) (hs:swapsWith e (some (.Name x pos')) pos.line X.env=pure false:=by rfl) (hf:X.fn x=true\/X.env.scope.names.lookup x=some .local:=by first | exact .inl rfl | exact .inr rfl | assumption):
 PS X (.Assign [.Name x pos'] e pos) (fO X.K (aO i f)):=Mq hN hi hx he hs hf
theorem eQ (i:Nat) {x:Str} {pos:Pos} (hN:X.N.Nodup) (hi:X.N[i]?=some x:=by rfl) (hx:L2.Loc X.env.scope x:=by exact Or.inl rfl) (hf:X.fn x=true\/X.env.scope.names.lookup x=some .local:=by first | exact .inl rfl | exact .inr rfl | assumption):PG X (.Name x pos) (Ed i):=w6 hN hi hx hf
theorem yt {M F:List Str} {ixs:List Nat} {sc:Scope} (S:Scope) (hS:X.env.scope=S:=by rfl) (kind:sc.kind=.function:=by rfl) (locs:∀ y∈sc.names,y.2=.local->sc.names.lookup y.1=some .local:=by decide +kernel) (cel:∀ y∈sc.names,y.2=.cell->sc.names.lookup y.1=some .cell:=by decide +kernel)
 (own:∀ p∈sc.names,p.2=.free->S.names.lookup p.1=some .cell\/S.names.lookup p.1=some .free:=by decide +kernel) (frs:∀ x∈F,sc.names.lookup x=some .free:=by decide +kernel) (ix:ixs.map (fun i=>X.N[i]?)=F.map some:=by rfl):jN X M F ixs sc:=Yx S hS kind locs cel own frs ix
theorem Bw {i:Nat} {o e:Expr} {f:EF} {apos cpos pos:Pos} (ho:PE X o (qT i)) (he:PE X e (tP X.K f)) (h0:starEach [e] X.env=(false,eval e X.env)::starEach [] X.env:=by rfl) (h1:attributeBase o "append" X.env (eval o X.env)=eval o X.env:=by rfl)
 (h2:((backTo cpos (starEach [e] X.env)).all (fun x=>!x.1)&&(backToKw cpos (keywordEach [] X.env)).all (fun x=>x.1.isSome)
   && decide (([e]:List Expr).length+([]:List Keyword).length+(if ([]:List Keyword).isEmpty then 0 else 1)<30))=true:=by rfl) (h3:(apos.endLine==cpos.line)=true:=by rfl) (hs:swapsWith (.Call (.Attribute o "append" apos) [e] [] cpos) none pos.line X.env=pure false:=by rfl):
 PS X (.Expr (.Call (.Attribute o "append" apos) [e] [] cpos) pos) (fO X.K (j0 i f)):=WF (ie (oV F.plainAttrs_list F.slot_list_append F.type_list_append iQ ho (ak he aq h0) h1 h2 h3 h0) hs)
theorem Gq {i:Nat} {o e:Expr} {f:EF} {apos cpos pos:Pos} (ho:PE X o (qT i)) (he:PE X e (tP X.K f)) (h0:starEach [e] X.env=(false,eval e X.env)::starEach [] X.env:=by rfl) (h1:attributeBase o "extend" X.env (eval o X.env)=eval o X.env:=by rfl)
 (h2:((backTo cpos (starEach [e] X.env)).all (fun x=>!x.1)&&(backToKw cpos (keywordEach [] X.env)).all (fun x=>x.1.isSome)
   && decide (([e]:List Expr).length+([]:List Keyword).length+(if ([]:List Keyword).isEmpty then 0 else 1)<30))=true:=by rfl) (h3:(apos.endLine==cpos.line)=true:=by rfl) (hs:swapsWith (.Call (.Attribute o "extend" apos) [e] [] cpos) none pos.line X.env=pure false:=by rfl):
 PS X (.Expr (.Call (.Attribute o "extend" apos) [e] [] cpos) pos) (fO X.K (ni i f)):=WK (ie (oV F.plainAttrs_list F.slot_list_extend F.type_list_extend zK ho (ak he aq h0) h1 h2 h3 h0) hs)
end
inductive XR (α:Type) where
 | ok (a:α)
 | xc (C:Str) (ρ:Ev)
section
variable {X:Cx} {E:XK}
end
section
variable {P:Program} {w:World} {K:FG} {mg:Str->Option Value} {base:Heap}
end
section
variable {X:Cx} {E:XK}
end
section
variable {X:Cx}
end
section
variable {P:Program} {w:World} {K:FG} {mg:Str->Option Value} {base:Heap}
end
section
variable {X:Cx} {E:XK}
end
section
variable {K:FG} {H0 H:Hp} {Z0:ZG} {σ:L2.St} {ρ:Ev} {pd:Pd}
end
section
variable {X:Cx} {E:XK}
end
section
variable {X:Cx}
theorem SR.dkAt {v:V} {n:Nat} {ks:List Key} {ps:List PV} (s:SR K H0 Z0 σ H ρ ((v,.sh (.ptr n))::pd)) (hm:ρ.mu[n]?=some (some (.dk ks ps))):
 ∃ a kvs,v=.ref a/\H a=some (.dK kvs)/\(∀ k p,b8 (ks.zip ps) k=some p->∃ u,km kvs k=some u/\SR K H0 Z0 σ H ρ ((u,.sh p)::(v,.sh (.ptr n))::pd))/\(∀ k,b8 (ks.zip ps) k=none->km kvs k=none)/\
  ∀ b,H b=none->SR K H0 Z0 σ (upd H b (.dK kvs)) ρ ((.ref b,.own (.dk ks ps))::(v,.sh (.ptr n))::pd):=by
 have sdup:SR K H0 Z0 σ H ρ ((v,.sh (.ptr n))::(v,.sh (.ptr n))::pd):=s.part fun Z _ r=>r
 obtain ⟨a,rfl,s5⟩:=sdup.cellO hm
 obtain ⟨el,Z,hg,z,so⟩:=s5.top
 obtain ⟨_,ea,⟨kvs,hu,hk,hr⟩,_⟩:=so.1 _ aab
 cases ea
 refine ⟨a,kvs,rfl,hu,fun k p hp=>?_,fun k hp=>(iJ hk hr).val.2 hp,fun b hb=>?_⟩
 . obtain ⟨u,h1,h2⟩:=(iJ hk hr).val.1 p hp
   refine ⟨u,h1,?_⟩
   have s6:SR K H0 Z0 σ H ⟨ρ.vs,ρ.mu.set n none⟩ ((u,.sh p)::(.ref a,.own (.dk ks ps))::(.ref a,.sh (.ptr n))::(.ref a,.sh (.ptr n))::pd):=.mk (Z:=Z) el hg z ((so.perm bZ).consS h2)
   have s7:SR K H0 Z0 σ H ⟨ρ.vs,ρ.mu.set n none⟩ ((.ref a,.own (.dk ks ps))::(.ref a,.sh (.ptr n))::(u,.sh p)::(.ref a,.sh (.ptr n))::pd):=s6.perm (((List.Perm.swap _ _ _).cons _).trans (List.Perm.swap _ _ _))
   exact SR.cellB (pe:=pd) hm s7
 . obtain ⟨z',s'⟩:=(so.perm bZ).new (o:=.dK kvs) (p:=.dk ks ps) z hb ⟨kvs,bM,hk,hr⟩
   have s6:SR K H0 Z0 σ (upd H b (.dK kvs)) ⟨ρ.vs,ρ.mu.set n none⟩ ((.ref b,.own (.dk ks ps))::(.ref a,.own (.dk ks ps))::(.ref a,.sh (.ptr n))::(.ref a,.sh (.ptr n))::pd):=.mk (Z:=Z) el hg z' s'
   have s7:SR K H0 Z0 σ (upd H b (.dK kvs)) ⟨ρ.vs,ρ.mu.set n none⟩ ((.ref a,.own (.dk ks ps))::(.ref a,.sh (.ptr n))::(.ref b,.own (.dk ks ps))::(.ref a,.sh (.ptr n))::pd):=s6.perm (((List.Perm.swap _ _ _).cons _).trans (List.Perm.swap _ _ _))
   exact SR.cellB (pe:=pd) hm s7
def aY (fa fb:EF):EF:=fun ρ=>(fa ρ).bind fun x=>(fb x.2).bind fun y=>match x.1.pv,oE y.1.pv with
 | .ptr n,some k=>match y.2.mu[n]? with
  | some (some (.dk ks ps))=>(b8 (ks.zip ps) k).map fun p=>(.sh p,y.2)
  | _=>none
 | _,_=>none
theorem gA {a b:Expr} {pos:Pos} {fa fb:EF} (hu:X.A.units+1<cLine) (ha:PE X a (tP X.K fa)) (hb:PE X b (tP X.K fb)) (hm:xg b):PE X (.Subscript a b pos) (tP X.K (aY fa fb)):=PE.imp (J0 (HY hu) ha hb hm) fun σ H Q q=>by
 obtain ⟨H0,Z0,ρ,pd,l,ρ',s,f,k⟩:=q
 obtain ⟨x,h1,h2⟩:=acf f
 obtain ⟨y,h3,h4⟩:=acf h2
 refine ⟨H0,Z0,ρ,pd,x.1,x.2,s,h1,fun v H1 s1=>⟨H0,Z0,x.2,_,y.1,y.2,s1,h3,fun w H2 s2=>?_⟩⟩
 have s3:=s2.freeze.swap.freeze.swap
 split at h4
 . rename_i n kk en ek
   split at h4
   . rename_i ks ps em
     obtain ⟨p,h5,h6⟩:=acg h4
     cases h6
     obtain ⟨_,rw'⟩:=s3.repH
     have ew:=oF ek rw'
     have s4:=s3.pop
     rw [en] at s4
     obtain ⟨a',kvs,rfl,e1,g1,_,_⟩:=s4.dkAt em
     obtain ⟨u,hu',s5⟩:=g1 kk p h5
     exact ⟨a',u,rfl,.inl ⟨kvs,kk,.inl e1,ew,hu'.symm⟩,k u H2 (s5.sub ((aap _ _).cons_cons _))⟩
   . cases h4
 . cases h4
theorem W8 (hu:X.A.units+1<cLine):eN X (compareOp .In) (fun x y H Q=>∃ a o,y=.ref a/\Be H a x o/\Q (.bl o.isSome) H):=by
 intro pins s σ H x y v u Q I rx ry h
 obtain ⟨a,o,rfl,g,q⟩:=h
 obtain rfl:u=Value.ref a:=ry
 exact ZK hu I g rx fun s3 I3=>⟨.bl o.isSome,H,I3,rfl,q⟩
def Bx (fa fb:EF):EF:=fun ρ=>(fa ρ).bind fun x=>(fb x.2).bind fun y=>match y.1.pv,oE x.1.pv with
 | .ptr n,some k=>match y.2.mu[n]? with
  | some (some (.dk ks ps))=>some (.sh (.bl (b8 (ks.zip ps) k).isSome),y.2)
  | _=>none
 | _,_=>none
theorem Ur {fa fb:EF}:∀ σ H Q,tP X.K (Bx fa fb) σ H Q->HQ (fun x y H Q=>∃ a o,y=.ref a/\Be H a x o/\Q (.bl o.isSome) H) (tP X.K fa) (tP X.K fb) σ H Q:=fun σ H Q q=>by
 obtain ⟨H0,Z0,ρ,pd,l,ρ',s,f,k⟩:=q
 obtain ⟨x,h1,h2⟩:=acf f
 obtain ⟨y,h3,h4⟩:=acf h2
 refine ⟨H0,Z0,ρ,pd,x.1,x.2,s,h1,fun v H1 s1=>⟨H0,Z0,x.2,_,y.1,y.2,s1,h3,fun w H2 s2=>?_⟩⟩
 have s3:=s2.freeze.swap.freeze
 split at h4
 . rename_i n kk en ek
   split at h4
   . rename_i ks ps em
     cases h4
     obtain ⟨_,rw'⟩:=s3.repH
     have ew:=oF ek rw'
     have s4:=s3.pop
     rw [en] at s4
     obtain ⟨a',kvs,rfl,e1,g1,g2,_⟩:=s4.dkAt em
     have e2:(km kvs kk).isSome=(b8 (ks.zip ps) kk).isSome:=by
      cases h:b8 (ks.zip ps) kk with
      | none=>rw [g2 kk h]; rfl
      | some p=>obtain ⟨u,hu',_⟩:=g1 kk p h; rw [hu']; rfl
     refine ⟨a',km kvs kk,rfl,.inl ⟨kvs,kk,.inl e1,ew,rfl⟩,?_⟩
     rw [e2]
     exact k _ H2 (s4.pop.scal fun _=>dM _)
   . cases h4
 . cases h4
theorem ZW {a b:Expr} {pos:Pos} {fa fb:EF} (hu:X.A.units+1<cLine) (ha:PE X a (tP X.K fa)) (hb:PE X b (tP X.K fb)) (hm:behindInMarks .In b=false):PT X (.Compare a [.In] [b] pos) (gO X.K (tT (Bx fa fb) bB)):=
 J5 (PT.imp (HR (W8 hu) ha hb hm) fun σ H Q q=>Ur σ H _ q)
def jJ (fo fi fv:EF):SF:=fun ρ=>(fv ρ).bind fun x=>(fo x.2).bind fun o=>(fi o.2).bind fun y=>match o.1.pv,oE y.1.pv with
 | .ptr n,some k=>match y.2.mu[n]? with
  | some (some (.dk ks ps))=>if ks.length<100000 then some (.nx ⟨y.2.vs,y.2.mu.set n (some (dN (gF (ks.zip ps) k x.1.pv)))⟩) else none
  | _=>none
 | _,_=>none
theorem qK {o ix e:Expr} {fo fi fv:EF} {tpos pos:Pos} (h:PS X (.Assign [.Subscript o ix tpos] e pos) (JC (tP X.K fv) (Ow (tP X.K fo) (tP X.K fi) J3))):PS X (.Assign [.Subscript o ix tpos] e pos) (fO X.K (jJ fo fi fv)):=PS.imp h fun D σ H q=>by
 obtain ⟨H0,Z0,ρ,pd,fl,s,h,k⟩:=q
 obtain ⟨x,h1,h2⟩:=acf h
 obtain ⟨o,h3,h4⟩:=acf h2
 obtain ⟨y,h5,h6⟩:=acf h4
 refine ⟨H0,Z0,ρ,pd,x.1,x.2,s,h1,fun v H1 s1=>⟨H0,Z0,x.2,_,o.1,o.2,s1.freeze,h3,fun w H2 s2=>⟨H0,Z0,o.2,_,y.1,y.2,s2.freeze,h5,fun t H3 s3=>?_⟩⟩⟩
 split at h6
 . rename_i n kk en ek
   split at h6
   . rename_i ks ps em
     split at h6
     . rename_i hlen
       cases h6
       obtain ⟨_,rt'⟩:=s3.freeze.repH
       have et:=oF ek rt'
       have s4:=s3.pop
       rw [en] at s4
       obtain ⟨a,rfl,s5⟩:=s4.cellO em
       have s6:SR X.K H0 Z0 σ H3 ⟨y.2.vs,y.2.mu.set n none⟩ ((v,.sh x.1.pv)::(.ref a,.own (.dk ks ps))::(.ref a,.sh (.ptr n))::pd):=s5.perm ((List.Perm.swap _ _ _).trans ((List.Perm.swap _ _ _).cons _))
       obtain ⟨kvs,hu,hl,s7⟩:=s6.setD (k:=kk)
       have hn:n<y.2.mu.length:=(aan.mp em).1
       have s8:=s7.cellP (by show (y.2.mu.set n none)[n]?=_; rw [aax hn])
       refine ⟨a,_,rfl,.inl ⟨kvs,kk,hu,et,by rw [hl,sizeLine_eq]; omega,rfl⟩,k σ _ ?_⟩
       have e8:(y.2.mu.set n none).set n (some (dN (gF (ks.zip ps) kk x.1.pv)))=y.2.mu.set n (some (dN (gF (ks.zip ps) kk x.1.pv))):=aa7 ..
       have s9:SR X.K H0 Z0 σ (upd H3 a (.dK (putK kvs kk v))) ⟨y.2.vs,(y.2.mu.set n none).set n (some (dN (gF (ks.zip ps) kk x.1.pv)))⟩ pd:=s8
       rw [e8] at s9
       exact s9
     . cases h6
   . cases h6
 . cases h6
def wM (f:EF):EF:=fun ρ=>(f ρ).bind fun x=>match x.1.pv with
 | .ptr n=>match x.2.mu[n]? with
  | some (some (.dk ks ps))=>some (.own (.dk ks ps),x.2)
  | _=>none
 | _=>none
theorem W9 {e:Expr} {f:EF} {p pos:Pos} (h:PE X (.Call (.Name "dict" p) [e] [] pos) (CQ (fun xs H Q=>∃ a kvs,xs=[.ref a]/\Rd H a (.dK kvs)/\∀ p,H p=none->Q (.ref p) (upd H p (.dK kvs))) (iz X.K (aa f ao)))):PE X (.Call (.Name "dict" p) [e] [] pos) (tP X.K (wM f)):=PE.imp h fun σ H Q q=>by
 obtain ⟨H0,Z0,ρ,pd,l,ρ',s,h,k⟩:=q
 obtain ⟨x,h1,h2⟩:=acf h
 refine ⟨H0,Z0,ρ,pd,[x.1],x.2,s,?_,fun vs H1 e1 s1=>?_⟩
 . unfold aa ao
   rw [h1]
   rfl
 . obtain ⟨v,rfl⟩:=yp e1
   have s2:SR X.K H0 Z0 σ H1 x.2 ((v,.sh x.1.pv)::pd):=SR.freeze s1
   split at h2
   . rename_i n en
     split at h2
     . rename_i ks ps em
       cases h2
       rw [en] at s2
       obtain ⟨a,kvs,rfl,e1,_,_,g⟩:=s2.dkAt em
       exact ⟨a,kvs,rfl,.inl e1,fun b hb=>k _ _ ((g b hb).sub ((aap _ _).cons_cons _))⟩
     . cases h2
   . cases h2
def xN (i:Nat) (f:EF):SF:=fun ρ=>match ρ.vs[i]? with
 | some (some (.own (.dk _ _)))=>(f ρ).bind fun y=>match y.1.pv,y.2.vs[i]? with
  | .ptr n,some (some (.own (.dk ks ps)))=>match y.2.mu[n]? with
   | some (some (.dk ls qs))=>if ks.length+ls.length<=100000 then some (.nx (y.2.set i (some (.own (dN (jy (ls.zip qs) (ks.zip ps))))))) else none
   | _=>none
  | _,_=>none
 | _=>none
theorem Us {i:Nat} {o e:Expr} {f:EF} {apos cpos pos:Pos} (h:PS X (.Expr (.Call (.Attribute o "update" apos) [e] [] cpos) pos) (uI (Rx (qT i) (tP X.K f)))):PS X (.Expr (.Call (.Attribute o "update" apos) [e] [] cpos) pos) (fO X.K (xN i f)):=PS.imp h fun D σ H q=>by
 obtain ⟨H0,Z0,ρ,pd,fl,s,h,k⟩:=q
 unfold xN at h
 split at h
 . rename_i ks0 ps0 e0
   obtain ⟨y,h1,h2⟩:=acf h
   obtain ⟨a,ea,s0⟩:=s.takeD e0
   obtain ⟨_,Z,_,z,so⟩:=s0.top
   obtain ⟨_,eb,⟨kvs0,hu0,_⟩,_⟩:=so.1 _ aab
   cases eb
   refine ⟨.ref a,ea,a,rfl,.inl ⟨kvs0,.inl hu0⟩,H0,Z0,ρ,pd,y.1,y.2,s,h1,fun w H2 s2=>?_⟩
   split at h2
   . rename_i n ks ps en e3
     split at h2
     . rename_i ls qs em
       split at h2
       . rename_i hz
         cases h2
         have s3:=s2.freeze
         rw [en] at s3
         obtain ⟨b,rfl,s5⟩:=s3.cellO em
         obtain ⟨a',ea',s6⟩:=s5.takeD (i:=i) e3
         rw [ea] at ea'
         cases ea'
         obtain ⟨el,Z,hg,z,so⟩:=s6.top
         obtain ⟨_,ec,⟨kvs,hu,hk,hr⟩,_⟩:=so.1 _ aab
         cases ec
         have so2:=so.perm (bZ.symm.cons _)
         obtain ⟨_,ed,⟨more,hu2,hk2,hr2⟩,_⟩:=so2.1 _ (aag _ aab)
         cases ed
         have hne:a≠b:=by
          have nd:=so2.2
          have nd':(a::b::_).Nodup:=nd
          exact fun e=>(aaM.mp nd').1 (e▸aab)
         have rm:=d9.merge (iJ hk2 hr2) (iJ hk hr)
         obtain ⟨z',s'⟩:=so.write (o:=.dK (jn kvs more)) (q:=dN (jy (ls.zip qs) (ks.zip ps))) z ⟨jn kvs more,bM,rm.keys,rm.vals⟩
         have s7:SR X.K H0 Z0 σ (upd H2 a (.dK (jn kvs more))) _ ((.ref a,.own (dN (jy (ls.zip qs) (ks.zip ps))))::(.ref b,.own (.dk ls qs))::(.ref b,.sh (.ptr n))::pd):=.mk (Z:=Z) el hg z' s'
         have s8:=s7.put ea
         rw [Ev.set_set] at s8
         have s9:SR X.K H0 Z0 σ (upd H2 a (.dK (jn kvs more))) (y.2.set i (some (.own (dN (jy (ls.zip qs) (ks.zip ps)))))) pd:=SR.cellB (pe:=pd) (ρ:=y.2.set i (some (.own (dN (jy (ls.zip qs) (ks.zip ps)))))) em s8
         refine ⟨b,kvs,more,rfl,hu,.inl hu2,hne,?_,k σ _ s9⟩
         have l1:kvs.length=ks.length:=by rw [← hk,aad]
         have l2:more.length=ls.length:=by rw [← hk2,aad]
         rw [l1,l2,sizeLine_eq]
         omega
       . cases h2
     . cases h2
   . cases h2
 . cases h
def Eo (fo fv:EF):SF:=fun ρ=>(fo ρ).bind fun o=>match o.1.pv with
 | .ptr n=>match o.2.mu[n]? with
  | some (some (.lst _))=>(fv o.2).bind fun y=>match y.1.pv,y.2.mu[n]? with
   | .lst ps,some (some (.lst ws))=>if ws.length+ps.length<=100000 then some (.nx ⟨y.2.vs,y.2.mu.set n (some (.lst (ws++ps)))⟩) else none
   | _,_=>none
  | _=>none
 | _=>none
theorem Ut {o e:Expr} {fo fv:EF} {apos cpos pos:Pos} (h:PS X (.Expr (.Call (.Attribute o "extend" apos) [e] [] cpos) pos) (uI (Lq X.K "list" (yJ X.K) (tP X.K fo) (iz X.K (aa fv ao))))):
 PS X (.Expr (.Call (.Attribute o "extend" apos) [e] [] cpos) pos) (fO X.K (Eo fo fv)):=PS.imp h fun D σ H q=>by
 obtain ⟨H0,Z0,ρ,pd,fl,s,h,k⟩:=q
 obtain ⟨o',h1,h2⟩:=acf h
 refine ⟨H0,Z0,ρ,pd,o'.1,o'.2,s,h1,fun v H1 s1=>?_⟩
 split at h2
 . rename_i n en
   split at h2
   . rename_i ws0 em0
     obtain ⟨y,h3,h4⟩:=acf h2
     have s2:=s1.freeze
     rw [en] at s2
     obtain ⟨a,rfl,s5⟩:=s2.cellO em0
     obtain ⟨_,Z,_,z,so⟩:=s5.top
     obtain ⟨_,ea,⟨us,hu,_⟩,_⟩:=so.1 _ aab
     cases ea
     refine ⟨.inl ⟨rfl,us,bI.of hu⟩,H0,Z0,o'.2,_,[y.1],y.2,s2,?_,fun vs H2 e2 sv=>?_⟩
     . unfold aa ao
       rw [h3]
       rfl
     . obtain ⟨v1,rfl⟩:=yp e2
       split at h4
       . rename_i ps ws ep em
         split at h4
         . rename_i hz
           cases h4
           have s3:SR X.K H0 Z0 σ H2 y.2 ((v1,.sh y.1.pv)::(.ref a,.sh (.ptr n))::pd):=SR.freeze sv
           rw [ep] at s3
           obtain ⟨a',ea',s6⟩:=s3.swap.cellO em
           cases ea'
           have s7:SR X.K H0 Z0 σ H2 ⟨y.2.vs,y.2.mu.set n none⟩ ((v1,.sh (.lst ps))::(.ref a,.own (.lst ws))::(.ref a,.sh (.ptr n))::pd):=s6.perm ((List.Perm.swap _ _ _).trans ((List.Perm.swap _ _ _).cons _))
           obtain ⟨b,us2,zs,rfl,hb,hu2,hl,hl2,s8⟩:=s7.extO
           have hn:n<y.2.mu.length:=(aan.mp em).1
           have s9:=s8.cellP (by show (y.2.mu.set n none)[n]?=_; rw [aax hn])
           refine ⟨a,b,us2,zs,rfl,rfl,hu2,hb,by rw [hl,hl2]; exact small hz,k σ _ ?_⟩
           have e8:(y.2.mu.set n none).set n (some (.lst (ws++ps)))=y.2.mu.set n (some (.lst (ws++ps))):=aa7 ..
           have s10:SR X.K H0 Z0 σ (upd H2 a (.lst (us2++zs))) ⟨y.2.vs,(y.2.mu.set n none).set n (some (.lst (ws++ps)))⟩ pd:=s9
           rw [e8] at s10
           exact s10
         . cases h4
       . cases h4
   . cases h2
 . cases h2
def Ad (f:EF):TF:=fun ρ=>(f ρ).bind fun x=>match x.1.pv with
 | .ptr n=>match x.2.mu[n]? with
  | some (some (.lst ws))=>some (!ws.isEmpty,x.2)
  | _=>none
 | _=>none
theorem YC {a:Expr} {f:EF} (ha:PE X a (tP X.K f)) (he:∀ whole,isTrue a X.env whole=(do let v ← whole; standAt a.pos; holding [v] (truthy v))):PT X a (gO X.K (Ad f)):=PT.imp (Ey ha he) fun σ H Q q=>by
 obtain ⟨H0,Z0,ρ,pd,b,ρ',s,h,k⟩:=q
 obtain ⟨x,h1,h2⟩:=acf h
 refine ⟨H0,Z0,ρ,pd,x.1,x.2,s,h1,fun v H1 s1=>?_⟩
 split at h2
 . rename_i n en
   split at h2
   . rename_i ws em
     cases h2
     have s2:=s1.freeze
     rw [en] at s2
     obtain ⟨a,vs,rfl,hH,hl,_⟩:=s2.lstAt em
     refine ⟨_,.inl ⟨vs,bI.of hH,?_⟩,k H1 s2.pop⟩
     cases vs<;>cases ws<;>first | rfl | (simp at hl)
   . cases h2
 . cases h2
def jR (f:EF):EF:=fun ρ=>(f ρ).bind fun x=>match x.1.pv with
 | .ptr n=>match x.2.mu[n]? with
  | some (some p)=>some (.sh p,⟨x.2.vs,x.2.mu.set n none⟩)
  | _=>none
 | _=>none
theorem Gr {e:Expr} {f:EF} (h:PE X e (tP X.K f)):PE X e (tP X.K (jR f)):=PE.imp h fun σ H Q q=>by
 obtain ⟨H0,Z0,ρ,pd,l,ρ',s,h,k⟩:=q
 obtain ⟨x,h1,h2⟩:=acf h
 refine ⟨H0,Z0,ρ,pd,x.1,x.2,s,h1,fun v H1 s1=>?_⟩
 split at h2
 . rename_i n en
   split at h2
   . rename_i p em
     cases h2
     have s2:=s1.freeze
     rw [en] at s2
     obtain ⟨a,rfl,s5⟩:=s2.cellO em
     exact k _ H1 (s5.freeze.sub ((aap _ _).cons_cons _))
   . cases h2
 . cases h2
def Ep (fo:EF):SF:=fun ρ=>(fo ρ).bind fun o=>match o.1.pv with
 | .ptr n=>match o.2.mu[n]? with
  | some (some (.lst ws))=>some (.nx ⟨o.2.vs,o.2.mu.set n (some (.lst []))⟩)
  | _=>none
 | _=>none
theorem Uu {o:Expr} {fo:EF} {apos cpos pos:Pos} (h:PS X (.Expr (.Call (.Attribute o "clear" apos) [] [] cpos) pos) (uI (Ph X.K "list" Ls (tP X.K fo)))):
 PS X (.Expr (.Call (.Attribute o "clear" apos) [] [] cpos) pos) (fO X.K (Ep fo)):=PS.imp h fun D σ H q=>by
 obtain ⟨H0,Z0,ρ,pd,fl,s,h,k⟩:=q
 obtain ⟨o',h1,h2⟩:=acf h
 refine ⟨H0,Z0,ρ,pd,o'.1,o'.2,s,h1,fun v H1 s1=>?_⟩
 split at h2
 . rename_i n en
   split at h2
   . rename_i ws em
     cases h2
     have s2:=s1.freeze
     rw [en] at s2
     obtain ⟨a,rfl,s5⟩:=s2.cellO em
     obtain ⟨_,Z,_,z,so⟩:=s5.top
     obtain ⟨_,ea,⟨us,hu,_⟩,_⟩:=so.1 _ aab
     cases ea
     obtain ⟨us2,hu2,s6⟩:=s5.wrO (f:=fun _=>[]) (ws':=[]) fun _=>aJ.nil
     have hn:n<o'.2.mu.length:=(aan.mp em).1
     have s7:=s6.cellP (by show (o'.2.mu.set n none)[n]?=_; rw [aax hn])
     refine ⟨.inl ⟨rfl,us,bI.of hu⟩,a,us2,rfl,rfl,hu2,k σ _ ?_⟩
     have e8:(o'.2.mu.set n none).set n (some (.lst []))=o'.2.mu.set n (some (.lst [])):=aa7 ..
     rw [show (⟨o'.2.vs,o'.2.mu.set n (some (.lst []))⟩:Ev)=⟨o'.2.vs,(o'.2.mu.set n none).set n (some (.lst []))⟩ by rw [e8]]
     exact s7
   . cases h2
 . cases h2
theorem dF {es es':List Expr} {x1} {pos:Pos} {f:EF} {g:AF} (ha:PE X (.Tuple es' x1 pos) (tP X.K f)) (hr:PA X es (iz X.K g)):PA X (.Tuple es' x1 pos::es) (iz X.K (aa f g)):=ak ha hr rfl
theorem lX {es es':List Expr} {pos:Pos} {f:EF} {g:AF} (ha:PE X (.List es' pos) (tP X.K f)) (hr:PA X es (iz X.K g)):PA X (.List es' pos::es) (iz X.K (aa f g)):=ak ha hr rfl
end
end PL
namespace Law
open PySem PySem.Spec PyProof.Rows L2 PL
local macro_rules | `(tactic| walk_at "sc")=>`(tactic| exact ⟨rfl,rfl,rfl,by decide +kernel,rfl,by decide +kernel,by decide +kernel⟩)
theorem mI {l:List Str} {a:Str} (i:Nat) (h:l[i]?=some a):a∈l:=aa9 h
def top (i:Nat):Stmt:=PySem.Challenge.pw_hushwise_k26_turns.main.body.getD i (.Pass ⟨0,0,0,0⟩)
abbrev tR:Stmt:=top 5
abbrev vd:Stmt:=top 6
abbrev lr:Stmt:=top 7
abbrev qF:Stmt:=top 8
abbrev vf:Stmt:=top 9
abbrev qG:Stmt:=top 14
abbrev tU:Stmt:=top 15
abbrev vg:Stmt:=top 16
abbrev pU:Stmt:=top 18
abbrev xO:Stmt:=top 19
abbrev oH:Stmt:=top 20
abbrev yV:Stmt:=top 21
abbrev sX:Stmt:=top 22
abbrev oJ:Stmt:=top 24
abbrev oZ:Stmt:=top 25
abbrev Kh:Stmt:=top 26
abbrev yW:Stmt:=top 27
abbrev tV:Stmt:=top 29
abbrev pW:Stmt:=top 30
abbrev lu:Stmt:=top 31
abbrev vh:Stmt:=top 32
abbrev tW:Stmt:=top 33
abbrev rD:Stmt:=top 34
abbrev pX:Stmt:=top 35
abbrev oK:Stmt:=top 36
abbrev tX:Stmt:=top 37
abbrev tY:Stmt:=top 38
abbrev ph:Stmt:=top 39
abbrev jK:Stmt:=inClass (top 11) 0
abbrev tZ:Stmt:=inClass (top 11) 4
abbrev rE:Stmt:=inClass (top 11) 7
abbrev pY:Stmt:=inClass (top 11) 8
abbrev j4:Stmt:=inClass (top 23) 0
abbrev lL:Stmt:=inClass (top 23) 1
abbrev j5:Stmt:=inClass (top 23) 2
abbrev nF:Stmt:=inClass (top 23) 3
abbrev nG:Stmt:=inClass (top 23) 4
abbrev mJ:Stmt:=inClass (top 23) 5
abbrev nH:Stmt:=inClass (top 23) 6
abbrev mK:Stmt:=inClass (top 23) 7
abbrev mL:Stmt:=inClass (top 23) 8
abbrev nJ:Stmt:=inClass (top 23) 9
theorem Gs:aU ["row"] ["row"] (aH tR):=by walk_at "sc"
theorem Nb:aU ["row"] ["row"] (aH vd):=by walk_at "sc"
theorem DP:aU ["rows"] ["rows"] (aH lr):=by walk_at "sc"
theorem jU:aU ["where", "above", "block", "rows", "start", "told", "row", "number", "place", "inner"] ["where", "above", "block", "rows", "start"] (aH qF):=by walk_at "sc"
theorem jV:aU ["program", "told", "name", "rank", "params", "rows"] ["program"] (aH vf):=by walk_at "sc"
theorem Ht:aU ["expression", "boxes"] ["expression", "boxes"] (aH qG):=by walk_at "sc"
theorem Gu:aU ["numbers", "place"] ["numbers", "place"] (aH tU):=by walk_at "sc"
theorem Hu:aU ["sign", "one", "other"] ["sign", "one", "other"] (aH vg):=by walk_at "sc"
theorem By:aU ["thing"] ["thing"] (aH pU):=by walk_at "sc"
theorem QF:aU ["size", "thing"] ["size", "thing"] (aH xO):=by walk_at "sc"
theorem j8:aU ["program", "values", "box", "thing", "name"] ["program", "values"] (aH oH):=by walk_at "sc"
theorem sY:aU ["program", "values", "boxes", "box", "thing"] ["program", "values"] (aH yV):=by walk_at "sc"
theorem Kl:aU ["program", "boxes"] ["program", "boxes"] (aH sX):=by walk_at "sc"
theorem sZ:aU ["program", "values", "budget", "running"] ["program", "values", "budget"] (aH oJ):=by walk_at "sc"
theorem lA:aU ["moments", "record", "row", "time", "events"] ["moments"] (aH oZ):=by walk_at "sc"
theorem Nf:aU ["program", "values", "budget", "running"] ["program", "values", "budget"] (aH Kh):=by walk_at "sc"
theorem Ng:aU ["program", "values", "budget"] ["program", "values", "budget"] (aH yW):=by walk_at "sc"
theorem rG:aU ["_law_script", "_law_k", "_law_cell_here"] ["_law_script", "_law_k"] (aH tV):=by walk_at "sc"
theorem ut:aU ["_law_cell_here", "_law_way"] ["_law_cell_here"] (aH pW):=by walk_at "sc"
theorem DQ:aU ["_law_got", "_law_due"] ["_law_got", "_law_due"] (aH lu):=by walk_at "sc"
theorem yu:aU ["_law_state", "_law_k", "_law_name", "_law_value"] ["_law_state", "_law_k", "_law_name", "_law_value"] (aH vh):=by walk_at "sc"
theorem Gv:aU ["_law_state", "_law_k", "_law_truth"] ["_law_state", "_law_k", "_law_truth"] (aH tW):=by walk_at "sc"
theorem DR:aU ["_law_cell_here", "_law_names"] ["_law_cell_here", "_law_names"] (aH rD):=by walk_at "sc"
theorem ik:aU ["_law_script", "_law_turns", "_law_names", "_law_shapes_here", "_law_room", "_law_k", "_law_shape_here"] ["_law_script", "_law_turns", "_law_names"] (aH pX):=by walk_at "sc"
theorem gC:aU ["_law_shape_here", "_law_names", "_law_c", "_law_total", "_law_inner", "_law_block", "_law_down"] ["_law_shape_here", "_law_names"] (aH oK):=by walk_at "sc"
theorem rH:aU ["_law_state", "_law_at", "_law_shape_here", "_law_names", "_law_boxes", "_law_turn_here"] ["_law_state", "_law_at", "_law_shape_here", "_law_names"] (aH tX):=by walk_at "sc"
theorem lB:aU ["_law_state", "_law_at", "_law_shape_here", "_law_names", "_law_boxes", "_law_turn_here", "_law_truth"] ["_law_state", "_law_at", "_law_shape_here", "_law_names"] (aH tY):=by walk_at "sc"
theorem dU:aU ["_law_script", "_law_cell_here", "_law_names", "_law_shapes_here", "_law_values", "_law_k", "_law_number_here", "_law_budget", "_law_state", "_law_name", "_law_value", "_law_rows", "_law_at", "_law_shape_here", "_law_last", "_law_record", "_law_time", "_law_events", "_law_due", "_law_program"] ["_law_script"] (aH ph):=by walk_at "sc"
theorem cP:aU ["self", "program", "told", "lists", "number", "one", "heads", "name", "rank", "params", "rows"] ["self", "program"] (aH jK):=by walk_at "sc"
theorem Gw:aU ["self", "k"] ["self", "k"] (aH tZ):=by walk_at "sc"
theorem DW:aU ["self", "name"] ["self", "name"] (aH rE):=by walk_at "sc"
theorem BJ:aU ["self", "k", "which"] ["self", "k", "which"] (aH pY):=by walk_at "sc"
theorem vm:aU ["self", "program", "values", "budget"] ["self", "program", "values", "budget"] (aH j4):=by walk_at "sc"
theorem Ae:aU ["self", "numbers"] ["self", "numbers"] (aH lL):=by walk_at "sc"
theorem nM:aU ["self", "name", "numbers"] ["self", "name"] (aH j5):=by walk_at "sc"
theorem rJ:aU ["self", "due"] ["self"] (aH nF):=by walk_at "sc"
theorem yX:aU ["self", "k", "time", "events"] ["self", "k", "time", "events"] (aH nG):=by walk_at "sc"
theorem qi:aU ["self", "expression", "there"] ["self", "expression"] (aH mJ):=by walk_at "sc"
theorem rK:aU ["self", "name", "value", "holder"] ["self", "name", "value"] (aH nH):=by walk_at "sc"
theorem xZ:aU ["self"] ["self"] (aH mK):=by walk_at "sc"
theorem qj:aU ["self", "k", "row"] ["self", "k"] (aH mL):=by walk_at "sc"
theorem yZ:aU ["self", "k", "row"] ["self", "k", "row"] (aH nJ):=by walk_at "sc"
def qM:PV:=(.int 1000000000000)
section
variable [HK]
def jW:GF:=cA 1 (aF (cG (tT (aA eqP (bx (aj 0) (eC (.int 0))) (eC (.str "if"))) bB)
 (bO (aV (aa (bx (aj 0) (eC (.int 2))) (aa (bx (aj 0) (eC (.int 3))) ao))))
 bN)
 (aF (cG (tT (aA eqP (bx (aj 0) (eC (.int 0))) (eC (.str "while"))) bB)
 (bO (aV (aa (bx (aj 0) (eC (.int 2))) ao)))
 bN)
 (bO (aV ao))))
mutual
def jL:Nat->GF
 | 0=>fun _ _=>none
 | n+1=>cA 1 (aF (cG (tT (aA eqP (bx (aj 0) (eC (.int 0))) (eC (.str "if"))) bB)
  (bO (aQ (aa (eC (.str "if")) (aa (bx (aj 0) (eC (.int 1))) (aa (aK (fW n) (aa (bx (aj 0) (eC (.int 2))) ao)) (aa (aK (fW n) (aa (bx (aj 0) (eC (.int 3))) ao)) ao))))))
  bN)
  (aF (cG (tT (aA eqP (bx (aj 0) (eC (.int 0))) (eC (.str "while"))) bB)
  (bO (aQ (aa (eC (.str "while")) (aa (bx (aj 0) (eC (.int 1))) (aa (aK (fW n) (aa (bx (aj 0) (eC (.int 2))) ao)) ao)))))
  bN)
  (aF (cG (tT (aA eqP (bx (aj 0) (eC (.int 0))) (eC (.str "call"))) bB)
  (bO (aQ (aa (eC (.str "call")) (aa (bx (aj 0) (eC (.int 1))) (aa (bx (aj 0) (eC (.int 2))) (aa (eB list1 (aa (bx (aj 0) (eC (.int 3))) ao)) ao))))))
  bN)
  (qx 0))))
def fW:Nat->GF
 | 0=>fun _ _=>none
 | n+1=>cA 1 (bO (eO (gB (aj 0) cX) 1 [] (aG 0) dq (aK (jL n) (aa (aj 0) ao))))
end
def fu:Nat->GF
 | 0=>fun _ _=>none
 | n+1=>cA 10 (aF (aO 5 (aV ao))
  (aF (iG (gB (aj 3) cX) (aG 6)
  (aF (aO 7 (qy (aA cN (aj 4) (eB gR (aa (aj 5) ao)))))
  (aF (j0 5 (aQ (aa (aj 0) (aa (aj 1) (aa (aj 2) (aa (aK (jL 40) (aa (aj 6) ao)) ao))))))
  (iG (wK (aK jW (aa (aj 6) ao))) (eG 2 (aL (aG 8) (aL (aG 9) eF)))
  (ni 5 (aK (fu n) (aa (aj 0) (aa (aj 7) (aa (aj 8) (aa (aj 9) (aa (qy (aA cN (aj 4) (eB gR (aa (aj 5) ao)))) ao)))))))))))
  (qx 5)))
def vo:GF:=cA 6 (aF (aO 1 (aV ao))
 (aF (iG (gB (bx (aj 0) (eC (.int 2))) cX) (eG 4 (aL (aG 2) (aL (aG 3) (aL (aG 4) (aL (aG 5) eF)))))
 (ni 1 (aK (fu 40) (aa (aj 2) (aa (eC .non) (aa (eC (.int 0)) (aa (aj 5) (aa (qy (eB gR (aa (aj 1) ao))) ao))))))))
 (aF (ni 1 (aK (fu 40) (aa (eC (.str "main")) (aa (eC .non) (aa (eC (.int 0)) (aa (bx (aj 0) (eC (.int 3))) (aa (qy (eB gR (aa (aj 1) ao))) ao)))))))
 (qx 1))))
def uc:GF:=cA 2 (bO (qg (tT (nj zP wA (eC (.int 0)) (aj 1) (lg (aj 0))) bB) (bF (aj 0) (aj 1)) (eC (.int 0))))
def vq:GF:=cA 3 (aF (cG (tT (aA dO (aj 0) (eC (.str "+"))) bB)
 (bO (aA cF (aA cN (aj 1) (aj 2)) (eC qM)))
 bN)
 (aF (cG (tT (aA dO (aj 0) (eC (.str "-"))) bB)
 (bO (aA cF (aA m8 (aj 1) (aj 2)) (eC qM)))
 bN)
 (aF (cG (tT (aA dO (aj 0) (eC (.str "*"))) bB)
 (bO (aA cF (aA kO (aj 1) (aj 2)) (eC qM)))
 bN)
 (aF (cG (tT (aA dO (aj 0) (eC (.str "<"))) bB)
 (bO (qg (tT (aA wA (aj 1) (aj 2)) bB) (eC (.int 1)) (eC (.int 0))))
 bN)
 (bO (qg (tT (aA dO (aj 1) (aj 2)) bB) (eC (.int 1)) (eC (.int 0))))))))
def cR:Nat->GF
 | 0=>fun _ _=>none
 | n+1=>cA 2 (aF (cG (tT (aA dO (bF (aj 0) (eC (.int 0))) (eC (.str "num"))) bB)
  (bO (bF (aj 0) (eC (.int 1))))
  bN)
  (aF (cG (tT (aA dO (bF (aj 0) (eC (.int 0))) (eC (.str "box"))) bB)
  (bO (bF (aj 1) (bF (aj 0) (eC (.int 1)))))
  bN)
  (aF (cG (tT (aA dO (bF (aj 0) (eC (.int 0))) (eC (.str "@"))) bB)
  (bO (aK uc (aa (bF (aj 1) (bF (aj 0) (eC (.int 1)))) (aa (aK (cR n) (aa (bF (aj 0) (eC (.int 2))) (aa (aj 1) ao))) ao))))
  bN)
  (bO (aK vq (aa (bF (aj 0) (eC (.int 0))) (aa (aK (cR n) (aa (bF (aj 0) (eC (.int 1))) (aa (aj 1) ao))) (aa (aK (cR n) (aa (bF (aj 0) (eC (.int 2))) (aa (aj 1) ao))) ao))))))))
def gG:GF:=cA 1 (bO (jq (jt "int" (aj 0)) (jq (wj (jt "bool" (aj 0))) (nj zP wA (eC (.int 0)) (aj 0) (eC qM)))))
def uv:GF:=cA 2 (aF (cG (tT (aA eqP (aj 0) (eC (.int 0))) bB)
 (bO (aK gG (aa (aj 1) ao)))
 bN)
 (bO (jq (jt "list" (aj 1)) (jq (aA eqP (eB gR (aa (aj 1) ao)) (aj 0)) (eB all1 (aa (eO (gB (aj 1) cX) 1 [] (aG 0) dq (aK gG (aa (aj 0) ao))) ao))))))
def lM:GF:=cA 5 (aF (cG (m6 (jh (tT (jt "list" (aj 1)) gn)) (tT (aA yq (eB gR (aa (aj 1) ao)) (eB gR (aa (bx (aj 0) (eC (.int 0))) ao))) bB))
 u5
 bN)
 (iG (ur (bx (aj 0) (eC (.int 0))) (aj 1)) (eG 2 (aL (aG 2) (aL (aG 3) eF)))
 (aF (aO 4 (bx (aj 2) (eC (.int 0))))
 (cG (jh (tT (aK uv (aa (bx (aj 2) (eC (.int 1))) (aa (aj 3) ao))) gn))
 u5
 bN))))
def rM:GF:=cA 5 (aF (aO 2 kZ)
 (aF (iG (ur (bx (aj 0) (eC (.int 0))) (aj 1)) (eG 2 (aL (aG 3) (aL (aG 4) eF)))
 (qD 2 (bx (aj 3) (eC (.int 0))) (qg (tT (jt "list" (aj 4)) gn) (cV (eB list1 (aa (aj 4) ao))) (aj 4))))
 (qx 2)))
def tu:GF:=cA 2 (bO (eO (gB (bx (aj 0) (eC (.int 0))) cX) 3 [1] (eG 3 (aL (aG 0) (aL (aG 1) (aL (aG 2) eF)))) dq (aY (aj 3) (aj 0))))
def fG:GF:=cA 11 (aF (aO 2 (aK vo (aa (aj 1) ao)))
 (aF (aO 3 M9)
 (aF (iG (wK (aj 2)) (eG 2 (aL (aG 4) (aL (aG 5) eF)))
 (iW (xM 3 (Gk (aj 5) zU (zV (eC (.int 3))))) (aj 4)))
 (aF (aO 6 kZ)
 (aF (iG (gB (bx (aj 1) (eC (.int 2))) cX) (eG 4 (aL (aG 7) (aL (aG 8) (aL (aG 9) (aL (aG 10) eF)))))
 (qD 6 (aj 7) (eO (gB (aj 9) cX) 2 [] (eG 2 (aL (aG 0) (aL (aG 1) eF))) dq (aj 0))))
 (aF (fj "Plan" "told" (aj 0) (aj 2))
 (aF (fj "Plan" "lists" (aj 0) (Gp (aj 3)))
 (fj "Plan" "heads" (aj 0) (aj 6)))))))))
def lC:GF:=cA 2 (bO (eB list1 (aa (u9 (cg "Plan" "lists" (aj 0)) (aQ (aa (aj 1) (aa (eC .non) (aa (eC (.int 0)) ao))))) ao)))
def il:GF:=cA 2 (Eo (cg "Running" "due" (aj 0)) (eO (En (aj 1)) 1 [] (aG 0) dq (aQ (aa (aj 0) (aa (eC (.int 0)) ao)))))
def j6:GF:=cA 3 (aF (aO 2 (cL "Plan" "body" lC (cg "Running" "plan" (aj 0)) (aa (aj 1) ao)))
 (aF (cG (tT (aj 2) gn)
 (iW (cg "Running" "due" (aj 0)) (aQ (aa (bx (aj 2) (rA (eC (.int 1)))) (aa (eC (.int 3)) ao))))
 bN)
 (cW (cL "Running" "lay" il (aj 0) (aa (aj 2) ao)))))
def eX:GF:=cA 4 (aF (fj "Running" "plan" (aj 0) (sW "Plan" fG (aa (aj 1) ao)))
 (aF (fj "Running" "boxes" (aj 0) (cV (aK rM (aa (aj 1) (aa (aj 2) ao)))))
 (aF (fj "Running" "own" (aj 0) (cV (aV (aa (cV kZ) ao))))
 (aF (fj "Running" "budget" (aj 0) (aj 3))
 (aF (fj "Running" "word" (aj 0) (eC (.str "done")))
 (aF (fj "Running" "moments" (aj 0) (cV (aV ao)))
 (aF (fj "Running" "due" (aj 0) (cV (aV ao)))
 (cW (cL "Running" "lay_body" j6 (aj 0) (aa (eC (.str "main")) ao))))))))))
def iM:GF:=cA 3 (bO (eB list1 (aa (u9 (cg "Plan" "lists" (aj 0)) (aQ (aa (bx (bx (cg "Plan" "told" (aj 0)) (aj 1)) (eC (.int 0))) (aa (aj 1) (aa (aj 2) ao))))) ao)))
def jX:GF:=cA 2 (bO (bx (bx (cg "Plan" "told" (aj 0)) (aj 1)) (eC (.int 3))))
def iZ:GF:=cA 4 (aF (aO 3 (qg (tT (Bx (aj 1) (bx (cg "Running" "own" (aj 0)) (rA (eC (.int 1))))) bB) (bx (cg "Running" "own" (aj 0)) (rA (eC (.int 1)))) (cg "Running" "boxes" (aj 0))))
 (aF (jJ (aj 3) (aj 1) (aj 2))
 (bO (aQ (aa (aj 1) (aa (eC (.int 0)) (aa (aj 2) ao)))))))
def gj:GF:=cA 1 (aF (cG (tT (aA zP (cg "Running" "budget" (aj 0)) (eC (.int 0))) bB)
 (aF (fj "Running" "word" (aj 0) (eC (.str "spent")))
 (aF (Ep (cg "Running" "due" (aj 0)))
 (bO (eC (.bl false)))))
 bN)
 (aF (fj "Running" "budget" (aj 0) (aA m8 (cg "Running" "budget" (aj 0)) (eC (.int 1))))
 (bO (eC (.bl true)))))
def dW:GF:=cA 3 (aF (aO 2 (wM (cg "Running" "boxes" (aj 0))))
 (aF (xN 2 (bx (cg "Running" "own" (aj 0)) (rA (eC (.int 1)))))
 (bO (lW (aK (cR 40) (aa (aj 1) (aa (aj 2) ao)))))))
def nO:GF:=cA 3 (cG (mj (tT (aA yq (cL "Running" "value" dW (aj 0) (aa (bx (aj 2) (eC (.int 1))) ao)) (eC (.int 0))) bB) (tT (cL "Running" "spend" gj (aj 0) ao) gn))
 (aF (iW (cg "Running" "due" (aj 0)) (aQ (aa (aj 1) (aa (eC (.int 0)) ao))))
 (cW (cL "Running" "lay" il (aj 0) (aa (cL "Plan" "block" iM (cg "Running" "plan" (aj 0)) (aa (aj 1) (aa (eC (.int 0)) ao))) ao))))
 bN)
def eU:GF:=cA 4 (iW (cg "Running" "moments" (aj 0)) (aQ (aa (aj 1) (aa (aj 2) (aa (aj 3) ao)))))
def iB:GF:=cA 3 (aF (aO 2 (cL "Plan" "row" jX (cg "Running" "plan" (aj 0)) (aa (aj 1) ao)))
 (aF (cW (cL "Running" "note" eU (aj 0) (aa (aj 1) (aa (eC (.int 0)) (aa (cV (aV ao)) ao)))))
 (cG (tT (aA eqP (bx (aj 2) (eC (.int 0))) (eC (.str "if"))) bB)
 (cW (cL "Running" "lay" il (aj 0) (aa (cL "Plan" "block" iM (cg "Running" "plan" (aj 0)) (aa (aj 1) (aa (qg (tT (aA eqP (cL "Running" "value" dW (aj 0) (aa (bx (aj 2) (eC (.int 1))) ao)) (eC (.int 0))) bB) (eC (.int 1)) (eC (.int 0))) ao))) ao)))
 (cG (tT (aA eqP (bx (aj 2) (eC (.int 0))) (eC (.str "while"))) bB)
 (cW (cL "Running" "look" nO (aj 0) (aa (aj 1) (aa (aj 2) ao))))
 (cG (tT (aA eqP (bx (aj 2) (eC (.int 0))) (eC (.str "call"))) bB)
 u5
 (cG (tT (aA eqP (bx (aj 2) (eC (.int 0))) (eC (.str "put"))) bB)
 u5
 (cW (cL "Running" "note" eU (aj 0) (aa (aj 1) (aa (eC (.int 1)) (aa (cV (aV (aa (cL "Running" "give" iZ (aj 0) (aa (bx (aj 2) (eC (.int 1))) (aa (cL "Running" "value" dW (aj 0) (aa (bx (aj 2) (eC (.int 2))) ao)) ao))) ao))) ao)))))))))))
def fX:GF:=cA 2 (aF (aO 1 (xK (cg "Running" "due" (aj 0))))
 (cG (tT (aA eqP (bx (aj 1) (eC (.int 1))) (eC (.int 0))) bB)
 (cW (cL "Running" "begin" iB (aj 0) (aa (bx (aj 1) (eC (.int 0))) ao)))
 (cG (tT (aA eqP (bx (aj 1) (eC (.int 1))) (eC (.int 2))) bB)
 u5
 (cW (cL "Running" "note" eU (aj 0) (aa (bx (aj 1) (eC (.int 0))) (aa (bx (aj 1) (eC (.int 1))) (aa (cV (aV ao)) ao))))))))
def jz:GF:=cA 4 (aF (cW (lW (aK lM (aa (aj 0) (aa (aj 1) ao)))))
 (aF (aO 3 (sW "Running" eX (aa (aj 0) (aa (aj 1) (aa (aj 2) ao)))))
 (aF (pL 1000 (Ad (cg "Running" "due" (aj 3)))
 (cW (cL "Running" "step" fX (aj 3) ao)))
 (qx 3))))
def pq:GF:=cA 5 (aF (aO 1 (aV ao))
 (aF (iG (gB (jR (aj 0)) cX) (eG 3 (aL (aG 2) (aL (aG 3) (aL (aG 4) eF))))
 (ni 1 (eO (gB (jR (aj 4)) cX) 3 [2] (eG 3 (aL (aG 0) (aL (aG 1) (aL (aG 2) eF)))) dq (aQ (aa (aj 3) (aa (aj 0) (aa (aj 1) (aa (aj 2) ao))))))))
 (qx 1)))
def vy:GF:=cA 4 (aF (aO 3 (aK jz (aa (aj 0) (aa (aj 1) (aa (aj 2) ao)))))
 (bO (aQ (aa (cg "Running" "word" (aj 3)) (aa (aK pq (aa (cg "Running" "moments" (aj 3)) ao)) (aa (aK tu (aa (aj 0) (aa (cg "Running" "boxes" (aj 3)) ao))) ao))))))
def rN:GF:=cA 3 (bO (cg "Running" "moments" (aK jz (aa (aj 0) (aa (aj 1) (aa (aj 2) ao))))))
def eY:GF:=cA 3 (aF (aO 2 (aA cN (aA cN (aA kO (aj 1) (aj 1)) (aA kO (eC (.int 11)) (aj 1))) (eC (.int 3))))
 (aF (cG (tT (aA zQ (lg (aj 0)) (eC (.int 0))) bB)
 (aO 2 (aA cN (aA cF (bF (aj 0) (aA cF (aj 1) (lg (aj 0)))) (eC (.int 1000000000039))) (aA kO (aA dD (aj 1) (lg (aj 0))) (eC (.int 7907)))))
 bN)
 (bO (aA cF (aA cN (aA kO (aj 2) (eC (.int 69621))) (aA kO (aA dD (aj 1) (eB max2 (aa (eC (.int 1)) (aa (lg (aj 0)) ao)))) (eC (.int 40014)))) (eC (.int 2147483629))))))
def gH:GF:=cA 2 (aF (aO 1 (aA cF (aj 0) (eC (.int 4))))
 (aF (cG (tT (aA dO (aj 1) (eC (.int 0))) bB)
 (bO (aA cF (aA dD (aj 0) (eC (.int 4))) (eC (.int 6))))
 bN)
 (aF (cG (tT (aA dO (aj 1) (eC (.int 1))) bB)
 (bO (aA m8 (aA m8 (aA Bp (eC (.int 10)) (eC (.int 12))) (eC (.int 1))) (aA cF (aA dD (aj 0) (eC (.int 4))) (eC (.int 4)))))
 bN)
 (aF (cG (tT (aA dO (aj 1) (eC (.int 2))) bB)
 (bO (aA cN (eC (.int 999997)) (aA cF (aA dD (aj 0) (eC (.int 4))) (eC (.int 7)))))
 bN)
 (bO (aA cF (aA kO (aj 0) (eC (.int 465661287))) (aA Bp (eC (.int 10)) (eC (.int 12)))))))))
def cB:Nat->GF
 | 0=>fun _ _=>none
 | n+1=>cA 2 (aF (cG (tT (QC ["list", "tuple"] (aj 1)) gn)
  (aF (cG (m6 (tT (aA yq (jt "list" (aj 0)) (jt "list" (aj 1))) bB) (tT (aA yq (jt "tuple" (aj 0)) (jt "tuple" (aj 1))) bB))
  (bO (eC (.bl false)))
  bN)
  (bO (jq (aA eqP (eB gR (aa (aj 0) ao)) (eB gR (aa (aj 1) ao))) (eB all1 (aa (eO (iI (aa (eB gR (aa (aj 1) ao)) ao)) 1 [0,1] (aG 0) dq (aK (cB n) (aa (bx (aj 1) (aj 0)) (aa (bx (aj 2) (aj 0)) ao)))) ao)))))
  bN)
  (aF (cG (tT (jt "str" (aj 1)) gn)
  (bO (jq (jt "str" (aj 0)) (aA eqP (aj 0) (aj 1))))
  bN)
  (aF (cG (tT (aA Qm (aj 1) (eC .non)) bB)
  (bO (aA Qm (aj 0) (eC .non)))
  bN)
  (bO (jq (jt "int" (aj 0)) (jq (wj (jt "bool" (aj 0))) (aA eqP (aj 0) (aj 1))))))))
def gm:GF:=cA 4 (aF (aO 3 (aA cF (aj 3) (aA Bp (eC (.int 10)) (eC (.int 12)))))
 (aF (iW (aY (aj 0) (eC (.str "moments"))) (aQ (aa (aj 1) (aa (eC (.int 0)) (aa (aV ao) ao)))))
 (aF (iW (aY (aj 0) (eC (.str "moments"))) (aQ (aa (aj 1) (aa (eC (.int 1)) (aa (aV (aa (aQ (aa (aj 2) (aa (eC (.int 0)) (aa (aj 3) ao)))) ao)) ao)))))
 (jJ (aY (aj 0) (eC (.str "boxes"))) (aj 2) (aj 3)))))
def gY:GF:=cA 3 (aF (iW (aY (aj 0) (eC (.str "moments"))) (aQ (aa (aj 1) (aa (eC (.int 0)) (aa (aV ao) ao)))))
 (aF (cG (jh (tT (aj 2) gn))
 (bO (eC (.bl false)))
 bN)
 (aF (cG (tT (aA eqP (aY (aj 0) (eC (.str "left"))) (eC (.int 0))) bB)
 (aF (jJ (aj 0) (eC (.str "word")) (eC (.str "spent")))
 (bO (eC (.bl false))))
 bN)
 (aF (jJ (aj 0) (eC (.str "left")) (aA m8 (aY (aj 0) (eC (.str "left"))) (eC (.int 1))))
 (bO (eC (.bl true)))))))
def lD:GF:=cA 2 (bO (xH (fU (eC (.str "way")) (aA cF (aj 0) (eC (.int 4))) (fU (eC (.str "counter")) (bx (aj 1) (aA cF (aA m9 (aj 0) (eC (.int 4))) (eC (.int 3)))) (fU (eC (.str "step")) (aA cF (aA m9 (aj 0) (eC (.int 12))) (eC (.int 1000003))) (fU (eC (.str "many")) (aA cF (aA m9 (aj 0) (eC (.int 12))) (eC (.int 5))) Br))))))
def my:GF:=cA 7 (aF (aO 3 (aV ao))
 (aF (aO 4 (eC (.int 40)))
 (aF (iG (iI (aa (aj 1) ao)) (aG 5)
 (aF (aO 6 (aK lD (aa (aK eY (aa (aj 0) (aa (aA cN (eC (.int 6)) (aj 5)) ao))) (aa (aj 2) ao))))
 (cG (tT (aA RG (aj 4) (bF (aV (aa (eC (.int 3)) (aa (eC (.int 3)) (aa (eC (.int 6)) (aa (eC (.int 1)) ao))))) (bF (aj 6) (eC (.str "way"))))) bB)
 (aF (aO 4 (aA m8 (aj 4) (bF (aV (aa (eC (.int 3)) (aa (eC (.int 3)) (aa (eC (.int 6)) (aa (eC (.int 1)) ao))))) (bF (aj 6) (eC (.str "way"))))))
 (j0 3 (aj 6)))
 bN)))
 (qx 3))))
def jA:GF:=cA 7 (aF (aO 2 (bF (aj 0) (eC (.str "counter"))))
 (aF (aO 3 (bF (aj 1) (eC (.int 3))))
 (aF (aO 4 (bF (aj 1) (eC (.int 4))))
 (aF (cG (tT (aA dO (bF (aj 0) (eC (.str "way"))) (eC (.int 3))) bB)
 (bO (aV (aa (aQ (aa (eC (.str "while")) (aa (aQ (aa (eC (.str "<")) (aa (aQ (aa (eC (.str "num")) (aa (bF (aj 0) (eC (.str "many"))) ao))) (aa (aQ (aa (eC (.str "box")) (aa (aj 2) ao))) ao)))) (aa (aV ao) ao)))) ao)))
 bN)
 (aF (aO 5 (aV (aa (aQ (aa (eC (.str "set")) (aa (aj 2) (aa (aQ (aa (eC (.str "-")) (aa (aQ (aa (eC (.str "box")) (aa (aj 2) ao))) (aa (aQ (aa (eC (.str "num")) (aa (eC (.int 1)) ao))) ao)))) ao)))) ao)))
 (aF (j0 5 (aQ (aa (eC (.str "set")) (aa (aj 3) (aa (aQ (aa (eC (.str "+")) (aa (aQ (aa (eC (.str "*")) (aa (aQ (aa (eC (.str "box")) (aa (aj 3) ao))) (aa (aQ (aa (eC (.str "num")) (aa (eC (.int 3)) ao))) ao)))) (aa (aQ (aa (eC (.str "num")) (aa (bF (aj 0) (eC (.str "step"))) ao))) ao)))) ao)))))
 (aF (cG (tT (aA dO (bF (aj 0) (eC (.str "way"))) (eC (.int 2))) bB)
 (aF (j0 5 (aQ (aa (eC (.str "set")) (aa (aj 4) (aa (aQ (aa (eC (.str "num")) (aa (bF (aj 0) (eC (.str "many"))) ao))) ao)))))
 (aF (aO 6 (aQ (aa (eC (.str "set")) (aa (aj 4) (aa (aQ (aa (eC (.str "-")) (aa (aQ (aa (eC (.str "box")) (aa (aj 4) ao))) (aa (aQ (aa (eC (.str "num")) (aa (eC (.int 1)) ao))) ao)))) ao)))))
 (j0 5 (aQ (aa (eC (.str "while")) (aa (aQ (aa (eC (.str "<")) (aa (aQ (aa (eC (.str "num")) (aa (eC (.int 0)) ao))) (aa (aQ (aa (eC (.str "box")) (aa (aj 4) ao))) ao)))) (aa (aV (aa (aj 6) ao)) ao)))))))
 bN)
 (bO (aV (aa (aQ (aa (eC (.str "while")) (aa (aQ (aa (eC (.str "box")) (aa (aj 2) ao))) (aa (aj 5) ao)))) ao))))))))))
def pA:GF:=cA 6 (aF (aO 4 (aY (aj 0) (eC (.str "boxes"))))
 (aF (cW (aK gm (aa (aj 0) (aa (aA cN (aj 1) (eC (.int 1))) (aa (bF (aj 2) (eC (.str "counter"))) (aa (aA m8 (aY (aj 4) (bF (aj 2) (eC (.str "counter")))) (eC (.int 1))) ao))))))
 (aF (cW (aK gm (aa (aj 0) (aa (aA cN (aj 1) (eC (.int 2))) (aa (bF (aj 3) (eC (.int 3))) (aa (aA cN (aA kO (aY (aj 4) (bF (aj 3) (eC (.int 3)))) (eC (.int 3))) (bF (aj 2) (eC (.str "step")))) ao))))))
 (cG (tT (aA dO (bF (aj 2) (eC (.str "way"))) (eC (.int 2))) bB)
 (aF (cW (aK gm (aa (aj 0) (aa (aA cN (aj 1) (eC (.int 3))) (aa (bF (aj 3) (eC (.int 4))) (aa (bF (aj 2) (eC (.str "many"))) ao))))))
 (iG (iI (aa (eC (.int 6)) ao)) (aG 5)
 (cG (mj (tT (aA dO (aY (aj 0) (eC (.str "word"))) (eC (.str "done"))) bB) (tT (aK gY (aa (aj 0) (aa (aA cN (aj 1) (eC (.int 4))) (aa (aA zQ (aY (aj 4) (bF (aj 3) (eC (.int 4)))) (eC (.int 0))) ao)))) gn))
 (cW (aK gm (aa (aj 0) (aa (aA cN (aj 1) (eC (.int 5))) (aa (bF (aj 3) (eC (.int 4))) (aa (aA m8 (aY (aj 4) (bF (aj 3) (eC (.int 4)))) (eC (.int 1))) ao))))))
 xn)))
 bN))))
def lY:GF:=cA 7 (aF (aO 4 (aY (aj 0) (eC (.str "boxes"))))
 (iG (iI (aa (eC (.int 22)) ao)) (aG 5)
 (aF (aO 6 (aA Dm (aY (aj 4) (bF (aj 2) (eC (.str "counter")))) (eC (.int 0))))
 (aF (cG (tT (aA dO (bF (aj 2) (eC (.str "way"))) (eC (.int 3))) bB)
 (aO 6 (aA wA (bF (aj 2) (eC (.str "many"))) (aY (aj 4) (bF (aj 2) (eC (.str "counter"))))))
 bN)
 (aF (cG (m6 (tT (aA dO (aY (aj 0) (eC (.str "word"))) (eC (.str "spent"))) bB) (jh (tT (aK gY (aa (aj 0) (aa (aj 1) (aa (aj 6) ao)))) gn)))
 xn
 bN)
 (cG (tT (aA Dm (bF (aj 2) (eC (.str "way"))) (eC (.int 3))) bB)
 (cW (aK pA (aa (aj 0) (aa (aj 1) (aa (aj 2) (aa (aj 3) ao))))))
 bN))))))
def Km:GF:=cA 20 (aF (aO 1 (aK eY (aa (aj 0) (aa (eC (.int 0)) ao))))
 (aF (aO 2 (bF (aV (aa (aV (aa (eC (.str "c")) (aa (eC (.str "cc")) (aa (eC (.str "d")) (aa (eC (.str "dc")) (aa (eC (.str "e")) ao)))))) (aa (aV (aa (eC (.str "e")) (aa (eC (.str "d")) (aa (eC (.str "c")) (aa (eC (.str "ce")) (aa (eC (.str "cd")) ao)))))) ao))) (aA cF (aj 1) (eC (.int 2)))))
 (aF (aO 3 (aK my (aa (aj 0) (aa (aA cF (aA dD (aj 1) (eC (.int 2))) (eC (.int 41))) (aa (aj 2) ao)))))
 (aF (aO 4 (aV ao))
 (aF (iG (iI (aa (eC (.int 5)) ao)) (aG 5)
 (aF (aO 6 (aK eY (aa (aj 0) (aa (aA cN (eC (.int 1)) (aj 5)) ao))))
 (j0 4 (bF (aV (aa (aA cF (aA dD (aj 6) (eC (.int 3))) (eC (.int 8))) (aa (aA cF (aA dD (aj 6) (eC (.int 3))) (eC (.int 8))) (aa (aK gH (aa (aA dD (aj 6) (eC (.int 3))) ao)) ao)))) (aA cF (aj 6) (eC (.int 3)))))))
 (aF (aO 7 (aA cF (aA dD (aj 1) (eC (.int 82))) (eC (.int 21))))
 (aF (aO 8 (cV (xH (fU (eC (.str "moments")) (cV (aV ao)) (fU (eC (.str "word")) (eC (.str "done")) (fU (eC (.str "left")) (aj 7) (fU (eC (.str "boxes")) (cV kZ) Br)))))))
 (aF (iG (ur (aj 2) (aj 4)) (eG 2 (aL (aG 9) (aL (aG 10) eF)))
 (jJ (aY (aj 8) (eC (.str "boxes"))) (aj 9) (aj 10)))
 (aF (aO 11 (aV ao))
 (aF (aO 12 (eC (.int 0)))
 (aF (iG (gB (aj 3) cX) (aG 13)
 (aF (cG (tT (aA dO (aY (aj 8) (eC (.str "word"))) (eC (.str "done"))) bB)
 (aF (cW (aK lY (aa (aj 8) (aa (aj 12) (aa (aj 13) (aa (aj 2) ao))))))
 (aO 14 (aV (aa (aQ (aa (aj 12) (aa (eC (.int 3)) (aa (aV ao) ao)))) ao))))
 bN)
 (aF (aO 11 (aA cN (aj 11) (aK jA (aa (aj 13) (aa (aj 2) ao)))))
 (aO 12 (aA cN (aj 12) (bF (aV (aa (eC (.int 3)) (aa (eC (.int 3)) (aa (eC (.int 6)) (aa (eC (.int 1)) ao))))) (bF (aj 13) (eC (.str "way")))))))))
 (aF (cG (mj (tT (aA dO (aY (aj 8) (eC (.str "word"))) (eC (.str "done"))) bB) (tT (aA zQ (lg (aj 3)) (eC (.int 0))) bB))
 (jJ (aj 8) (eC (.str "moments")) (aA cN (jR (aY (aj 8) (eC (.str "moments")))) (aj 14)))
 bN)
 (aF (aO 15 (aV ao))
 (aF (Em (xJ (aY (aj 8) (eC (.str "moments")))) (eG 3 (aL (aG 5) (aL (aG 16) (aL (aG 17) eF))))
 (ni 15 (eO (gB (aj 17) cX) 3 [5] (eG 3 (aL (aG 0) (aL (aG 1) (aL (aG 2) eF)))) dq (aQ (aa (aj 3) (aa (aj 0) (aa (aj 1) (aa (aj 2) ao))))))))
 (aF (aO 18 (aQ (aa (aY (aj 8) (eC (.str "word"))) (aa (aj 15) (aa (eO (gB (aj 2) cX) 1 [8] (aG 0) dq (aY (aY (aj 1) (eC (.str "boxes"))) (aj 0))) ao)))))
 (aF (aO 19 (aQ (aa (eO (gB (aj 2) cX) 1 [] (aG 0) dq (aQ (aa (aj 0) (aa (eC (.int 0)) (aa (eC .non) ao))))) (aa (aV ao) (aa (aV ao) (aa (aj 11) ao))))))
 (aF (cG (xG (jh (tT (nD (cB 40) (aa (aK vy (aa (aj 19) (aa (aj 4) (aa (aj 7) ao)))) (aa (aj 18) ao))) gn)))
 (bO (eC (.bl false)))
 bN)
 (bO (jq (nD (cB 40) (aa (aK rN (aa (aj 19) (aa (aj 4) (aa (aj 7) ao)))) (aa (aY (aj 8) (eC (.str "moments"))) ao))) (lW (aA dO (aK vy (aa (aj 19) (aa (aj 4) (aa (aj 7) ao)))) (aj 18))))))))))))))))))))))
variable {P:Program} {w:World} {K:FG} {mg:Str->Option Value} {base:Heap}
theorem xP {X:Cx} {pos:Pos} (h:∃ t,X.mg "LIMIT" = some (.int 1000000000000 t)) (hg:Gl X "LIMIT"):PE X (.Name "LIMIT" pos) (tP X.K (eC qM)):=by
 obtain ⟨t,h⟩:=h
 exact qc (SQ (v:=.int 1000000000000) hg h ⟨_,rfl⟩) eV
abbrev BL:List Str:=["ValueError", "all", "bool", "dict", "enumerate", "int", "isinstance", "len", "list", "max", "range", "reversed", "str", "tuple", "zip"]
section
variable {mg:Str->Option Value} (B:Ik mg BL)
include B
theorem Xa:mg "ValueError" = none:=B _ (.head _)
theorem RX:mg "all" = none:=B _ (mI 1 rfl)
theorem Nh:mg "bool" = none:=B _ (mI 2 rfl)
theorem Xb:mg "dict" = none:=B _ (mI 3 rfl)
theorem yw:mg "enumerate" = none:=B _ (mI 4 rfl)
theorem RZ:mg "int" = none:=B _ (mI 5 rfl)
theorem cT:mg "isinstance" = none:=B _ (mI 6 rfl)
theorem jk:mg "len" = none:=B _ (mI 7 rfl)
theorem lZ:mg "list" = none:=B _ (mI 8 rfl)
theorem YD:mg "max" = none:=B _ (mI 9 rfl)
theorem uw:mg "range" = none:=B _ (mI 10 rfl)
theorem Ko:mg "reversed" = none:=B _ (mI 11 rfl)
theorem R5:mg "str" = none:=B _ (mI 12 rfl)
theorem BK:mg "tuple" = none:=B _ (.tail _ (mI 12 rfl))
theorem Kp:mg "zip" = none:=B _ (.tail _ (.tail _ (mI 12 rfl)))
end
section
variable (P:Program) (w:World) (K:FG) (mg:Str->Option Value) (base:Heap) (c:Addr)
abbrev rO:=bV P w K mg base "blocks_of" 1 ["row"] (bT K 1 jW)
abbrev Dp:=bV P w K mg base "copied" 40 ["row"] (bT K 1 (jL 40))
abbrev Vj:=bV P w K mg base "all_copied" 40 ["rows"] (bT K 1 (fW 40))
abbrev Hv:=bV P w K mg base "laid_out" 80 ["where", "above", "block", "rows", "start"] (bT K 5 (fu 40))
abbrev yx:=bV P w K mg base "numbered" 81 ["program"] (bT K 1 vo)
abbrev rP:=bV P w K mg base "number_at" 1 ["numbers", "place"] (bT K 2 uc)
abbrev ud:=bV P w K mg base "reckoned" 1 ["sign", "one", "other"] (bT K 3 vq)
abbrev Hw:=bV P w K mg base "value_of" 41 ["expression", "boxes"] (bT K 2 (cR 40))
abbrev ux:=bV P w K mg base "can_be_held" 1 ["thing"] (bT K 1 gG)
abbrev Gx:=bV P w K mg base "suits" 2 ["size", "thing"] (bT K 2 uv)
abbrev tB:=bV P w K mg base "refuse_input" 3 ["program", "values"] (bT K 2 lM)
abbrev Dq:=bV P w K mg base "filled" 1 ["program", "values"] (bT K 2 rM)
abbrev Af:=bV P w K mg base "emptied" 1 ["program", "boxes"] (bT K 2 tu)
abbrev yc:=Kf P w K mg base c 82 ["self", "program"] (bT K 2 fG)
abbrev vL:=nY P w K mg base c "body" 1 ["self", "name"] (bT K 2 lC)
abbrev j9:=nY P w K mg base c "lay" 1 ["self", "numbers"] (bT K 2 il)
abbrev nP:=nY P w K mg base c "lay_body" 2 ["self", "name"] (bT K 2 j6)
abbrev vz:=Kf P w K mg base c 84 ["self", "program", "values", "budget"] (bT K 4 eX)
abbrev oM:=nY P w K mg base c "block" 1 ["self", "k", "which"] (bT K 3 iM)
abbrev wN:=nY P w K mg base c "row" 1 ["self", "k"] (bT K 2 jX)
abbrev rQ:=nY P w K mg base c "give" 1 ["self", "name", "value"] (bT K 3 iZ)
abbrev ql:=nY P w K mg base c "spend" 1 ["self"] (bT K 1 gj)
abbrev lU:=nY P w K mg base c "value" 42 ["self", "expression"] (bT K 2 dW)
abbrev rR:=nY P w K mg base c "look" 43 ["self", "k", "row"] (bT K 3 nO)
abbrev mO:=nY P w K mg base c "note" 1 ["self", "k", "time", "events"] (bT K 4 eU)
abbrev qm:=nY P w K mg base c "begin" 44 ["self", "k"] (bT K 2 iB)
abbrev rT:=nY P w K mg base c "step" 45 ["self"] (bT K 1 fX)
abbrev nQ:=bV P w K mg base "gone_through" 86 ["program", "values", "budget"] (bT K 3 jz)
abbrev wO:=bV P w K mg base "record_of" 1 ["moments"] (bT K 1 pq)
abbrev Ni:=bV P w K mg base "run" 87 ["program", "values", "budget"] (bT K 3 vy)
abbrev Dr:=bV P w K mg base "traced" 87 ["program", "values", "budget"] (bT K 3 rN)
abbrev rW:=bV P w K mg base "_law_cell" 1 ["_law_script", "_law_k"] (bT K 2 eY)
abbrev uy:=bV P w K mg base "_law_number" 1 ["_law_cell_here"] (bT K 1 gH)
abbrev DX:=bV P w K mg base "_law_alike" 40 ["_law_got", "_law_due"] (bT K 2 (cB 40))
abbrev yz:=bV P w K mg base "_law_set" 1 ["_law_state", "_law_k", "_law_name", "_law_value"] (bT K 4 gm)
abbrev rY:=bV P w K mg base "_law_look" 1 ["_law_state", "_law_k", "_law_truth"] (bT K 3 gY)
abbrev vM:=bV P w K mg base "_law_shape" 1 ["_law_cell_here", "_law_names"] (bT K 2 lD)
abbrev uz:=bV P w K mg base "_law_shapes" 2 ["_law_script", "_law_turns", "_law_names"] (bT K 3 my)
abbrev tD:=bV P w K mg base "_law_rows_of" 1 ["_law_shape_here", "_law_names"] (bT K 2 jA)
abbrev wQ:=bV P w K mg base "_law_turn" 2 ["_law_state", "_law_at", "_law_shape_here", "_law_names"] (bT K 4 pA)
abbrev wR:=bV P w K mg base "_law_loop" 3 ["_law_state", "_law_at", "_law_shape_here", "_law_names"] (bT K 4 lY)
end
variable (B:Ik mg BL) (ack:∃ t,mg "LIMIT" = some (.int 1000000000000 t)) {acs:Addr} (acl:tQ K mg "Plan" acs) (aco:∀ f∈(["told", "lists", "heads"]:List Str),jm K acs f) {acn:Addr} (aci:tQ K mg "Running" acn) (acj:∀ f∈(["plan", "boxes", "own", "budget", "word", "moments", "due"]:List Str),jm K acn f) (hkx:HK.hk=zM P w)
include B ack acl aco aci acj hkx
theorem Gy (F:cQ K mg "blocks_of" tR ["row"]):rO P w K mg base:=
 F.ok (k:=0) Gs fun f cdv A outer s H E hr=>⟨_,fun _ _=>rfl,(az (bQ (bU (fP hr) fQ (qI (qw 0)) aW (aZ _))
  (aD (bw (dh (ak (qI (qw 0)) (ak (qI (qw 0)) aq)))))
  bD)
  (az (bQ (bU (fP hr) fQ (qI (qw 0)) aW (aZ _))
  (aD (bw (dh (ak (qI (qw 0)) aq))))
  bD)
  (aD (bw (dh aq)))))⟩
theorem Nj {n:Nat} (F:cQ K mg "copied" vd ["row"]) (acM:bV P w K mg base "all_copied" (0+n) ["rows"] (bT K 1 (fW n))):bV P w K mg base "copied" (0+n+1) ["row"] (bT K 1 (jL (n+1))):=
 F.ok (k:=0+n) Nb fun f cdv A outer s H E hr=>⟨_,fun _ _=>rfl,(az (bQ (bU (fP hr) fQ (qI (qw 0)) aW (aZ _))
  (aD (bw (cM (ak aW (ak (qI (qw 0)) (ak (bW acM (hr.mono (by omega)) rfl (ak (qI (qw 0)) aq) (au aP)) (ak (bW acM (hr.mono (by omega)) rfl (ak (qI (qw 0)) aq) (au aP)) aq)))))))
  bD)
  (az (bQ (bU (fP hr) fQ (qI (qw 0)) aW (aZ _))
  (aD (bw (cM (ak aW (ak (qI (qw 0)) (ak (bW acM (hr.mono (by omega)) rfl (ak (qI (qw 0)) aq) (au aP)) aq))))))
  bD)
  (az (bQ (bU (fP hr) fQ (qI (qw 0)) aW (aZ _))
  (aD (bw (cM (ak aW (ak (qI (qw 0)) (ak (qI (qw 0)) (ak (PE.imp (pJ mZ (by rfl) (lZ B) (by kernel_rfl) (ak (qI (qw 0)) aq)) (wB xx)) aq)))))))
  bD)
  (aD (ou (pv 0))))))⟩
theorem DY {n:Nat} (F:cQ K mg "all_copied" lr ["rows"]) (acE:bV P w K mg base "copied" (0+n) ["row"] (bT K 1 (jL n))):bV P w K mg base "all_copied" (0+n+1) ["rows"] (bT K 1 (fW (n+1))):=
 F.ok (k:=0+n) DP fun f cdv A outer s H E hr=>⟨_,fun _ _=>rfl,(aD (bw (oW ["row"] [] [] rfl (yt (aH lr)) (jx (qw 0)) (fun _ _ _ _=>(eQ 0 (show (["row"]:List Str).Nodup from by decide +kernel))) aX (fun _ _ _ _=>jd) (fun _ _ _ _=>(bW acE (hr.mono (by omega)) rfl (ak (qw 0) aq) (au aP))))))⟩
theorem Ag (ac9:cQ K mg "copied" vd ["row"]) (acU:cQ K mg "all_copied" lr ["rows"]):∀ n:Nat,bV P w K mg base "copied" (0+n) ["row"] (bT K 1 (jL n))/\bV P w K mg base "all_copied" (0+n) ["rows"] (bT K 1 (fW n))
 | 0=>⟨um ac9,um acU⟩
 | n+1=>by
  have ih:=Ag ac9 acU n
  exact ⟨Nj B ack acl aco aci acj hkx ac9 ih.2,DY B ack acl aco aci acj hkx acU ih.1⟩
theorem Hx {n:Nat} (F:cQ K mg "laid_out" qF ["where", "above", "block", "rows", "start"]) (acz:rO P w K mg base) (acE:Dp P w K mg base) (acF:bV P w K mg base "laid_out" (40+n) ["where", "above", "block", "rows", "start"] (bT K 5 (fu n))):bV P w K mg base "laid_out" (40+n+1) ["where", "above", "block", "rows", "start"] (bT K 5 (fu (n+1))):=
 F.ok (k:=40+n) jU fun f cdv A outer s H E hr=>⟨_,fun _ _=>rfl,(az (dR 5 jU.nd (dh aq))
  (az (iV aaQ rfl (jx (qw 3)) (eQ 6 jU.nd) aX
  (az (dR 7 jU.nd (Ek (cu dZ d7 (qw 4) (qL (jk B) (qw 5)))))
  (az (Bw (pv 5) (cM (ak (qw 0) (ak (qw 1) (ak (qw 2) (ak (bW acE (hr.mono (by omega)) rfl (ak (qw 6) aq) (au aP)) aq))))))
  (aD (iV aaQ rfl (Il rfl (yw B) (ak (bW acz (hr.mono (by omega)) rfl (ak (qw 6) aq) (au aP)) aq)) (ju rfl (bz (eQ 8 jU.nd) (bz (eQ 9 jU.nd) ig))) (jw (bJ aX (bJ aX jr)))
  (aD (Gq (pv 5) (bW acF (hr.mono (by omega)) rfl (ak (qw 0) (ak (qw 7) (ak (qw 8) (ak (qw 9) (ak (Ek (cu dZ d7 (qw 4) (qL (jk B) (qw 5)))) aq))))) (au (au (au (au (au aP)))))))))))))
  (aD (ou (pv 5)))))⟩
theorem wU (ac2:cQ K mg "laid_out" qF ["where", "above", "block", "rows", "start"]) (acz:rO P w K mg base) (acE:Dp P w K mg base):∀ n:Nat,bV P w K mg base "laid_out" (40+n) ["where", "above", "block", "rows", "start"] (bT K 5 (fu n))
 | 0=>um ac2
 | n+1=>by
  have ih:=wU ac2 acz acE n
  exact Hx B ack acl aco aci acj hkx ac2 acz acE ih
theorem Hy (F:cQ K mg "numbered" vf ["program"]) (acF:Hv P w K mg base):yx P w K mg base:=
 F.ok (k:=80) jV fun f cdv A outer s H E hr=>⟨_,fun _ _=>rfl,(az (dR 1 jV.nd (dh aq))
  (az (iV aaQ rfl (jx (qI (qw 0))) (ju rfl (bz (eQ 2 jV.nd) (bz (eQ 3 jV.nd) (bz (eQ 4 jV.nd) (bz (eQ 5 jV.nd) ig))))) (jw (bJ aX (bJ aX (bJ aX (bJ aX jr)))))
  (aD (Gq (pv 1) (bW acF (hr.mono (by omega)) rfl (ak (qw 2) (ak Iu (ak aM (ak (qw 5) (ak (Ek (qL (jk B) (qw 1))) aq))))) (au (au (au (au (au aP)))))))))
  (az (Gq (pv 1) (bW acF (hr.mono (by omega)) rfl (ak aW (ak Iu (ak aM (ak (qI (qw 0)) (ak (Ek (qL (jk B) (qw 1))) aq))))) (au (au (au (au (au aP)))))))
  (aD (ou (pv 1))))))⟩
theorem Gz (F:cQ K mg "number_at" tU ["numbers", "place"]):rP P w K mg base:=
 F.ok (k:=0) Gu fun f cdv A outer s H E hr=>⟨_,fun _ _=>rfl,(aD (bw (Ig (Ug JK Eg FZ zR aM (qw 1) (Bt (cJ kh (by rfl) (jk B) abp (ak (qw 0) aq)))) (dY (aN hr) (qw 0) (qw 1) (fun _ _=>rfl)) aM)))⟩
theorem Hz (F:cQ K mg "reckoned" vg ["sign", "one", "other"]):ud P w K mg base:=
 F.ok (k:=0) Hu fun f cdv A outer s H E hr=>⟨_,fun _ _=>rfl,(az (bQ (bU (fK hr) dH (qw 0) aW (aZ _))
  (aD (bw (cu eE dg (cu dZ d7 (qw 1) (qw 2)) (xP ack rfl))))
  bD)
  (az (bQ (bU (fK hr) dH (qw 0) aW (aZ _))
  (aD (bw (cu eE dg (cu pH mR (qw 1) (qw 2)) (xP ack rfl))))
  bD)
  (az (bQ (bU (fK hr) dH (qw 0) aW (aZ _))
  (aD (bw (cu eE dg (cu pI mU (qw 1) (qw 2)) (xP ack rfl))))
  bD)
  (az (bQ (bU (fK hr) dH (qw 0) aW (aZ _))
  (aD (bw (Ig (bU Eg zR (qw 1) (qw 2) (aZ _)) aM aM)))
  bD)
  (aD (bw (Ig (bU (fK hr) dH (qw 1) (qw 2) (aZ _)) aM aM)))))))⟩
theorem HD {n:Nat} (F:cQ K mg "value_of" qG ["expression", "boxes"]) (acA:rP P w K mg base) (acG:ud P w K mg base) (acy:bV P w K mg base "value_of" (1+n) ["expression", "boxes"] (bT K 2 (cR n))):bV P w K mg base "value_of" (1+n+1) ["expression", "boxes"] (bT K 2 (cR (n+1))):=
 F.ok (k:=1+n) Ht fun f cdv A outer s H E hr=>⟨_,fun _ _=>rfl,(az (bQ (bU (fK hr) dH (dY (aN hr) (qw 0) aM (fun _ _=>rfl)) aW (aZ _))
  (aD (bw (dY (aN hr) (qw 0) aM (fun _ _=>rfl))))
  bD)
  (az (bQ (bU (fK hr) dH (dY (aN hr) (qw 0) aM (fun _ _=>rfl)) aW (aZ _))
  (aD (bw (dY (aN hr) (qw 1) (dY (aN hr) (qw 0) aM (fun _ _=>rfl)) (fun _ _=>rfl))))
  bD)
  (az (bQ (bU (fK hr) dH (dY (aN hr) (qw 0) aM (fun _ _=>rfl)) aW (aZ _))
  (aD (bw (bW acA (hr.mono (by omega)) rfl (ak (dY (aN hr) (qw 1) (dY (aN hr) (qw 0) aM (fun _ _=>rfl)) (fun _ _=>rfl)) (ak (bW acy (hr.mono (by omega)) rfl (ak (dY (aN hr) (qw 0) aM (fun _ _=>rfl)) (ak (qw 1) aq)) (au (au aP))) aq)) (au (au aP)))))
  bD)
  (aD (bw (bW acG (hr.mono (by omega)) rfl (ak (dY (aN hr) (qw 0) aM (fun _ _=>rfl)) (ak (bW acy (hr.mono (by omega)) rfl (ak (dY (aN hr) (qw 0) aM (fun _ _=>rfl)) (ak (qw 1) aq)) (au (au aP))) (ak (bW acy (hr.mono (by omega)) rfl (ak (dY (aN hr) (qw 0) aM (fun _ _=>rfl)) (ak (qw 1) aq)) (au (au aP))) aq))) (au (au (au aP)))))))))⟩
theorem wV (ac3:cQ K mg "value_of" qG ["expression", "boxes"]) (acA:rP P w K mg base) (acG:ud P w K mg base):∀ n:Nat,bV P w K mg base "value_of" (1+n) ["expression", "boxes"] (bT K 2 (cR n))
 | 0=>um ac3
 | n+1=>by
  have ih:=wV ac3 acA acG n
  exact HD B ack acl aco aci acj hkx ac3 acA acG ih
theorem BP (F:cQ K mg "can_be_held" pU ["thing"]):ux P w K mg base:=
 F.ok (k:=0) By fun f cdv A outer s H E hr=>⟨_,fun _ _=>rfl,(aD (bw (uR (ul (cJ dz (by rfl) (cT B) (by kernel_rfl) (bY (qw 0) (bY (gf (v:=.ty "int") (u:=.type "int") rfl (RZ B) (by kernel_rfl) rfl) gK)))) (uR (Wv (ul (cJ dz (by rfl) (cT B) (by kernel_rfl) (bY (qw 0) (bY (gf (v:=.ty "bool") (u:=.type "bool") rfl (Nh B) (by kernel_rfl) rfl) gK))))) (Bl (WP JK Eg FZ zR aM (qw 0) (xP ack rfl)))))))⟩
theorem QG (F:cQ K mg "suits" xO ["size", "thing"]) (acI:ux P w K mg base):Gx P w K mg base:=
 F.ok (k:=1) QF fun f cdv A outer s H E hr=>⟨_,fun _ _=>rfl,(az (bQ (bU (fP hr) fQ (qw 0) aM (aZ _))
  (aD (bw (bW acI (hr.mono (by omega)) rfl (ak (qw 1) aq) (au aP))))
  bD)
  (aD (bw (uR (ul (cJ dz (by rfl) (cT B) (by kernel_rfl) (bY (qw 1) (bY (gf (v:=.ty "list") (u:=.type "list") rfl (lZ B) (by kernel_rfl) rfl) gK)))) (uR (uQ (fP hr) fQ (qL (jk B) (qw 1)) (qw 0) (aZ _)) (Bl (zW (uY rfl) My (cJ (uY rfl) (by rfl) (RX B) (by kernel_rfl) (ak (oW ["part"] [] [] rfl (yt (aH xO)) (jx (qw 1)) (fun _ _ _ _=>(eQ 0 (show (["part"]:List Str).Nodup from by decide +kernel))) aX (fun _ _ _ _=>jd) (fun _ _ _ _=>(bW acI (hr.mono (by omega)) rfl (ak (qw 0) aq) (au aP)))) aq)))))))))⟩
theorem Ah (F:cQ K mg "refuse_input" oH ["program", "values"]) (adm:Gx P w K mg base):tB P w K mg base:=
 F.ok (k:=2) j8 fun f cdv A outer s H E hr=>⟨_,fun _ _=>rfl,(az (bQ (PW.pt (J6 (wg (kI (ul (cJ dz (by rfl) (cT B) (by kernel_rfl) (bY (qw 1) (bY (gf (v:=.ty "list") (u:=.type "list") rfl (lZ B) (by kernel_rfl) rfl) gK)))) (fun _=>rfl))) (Fw (bU (wy hr) wz (qL (jk B) (qw 1)) (qL (jk B) (qI (qw 0))) (aZ _)))))
  (aD uq)
  bD)
  (aD (iV aaQ rfl (Bv rfl (Kp B) (ak (qI (qw 0)) (ak (qw 1) aq))) (ju rfl (bz (eQ 2 j8.nd) (bz (eQ 3 j8.nd) ig))) (jw (bJ aX (bJ aX jr)))
  (az (dR 4 j8.nd (qI (qw 2)))
  (aD (bQ (wg (kI (bW adm (hr.mono (by omega)) rfl (ak (qI (qw 2)) (ak (qw 3) aq)) (au (au aP))) (fun _=>rfl)))
  (aD uq)
  bD))))))⟩
theorem Nk (F:cQ K mg "filled" yV ["program", "values"]):Dq P w K mg base:=
 F.ok (k:=0) sY fun f cdv A outer s H E hr=>⟨_,fun _ _=>rfl,(az (dR 2 sY.nd Aa)
  (az (iV aaQ rfl (Bv rfl (Kp B) (ak (qI (qw 0)) (ak (qw 1) aq))) (ju rfl (bz (eQ 3 sY.nd) (bz (eQ 4 sY.nd) ig))) (jw (bJ aX (bJ aX jr)))
  (aD (Im (pG (Ig (kI (ul (cJ dz (by rfl) (cT B) (by kernel_rfl) (bY (qw 4) (bY (gf (v:=.ty "list") (u:=.type "list") rfl (lZ B) (by kernel_rfl) rfl) gK)))) (fun _=>rfl)) (mq (PE.imp (pJ mZ (by rfl) (lZ B) (by kernel_rfl) (ak (qw 4) aq)) (wB xx))) (qw 4)) (pD (pv 2) (qI (qw 3)) (set_dict (aN hr)))))))
  (aD (ou (pv 2)))))⟩
theorem Kq (F:cQ K mg "emptied" sX ["program", "boxes"]):Af P w K mg base:=
 F.ok (k:=0) Kl fun f cdv A outer s H E hr=>⟨_,fun _ _=>rfl,(aD (bw (oW ["name", "size", "rank"] ["boxes"] [1] rfl (yt (aH sX)) (jx (qI (qw 0))) (fun _ _ _ _=>(ju rfl (bz (eQ 0 (show (["name", "size", "rank", "boxes"]:List Str).Nodup from by decide +kernel)) (bz (eQ 1 (show (["name", "size", "rank", "boxes"]:List Str).Nodup from by decide +kernel)) (bz (eQ 2 (show (["name", "size", "rank", "boxes"]:List Str).Nodup from by decide +kernel)) ig))))) (jw (bJ aX (bJ aX (bJ aX jr)))) (fun _ _ _ _=>jd) (fun _ _ _ _=>(gA (aN hr) (qw 3) (qw 0) (fun _ _=>rfl))))))⟩
theorem yd (F:pM K acs "__init__" "Plan.__init__" jK ["self", "program"]) (ac4:yx P w K mg base):nY P w K mg base acs "__init__" 82 ["self", "program"] (bT K 2 fG):=
 F.ok (k:=81) cP fun f cdv A outer s H E hr=>⟨_,fun _ _=>rfl,(az (dR 2 cP.nd (bW ac4 (hr.mono (by omega)) rfl (ak (qw 1) aq) (au aP)))
  (az (dR 3 cP.nd (W6 (by exact hkx)))
  (az (iV aaQ rfl (Il rfl (yw B) (ak (qw 2) aq)) (ju rfl (bz (eQ 4 cP.nd) (bz (eQ 5 cP.nd) ig))) (jw (bJ aX (bJ aX jr)))
  (aD (oG (ie (oV aaR aa1 aa2 iQ (YB (by exact hkx) (Fi PySem.F.slot_dict_setdefault PySem.F.type_dict_setdefault (Mp (aN hr)) (pv 3) (ak (Up (qw 5) Ud (Ue aM)) (ak (dh aq) aq)))) (ak (qw 4) aq))))))
  (az (dR 6 cP.nd Aa)
  (az (iV aaQ rfl (jx (qI (qw 1))) (ju rfl (bz (eQ 7 cP.nd) (bz (eQ 8 cP.nd) (bz (eQ 9 cP.nd) (bz (eQ 10 cP.nd) ig))))) (jw (bJ aX (bJ aX (bJ aX (bJ aX jr)))))
  (aD (Im (pG (oW ["param", "known"] [] [] rfl (yt (aH jK)) (jx (qw 9)) (fun _ _ _ _=>(ju rfl (bz (eQ 0 (show (["param", "known"]:List Str).Nodup from by decide +kernel)) (bz (eQ 1 (show (["param", "known"]:List Str).Nodup from by decide +kernel)) ig)))) (jw (bJ aX (bJ aX jr))) (fun _ _ _ _=>jd) (fun _ _ _ _=>(qw 0))) (pD (pv 6) (qw 7) (set_dict (aN hr)))))))
  (az (iK acl (aco _ (.head _)) (qw 0) (qw 2))
  (az (iK acl (aco _ (mI 1 rfl)) (qw 0) (W7 (qw 3)))
  (aD (iK acl (aco _ (mI 2 rfl)) (qw 0) (qw 6))))))))))⟩
theorem Ea (F:pM K acs "body" "Plan.body" rE ["self", "name"]):vL P w K mg base acs:=
 F.ok (k:=0) DW fun f cdv A outer s H E hr=>⟨_,fun _ _=>rfl,(aD (bw (PE.imp (pJ mZ (by rfl) (lZ B) (by kernel_rfl) (ak (RV (by exact hkx) (Fi PySem.F.slot_dict_get PySem.F.type_dict_get (Ib (aN hr)) (gq acl (aco _ (mI 1 rfl)) (qw 0)) (ak (cM (ak (qw 1) (ak Iu (ak aM aq)))) (ak (dh aq) aq)))) aq)) (wB xx))))⟩
theorem Ai (F:pM K acn "lay" "Running.lay" lL ["self", "numbers"]):j9 P w K mg base acn:=
 F.ok (k:=0) Ae fun f cdv A outer s H E hr=>⟨_,fun _ _=>rfl,(aD (Ut (ie (oV aaR PySem.F.slot_list_extend PySem.F.type_list_extend zK (gq aci (acj _ (mI 6 rfl)) (qw 0)) (ak (oW ["k"] [] [] rfl (yt (aH lL)) (W2 rfl (Ko B) (ak (qw 1) aq)) (fun _ _ _ _=>(eQ 0 (show (["k"]:List Str).Nodup from by decide +kernel))) aX (fun _ _ _ _=>jd) (fun _ _ _ _=>(cM (ak (qw 0) (ak aM aq))))) aq)))))⟩
theorem vA (F:pM K acn "lay_body" "Running.lay_body" j5 ["self", "name"]) (acV:vL P w K mg base acs) (acp:j9 P w K mg base acn):nP P w K mg base acn:=
 F.ok (k:=1) nM fun f cdv A outer s H E hr=>⟨_,fun _ _=>rfl,(az (dR 2 nM.nd (iY acl acV (hr.mono (by omega)) (gq aci (acj _ (.head _)) (qw 0)) (ak (qw 1) aq) (fV (au aP))))
  (az (bQ (kI (qw 2) (fun _=>rfl))
  (aD (oG (ie (oV aaR aa1 aa2 iQ (gq aci (acj _ (mI 6 rfl)) (qw 0)) (ak (cM (ak (tO (qw 2) (J9 aM) (fun _ _=>rfl)) (ak aM aq))) aq)))))
  bD)
  (aD (fH (iY aci acp (hr.mono (by omega)) (qw 0) (ak (qw 2) aq) (fV (au aP)))))))⟩
theorem vB (F:pM K acn "__init__" "Running.__init__" j4 ["self", "program", "values", "budget"]) (acJ:yc P w K mg base acs) (acC:nP P w K mg base acn) (ada:Dq P w K mg base):nY P w K mg base acn "__init__" 84 ["self", "program", "values", "budget"] (bT K 4 eX):=
 F.ok (k:=83) vm fun f cdv A outer s H E hr=>⟨_,fun _ _=>rfl,(az (iK aci (acj _ (.head _)) (qw 0) (RP acl acJ (hr.mono (by omega)) rfl (ak (qw 1) aq) (fV (au aP))))
  (az (iK aci (acj _ (mI 1 rfl)) (qw 0) (mq (bW ada (hr.mono (by omega)) rfl (ak (qw 1) (ak (qw 2) aq)) (au (au aP)))))
  (az (iK aci (acj _ (mI 2 rfl)) (qw 0) (mq (dh (ak (mq Aa) aq))))
  (az (iK aci (acj _ (mI 3 rfl)) (qw 0) (qw 3))
  (az (iK aci (acj _ (mI 4 rfl)) (qw 0) aW)
  (az (iK aci (acj _ (mI 5 rfl)) (qw 0) (mq (dh aq)))
  (az (iK aci (acj _ (mI 6 rfl)) (qw 0) (mq (dh aq)))
  (aD (fH (iY aci acC (hr.mono (by omega)) (qw 0) (ak aW aq) (fV (au aP))))))))))))⟩
theorem BR (F:pM K acs "block" "Plan.block" pY ["self", "k", "which"]):oM P w K mg base acs:=
 F.ok (k:=0) BJ fun f cdv A outer s H E hr=>⟨_,fun _ _=>rfl,(aD (bw (PE.imp (pJ mZ (by rfl) (lZ B) (by kernel_rfl) (ak (RV (by exact hkx) (Fi PySem.F.slot_dict_get PySem.F.type_dict_get (Ib (aN hr)) (gq acl (aco _ (mI 1 rfl)) (qw 0)) (ak (cM (ak (qI (tO (gq acl (aco _ (.head _)) (qw 0)) (qw 1) (fun _ _=>rfl))) (ak (qw 1) (ak (qw 2) aq)))) (ak (dh aq) aq)))) aq)) (wB xx))))⟩
theorem GC (F:pM K acs "row" "Plan.row" tZ ["self", "k"]):wN P w K mg base acs:=
 F.ok (k:=0) Gw fun f cdv A outer s H E hr=>⟨_,fun _ _=>rfl,(aD (bw (qI (tO (gq acl (aco _ (.head _)) (qw 0)) (qw 1) (fun _ _=>rfl)))))⟩
theorem zc (F:pM K acn "give" "Running.give" nH ["self", "name", "value"]):rQ P w K mg base acn:=
 F.ok (k:=0) rK fun f cdv A outer s H E hr=>⟨_,fun _ _=>rfl,(az (dR 3 rK.nd (Ig (ZW (aN hr) (qw 1) (tO (gq aci (acj _ (mI 2 rfl)) (qw 0)) (J9 aM) (fun _ _=>rfl)) (by with_unfolding_all rfl)) (tO (gq aci (acj _ (mI 2 rfl)) (qw 0)) (J9 aM) (fun _ _=>rfl)) (gq aci (acj _ (mI 1 rfl)) (qw 0))))
  (az (qK (pG (qw 2) (pD (qw 3) (qw 1) (set_dict (aN hr)))))
  (aD (bw (cM (ak (qw 1) (ak aM (ak (qw 2) aq))))))))⟩
theorem ye (F:pM K acn "spend" "Running.spend" mK ["self"]):ql P w K mg base acn:=
 F.ok (k:=0) xZ fun f cdv A outer s H E hr=>⟨_,fun _ _=>rfl,(az (bQ (bU JK FZ (gq aci (acj _ (mI 3 rfl)) (qw 0)) aM (aZ _))
  (az (iK aci (acj _ (mI 4 rfl)) (qw 0) aW)
  (az (Uu (ie (Lr aaR PySem.F.slot_list_clear PySem.F.type_list_clear Pk (gq aci (acj _ (mI 6 rfl)) (qw 0)))))
  (aD (bw (qc uH dM)))))
  bD)
  (az (iK aci (acj _ (mI 3 rfl)) (qw 0) (cu pH mR (gq aci (acj _ (mI 3 rfl)) (qw 0)) aM))
  (aD (bw (qc uH dM)))))⟩
theorem yf (F:pM K acn "value" "Running.value" mJ ["self", "expression"]) (acy:Hw P w K mg base):lU P w K mg base acn:=
 F.ok (k:=41) qi fun f cdv A outer s H E hr=>⟨_,fun _ _=>rfl,(az (dR 2 qi.nd (W9 (pJ Fj (by rfl) (Xb B) (by kernel_rfl) (ak (gq aci (acj _ (mI 1 rfl)) (qw 0)) aq))))
  (az (Us (ie (T4 (pv 2) (tO (gq aci (acj _ (mI 2 rfl)) (qw 0)) (J9 aM) (fun _ _=>rfl)) ⟨rfl,rfl,rfl,rfl⟩)))
  (aD (bw (Gh (bW acy (hr.mono (by omega)) rfl (ak (qw 1) (ak (qw 2) aq)) (au (au aP))))))))⟩
theorem zf (F:pM K acn "look" "Running.look" nJ ["self", "k", "row"]) (acv:oM P w K mg base acs) (acp:j9 P w K mg base acn) (acK:ql P w K mg base acn) (acq:lU P w K mg base acn):rR P w K mg base acn:=
 F.ok (k:=42) yZ fun f cdv A outer s H E hr=>⟨_,fun _ _=>rfl,(aD (bQ (PW.pt (Fx (bU (wy hr) wz (iY aci acq (hr.mono (by omega)) (qw 0) (ak (qI (qw 2)) aq) (fV (au aP))) aM (aZ _)) (Bk (kI (M4 aci acK (hr.mono (by omega)) (qw 0) rfl) (fun _=>rfl)))))
  (az (oG (ie (oV aaR aa1 aa2 iQ (gq aci (acj _ (mI 6 rfl)) (qw 0)) (ak (cM (ak (qw 1) (ak aM aq))) aq))))
  (aD (fH (iY aci acp (hr.mono (by omega)) (qw 0) (ak (iY acl acv (hr.mono (by omega)) (gq aci (acj _ (.head _)) (qw 0)) (ak (qw 1) (ak aM aq)) (fV (au (au aP)))) aq) (fV (au aP))))))
  bD))⟩
theorem zg (F:pM K acn "note" "Running.note" nG ["self", "k", "time", "events"]):mO P w K mg base acn:=
 F.ok (k:=0) yX fun f cdv A outer s H E hr=>⟨_,fun _ _=>rfl,(aD (oG (ie (oV aaR aa1 aa2 iQ (gq aci (acj _ (mI 5 rfl)) (qw 0)) (ak (cM (ak (qw 1) (ak (qw 2) (ak (qw 3) aq)))) aq)))))⟩
theorem yg (F:pM K acn "begin" "Running.begin" mL ["self", "k"]) (acv:oM P w K mg base acs) (acY:wN P w K mg base acs) (acN:rQ P w K mg base acn) (acp:j9 P w K mg base acn) (acO:rR P w K mg base acn) (acr:mO P w K mg base acn) (acq:lU P w K mg base acn):qm P w K mg base acn:=
 F.ok (k:=43) qj fun f cdv A outer s H E hr=>⟨_,fun _ _=>rfl,(az (dR 2 qj.nd (iY acl acY (hr.mono (by omega)) (gq aci (acj _ (.head _)) (qw 0)) (ak (qw 1) aq) (fV (au aP))))
  (az (fH (iY aci acr (hr.mono (by omega)) (qw 0) (ak (qw 1) (ak aM (ak (mq (dh aq)) aq))) (fV (au (au (au aP))))))
  (aD (bQ (bU (fP hr) fQ (qI (qw 2)) aW (aZ _))
  (aD (fH (iY aci acp (hr.mono (by omega)) (qw 0) (ak (iY acl acv (hr.mono (by omega)) (gq aci (acj _ (.head _)) (qw 0)) (ak (qw 1) (ak (Ig (bU (fP hr) fQ (iY aci acq (hr.mono (by omega)) (qw 0) (ak (qI (qw 2)) aq) (fV (au aP))) aM (aZ _)) aM aM) aq)) (fV (au (au aP)))) aq) (fV (au aP)))))
  (aD (bQ (bU (fP hr) fQ (qI (qw 2)) aW (aZ _))
  (aD (fH (iY aci acO (hr.mono (by omega)) (qw 0) (ak (qw 1) (ak (qw 2) aq)) (fV (au (au aP))))))
  (aD (bQ (bU (fP hr) fQ (qI (qw 2)) aW (aZ _))
  (aD uq)
  (aD (bQ (bU (fP hr) fQ (qI (qw 2)) aW (aZ _))
  (aD uq)
  (aD (fH (iY aci acr (hr.mono (by omega)) (qw 0) (ak (qw 1) (ak aM (ak (mq (dh (ak (iY aci acN (hr.mono (by omega)) (qw 0) (ak (qI (qw 2)) (ak (iY aci acq (hr.mono (by omega)) (qw 0) (ak (qI (qw 2)) aq) (fV (au aP))) aq)) (fV (au (au aP)))) aq))) aq))) (fV (au (au (au aP)))))))))))))))))⟩
theorem zj (F:pM K acn "step" "Running.step" nF ["self"]) (acL:qm P w K mg base acn) (acr:mO P w K mg base acn):rT P w K mg base acn:=
 F.ok (k:=44) rJ fun f cdv A outer s H E hr=>⟨_,fun _ _=>rfl,(az (dR 1 rJ.nd (Yz (Lr aaR PySem.F.slot_list_pop PySem.F.type_list_pop Wi (gq aci (acj _ (mI 6 rfl)) (qw 0)))))
  (aD (bQ (bU (fP hr) fQ (qI (qw 1)) aM (aZ _))
  (aD (fH (iY aci acL (hr.mono (by omega)) (qw 0) (ak (qI (qw 1)) aq) (fV (au aP)))))
  (aD (bQ (bU (fP hr) fQ (qI (qw 1)) aM (aZ _))
  (aD uq)
  (aD (fH (iY aci acr (hr.mono (by omega)) (qw 0) (ak (qI (qw 1)) (ak (qI (qw 1)) (ak (mq (dh aq)) aq))) (fV (au (au (au aP))))))))))))⟩
theorem Aj (F:cQ K mg "gone_through" oJ ["program", "values", "budget"]) (acD:vz P w K mg base acn) (acP:rT P w K mg base acn) (acQ:tB P w K mg base):nQ P w K mg base:=
 F.ok (k:=85) sZ fun f cdv A outer s H E hr=>⟨_,fun _ _=>rfl,(az (fH (Gh (bW acQ (hr.mono (by omega)) rfl (ak (qw 0) (ak (qw 1) aq)) (au (au aP)))))
  (az (dR 3 sZ.nd (RP aci acD (hr.mono (by omega)) rfl (ak (qw 0) (ak (qw 1) (ak (qw 2) aq))) (fV (au (au (au aP))))))
  (az (Qj 1000 aaQ (YC (gq aci (acj _ (mI 6 rfl)) (qw 3)) (fun _=>rfl))
  (aD (fH (M4 aci acP (hr.mono (by omega)) (qw 3) rfl))))
  (aD (ou (pv 3))))))⟩
theorem GD (F:cQ K mg "record_of" oZ ["moments"]):wO P w K mg base:=
 F.ok (k:=0) lA fun f cdv A outer s H E hr=>⟨_,fun _ _=>rfl,(az (dR 1 lA.nd (dh aq))
  (az (iV aaQ rfl (jx (Gr (qw 0))) (ju rfl (bz (w6 (i:=2) lA.nd rfl (Or.inr rfl)) (bz (eQ 3 lA.nd) (bz (eQ 4 lA.nd) ig)))) (jw (bJ aX (bJ aX (bJ aX jr))))
  (aD (Gq (pv 1) (oW ["name", "place", "value"] ["row"] [2] rfl (yt (aH oZ)) (jx (Gr (qw 4))) (fun _ _ _ _=>(ju rfl (bz (eQ 0 (show (["name", "place", "value", "row"]:List Str).Nodup from by decide +kernel)) (bz (eQ 1 (show (["name", "place", "value", "row"]:List Str).Nodup from by decide +kernel)) (bz (eQ 2 (show (["name", "place", "value", "row"]:List Str).Nodup from by decide +kernel)) ig))))) (jw (bJ aX (bJ aX (bJ aX jr)))) (fun _ _ _ _=>jd) (fun _ _ _ _=>(cM (ak (qw 3) (ak (qw 0) (ak (qw 1) (ak (qw 2) aq))))))))))
  (aD (ou (pv 1)))))⟩
theorem Xc (F:cQ K mg "run" Kh ["program", "values", "budget"]) (ac7:Af P w K mg base) (acu:nQ P w K mg base) (acZ:wO P w K mg base):Ni P w K mg base:=
 F.ok (k:=86) Nf fun f cdv A outer s H E hr=>⟨_,fun _ _=>rfl,(az (dR 3 Nf.nd (bW acu (hr.mono (by omega)) rfl (ak (qw 0) (ak (qw 1) (ak (qw 2) aq))) (au (au (au aP)))))
  (aD (bw (cM (ak (gq aci (acj _ (mI 4 rfl)) (qw 3)) (ak (bW acZ (hr.mono (by omega)) rfl (ak (gq aci (acj _ (mI 5 rfl)) (qw 3)) aq) (au aP)) (ak (bW ac7 (hr.mono (by omega)) rfl (ak (qw 0) (ak (gq aci (acj _ (mI 1 rfl)) (qw 3)) aq)) (au (au aP))) aq)))))))⟩
theorem Np (F:cQ K mg "traced" yW ["program", "values", "budget"]) (acu:nQ P w K mg base):Dr P w K mg base:=
 F.ok (k:=86) Ng fun f cdv A outer s H E hr=>⟨_,fun _ _=>rfl,(aD (bw (gq aci (acj _ (mI 5 rfl)) (bW acu (hr.mono (by omega)) rfl (ak (qw 0) (ak (qw 1) (ak (qw 2) aq))) (au (au (au aP)))))))⟩
theorem GJ (F:cQ K mg "_law_cell" tV ["_law_script", "_law_k"]):rW P w K mg base:=
 F.ok (k:=0) rG fun f cdv A outer s H E hr=>⟨_,fun _ _=>rfl,(az (dR 2 rG.nd (cu dZ d7 (cu dZ d7 (cu pI mU (qw 1) (qw 1)) (cu pI mU aM (qw 1))) aM))
  (az (bQ (bU JL Ga (Bt (cJ kh (by rfl) (jk B) abp (ak (qw 0) aq))) aM (aZ _))
  (aD (dR 2 rG.nd (cu dZ d7 (cu eE dg (dY (aN hr) (qw 0) (cu eE dg (qw 1) (Bt (cJ kh (by rfl) (jk B) abp (ak (qw 0) aq)))) (fun _ _=>rfl)) aM) (cu pI mU (cu jc gW (qw 1) (Bt (cJ kh (by rfl) (jk B) abp (ak (qw 0) aq)))) aM))))
  bD)
  (aD (bw (cu eE dg (cu dZ d7 (cu pI mU (qw 2) aM) (cu pI mU (cu jc gW (qw 1) (zW (Cz rfl) WT (cJ (Cz rfl) (by rfl) (YD B) (by kernel_rfl) (ak aM (ak (Bt (cJ kh (by rfl) (jk B) abp (ak (qw 0) aq))) aq))))) aM)) aM)))))⟩
theorem BW (F:cQ K mg "_law_number" pW ["_law_cell_here"]):uy P w K mg base:=
 F.ok (k:=0) ut fun f cdv A outer s H E hr=>⟨_,fun _ _=>rfl,(az (dR 1 ut.nd (cu eE dg (qw 0) aM))
  (az (bQ (bU (fK hr) dH (qw 1) aM (aZ _))
  (aD (bw (cu eE dg (cu jc gW (qw 0) aM) aM)))
  bD)
  (az (bQ (bU (fK hr) dH (qw 1) aM (aZ _))
  (aD (bw (cu pH mR (cu pH mR (cu Eu Bq aM aM) aM) (cu eE dg (cu jc gW (qw 0) aM) aM))))
  bD)
  (az (bQ (bU (fK hr) dH (qw 1) aM (aZ _))
  (aD (bw (cu dZ d7 aM (cu eE dg (cu jc gW (qw 0) aM) aM))))
  bD)
  (aD (bw (cu eE dg (cu pI mU (qw 0) aM) (cu Eu Bq aM aM))))))))⟩
theorem Eb {n:Nat} (F:cQ K mg "_law_alike" lu ["_law_got", "_law_due"]) (acx:bV P w K mg base "_law_alike" (0+n) ["_law_got", "_law_due"] (bT K 2 (cB n))):bV P w K mg base "_law_alike" (0+n+1) ["_law_got", "_law_due"] (bT K 2 (cB (n+1))):=
 F.ok (k:=0+n) DQ fun f cdv A outer s H E hr=>⟨_,fun _ _=>rfl,(az (bQ (kI (ZV (cJ Gi (by rfl) (cT B) (by kernel_rfl) (bY (qw 1) (bY (Li (bY (gf (v:=.ty "list") (u:=.type "list") rfl (lZ B) (by kernel_rfl) rfl) (bY (gf (v:=.ty "tuple") (u:=.type "tuple") rfl (BK B) (by kernel_rfl) rfl) gK))) gK)))) (fun _=>rfl))
  (az (bQ (PW.pt (J6 (bU (wy hr) wz (ul (cJ dz (by rfl) (cT B) (by kernel_rfl) (bY (qw 0) (bY (gf (v:=.ty "list") (u:=.type "list") rfl (lZ B) (by kernel_rfl) rfl) gK)))) (ul (cJ dz (by rfl) (cT B) (by kernel_rfl) (bY (qw 1) (bY (gf (v:=.ty "list") (u:=.type "list") rfl (lZ B) (by kernel_rfl) rfl) gK)))) (aZ _)) (Fw (bU (wy hr) wz (ul (cJ dz (by rfl) (cT B) (by kernel_rfl) (bY (qw 0) (bY (gf (v:=.ty "tuple") (u:=.type "tuple") rfl (BK B) (by kernel_rfl) rfl) gK)))) (ul (cJ dz (by rfl) (cT B) (by kernel_rfl) (bY (qw 1) (bY (gf (v:=.ty "tuple") (u:=.type "tuple") rfl (BK B) (by kernel_rfl) rfl) gK)))) (aZ _)))))
  (aD (bw (qc uH dM)))
  bD)
  (aD (bw (uR (uQ (fP hr) fQ (qL (jk B) (qw 0)) (qL (jk B) (qw 1)) (aZ _)) (Bl (zW (uY rfl) My (cJ (uY rfl) (by rfl) (RX B) (by kernel_rfl) (ak (oW ["_law_k"] ["_law_got", "_law_due"] [0,1] rfl (yt (aH lu)) (pK rfl (uw B) (ak (qL (jk B) (qw 1)) aq)) (fun _ _ _ _=>(eQ 0 (show (["_law_k", "_law_got", "_law_due"]:List Str).Nodup from by decide +kernel))) aX (fun _ _ _ _=>jd) (fun _ _ _ _=>(bW acx (hr.mono (by omega)) rfl (ak (tO (qw 1) (qw 0) (fun _ _=>rfl)) (ak (tO (qw 2) (qw 0) (fun _ _=>rfl)) aq)) (au (au aP))))) aq))))))))
  bD)
  (az (bQ (kI (ul (cJ dz (by rfl) (cT B) (by kernel_rfl) (bY (qw 1) (bY (gf (v:=.ty "str") (u:=.type "str") rfl (R5 B) (by kernel_rfl) rfl) gK)))) (fun _=>rfl))
  (aD (bw (uR (ul (cJ dz (by rfl) (cT B) (by kernel_rfl) (bY (qw 0) (bY (gf (v:=.ty "str") (u:=.type "str") rfl (R5 B) (by kernel_rfl) rfl) gK)))) (Bl (uQ (fP hr) fQ (qw 0) (qw 1) (aZ _))))))
  bD)
  (az (bQ (bU Lf Ij (qw 1) Iu (aZ _))
  (aD (bw (uQ Lf Ij (qw 0) Iu (aZ _))))
  bD)
  (aD (bw (uR (ul (cJ dz (by rfl) (cT B) (by kernel_rfl) (bY (qw 0) (bY (gf (v:=.ty "int") (u:=.type "int") rfl (RZ B) (by kernel_rfl) rfl) gK)))) (uR (Wv (ul (cJ dz (by rfl) (cT B) (by kernel_rfl) (bY (qw 0) (bY (gf (v:=.ty "bool") (u:=.type "bool") rfl (Nh B) (by kernel_rfl) rfl) gK))))) (Bl (uQ (fP hr) fQ (qw 0) (qw 1) (aZ _))))))))))⟩
theorem uA (acW:cQ K mg "_law_alike" lu ["_law_got", "_law_due"]):∀ n:Nat,bV P w K mg base "_law_alike" (0+n) ["_law_got", "_law_due"] (bT K 2 (cB n))
 | 0=>um acW
 | n+1=>by
  have ih:=uA acW n
  exact Eb B ack acl aco aci acj hkx acW ih
theorem HF (F:cQ K mg "_law_set" vh ["_law_state", "_law_k", "_law_name", "_law_value"]):yz P w K mg base:=
 F.ok (k:=0) yu fun f cdv A outer s H E hr=>⟨_,fun _ _=>rfl,(az (dR 3 yu.nd (cu eE dg (qw 3) (cu Eu Bq aM aM)))
  (az (oG (ie (oV aaR aa1 aa2 iQ (gA (aN hr) (qw 0) aW (fun _ _=>rfl)) (ak (@cM _ _ _ _ _ (@ak _ _ _ _ _ (qw 1) (@ak _ _ _ _ _ aM (@lX _ _ _ _ _ _ (@dh _ _ _ _ aq) aq) (by rfl)) (by rfl))) aq))))
  (az (oG (ie (oV aaR aa1 aa2 iQ (gA (aN hr) (qw 0) aW (fun _ _=>rfl)) (ak (@cM _ _ _ _ _ (@ak _ _ _ _ _ (qw 1) (@ak _ _ _ _ _ aM (@lX _ _ _ _ _ _ (@dh _ _ _ _ (@dF _ _ _ _ _ _ _ (@cM _ _ _ _ _ (@ak _ _ _ _ _ (qw 2) (@ak _ _ _ _ _ aM (@ak _ _ _ _ _ (qw 3) aq (by rfl)) (by rfl)) (by rfl))) aq)) aq) (by rfl)) (by rfl))) aq))))
  (aD (qK (pG (qw 3) (pD (gA (aN hr) (qw 0) aW (fun _ _=>rfl)) (qw 2) (set_dict (aN hr)))))))))⟩
theorem GK (F:cQ K mg "_law_look" tW ["_law_state", "_law_k", "_law_truth"]):rY P w K mg base:=
 F.ok (k:=0) Gv fun f cdv A outer s H E hr=>⟨_,fun _ _=>rfl,(az (oG (ie (oV aaR aa1 aa2 iQ (gA (aN hr) (qw 0) aW (fun _ _=>rfl)) (ak (@cM _ _ _ _ _ (@ak _ _ _ _ _ (qw 1) (@ak _ _ _ _ _ aM (@lX _ _ _ _ _ _ (@dh _ _ _ _ aq) aq) (by rfl)) (by rfl))) aq))))
  (az (bQ (wg (kI (qw 2) (fun _=>rfl)))
  (aD (bw (qc uH dM)))
  bD)
  (az (bQ (bU (fP hr) fQ (gA (aN hr) (qw 0) aW (fun _ _=>rfl)) aM (aZ _))
  (az (qK (pG aW (pD (qw 0) aW (set_dict (aN hr)))))
  (aD (bw (qc uH dM))))
  bD)
  (az (qK (pG (cu pH mR (gA (aN hr) (qw 0) aW (fun _ _=>rfl)) aM) (pD (qw 0) aW (set_dict (aN hr)))))
  (aD (bw (qc uH dM)))))))⟩
theorem Ec (F:cQ K mg "_law_shape" rD ["_law_cell_here", "_law_names"]):vM P w K mg base:=
 F.ok (k:=0) DR fun f cdv A outer s H E hr=>⟨_,fun _ _=>rfl,(aD (bw (RN (mV aW (cu eE dg (qw 0) aM) (mV aW (tO (qw 1) (cu eE dg (cu Ba yN (qw 0) aM) aM) (fun _ _=>rfl)) (mV aW (cu eE dg (cu Ba yN (qw 0) aM) aM) (mV aW (cu eE dg (cu Ba yN (qw 0) aM) aM) MP)))) rfl rfl (by intro h; cases h) (by decide))))⟩
theorem BX (F:cQ K mg "_law_shapes" pX ["_law_script", "_law_turns", "_law_names"]) (acw:rW P w K mg base) (acX:vM P w K mg base):uz P w K mg base:=
 F.ok (k:=1) ik fun f cdv A outer s H E hr=>⟨_,fun _ _=>rfl,(az (dR 3 ik.nd (dh aq))
  (az (dR 4 ik.nd aM)
  (az (iV aaQ rfl (pK rfl (uw B) (ak (qw 1) aq)) (eQ 5 ik.nd) aX
  (az (dR 6 ik.nd (bW acX (hr.mono (by omega)) rfl (ak (bW acw (hr.mono (by omega)) rfl (ak (qw 0) (ak (cu dZ d7 aM (qw 5)) aq)) (au (au aP))) (ak (qw 2) aq)) (au (au aP))))
  (aD (bQ (bU Yo Wz (qw 4) (dY (aN hr) (dh (ak aM (ak aM (ak aM (ak aM aq))))) (dY (aN hr) (qw 6) aW (fun _ _=>rfl)) (fun _ _=>rfl)) (aZ _))
  (az (dR 4 ik.nd (cu pH mR (qw 4) (dY (aN hr) (dh (ak aM (ak aM (ak aM (ak aM aq))))) (dY (aN hr) (qw 6) aW (fun _ _=>rfl)) (fun _ _=>rfl))))
  (aD (Bw (pv 3) (qw 6))))
  bD))))
  (aD (ou (pv 3))))))⟩
theorem Ak (F:cQ K mg "_law_rows_of" oK ["_law_shape_here", "_law_names"]):tD P w K mg base:=
 F.ok (k:=0) gC fun f cdv A outer s H E hr=>⟨_,fun _ _=>rfl,(@az _ _ _ _ _ (@dR _ 2 _ _ _ _ _ gC.nd (dY (aN hr) (qw 0) aW (fun _ _=>rfl)) (by rfl) (by exact Or.inl rfl) (by rfl) (by first | exact .inl rfl | exact .inr rfl | assumption))
  (@az _ _ _ _ _ (@dR _ 3 _ _ _ _ _ gC.nd (dY (aN hr) (qw 1) aM (fun _ _=>rfl)) (by rfl) (by exact Or.inl rfl) (by rfl) (by first | exact .inl rfl | exact .inr rfl | assumption))
  (@az _ _ _ _ _ (@dR _ 4 _ _ _ _ _ gC.nd (dY (aN hr) (qw 1) aM (fun _ _=>rfl)) (by rfl) (by exact Or.inl rfl) (by rfl) (by first | exact .inl rfl | exact .inr rfl | assumption))
  (@az _ _ _ _ _ (@bQ _ _ _ _ _ _ _ _ (bU (fK hr) dH (dY (aN hr) (qw 0) aW (fun _ _=>rfl)) aM (aZ _))
  (@aD _ _ _ (@bw _ _ _ _ (@dh _ _ _ _ (@dF _ _ _ _ _ _ _ (@cM _ _ _ _ _ (@ak _ _ _ _ _ aW (@dF _ _ _ _ _ _ _ (@cM _ _ _ _ _ (@ak _ _ _ _ _ aW (@dF _ _ _ _ _ _ _ (@cM _ _ _ _ _ (@ak _ _ _ _ _ aW (@ak _ _ _ _ _ (dY (aN hr) (qw 0) aW (fun _ _=>rfl)) aq (by rfl)) (by rfl))) (@dF _ _ _ _ _ _ _ (@cM _ _ _ _ _ (@ak _ _ _ _ _ aW (@ak _ _ _ _ _ (qw 2) aq (by rfl)) (by rfl))) aq)) (by rfl))) (@lX _ _ _ _ _ _ (@dh _ _ _ _ aq) aq)) (by rfl))) aq)))) bD)
  (@az _ _ _ _ _ (@dR _ 5 _ _ _ _ _ gC.nd (@dh _ _ _ _ (@dF _ _ _ _ _ _ _ (@cM _ _ _ _ _ (@ak _ _ _ _ _ aW (@ak _ _ _ _ _ (qw 2) (@dF _ _ _ _ _ _ _ (@cM _ _ _ _ _ (@ak _ _ _ _ _ aW (@dF _ _ _ _ _ _ _ (@cM _ _ _ _ _ (@ak _ _ _ _ _ aW (@ak _ _ _ _ _ (qw 2) aq (by rfl)) (by rfl))) (@dF _ _ _ _ _ _ _ (@cM _ _ _ _ _ (@ak _ _ _ _ _ aW (@ak _ _ _ _ _ aM aq (by rfl)) (by rfl))) aq)) (by rfl))) aq) (by rfl)) (by rfl))) aq)) (by rfl) (by exact Or.inl rfl) (by rfl) (by first | exact .inl rfl | exact .inr rfl | assumption))
  (@az _ _ _ _ _ (@Bw _ _ _ _ _ _ _ _ (pv 5) (@cM _ _ _ _ _ (@ak _ _ _ _ _ aW (@ak _ _ _ _ _ (qw 3) (@dF _ _ _ _ _ _ _ (@cM _ _ _ _ _ (@ak _ _ _ _ _ aW (@dF _ _ _ _ _ _ _ (@cM _ _ _ _ _ (@ak _ _ _ _ _ aW (@dF _ _ _ _ _ _ _ (@cM _ _ _ _ _ (@ak _ _ _ _ _ aW (@ak _ _ _ _ _ (qw 3) aq (by rfl)) (by rfl))) (@dF _ _ _ _ _ _ _ (@cM _ _ _ _ _ (@ak _ _ _ _ _ aW (@ak _ _ _ _ _ aM aq (by rfl)) (by rfl))) aq)) (by rfl))) (@dF _ _ _ _ _ _ _ (@cM _ _ _ _ _ (@ak _ _ _ _ _ aW (@ak _ _ _ _ _ (dY (aN hr) (qw 0) aW (fun _ _=>rfl)) aq (by rfl)) (by rfl))) aq)) (by rfl))) aq) (by rfl)) (by rfl))) (by rfl) (by rfl) (by rfl) (by rfl) (by rfl))
  (@az _ _ _ _ _ (@bQ _ _ _ _ _ _ _ _ (bU (fK hr) dH (dY (aN hr) (qw 0) aW (fun _ _=>rfl)) aM (aZ _))
  (@az _ _ _ _ _ (@Bw _ _ _ _ _ _ _ _ (pv 5) (@cM _ _ _ _ _ (@ak _ _ _ _ _ aW (@ak _ _ _ _ _ (qw 4) (@dF _ _ _ _ _ _ _ (@cM _ _ _ _ _ (@ak _ _ _ _ _ aW (@ak _ _ _ _ _ (dY (aN hr) (qw 0) aW (fun _ _=>rfl)) aq (by rfl)) (by rfl))) aq) (by rfl)) (by rfl))) (by rfl) (by rfl) (by rfl) (by rfl) (by rfl))
  (@az _ _ _ _ _ (@dR _ 6 _ _ _ _ _ gC.nd (@cM _ _ _ _ _ (@ak _ _ _ _ _ aW (@ak _ _ _ _ _ (qw 4) (@dF _ _ _ _ _ _ _ (@cM _ _ _ _ _ (@ak _ _ _ _ _ aW (@dF _ _ _ _ _ _ _ (@cM _ _ _ _ _ (@ak _ _ _ _ _ aW (@ak _ _ _ _ _ (qw 4) aq (by rfl)) (by rfl))) (@dF _ _ _ _ _ _ _ (@cM _ _ _ _ _ (@ak _ _ _ _ _ aW (@ak _ _ _ _ _ aM aq (by rfl)) (by rfl))) aq)) (by rfl))) aq) (by rfl)) (by rfl))) (by rfl) (by exact Or.inl rfl) (by rfl) (by first | exact .inl rfl | exact .inr rfl | assumption))
  (@aD _ _ _ (@Bw _ _ _ _ _ _ _ _ (pv 5) (@cM _ _ _ _ _ (@ak _ _ _ _ _ aW (@dF _ _ _ _ _ _ _ (@cM _ _ _ _ _ (@ak _ _ _ _ _ aW (@dF _ _ _ _ _ _ _ (@cM _ _ _ _ _ (@ak _ _ _ _ _ aW (@ak _ _ _ _ _ aM aq (by rfl)) (by rfl))) (@dF _ _ _ _ _ _ _ (@cM _ _ _ _ _ (@ak _ _ _ _ _ aW (@ak _ _ _ _ _ (qw 4) aq (by rfl)) (by rfl))) aq)) (by rfl))) (@lX _ _ _ _ _ _ (@dh _ _ _ _ (@ak _ _ _ _ _ (qw 6) aq (by rfl))) aq)) (by rfl))) (by rfl) (by rfl) (by rfl) (by rfl) (by rfl))))) bD)
  (@aD _ _ _ (@bw _ _ _ _ (@dh _ _ _ _ (@dF _ _ _ _ _ _ _ (@cM _ _ _ _ _ (@ak _ _ _ _ _ aW (@dF _ _ _ _ _ _ _ (@cM _ _ _ _ _ (@ak _ _ _ _ _ aW (@ak _ _ _ _ _ (qw 2) aq (by rfl)) (by rfl))) (@ak _ _ _ _ _ (qw 5) aq (by rfl))) (by rfl))) aq)))))))))))⟩
theorem GP (F:cQ K mg "_law_turn" tX ["_law_state", "_law_at", "_law_shape_here", "_law_names"]) (acB:rY P w K mg base) (acH:yz P w K mg base):wQ P w K mg base:=
 F.ok (k:=1) rH fun f cdv A outer s H E hr=>⟨_,fun _ _=>rfl,(az (dR 4 rH.nd (gA (aN hr) (qw 0) aW (fun _ _=>rfl)))
  (az (fH (bW acH (hr.mono (by omega)) rfl (ak (qw 0) (ak (cu dZ d7 (qw 1) aM) (ak (dY (aN hr) (qw 2) aW (fun _ _=>rfl)) (ak (cu pH mR (gA (aN hr) (qw 4) (dY (aN hr) (qw 2) aW (fun _ _=>rfl)) (fun _ _=>rfl)) aM) aq)))) (au (au (au (au aP))))))
  (az (fH (bW acH (hr.mono (by omega)) rfl (ak (qw 0) (ak (cu dZ d7 (qw 1) aM) (ak (dY (aN hr) (qw 3) aM (fun _ _=>rfl)) (ak (cu dZ d7 (cu pI mU (gA (aN hr) (qw 4) (dY (aN hr) (qw 3) aM (fun _ _=>rfl)) (fun _ _=>rfl)) aM) (dY (aN hr) (qw 2) aW (fun _ _=>rfl))) aq)))) (au (au (au (au aP))))))
  (aD (bQ (bU (fK hr) dH (dY (aN hr) (qw 2) aW (fun _ _=>rfl)) aM (aZ _))
  (az (fH (bW acH (hr.mono (by omega)) rfl (ak (qw 0) (ak (cu dZ d7 (qw 1) aM) (ak (dY (aN hr) (qw 3) aM (fun _ _=>rfl)) (ak (dY (aN hr) (qw 2) aW (fun _ _=>rfl)) aq)))) (au (au (au (au aP))))))
  (aD (iV aaQ rfl (pK rfl (uw B) (ak aM aq)) (eQ 5 rH.nd) aX
  (aD (bQ (PW.pt (Fx (bU (fK hr) dH (gA (aN hr) (qw 0) aW (fun _ _=>rfl)) aW (aZ _)) (Bk (kI (bW acB (hr.mono (by omega)) rfl (ak (qw 0) (ak (cu dZ d7 (qw 1) aM) (ak (uQ JL Ga (gA (aN hr) (qw 4) (dY (aN hr) (qw 3) aM (fun _ _=>rfl)) (fun _ _=>rfl)) aM (aZ _)) aq))) (au (au (au aP)))) (fun _=>rfl)))))
  (aD (fH (bW acH (hr.mono (by omega)) rfl (ak (qw 0) (ak (cu dZ d7 (qw 1) aM) (ak (dY (aN hr) (qw 3) aM (fun _ _=>rfl)) (ak (cu pH mR (gA (aN hr) (qw 4) (dY (aN hr) (qw 3) aM (fun _ _=>rfl)) (fun _ _=>rfl)) aM) aq)))) (au (au (au (au aP)))))))
  (aD Ih))))))
  bD)))))⟩
theorem GQ (F:cQ K mg "_law_loop" tY ["_law_state", "_law_at", "_law_shape_here", "_law_names"]) (acB:rY P w K mg base) (ac0:wQ P w K mg base):wR P w K mg base:=
 F.ok (k:=2) lB fun f cdv A outer s H E hr=>⟨_,fun _ _=>rfl,(az (dR 4 lB.nd (gA (aN hr) (qw 0) aW (fun _ _=>rfl)))
  (aD (iV aaQ rfl (pK rfl (uw B) (ak aM aq)) (eQ 5 lB.nd) aX
  (az (dR 6 lB.nd (uQ (M3 hr) Ip (gA (aN hr) (qw 4) (dY (aN hr) (qw 2) aW (fun _ _=>rfl)) (fun _ _=>rfl)) aM (aZ _)))
  (az (bQ (bU (fK hr) dH (dY (aN hr) (qw 2) aW (fun _ _=>rfl)) aM (aZ _))
  (aD (dR 6 lB.nd (uQ Eg zR (dY (aN hr) (qw 2) aW (fun _ _=>rfl)) (gA (aN hr) (qw 4) (dY (aN hr) (qw 2) aW (fun _ _=>rfl)) (fun _ _=>rfl)) (aZ _))))
  bD)
  (az (bQ (PW.pt (J6 (bU (fK hr) dH (gA (aN hr) (qw 0) aW (fun _ _=>rfl)) aW (aZ _)) (Fw (wg (kI (bW acB (hr.mono (by omega)) rfl (ak (qw 0) (ak (qw 1) (ak (qw 6) aq))) (au (au (au aP)))) (fun _=>rfl))))))
  (aD Ih)
  bD)
  (aD (bQ (bU (M3 hr) Ip (dY (aN hr) (qw 2) aW (fun _ _=>rfl)) aM (aZ _))
  (aD (fH (bW ac0 (hr.mono (by omega)) rfl (ak (qw 0) (ak (qw 1) (ak (qw 2) (ak (qw 3) aq)))) (au (au (au (au aP)))))))
  bD))))))))⟩
theorem Xd {f:Addr} {fd:FuncData} (F:sH K "law" "law" ph f fd) (acx:DX P w K mg base) (acw:rW P w K mg base) (ac1:wR P w K mg base) (acS:uy P w K mg base) (acR:tD P w K mg base) (acT:uz P w K mg base) (adx:Ni P w K mg base) (adb:Dr P w K mg base):mD P w K mg base nW 88 f fd ["_law_script"] (bT K 1 Km):=
 sH.okP (k:=87) F dU fun cdv A outer s H E hr=>⟨_,fun _ _=>rfl,(@az _ _ _ _ _ (@dR _ 1 _ _ _ _ _ dU.nd (bW acw (hr.mono (by omega)) rfl (ak (qw 0) (ak aM aq)) (au (au aP))) (by rfl) (by exact Or.inl rfl) (by rfl) (by first | exact .inl rfl | exact .inr rfl | assumption))
  (@az _ _ _ _ _ (@dR _ 2 _ _ _ _ _ dU.nd (@dY _ _ _ _ _ _ (aN hr) (@dh _ _ _ _ (@lX _ _ _ _ _ _ (@dh _ _ _ _ (@ak _ _ _ _ _ aW (@ak _ _ _ _ _ aW (@ak _ _ _ _ _ aW (@ak _ _ _ _ _ aW (@ak _ _ _ _ _ aW aq (by rfl)) (by rfl)) (by rfl)) (by rfl)) (by rfl))) (@lX _ _ _ _ _ _ (@dh _ _ _ _ (@ak _ _ _ _ _ aW (@ak _ _ _ _ _ aW (@ak _ _ _ _ _ aW (@ak _ _ _ _ _ aW (@ak _ _ _ _ _ aW aq (by rfl)) (by rfl)) (by rfl)) (by rfl)) (by rfl))) aq))) (cu eE dg (qw 1) aM) (fun _ _=>rfl)) (by rfl) (by exact Or.inl rfl) (by rfl) (by first | exact .inl rfl | exact .inr rfl | assumption))
  (@az _ _ _ _ _ (@dR _ 3 _ _ _ _ _ dU.nd (bW acT (hr.mono (by omega)) rfl (ak (qw 0) (ak (cu eE dg (cu jc gW (qw 1) aM) aM) (ak (qw 2) aq))) (au (au (au aP)))) (by rfl) (by exact Or.inl rfl) (by rfl) (by first | exact .inl rfl | exact .inr rfl | assumption))
  (@az _ _ _ _ _ (@dR _ 4 _ _ _ _ _ dU.nd (dh aq) (by rfl) (by exact Or.inl rfl) (by rfl) (by first | exact .inl rfl | exact .inr rfl | assumption))
  (@az _ _ _ _ _ (@iV _ _ _ _ _ _ _ _ _ aaQ rfl (pK rfl (uw B) (ak aM aq)) (w6 (i:=5) dU.nd rfl (Or.inr rfl)) aX
  (@az _ _ _ _ _ (@dR _ 6 _ _ _ _ _ dU.nd (bW acw (hr.mono (by omega)) rfl (ak (qw 0) (ak (cu dZ d7 aM (qw 5)) aq)) (au (au aP))) (by rfl) (by exact Or.inl rfl) (by rfl) (by first | exact .inl rfl | exact .inr rfl | assumption))
  (@aD _ _ _ (Bw (pv 4) (dY (aN hr) (dh (ak (cu eE dg (cu jc gW (qw 6) aM) aM) (ak (cu eE dg (cu jc gW (qw 6) aM) aM) (ak (bW acS (hr.mono (by omega)) rfl (ak (cu jc gW (qw 6) aM) aq) (au aP)) aq)))) (cu eE dg (qw 6) aM) (fun _ _=>rfl))))) (by intro _; rfl))
  (@az _ _ _ _ _ (@dR _ 7 _ _ _ _ _ dU.nd (cu eE dg (cu jc gW (qw 1) aM) aM) (by rfl) (by exact Or.inl rfl) (by rfl) (by first | exact .inl rfl | exact .inr rfl | assumption))
  (@az _ _ _ _ _ (Mq (i:=8) dU.nd rfl (Or.inr rfl) (@mq _ _ _ (RN (mV aW (@mq _ _ _ (dh aq)) (mV aW aW (mV aW (qw 7) (mV aW (@mq _ _ _ Aa) MP)))) rfl rfl (by intro h; cases h) (by decide))))
  (@az _ _ _ _ _ (@iV _ _ _ _ _ _ _ _ _ aaQ rfl (Bv rfl (Kp B) (ak (qw 2) (ak (qw 4) aq))) (ju rfl (bz (eQ 9 dU.nd) (bz (eQ 10 dU.nd) ig))) (jw (bJ aX (bJ aX jr)))
  (@aD _ _ _ (qK (pG (qw 10) (pD (gA (aN hr) (qw 8) aW (fun _ _=>rfl)) (qw 9) (set_dict (aN hr)))))) (by intro _; rfl))
  (@az _ _ _ _ _ (@dR _ 11 _ _ _ _ _ dU.nd (dh aq) (by rfl) (by exact Or.inl rfl) (by rfl) (by first | exact .inl rfl | exact .inr rfl | assumption))
  (@az _ _ _ _ _ (@dR _ 12 _ _ _ _ _ dU.nd aM (by rfl) (by exact Or.inl rfl) (by rfl) (by first | exact .inl rfl | exact .inr rfl | assumption))
  (@az _ _ _ _ _ (@iV _ _ _ _ _ _ _ _ _ aaQ rfl (jx (qw 3)) (eQ 13 dU.nd) aX
  (@az _ _ _ _ _ (@bQ _ _ _ _ _ _ _ _ (bU (fK hr) dH (gA (aN hr) (qw 8) aW (fun _ _=>rfl)) aW (aZ _))
  (@az _ _ _ _ _ (fH (bW ac1 (hr.mono (by omega)) rfl (ak (qw 8) (ak (qw 12) (ak (qw 13) (ak (qw 2) aq)))) (au (au (au (au aP))))))
  (@aD _ _ _ (@dR _ 14 _ _ _ _ _ dU.nd (@dh _ _ _ _ (@dF _ _ _ _ _ _ _ (@cM _ _ _ _ _ (@ak _ _ _ _ _ (qw 12) (@ak _ _ _ _ _ aM (@lX _ _ _ _ _ _ (@dh _ _ _ _ aq) aq) (by rfl)) (by rfl))) aq)) (by rfl) (by exact Or.inl rfl) (by rfl) (by first | exact .inl rfl | exact .inr rfl | assumption)))) bD)
  (@az _ _ _ _ _ (@dR _ 11 _ _ _ _ _ dU.nd (cu dZ d7 (qw 11) (bW acR (hr.mono (by omega)) rfl (ak (qw 13) (ak (qw 2) aq)) (au (au aP)))) (by rfl) (by exact Or.inl rfl) (by rfl) (by first | exact .inl rfl | exact .inr rfl | assumption))
  (@aD _ _ _ (@dR _ 12 _ _ _ _ _ dU.nd (cu dZ d7 (qw 12) (dY (aN hr) (dh (ak aM (ak aM (ak aM (ak aM aq))))) (dY (aN hr) (qw 13) aW (fun _ _=>rfl)) (fun _ _=>rfl))) (by rfl) (by exact Or.inl rfl) (by rfl) (by first | exact .inl rfl | exact .inr rfl | assumption))))) (by intro _; rfl))
  (@az _ _ _ _ _ (@bQ _ _ _ _ _ _ _ _ (PW.pt (Fx (bU (fK hr) dH (gA (aN hr) (qw 8) aW (fun _ _=>rfl)) aW (aZ _)) (Bk (bU JL Ga (Bt (cJ kh (by rfl) (jk B) abp (ak (qw 3) aq))) aM (aZ _)))))
  (@aD _ _ _ (qK (pG (cu dZ d7 (Gr (gA (aN hr) (qw 8) aW (fun _ _=>rfl))) (qw 14)) (pD (qw 8) aW (set_dict (aN hr)))))) bD)
  (@az _ _ _ _ _ (@dR _ 15 _ _ _ _ _ dU.nd (dh aq) (by rfl) (by exact Or.inl rfl) (by rfl) (by first | exact .inl rfl | exact .inr rfl | assumption))
  (@az _ _ _ _ _ (Um aaQ rfl (Ul (gA (aN hr) (qw 8) aW (fun _ _=>rfl))) (ju rfl (bz (w6 (i:=5) dU.nd rfl (Or.inr rfl)) (bz (eQ 16 dU.nd) (bz (eQ 17 dU.nd) ig)))) (jw (bJ aX (bJ aX (bJ aX jr))))
  (@aD _ _ _ (Gq (pv 15) (oW ["_law_name", "_law_place", "_law_value"] ["_law_k"] [5] rfl (yt (aH ph)) (jx (qw 17)) (fun _ _ _ _=>(ju rfl (bz (eQ 0 (show (["_law_name", "_law_place", "_law_value", "_law_k"]:List Str).Nodup from by decide +kernel)) (bz (eQ 1 (show (["_law_name", "_law_place", "_law_value", "_law_k"]:List Str).Nodup from by decide +kernel)) (bz (eQ 2 (show (["_law_name", "_law_place", "_law_value", "_law_k"]:List Str).Nodup from by decide +kernel)) ig))))) (jw (bJ aX (bJ aX (bJ aX jr)))) (fun _ _ _ _=>jd) (fun _ _ _ _=>(cM (ak (qw 3) (ak (qw 0) (ak (qw 1) (ak (qw 2) aq))))))))))
  (@az _ _ _ _ _ (@dR _ 18 _ _ _ _ _ dU.nd (cM (ak (gA (aN hr) (qw 8) aW (fun _ _=>rfl)) (ak (qw 15) (ak (oW ["_law_name"] ["_law_state"] [8] rfl (yt (aH ph)) (jx (qw 2)) (fun _ _ _ _=>(eQ 0 (show (["_law_name", "_law_state"]:List Str).Nodup from by decide +kernel))) aX (fun _ _ _ _=>jd) (fun _ _ _ _=>(gA (aN hr) (gA (aN hr) (qw 1) aW (fun _ _=>rfl)) (qw 0) (fun _ _=>rfl)))) aq)))) (by rfl) (by exact Or.inl rfl) (by rfl) (by first | exact .inl rfl | exact .inr rfl | assumption))
  (@az _ _ _ _ _ (@dR _ 19 _ _ _ _ _ dU.nd (@cM _ _ _ _ _ (@ak _ _ _ _ _ (oW ["_law_name"] [] [] rfl (yt (aH ph)) (jx (qw 2)) (fun _ _ _ _=>(eQ 0 (show (["_law_name"]:List Str).Nodup from by decide +kernel))) aX (fun _ _ _ _=>jd) (fun _ _ _ _=>(@cM _ _ _ _ _ (@ak _ _ _ _ _ (qw 0) (@ak _ _ _ _ _ aM (@ak _ _ _ _ _ Iu aq (by rfl)) (by rfl)) (by rfl))))) (@lX _ _ _ _ _ _ (@dh _ _ _ _ aq) (@lX _ _ _ _ _ _ (@dh _ _ _ _ aq) (@ak _ _ _ _ _ (qw 11) aq (by rfl)))) (by rfl))) (by rfl) (by exact Or.inl rfl) (by rfl) (by first | exact .inl rfl | exact .inr rfl | assumption))
  (@az _ _ _ _ _ (@bQ _ _ _ _ _ _ _ _ (WL (wg (kI (M8 acx (hr.mono (by omega)) rfl (ak (bW adx (hr.mono (by omega)) rfl (ak (qw 19) (ak (qw 4) (ak (qw 7) aq))) (au (au (au aP)))) (ak (qw 18) aq)) (au (au aP))) (fun _=>rfl))))
  (@aD _ _ _ (@bw _ _ _ _ (qc uH dM))) bD)
  (@aD _ _ _ (@bw _ _ _ _ (uR (M8 acx (hr.mono (by omega)) rfl (ak (bW adb (hr.mono (by omega)) rfl (ak (qw 19) (ak (qw 4) (ak (qw 7) aq))) (au (au (au aP)))) (ak (gA (aN hr) (qw 8) aW (fun _ _=>rfl)) aq)) (au (au aP))) (Bl (Gh (uQ (fK hr) dH (bW adx (hr.mono (by omega)) rfl (ak (qw 19) (ak (qw 4) (ak (qw 7) aq))) (au (au (au aP)))) (qw 18) (aZ _))))))))))))))))))))))))⟩
end
local macro_rules | `(tactic| walk_at "op")=>`(tactic| first | exact rfl | exact modP_go rfl rfl (by omega) | exact fdivP_go rfl rfl (by omega) (by omega) | exact mulP_gor rfl rfl (by omega) (by omega) | exact mulP_gol rfl rfl (by omega) (by omega) | assumption)
local macro_rules | `(tactic| walk_at "ev")=>`(tactic| first
 | ((with_reducible refine' cO ?h1 ?h2 ?h3 ?h4 ?h5); (case h1=>walk_at "ev"); (case h2=>exact rfl); (case h3=>walk_at "ev"); (case h4=>exact rfl); (case h5=>walk_at "op"))
 | ((with_reducible refine' aB ?h1 ?h2); (case h1=>walk_at "ev"); (case h2=>walk_at "ev"))
 | ((with_reducible refine' cH ?h1 ?h2 ?h3); (case h1=>walk_at "ev"); (case h2=>exact rfl); (case h3=>exact rfl))
 | ((with_reducible refine' cD ?h1); (case h1=>walk_at "ev"))
 | ((with_reducible refine' aC ?h1 ?h2); (case h1=>walk_at "ev"); (case h2=>walk_at "ev"))
 | ((with_reducible refine' bh ?h1 ?h2 ?h3 ?h4 ?h5); (case h1=>walk_at "ev"); (case h2=>exact rfl); (case h3=>exact rfl); (case h4=>exact rfl); (case h5=>walk_at "call"))
 | ((with_reducible refine' uZ ?h1 ?h2 ?h3); (case h1=>walk_at "ev"); (case h2=>exact rfl); (case h3=>walk_at "op"))
 | ((with_reducible refine' fM ?h1 ?h2 ?h3); (case h1=>walk_at "ev"); (case h2=>exact rfl); (case h3=>exact rfl))
 | ((with_reducible refine' wG ?h1); (case h1=>walk_at "ev"))
 | ((with_reducible refine' and_go ?h1 ?h2); (case h1=>walk_at "ev"); (case h2=>walk_at "ev"))
 | ((with_reducible refine' Ka ?h1 ?h2); (case h1=>walk_at "ev"); (case h2=>walk_at "ev"))
 | ((with_reducible refine' Gf ?h1); (case h1=>walk_at "ev"))
 | ((with_reducible refine' eread_go ?h1 ?h2); (case h1=>walk_at "ev"); (case h2=>exact rfl))
 | ((with_reducible refine' wH ?h1 ?h2 ?h3); (case h1=>walk_at "ev"); (case h2=>exact rfl); (case h3=>exact rfl))
 | ((with_reducible refine' kY ?h1 ?h2 ?h3); (case h1=>walk_at "ev"); (case h2=>exact rfl); (case h3=>exact rfl))
 | ((with_reducible refine' newc_go ?h1 ?h2 ?h3 ?h4); (case h1=>walk_at "ev"); (case h2=>exact rfl); (case h3=>exact rfl); (case h4=>exact rfl))
 | ((with_reducible refine' sU ?h1 ?h2 ?h3); (case h1=>walk_at "ev"); (case h2=>exact rfl); (case h3=>exact rfl))
 | ((with_reducible refine' iof_go ?h1 ?h2 ?h3); (case h1=>walk_at "ev"); (case h2=>exact rfl); (case h3=>exact rfl))
 | exact rfl
 | assumption)
local macro_rules | `(tactic| walk_at "call")=>`(tactic| first | assumption | exact rfl)
section
variable [HK]
def Sg (s:Str):Prop:=s = "+" \/ s = "-" \/ s = "*" \/ s = "<" \/ s = "="
def rk (s:Str) (a b:Int):Int:=if s = "+" then (a+b)%(1000000000000:Int) else if s = "-" then (a-b)%(1000000000000:Int) else if s = "*" then a*b%(1000000000000:Int) else if s = "<" then (if a<b then 1 else 0) else (if a=b then 1 else 0)
theorem Xe {c:TF} {f g:EF} {ρ ρ1:Ev} (h:c ρ=some (true,ρ1)):qg c f g ρ=f ρ1:=by unfold qg; rw [h,aaa,ab7 rfl]
theorem Nq {c:TF} {f g:EF} {ρ ρ1:Ev} (h:c ρ=some (false,ρ1)):qg c f g ρ=g ρ1:=by unfold qg; rw [h,aaa,ab8 aaA]
theorem Xf {s:Str} {a b:Int}:0<=rk s a b/\rk s a b<(1000000000000:Int):=by
 unfold rk
 have h1:=aaO (a+b) (b:=(1000000000000:Int)) (by decide)
 have h2:=aaH (a+b) (b:=(1000000000000:Int)) (by decide)
 have h3:=aaO (a-b) (b:=(1000000000000:Int)) (by decide)
 have h4:=aaH (a-b) (b:=(1000000000000:Int)) (by decide)
 have h5:=aaO (a*b) (b:=(1000000000000:Int)) (by decide)
 have h6:=aaH (a*b) (b:=(1000000000000:Int)) (by decide)
 split
 . exact ⟨h1,h2⟩
 . split
   . exact ⟨h3,h4⟩
   . split
     . exact ⟨h5,h6⟩
     . split
       . split<;>decide
       . split<;>decide
theorem pN {f:EF} {a b:Str} {ρ ρ1:Ev} (h:f ρ=some (.sh (.str a),ρ1)) (e:(a==b)=true):tT (aA dO f (eC (.str b))) bB ρ=some (true,ρ1):=zZ (l:=.sh (.bl true)) (cz h rfl (by show some (Lc.sh (.bl (a==b)))=_; rw [e])) rfl
theorem lE {f:EF} {a b:Str} {ρ ρ1:Ev} (h:f ρ=some (.sh (.str a),ρ1)) (e:(a==b)=false):tT (aA dO f (eC (.str b))) bB ρ=some (false,ρ1):=zZ (l:=.sh (.bl false)) (cz h rfl (by show some (Lc.sh (.bl (a==b)))=_; rw [e])) rfl
theorem GR {f:EF} {a b:Int} {ρ ρ1:Ev} (h:f ρ=some (.sh (.int a),ρ1)):tT (aA dO f (eC (.int b))) bB ρ=some (decide (a=b),ρ1):=zZ (l:=.sh (.bl (a==b))) (cz h rfl rfl) (by show some (a==b)=_; rfl)
theorem Uv {s:Str} {a b:Int} {mu:Mu} (hs:Sg s) (ha:0<=a) (ha2:a<(1000000000000:Int)):vq [.str s,.int a,.int b] mu=some (.sh (.int (rk s a b)),mu):=by
 have lt:∀ (f:Int->Int->PV),tT (aA wA (aj 1) (aj 2)) bB ⟨[some (.sh (.str s)),some (.sh (.int a)),some (.sh (.int b))],mu⟩=some (decide (a<b),⟨[some (.sh (.str s)),some (.sh (.int a)),some (.sh (.int b))],mu⟩):=fun _=>rfl
 have eq:tT (aA dO (aj 1) (aj 2)) bB ⟨[some (.sh (.str s)),some (.sh (.int a)),some (.sh (.int b))],mu⟩=some (a==b,⟨[some (.sh (.str s)),some (.sh (.int a)),some (.sh (.int b))],mu⟩):=rfl
 have no:∀ (t:Str) (f g:SF),(s==t)=false->aF (cG (tT (aA dO (aj 0) (eC (.str t))) bB) f bN) g ⟨[some (.sh (.str s)),some (.sh (.int a)),some (.sh (.int b))],mu⟩=g ⟨[some (.sh (.str s)),some (.sh (.int a)),some (.sh (.int b))],mu⟩:=fun t f g h=>
  uo ((bR (lE (a:=s) rfl h)).trans rfl)
 have yes:∀ (t:Str) (f g:SF) (r:Lc) (ρ:Ev),(s==t)=true->f ⟨[some (.sh (.str s)),some (.sh (.int a)),some (.sh (.int b))],mu⟩=some (.rt r ρ)->aF (cG (tT (aA dO (aj 0) (eC (.str t))) bB) f bN) g ⟨[some (.sh (.str s)),some (.sh (.int a)),some (.sh (.int b))],mu⟩=some (.rt r ρ):=fun t f g r ρ h h2=>
  gh ((dI (pN (a:=s) rfl h)).trans h2)
 refine bf (ρ:=⟨[some (.sh (.str s)),some (.sh (.int a)),some (.sh (.int b))],mu⟩) ?_
 rcases hs with rfl | rfl | rfl | rfl | rfl
 . exact yes _ _ _ _ _ (by decide +kernel) (cD (cz (cz rfl rfl (oA _ _)) rfl (di (by decide))))
 . refine (no _ _ _ (by decide +kernel)).trans ?_
   exact yes _ _ _ _ _ (by decide +kernel) (cD (cz (cz rfl rfl rfl) rfl (di (by decide))))
 . refine (no _ _ _ (by decide +kernel)).trans ((no _ _ _ (by decide +kernel)).trans ?_)
   exact yes _ _ _ _ _ (by decide +kernel) (cD (cz (cz rfl rfl (zX (by omega) (by omega))) rfl (di (by decide))))
 . refine (no _ _ _ (by decide +kernel)).trans ((no _ _ _ (by decide +kernel)).trans ((no _ _ _ (by decide +kernel)).trans ?_))
   refine yes _ _ _ _ _ (by decide +kernel) (cD ?_)
   unfold qg
   rw [lt (fun _ _=>.non),aaa]
   have e:rk "<" a b=if a<b then 1 else 0:=rfl
   rw [e]
   by_cases h:a<b
   . rw [acb h,ab7 h,ab7 rfl]; rfl
   . rw [aca h,ab8 h,ab8 aaA]; rfl
 . refine (no _ _ _ (by decide +kernel)).trans ((no _ _ _ (by decide +kernel)).trans ((no _ _ _ (by decide +kernel)).trans ((no _ _ _ (by decide +kernel)).trans (cD ?_))))
   unfold qg
   rw [eq,aaa]
   have e:rk "=" a b=if a=b then 1 else 0:=rfl
   rw [e]
   by_cases h:a=b
   . rw [ab7 h,ab7 (show ((a==b,_):Bool×Ev).1=true from beq_iff_eq.mpr h)]; rfl
   . rw [ab8 h,ab8 (show ¬ ((a==b,_):Bool×Ev).1=true from fun q=>h (beq_iff_eq.mp q))]; rfl
theorem Sg.no {s:Str} (h:Sg s):(s == "num")=false/\(s == "box")=false/\(s == "@")=false:=by
 rcases h with rfl | rfl | rfl | rfl | rfl<;>decide +kernel
theorem Xg {n:Nat} {d v:PV} {mu:Mu}:cR (n+1) [.tup [.str "num",v],d] mu=some (.sh v,mu):=
 bf (ρ:=⟨[some (.sh (.tup [.str "num",v])),some (.sh d)],mu⟩) (gh ((dI (pN (a := "num") rfl (by decide +kernel))).trans (cD rfl)))
def Dc (d:PV) (l:PD):Prop:=(∃ ks ps,d=.dk ks ps/\l=ks.zip ps)\/∃ ks ps,d=.df ks ps/\l=ks.zip ps
theorem oN {fa fb:EF} {ρ ρ1 ρ2:Ev} {x y:Lc} {l:PD} {k:Key} {p:PV} (h1:fa ρ=some (x,ρ1)) (h2:fb ρ1=some (y,ρ2)) (hd:Dc x.pv l) (hk:oE y.pv=some k) (hv:b8 l k=some p):bF fa fb ρ=some (.sh p,ρ2):=by
 unfold bF
 rw [h1,aaa]
 dsimp only
 rw [h2,aaa]
 rcases hd with ⟨ks,ps,e,rfl⟩ | ⟨ks,ps,e,rfl⟩
 . rw [e]
   dsimp only
   rw [hk,aaa,hv]
   rfl
 . rw [e]
   dsimp only
   rw [hk,aaa,hv]
   rfl
theorem Xh {n:Nat} {d:PV} {l:PD} {x:Str} {p:PV} {mu:Mu} (hd:Dc d l) (h:b8 l (.inr x)=some p):cR (n+1) [.tup [.str "box",.str x],d] mu=some (.sh p,mu):=
 bf (ρ:=⟨[some (.sh (.tup [.str "box",.str x])),some (.sh d)],mu⟩) (aB (ρ':=⟨[some (.sh (.tup [.str "box",.str x])),some (.sh d)],mu⟩) ((bR (lE (a := "box") rfl (by decide +kernel))).trans rfl) (gh ((dI (pN (a := "box") rfl (by decide +kernel))).trans (cD (oN (x:=.sh d) (y:=.sh (.str x)) rfl rfl hd rfl h)))))
theorem Uw {n:Nat} {d e1 e2:PV} {s:Str} {a b:Int} {mu:Mu} (hs:Sg s) (ha:0<=a) (ha2:a<(1000000000000:Int)) (h1:cR n [e1,d] mu=some (.sh (.int a),mu)) (h2:cR n [e2,d] mu=some (.sh (.int b),mu)):cR (n+1) [.tup [.str s,e1,e2],d] mu=some (.sh (.int (rk s a b)),mu):=by
 obtain ⟨n1,n2,n3⟩:=hs.no
 refine bf (ρ:=⟨[some (.sh (.tup [.str s,e1,e2])),some (.sh d)],mu⟩) (aB (ρ':=⟨[some (.sh (.tup [.str s,e1,e2])),some (.sh d)],mu⟩) ((bR (lE (a:=s) rfl n1)).trans rfl) (aB (ρ':=⟨[some (.sh (.tup [.str s,e1,e2])),some (.sh d)],mu⟩) ((bR (lE (a:=s) rfl n2)).trans rfl) (aB (ρ':=⟨[some (.sh (.tup [.str s,e1,e2])),some (.sh d)],mu⟩) ((bR (lE (a:=s) rfl n3)).trans rfl) (cD ?_))))
 exact bh (ps:=[.str s,.int a,.int b]) (aC rfl (aC (bh (ps:=[e1,d]) (aC rfl (aC rfl rfl)) rfl rfl rfl h1) (aC (bh (ps:=[e2,d]) (aC rfl (aC rfl rfl)) rfl rfl rfl h2) rfl))) rfl rfl rfl (Uv hs ha ha2)
theorem fY {b:BF} {body:SF} {x:PV} {xs:List PV} {ρ ρ1 ρ2:Ev} {R:Option Fl} (h1:b x ρ=some ρ1) (h2:body ρ1=some (.nx ρ2)) (h3:fD b body xs ρ2=R):fD b body (x::xs) ρ=R:=by
 show (b x ρ).bind _=R
 rw [h1,aaa,h2,aaa]
 exact h3
theorem lF {f g:EF} {d:DF} {ρ ρ1 ρ2 ρ3:Ev} {x y:Lc} {zs:List (Lc×Lc)} (h1:f ρ=some (x,ρ1)) (h2:g ρ1=some (y,ρ2)) (h3:d ρ2=some (zs,ρ3)):fU f g d ρ=some ((x,y)::zs,ρ3):=by
 unfold fU
 rw [h1,aaa]
 dsimp only
 rw [h2,aaa]
 dsimp only
 rw [h3]
 rfl
theorem Xi {ns:List Int} {i:Int} (h0:0<=i) (h1:i<ns.length):∃ c,yr (.lst (ns.map .int)) (.int i)=some (.sh (.int c)):=by
 obtain ⟨x,e,e2⟩:=yR (l:=ns.map PV.int) (i:=i) h0 (by rw [aad]; exact h1)
 rw [aaN] at e2
 obtain ⟨c,_,rfl⟩:=acg e2
 exact ⟨c,by show (gM (ns.map PV.int) i).map _=_; rw [e]; rfl⟩
theorem xQ {p q:PV} {fa fb:EF} {ρ ρ1 ρ2:Ev} {l m r:Lc} (h1:fa ρ=some (l,ρ1)) (hx:l.pv=p) (h2:fb ρ1=some (m,ρ2)) (hy:m.pv=q) (hn:(∀ n,p≠.ptr n)/\(∀ k s,p≠.dk k s)/\∀ k s,p≠.df k s) (h3:yr p q=some r):bF fa fb ρ=some (r,ρ2):=by
 have e:=oX (fa:=fun _=>some (l,ρ1)) (fb:=fun _=>some (m,ρ2)) (ρ:=ρ) rfl hx rfl hy hn.1 h3
 unfold bF
 rw [h1,aaa]
 dsimp only
 rw [h2,aaa]
 split
 . rename_i ks ps q; rw [hx] at q; exact (hn.2.1 _ _ q).elim
 . rename_i ks ps q; rw [hx] at q; exact (hn.2.2 _ _ q).elim
 . exact e
theorem uB {ps:List PV}:(∀ n,PV.lst ps≠.ptr n)/\(∀ k s,PV.lst ps≠.dk k s)/\∀ k s,PV.lst ps≠.df k s:=⟨fun n h=>(by cases h),fun _ _ h=>(by cases h),fun _ _ h=>(by cases h)⟩
theorem mW {a b:Int} (h:0<b) (h2:b<18446744073709551616):dD (.int a) (.int b)=some (.sh (.int (a/b))):=by
 show (if decide (0<b/\b<18446744073709551616)=true then _ else _)=_
 rw [ab7 (acb ⟨h,h2⟩)]
theorem cell_eq {ns:List Int} {k:Int} (hn:ns.length<=63) (h0:0<=k) (h1:k<100000):∃ c,0<=c/\c<2147483629/\∀ mu:Mu,eY [.lst (ns.map .int),.int k] mu=some (.sh (.int c),mu):=by
 have hN:(ns.map PV.int).length=ns.length:=aad ..
 have ln:∀ (o:List (Option Lc)) (mu:Mu),lg (aj 0) ⟨some (.sh (.lst (ns.map .int)))::o,mu⟩=some (.sh (.int ns.length),⟨some (.sh (.lst (ns.map .int)))::o,mu⟩):=fun o mu=>by
  show some (Lc.sh (.int ((ns.map PV.int).length:Nat)),_)=_
  rw [hN]
  rfl
 have fin:∀ (c d:Int) (mu:Mu),(k/(max 1 (ns.length:Int)))=d->bO (aA cF (aA cN (aA kO (aj 2) (eC (.int 69621))) (aA kO (aA dD (aj 1) (eB max2 (aa (eC (.int 1)) (aa (lg (aj 0)) ao)))) (eC (.int 40014)))) (eC (.int 2147483629))) ⟨[some (.sh (.lst (ns.map .int))),some (.sh (.int k)),some (.sh (.int c))],mu⟩=
  some (.rt (.sh (.int ((c*69621+d*40014)%2147483629))) ⟨[some (.sh (.lst (ns.map .int))),some (.sh (.int k)),some (.sh (.int c))],mu⟩):=fun c d mu hd=>by
  have mx:eB max2 (aa (eC (.int 1)) (aa (lg (aj 0)) ao)) ⟨[some (.sh (.lst (ns.map .int))),some (.sh (.int k)),some (.sh (.int c))],mu⟩=some (.sh (.int (max 1 (ns.length:Int))),⟨[some (.sh (.lst (ns.map .int))),some (.sh (.int k)),some (.sh (.int c))],mu⟩):=by
   refine uZ (ls:=[.sh (.int 1),.sh (.int ns.length)]) (ps:=[.int 1,.int ns.length]) (aC rfl (aC (ln _ _) rfl)) rfl ?_
   show some (Lc.sh (.int (if (ns.length:Int)>1 then (ns.length:Int) else 1)))=_
   have:(if (ns.length:Int)>1 then (ns.length:Int) else 1)=max 1 (ns.length:Int):=by split<;>omega
   rw [this]
  have hmx:0<max 1 (ns.length:Int)/\max 1 (ns.length:Int)<18446744073709551616:=by omega
  refine cD (cz (cz (cz rfl rfl (zY (by decide) (by decide))) (cz (l:=.sh (.int (d*40014))) (cz (l:=.sh (.int d)) rfl mx ?_) rfl (zY (by decide) (by decide))) (oA _ _)) rfl (di (by decide)))
  rw [← hd]
  exact mW hmx.1 hmx.2
 have st1:∀ mu:Mu,aO 2 (aA cN (aA cN (aA kO (aj 1) (aj 1)) (aA kO (eC (.int 11)) (aj 1))) (eC (.int 3))) (env0 3 [.lst (ns.map .int),.int k] mu)=some (.nx ⟨[some (.sh (.lst (ns.map .int))),some (.sh (.int k)),some (.sh (.int (k*k+11*k+3)))],mu⟩):=fun mu=>
  cH (cz (cz (cz rfl rfl (zX (by omega) (by omega))) (cz rfl rfl (zX (by decide) (by decide))) (oA _ _)) rfl (oA _ _)) rfl rfl
 have tst:∀ (mu:Mu) (c:Int),tT (aA zQ (lg (aj 0)) (eC (.int 0))) bB ⟨[some (.sh (.lst (ns.map .int))),some (.sh (.int k)),some (.sh (.int c))],mu⟩=some (decide ((0:Int)<ns.length),⟨[some (.sh (.lst (ns.map .int))),some (.sh (.int k)),some (.sh (.int c))],mu⟩):=fun mu c=>
  fM (cz (ln _ _) rfl rfl) rfl rfl
 by_cases hz:(0:Int)<ns.length
 . have hm0:=aaO k (b:=ns.length) (by omega)
   have hm1:=aaH k (b:=ns.length) hz
   obtain ⟨x,ex⟩:=Xi hm0 hm1
   have st3:∀ (mu:Mu) (c:Int),aO 2 (aA cN (aA cF (bF (aj 0) (aA cF (aj 1) (lg (aj 0)))) (eC (.int 1000000000039))) (aA kO (aA dD (aj 1) (lg (aj 0))) (eC (.int 7907)))) ⟨[some (.sh (.lst (ns.map .int))),some (.sh (.int k)),some (.sh (.int c))],mu⟩=some (.nx ⟨[some (.sh (.lst (ns.map .int))),some (.sh (.int k)),some (.sh (.int (x%1000000000039+k/ns.length*7907)))],mu⟩):=fun mu c=>
    cH (ρ1:=⟨[some (.sh (.lst (ns.map .int))),some (.sh (.int k)),some (.sh (.int c))],mu⟩) (cz (cz (x:=.sh (.int x)) (y:=.sh (.int 1000000000039)) (xQ (p:=.lst (ns.map .int)) (m:=.sh (.int (k%ns.length))) rfl rfl (cz (x:=.sh (.int k)) (y:=.sh (.int ns.length)) rfl (ln _ _) (di hz)) rfl uB ex) rfl (di (by decide))) (cz (x:=.sh (.int (k/ns.length))) (y:=.sh (.int 7907)) (cz (x:=.sh (.int k)) (y:=.sh (.int ns.length)) rfl (ln _ _) (mW hz (by omega))) rfl (zY (by decide) (by decide))) (oA _ _)) rfl rfl
   exact ⟨_,aaO _ (by decide),aaH _ (by decide),fun mu=>bf (aB (st1 mu) (aB ((dI ((tst mu _).trans (by rw [acb hz]<;>rfl))).trans (st3 mu _)) (fin _ _ mu rfl)))⟩
 . refine ⟨_,aaO _ (by decide),aaH _ (by decide),fun mu=>bf (ρ:=⟨[some (.sh (.lst (ns.map .int))),some (.sh (.int k)),some (.sh (.int (k*k+11*k+3)))],mu⟩) (aB (st1 mu) (aB ((bR ((tst mu _).trans (by rw [aca hz]<;>rfl))).trans rfl) (fin _ _ mu rfl)))⟩
def pZ (c:Int):Int:=if c%4=0 then c/4%6 else if c%4=1 then (1000000000000:Int)-1-c/4%4 else if c%4=2 then 999997+c/4%7 else c*465661287%(1000000000000:Int)
theorem QH (c:Int):0<=pZ c/\pZ c<(1000000000000:Int):=by
 have h5:=aaO (c*465661287) (b:=(1000000000000:Int)) (by decide)
 have h6:=aaH (c*465661287) (b:=(1000000000000:Int)) (by decide)
 unfold pZ
 split
 . omega
 . split
   . omega
   . split
     . omega
     . exact ⟨h5,h6⟩
theorem Nr (c:Int) (mu:Mu):gH [.int c] mu=some (.sh (.int (pZ c)),mu):=by
 have st:aO 1 (aA cF (aj 0) (eC (.int 4))) (env0 2 [.int c] mu)=some (.nx ⟨[some (.sh (.int c)),some (.sh (.int (c%4)))],mu⟩):=cH (cz rfl rfl (di (by decide))) rfl rfl
 have no:∀ (t:Int) (f g:SF),¬ c%4=t->aF (cG (tT (aA dO (aj 1) (eC (.int t))) bB) f bN) g ⟨[some (.sh (.int c)),some (.sh (.int (c%4)))],mu⟩=g ⟨[some (.sh (.int c)),some (.sh (.int (c%4)))],mu⟩:=fun t f g h=>
  uo ((bR ((GR (a:=c%4) rfl).trans (by rw [aca h]<;>rfl))).trans rfl)
 have yes:∀ (t:Int) (f g:SF) (r:Lc) (ρ:Ev),c%4=t->f ⟨[some (.sh (.int c)),some (.sh (.int (c%4)))],mu⟩=some (.rt r ρ)->aF (cG (tT (aA dO (aj 1) (eC (.int t))) bB) f bN) g ⟨[some (.sh (.int c)),some (.sh (.int (c%4)))],mu⟩=some (.rt r ρ):=fun t f g r ρ h h2=>
  gh ((dI ((GR (a:=c%4) rfl).trans (by rw [acb h]<;>rfl))).trans h2)
 have d4:aA dD (aj 0) (eC (.int 4)) ⟨[some (.sh (.int c)),some (.sh (.int (c%4)))],mu⟩=some (.sh (.int (c/4)),⟨[some (.sh (.int c)),some (.sh (.int (c%4)))],mu⟩):=cz rfl rfl (mW (by decide) (by decide))
 have pw:aA Bp (eC (.int 10)) (eC (.int 12)) ⟨[some (.sh (.int c)),some (.sh (.int (c%4)))],mu⟩=some (.sh (.int (1000000000000:Int)),⟨[some (.sh (.int c)),some (.sh (.int (c%4)))],mu⟩):=rfl
 refine bf (ρ:=⟨[some (.sh (.int c)),some (.sh (.int (c%4)))],mu⟩) (aB st ?_)
 by_cases e0:c%4=0
 . rw [show pZ c=c/4%6 from ab7 e0]
   exact yes 0 _ _ _ _ e0 (cD (cz d4 rfl (di (by decide))))
 . by_cases e1:c%4=1
   . rw [show pZ c=(1000000000000:Int)-1-c/4%4 from (ab8 e0).trans (ab7 e1)]
     exact (no 0 _ _ e0).trans (yes 1 _ _ _ _ e1 (cD (cz (cz pw rfl rfl) (cz d4 rfl (di (by decide))) rfl)))
   . by_cases e2:c%4=2
     . rw [show pZ c=999997+c/4%7 from (ab8 e0).trans ((ab8 e1).trans (ab7 e2))]
       exact (no 0 _ _ e0).trans ((no 1 _ _ e1).trans (yes 2 _ _ _ _ e2 (cD (cz rfl (cz d4 rfl (di (by decide))) (oA _ _)))))
     . rw [show pZ c=c*465661287%(1000000000000:Int) from (ab8 e0).trans ((ab8 e1).trans (ab8 e2))]
       exact (no 0 _ _ e0).trans ((no 1 _ _ e1).trans ((no 2 _ _ e2).trans (cD (cz (cz rfl rfl (zY (by decide) (by decide))) pw (di (by decide))))))
def mz (rs:List Int) (i:Int):Int:=rs.getD i.toNat 0
theorem Ux {rs:List Int} {i:Int} (h0:0<=i) (h1:i<rs.length):yr (.lst (rs.map .int)) (.int i)=some (.sh (.int (mz rs i))):=by
 obtain ⟨x,e,e2⟩:=yR (l:=rs.map PV.int) (i:=i) h0 (by rw [aad]; exact h1)
 rw [aaN] at e2
 obtain ⟨c,hc,rfl⟩:=acg e2
 show (gM (rs.map PV.int) i).map _=_
 rw [e]
 have:mz rs i=c:=by unfold mz; rw [abx,hc]; rfl
 rw [this]
 rfl
theorem Nt {rs:List Int} {i:Int} (h0:0<=i) (h1:¬ i<rs.length):mz rs i=0:=by
 unfold mz
 rw [abx,List.getElem?_eq_none (by omega)]
 rfl
theorem QJ {rs:List Int} {i:Int} (h:∀ x∈rs,0<=x/\x<(1000000000000:Int)):0<=mz rs i/\mz rs i<(1000000000000:Int):=by
 unfold mz
 rw [abx]
 cases e:rs[i.toNat]? with
 | none=>decide
 | some x=>exact h x (aa9 e)
theorem GX {rs:List Int} {i:Int} {mu:Mu} (h0:0<=i):uc [.lst (rs.map .int),.int i] mu=some (.sh (.int (mz rs i)),mu):=by
 refine bf (ρ:=⟨[some (.sh (.lst (rs.map .int))),some (.sh (.int i))],mu⟩) (cD ?_)
 have hl:((rs.map PV.int).length:Int)=rs.length:=by rw [aad]
 have t:tT (nj zP wA (eC (.int 0)) (aj 1) (lg (aj 0))) bB ⟨[some (.sh (.lst (rs.map .int))),some (.sh (.int i))],mu⟩=some (decide (i<rs.length),⟨[some (.sh (.lst (rs.map .int))),some (.sh (.int i))],mu⟩):=by
  rw [← hl]
  simp [nj,eC,eB,lg,Qn,aa,ao,aj,Ev.set,Lc.pv,zP,wA,sO,h0,tT,bB]
 by_cases h:i<rs.length
 . exact (Xe (t.trans (by rw [acb h]<;>rfl))).trans (xQ (p:=.lst (rs.map .int)) (m:=.sh (.int i)) rfl rfl rfl rfl uB (Ux h0 h))
 . rw [Nt h0 h]
   exact (Nq (t.trans (by rw [aca h]<;>rfl))).trans rfl
theorem YF {n:Nat} {d e:PV} {l:PD} {r:Str} {rs:List Int} {i:Int} {mu:Mu} (hd:Dc d l) (h:b8 l (.inr r)=some (.lst (rs.map .int))) (h0:0<=i) (h1:cR n [e,d] mu=some (.sh (.int i),mu)):cR (n+1) [.tup [.str "@",.str r,e],d] mu=some (.sh (.int (mz rs i)),mu):=by
 refine bf (ρ:=⟨[some (.sh (.tup [.str "@",.str r,e])),some (.sh d)],mu⟩) (aB (ρ':=⟨[some (.sh (.tup [.str "@",.str r,e])),some (.sh d)],mu⟩) ((bR (lE (a := "@") rfl (by decide +kernel))).trans rfl) (aB (ρ':=⟨[some (.sh (.tup [.str "@",.str r,e])),some (.sh d)],mu⟩) ((bR (lE (a := "@") rfl (by decide +kernel))).trans rfl) (gh ((dI (pN (a := "@") rfl (by decide +kernel))).trans (cD ?_)))))
 exact bh (ps:=[.lst (rs.map .int),.int i]) (ls:=[.sh (.lst (rs.map .int)),.sh (.int i)]) (aC (oN (x:=.sh d) (y:=.sh (.str r)) rfl rfl hd rfl h) (aC (bh (ps:=[e,d]) (aC rfl (aC rfl rfl)) rfl rfl rfl h1) rfl)) rfl rfl rfl (GX h0)
abbrev In (x:Int):Prop:=0<=x/\x<1000000000000
inductive Ex where
 | num (i:Int)
 | box (x:Str)
 | at_ (x:Str) (e:Ex)
 | op (s:Str) (a b:Ex)
def Ex.pv:Ex->PV
 | .num i=>.tup [.str "num",.int i]
 | .box x=>.tup [.str "box",.str x]
 | .at_ x e=>.tup [.str "@",.str x,e.pv]
 | .op s a b=>.tup [.str s,a.pv,b.pv]
def Ex.dp:Ex->Nat
 | .num _=>1
 | .box _=>1
 | .at_ _ e=>e.dp+1
 | .op _ a b=>max a.dp b.dp+1
inductive BV where
 | n (i:Int)
 | l (is:List Int)
def BV.pv:BV->PV
 | .n i=>.int i
 | .l is=>.lst (is.map .int)
def BV.ok:BV->Prop
 | .n i=>In i
 | .l is=>∀ i∈is,In i
abbrev Bs:=List (Str×BV)
def look (B:Bs) (x:Str):Option BV:=match B with
 | []=>none
 | (y,v)::B=>if y=x then some v else look B x
def numAt (B:Bs) (x:Str):Int:=match look B x with
 | some (.n i)=>i
 | _=>0
def lstAt (B:Bs) (x:Str):List Int:=match look B x with
 | some (.l is)=>is
 | _=>[]
def ev (B:Bs):Ex->Int
 | .num i=>i
 | .box x=>numAt B x
 | .at_ x e=>mz (lstAt B x) (ev B e)
 | .op s a b=>rk s (ev B a) (ev B b)
def tG (B:Bs) (x:Str):Prop:=∃ i,look B x=some (.n i)
def Xj (B:Bs) (x:Str):Prop:=∃ is,look B x=some (.l is)
def Ex.ok (B:Bs):Ex->Prop
 | .num i=>In i
 | .box x=>tG B x
 | .at_ x e=>Xj B x/\e.ok B
 | .op s a b=>Sg s/\a.ok B/\b.ok B
structure GZ (B:Bs):Prop where
 ok:∀ q∈B,q.2.ok
 sm:∀ q∈B,∀ is,q.2=.l is->is.length<=8
theorem mQ:∀ {B:Bs} {x:Str} {v:BV},look B x=some v->(x,v)∈B
 | (y,w)::B,x,v,h=>by
  unfold look at h
  split at h
  . rename_i e; cases h; subst e; exact aab
  . exact aag _ (mQ h)
theorem Kr {B:Bs} (hB:GZ B):∀ {e:Ex},e.ok B->In (ev B e)
 | .num i,h=>h
 | .box x,⟨i,h⟩=>by
  show In (numAt B x)
  unfold numAt
  rw [h]
  exact hB.ok _ (mQ h)
 | .at_ x e,⟨⟨is,h⟩,_⟩=>by
  show In (mz (lstAt B x) (ev B e))
  unfold lstAt
  rw [h]
  exact QJ (hB.ok _ (mQ h))
 | .op s a b,_=>Xf
abbrev bC (B:Bs):List Key:=B.map fun q=>.inr q.1
abbrev Y9 (B:Bs):PV:=.dk (bC B) (B.map fun q=>q.2.pv)
theorem BZ:∀ {B:Bs} {f:BV->PV},(bC B).zip (B.map fun q=>f q.2)=B.map fun q=>(.inr q.1,f q.2)
 | [],_=>rfl
 | q::B,f=>by
  show (Sum.inr q.1,f q.2)::(bC B).zip (B.map fun q=>f q.2)=_
  rw [BZ]
  rfl
theorem Ca:∀ {B:Bs} {x:Str},b8 (B.map fun q=>(Sum.inr q.1,q.2.pv)) (.inr x)=(look B x).map BV.pv
 | [],_=>rfl
 | (y,v)::B,x=>by
  show (if (Sum.inr y:Key)=.inr x then some v.pv else b8 (B.map fun q=>(Sum.inr q.1,q.2.pv)) (.inr x))=(if y=x then some v else look B x).map BV.pv
  by_cases e:y=x
  . rw [ab7 (by rw [e]),ab7 e]; rfl
  . rw [ab8 (fun h=>e (Sum.inr.inj h)),ab8 e]; exact Ca
theorem value_eq {B:Bs} (hB:GZ B):∀ {e:Ex} {n:Nat} {mu:Mu},e.ok B->e.dp<=n->cR n [e.pv,Y9 B] mu=some (.sh (.int (ev B e)),mu)
 | .num i,n,mu,h,hn=>by
  obtain ⟨m,rfl⟩:∃ m,n=m+1:=⟨n-1,by unfold Ex.dp at hn; omega⟩
  exact Xg
 | .box x,n,mu,⟨i,h⟩,hn=>by
  obtain ⟨m,rfl⟩:∃ m,n=m+1:=⟨n-1,by unfold Ex.dp at hn; omega⟩
  refine Xh (.inl ⟨_,_,rfl,rfl⟩) (p:=.int (numAt B x)) ?_
  rw [BZ (f:=BV.pv),Ca]
  unfold numAt
  rw [h]
  rfl
 | .at_ x e,n,mu,⟨⟨is,h⟩,he⟩,hn=>by
  obtain ⟨m,rfl⟩:∃ m,n=m+1:=⟨n-1,by unfold Ex.dp at hn; omega⟩
  refine YF (.inl ⟨_,_,rfl,rfl⟩) (rs:=lstAt B x) ?_ (Kr hB he).1 (value_eq hB he (by unfold Ex.dp at hn; omega))
  rw [BZ (f:=BV.pv),Ca]
  unfold lstAt
  rw [h]
  rfl
 | .op s a b,n,mu,⟨hs,ha,hb⟩,hn=>by
  obtain ⟨m,rfl⟩:∃ m,n=m+1:=⟨n-1,by unfold Ex.dp at hn; omega⟩
  exact Uw hs (Kr hB ha).1 (Kr hB ha).2 (value_eq hB ha (by unfold Ex.dp at hn; omega)) (value_eq hB hb (by unfold Ex.dp at hn; omega))
theorem Xk {a b:List PV} (h:a.length+b.length<=100000):cN (.lst a) (.lst b)=some (.own (.lst (a++b))):=by
 show (if _<=_ then _ else none)=_
 rw [ab7 h]
theorem lookB {B:Bs} {x:Str} {v:BV} (h:look B x=some v):b8 ((bC B).zip (B.map fun q=>q.2.pv)) (.inr x)=some v.pv:=by
 rw [BZ (f:=BV.pv),Ca,h]
 rfl
theorem c2 {α:Type} {a b:α} {l m:List α} (h:a=b) (g:l=m):a::l=b::m:=by rw [h,g]
theorem pO {y z:Str} {w:BV} {B:Bs}:look ((z,w)::B) y=if z=y then some w else look B y:=rfl
def setB (B:Bs) (x:Str) (v:BV):Bs:=B.map fun q=>if q.1=x then (q.1,v) else q
theorem rZ {x:Str} {v:BV}:∀ {B:Bs} {y:Str},look (setB B x v) y=if y=x then (look B x).map (fun _=>v) else look B y
 | [],y=>by
  show none=_
  split<;>rfl
 | (z,w)::B,y=>by
  have ih:=rZ (x:=x) (v:=v) (B:=B) (y:=y)
  show look ((if z=x then (z,v) else (z,w))::setB B x v) y=_
  by_cases e:z=x
  . rw [ab7 e]
    show (if z=y then some v else look (setB B x v) y)=_
    by_cases e2:z=y
    . have e3:y=x:=by rw [← e2,e]
      rw [ab7 e2,ab7 e3,pO,ab7 e]
      rfl
    . have e3:¬ y=x:=fun h=>e2 (by rw [e,h])
      rw [ab8 e2,ih,ab8 e3,ab8 e3,pO,ab8 e2]
  . rw [ab8 e]
    show (if z=y then some w else look (setB B x v) y)=_
    by_cases e2:z=y
    . have e3:¬ y=x:=fun h=>e (by rw [e2,h])
      rw [ab7 e2,ab8 e3,pO,ab7 e2]
    . rw [ab8 e2,ih]
      split
      . rw [pO,ab8 e]
      . rw [pO,ab8 e2]
theorem Nu {B:Bs} {x:Str} {v:BV}:bC (setB B x v)=bC B:=by
 unfold bC setB
 rw [aaY]
 refine aaP fun q _=>?_
 show (Sum.inr (if q.1=x then (q.1,v) else q).1:Key)=_
 split<;>rfl
theorem Nv {B:Bs} {x:Str} {v:BV}:(setB B x v).map (·.1)=B.map (·.1):=by
 unfold setB
 rw [aaY]
 refine aaP fun q _=>?_
 show (if q.1=x then (q.1,v) else q).1=_
 split<;>rfl
def vN (B C:Bs):Prop:=(∀ x,tG B x->tG C x)/\∀ x,Xj B x->Xj C x
theorem vN.refl {B:Bs}:vN B B:=⟨fun _ h=>h,fun _ h=>h⟩
theorem vN.trans {A B C:Bs} (h:vN A B) (g:vN B C):vN A C:=⟨fun x q=>g.1 x (h.1 x q),fun x q=>g.2 x (h.2 x q)⟩
theorem vN.ex {B C:Bs} (h:vN B C):∀ {e:Ex},e.ok B->e.ok C
 | .num _,q=>q
 | .box x,q=>h.1 x q
 | .at_ x e,q=>⟨h.2 x q.1,vN.ex h q.2⟩
 | .op s a b,q=>⟨q.1,vN.ex h q.2.1,vN.ex h q.2.2⟩
theorem YG {B:Bs} {x:Str} {v:Int} (h:tG B x):vN B (setB B x (.n v)):=by
 obtain ⟨i,h⟩:=h
 refine ⟨fun y ⟨j,q⟩=>?_,fun y ⟨j,q⟩=>?_⟩
 . by_cases e:y=x
   . exact ⟨v,by rw [rZ,ab7 e,h]; rfl⟩
   . exact ⟨j,by rw [rZ,ab8 e,q]⟩
 . by_cases e:y=x
   . rw [e,h] at q; cases q
   . exact ⟨j,by rw [rZ,ab8 e,q]⟩
theorem GZ.set {B:Bs} (h:GZ B) {x:Str} {v:BV} (hv:v.ok) (hl:∀ is,v=.l is->is.length<=8):GZ (setB B x v):=by
 have key:∀ q∈setB B x v,q.2=v\/q∈B:=fun q hq=>by
  obtain ⟨p,hp,e⟩:=aaD.mp hq
  by_cases c:p.1=x
  . rw [ab7 c] at e; exact .inl (by rw [← e])
  . rw [ab8 c] at e; exact .inr (e▸hp)
 refine ⟨fun q hq=>?_,fun q hq is e=>?_⟩
 . rcases key q hq with h' | h'
   . rw [h']; exact hv
   . exact h.ok q h'
 . rcases key q hq with h' | h'
   . exact hl is (by rw [← h',e])
   . exact h.sm q h' is e
def CB (mu:Mu) (hi:Nat):Nat->Bs->List PV->Prop
 | _,[],ps=>ps=[]
 | lo,(_,.n i)::B,ps=>∃ r,ps=.int i::r/\CB mu hi lo B r
 | lo,(_,.l is)::B,ps=>∃ c r,ps=.ptr c::r/\lo<=c/\c<hi/\mu[c]?=some (some (.lst (is.map .int)))/\CB mu hi (c+1) B r
theorem CB.lo {mu:Mu} {hi:Nat}:∀ {lo lo':Nat} {B:Bs} {ps:List PV},lo'<=lo->CB mu hi lo B ps->CB mu hi lo' B ps
 | lo,lo',[],ps,_,h=>h
 | lo,lo',(_,.n i)::B,ps,hl,⟨r,e,h⟩=>⟨r,e,CB.lo hl h⟩
 | lo,lo',(_,.l is)::B,ps,hl,⟨c,r,e,h1,h2,h3,h⟩=>⟨c,r,e,by omega,h2,h3,h⟩
theorem CB.frame {mu mu':Mu} {hi:Nat}:∀ {lo:Nat} {B:Bs} {ps:List PV},(∀ c,lo<=c->c<hi->mu'[c]?=mu[c]?)->CB mu hi lo B ps->CB mu' hi lo B ps
 | lo,[],ps,_,h=>h
 | lo,(_,.n i)::B,ps,f,⟨r,e,h⟩=>⟨r,e,CB.frame f h⟩
 | lo,(_,.l is)::B,ps,f,⟨c,r,e,h1,h2,h3,h⟩=>⟨c,r,e,h1,h2,by rw [f c h1 h2]; exact h3,CB.frame (fun d q1 q2=>f d (by omega) q2) h⟩
theorem CB.len {mu:Mu} {hi:Nat}:∀ {lo:Nat} {B:Bs} {ps:List PV},CB mu hi lo B ps->ps.length=B.length
 | lo,[],ps,h=>by have h:ps=[]:=h; subst h; rfl
 | lo,(_,.n i)::B,ps,⟨r,e,h⟩=>by subst e; rw [aae,aae,h.len]
 | lo,(_,.l is)::B,ps,⟨c,r,e,h1,h2,h3,h⟩=>by subst e; rw [aae,aae,h.len]
theorem Cd {mu:Mu} {i:Int}:∀ k,bj mu k (.int i)=.int i
 | 0=>rfl
 | _+1=>rfl
theorem G3 {mu:Mu} {is:List Int}:∀ k,bj mu k (.lst (is.map .int))=.lst (is.map .int)
 | 0=>rfl
 | k+1=>by
  show PV.lst ((is.map PV.int).map (bj mu k))=_
  rw [aaY]
  exact congrArg PV.lst (aaP fun i _=>Cd k)
theorem CB.res {mu:Mu} {hi k:Nat}:∀ {lo:Nat} {B:Bs} {ps:List PV},CB mu hi lo B ps->ps.map (bj mu (k+1))=B.map fun q=>q.2.pv
 | lo,[],ps,h=>by have h:ps=[]:=h; subst h; rfl
 | lo,(_,.n i)::B,ps,⟨r,e,h⟩=>by subst e; exact c2 rfl h.res
 | lo,(_,.l is)::B,ps,⟨c,r,e,h1,h2,h3,h⟩=>by
  subst e
  refine c2 ?_ h.res
  show (match mu[c]? with | some (some p)=>bj mu k p | _=>.ptr c)=_
  rw [h3]
  exact G3 k
theorem CB.val {mu:Mu} {hi:Nat} {x:Str}:∀ {lo:Nat} {B:Bs} {ps:List PV},CB mu hi lo B ps->(∀ i,look B x=some (.n i)->b8 ((bC B).zip ps) (.inr x)=some (.int i))/\∀ is,look B x=some (.l is)->∃ c,b8 ((bC B).zip ps) (.inr x)=some (.ptr c)/\lo<=c/\c<hi/\mu[c]?=some (some (.lst (is.map .int)))
 | lo,[],ps,h=>⟨fun i q=>(by cases q),fun i q=>(by cases q)⟩
 | lo,(y,.n i)::B,ps,⟨r,e,h⟩=>by
  subst e
  have ih:=h.val (x:=x)
  have ev:b8 ((bC ((y,BV.n i)::B)).zip (.int i::r)) (.inr x)=if (Sum.inr y:Key)=.inr x then some (.int i) else b8 ((bC B).zip r) (.inr x):=rfl
  have el:look ((y,BV.n i)::B) x=if y=x then some (.n i) else look B x:=rfl
  rw [ev,el]
  by_cases e:y=x
  . rw [ab7 e,ab7 (congrArg Sum.inr e)]
    exact ⟨fun j q=>by (cases q; rfl),fun js q=>by (cases q)⟩
  . rw [ab8 e,ab8 (fun h=>e (Sum.inr.inj h))]
    exact ih
 | lo,(y,.l is)::B,ps,⟨c,r,e,h1,h2,h3,h⟩=>by
  subst e
  have ih:=h.val (x:=x)
  have ev:b8 ((bC ((y,BV.l is)::B)).zip (.ptr c::r)) (.inr x)=if (Sum.inr y:Key)=.inr x then some (.ptr c) else b8 ((bC B).zip r) (.inr x):=rfl
  have el:look ((y,BV.l is)::B) x=if y=x then some (.l is) else look B x:=rfl
  rw [ev,el]
  by_cases e:y=x
  . rw [ab7 e,ab7 (congrArg Sum.inr e)]
    exact ⟨fun j q=>by (cases q),fun js q=>by (cases q; exact ⟨c,rfl,h1,h2,h3⟩)⟩
  . rw [ab8 e,ab8 (fun h=>e (Sum.inr.inj h))]
    refine ⟨ih.1,fun js q=>?_⟩
    obtain ⟨d,g1,g2,g3,g4⟩:=ih.2 js q
    exact ⟨d,g1,by omega,g3,g4⟩
theorem G4 {x:Str}:∀ {B:Bs},x∉B.map (·.1)->look B x=none
 | [],_=>rfl
 | (y,v)::B,h=>by
  have h1:¬ y=x:=fun e=>h (by rw [e]; exact aab)
  unfold look
  rw [ab8 h1]
  exact G4 fun q=>h (aag _ q)
theorem Iv {x:Str} {v:BV}:∀ {B:Bs},x∉B.map (·.1)->setB B x v=B
 | [],_=>rfl
 | (y,w)::B,h=>by
  have h1:¬ y=x:=fun e=>h (by rw [e]; exact aab)
  show (if y=x then (y,v) else (y,w))::setB B x v=_
  rw [ab8 h1,Iv fun q=>h (aag _ q)]
theorem CB.setN {mu:Mu} {hi:Nat} {x:Str} {v:Int}:∀ {lo:Nat} {B:Bs} {ps:List PV},(B.map (·.1)).Nodup->(∀ is,look B x≠some (.l is))->CB mu hi lo B ps->∃ ps',(jG (.inr x) (.int v) ((bC B).zip ps)).map (·.1)=bC B/\(jG (.inr x) (.int v) ((bC B).zip ps)).map (·.2)=ps'/\CB mu hi lo (setB B x (.n v)) ps'
 | lo,[],ps,_,_,h=>by have h:ps=[]:=h; subst h; exact ⟨[],rfl,rfl,rfl⟩
 | lo,(y,.n i)::B,ps,nd,hx,⟨r,e,h⟩=>by
  subst e
  obtain ⟨hy,nd'⟩:=aaM.mp nd
  have hx':∀ is,look B x≠some (.l is):=fun is q=>by
   by_cases e:y=x
   . rw [G4 (e▸hy)] at q; cases q
   . exact hx is (by unfold look; rw [ab8 e]; exact q)
  obtain ⟨r',g1,g2,g3⟩:=CB.setN (v:=v) nd' hx' h
  have er:jG (.inr x) (.int v) ((bC ((y,BV.n i)::B)).zip (.int i::r))=(if (Sum.inr y:Key)=.inr x then (Sum.inr y,PV.int v) else (Sum.inr y,.int i))::jG (.inr x) (.int v) ((bC B).zip r):=rfl
  rw [er]
  by_cases e:y=x
  . rw [ab7 (congrArg Sum.inr e)]
    refine ⟨.int v::r',c2 rfl g1,c2 rfl g2,?_⟩
    show CB mu hi lo ((if y=x then (y,BV.n v) else (y,.n i))::setB B x (.n v)) _
    rw [ab7 e]
    exact ⟨r',rfl,g3⟩
  . rw [ab8 (fun h=>e (Sum.inr.inj h))]
    refine ⟨.int i::r',c2 rfl g1,c2 rfl g2,?_⟩
    show CB mu hi lo ((if y=x then (y,BV.n v) else (y,.n i))::setB B x (.n v)) _
    rw [ab8 e]
    exact ⟨r',rfl,g3⟩
 | lo,(y,.l is)::B,ps,nd,hx,⟨c,r,e,h1,h2,h3,h⟩=>by
  subst e
  obtain ⟨hy,nd'⟩:=aaM.mp nd
  have e:¬ y=x:=fun e=>hx is (by unfold look; rw [ab7 e])
  have hx':∀ js,look B x≠some (.l js):=fun js q=>hx js (by unfold look; rw [ab8 e]; exact q)
  obtain ⟨r',g1,g2,g3⟩:=CB.setN (v:=v) nd' hx' h
  have er:jG (.inr x) (.int v) ((bC ((y,BV.l is)::B)).zip (.ptr c::r))=(if (Sum.inr y:Key)=.inr x then (Sum.inr y,PV.int v) else (Sum.inr y,.ptr c))::jG (.inr x) (.int v) ((bC B).zip r):=rfl
  rw [er,ab8 (fun h=>e (Sum.inr.inj h))]
  refine ⟨.ptr c::r',c2 rfl g1,c2 rfl g2,?_⟩
  show CB mu hi lo ((if y=x then (y,BV.n v) else (y,.l is))::setB B x (.n v)) _
  rw [ab8 e]
  exact ⟨c,r',rfl,h1,h2,h3,g3⟩
theorem CB.setL {mu:Mu} {hi:Nat} {x:Str} {is js:List Int} {c:Nat}:∀ {lo:Nat} {B:Bs} {ps:List PV},(B.map (·.1)).Nodup->look B x=some (.l is)->b8 ((bC B).zip ps) (.inr x)=some (.ptr c)->c<mu.length->CB mu hi lo B ps->CB (mu.set c (some (.lst (js.map .int)))) hi lo (setB B x (.l js)) ps
 | lo,[],ps,_,hx,_,_,h=>by cases hx
 | lo,(y,.n i)::B,ps,nd,hx,hc,hl,⟨r,e,h⟩=>by
  subst e
  obtain ⟨hy,nd'⟩:=aaM.mp nd
  have e:¬ y=x:=fun e=>by
   unfold look at hx
   rw [ab7 e] at hx
   cases hx
  unfold look at hx
  rw [ab8 e] at hx
  have hc:(if (Sum.inr y:Key)=.inr x then some (PV.int i) else b8 ((bC B).zip r) (.inr x))=some (.ptr c):=hc
  rw [ab8 (fun h=>e (Sum.inr.inj h))] at hc
  show CB _ hi lo ((if y=x then (y,BV.l js) else (y,.n i))::setB B x (.l js)) _
  rw [ab8 e]
  exact ⟨r,rfl,CB.setL nd' hx hc hl h⟩
 | lo,(y,.l ks)::B,ps,nd,hx,hc,hl,⟨d,r,e,h1,h2,h3,h⟩=>by
  subst e
  obtain ⟨hy,nd'⟩:=aaM.mp nd
  have hc:(if (Sum.inr y:Key)=.inr x then some (PV.ptr d) else b8 ((bC B).zip r) (.inr x))=some (.ptr c):=hc
  show CB _ hi lo ((if y=x then (y,BV.l js) else (y,.l ks))::setB B x (.l js)) _
  by_cases e:y=x
  . rw [ab7 (congrArg Sum.inr e)] at hc
    cases hc
    rw [ab7 e,Iv (e▸hy)]
    refine ⟨c,r,rfl,h1,h2,by rw [aax hl],h.frame fun f q1 q2=>?_⟩
    rw [aaw (by omega)]
  . unfold look at hx
    rw [ab8 e] at hx
    rw [ab8 (fun h=>e (Sum.inr.inj h))] at hc
    rw [ab8 e]
    obtain ⟨c',e1,e2,_⟩:=h.val.2 is hx
    rw [hc] at e1
    cases e1
    exact ⟨d,r,rfl,h1,h2,by rw [aaw (by omega)]; exact h3,CB.setL nd' hx hc hl h⟩
theorem R6 {α β:Type}:∀ l:List (α×β),(l.map (·.1)).zip (l.map (·.2))=l
 | []=>rfl
 | x::l=>by rw [aav,aav,aa5,R6 l]
theorem qN {fo fv:EF} {ρ ρ1 ρ2:Ev} {o y:Lc} {n:Nat} {ws0 ws:List PV} {p:PV} {mu:Mu} (h1:fo ρ=some (o,ρ1)) (ho:o.pv=.ptr n) (hm:ρ1.mu[n]?=some (some (.lst ws0))) (h2:fv ρ1=some (y,ρ2)) (hy:y.pv=p) (hm2:ρ2.mu[n]?=some (some (.lst ws))) (hz:ws.length<100000) (e:ρ2.mu.set n (some (.lst (ws++[p])))=mu):iW fo fv ρ=some (.nx ⟨ρ2.vs,mu⟩):=by
 unfold iW
 rw [h1,aaa,ho]
 dsimp only
 rw [hm]
 dsimp only
 rw [h2,aaa,hm2]
 dsimp only
 rw [ab7 hz,hy,e]
theorem Iw {fo:EF} {ρ ρ1:Ev} {o:Lc} {n:Nat} {ws:List PV} {p:PV} {mu:Mu} (h1:fo ρ=some (o,ρ1)) (ho:o.pv=.ptr n) (hm:ρ1.mu[n]?=some (some (.lst (ws++[p])))) (e:ρ1.mu.set n (some (.lst ws))=mu):xK fo ρ=some (.sh p,⟨ρ1.vs,mu⟩):=by
 unfold xK
 rw [h1,aaa,ho]
 dsimp only
 rw [hm]
 dsimp only
 rw [aai,aae,aaK,aas (by omega),List.dropLast_concat,e]
 simp
theorem lN {f:EF} {p:PV} {ρ ρ1:Ev} (h:f ρ=some (.own p,ρ1)):cV f ρ=some (.sh (.ptr ρ1.mu.length),⟨ρ1.vs,ρ1.mu++[some p]⟩):=by
 unfold cV
 rw [h]
 rfl
theorem oO {C f:Str} {fo fv:EF} {ρ ρ1 ρ2:Ev} {y x:Lc} {p:PV} {n:Nat} {l:FD} (h1:fv ρ=some (y,ρ1)) (hy:y.pv=p) (h2:fo ρ1=some (x,ρ2)) (hx:x.pv=.ptr n) (hm:ρ2.mu[n]?=some (some (bA C l))) (hl:l.length<1000):fj C f fo fv ρ=some (.nx ⟨ρ2.vs,ρ2.mu.set n (some (bA C (nu f p l)))⟩):=by
 unfold fj
 rw [h1,aaa,h2,aaa,hx]
 dsimp only
 rw [hm]
 unfold bA
 dsimp only
 rw [ab7 ⟨rfl,by rw [aad]; exact hl⟩,R6,hy]
theorem dj {C f:Str} {fo:EF} {ρ ρ1:Ev} {x:Lc} {p:PV} {n:Nat} {l:FD} (h2:fo ρ=some (x,ρ1)) (hx:x.pv=.ptr n) (hm:ρ1.mu[n]?=some (some (bA C l))) (hp:oY l f=some p):cg C f fo ρ=some (.sh p,ρ1):=by
 unfold cg
 rw [h2,aaa,hx]
 dsimp only
 rw [hm]
 unfold bA
 dsimp only
 rw [ab7 rfl,R6,hp]
 rfl
theorem uC {C m:Str} {g:GF} {fo:EF} {a:AF} {ρ ρ1 ρ2:Ev} {x:Lc} {ls:List Lc} {n:Nat} {l:FD} {r:Lc} {mu2:Mu} {ps:List PV} (h1:fo ρ=some (x,ρ1)) (hx:x.pv=.ptr n) (hm:ρ1.mu[n]?=some (some (bA C l))) (hc:(l.map (·.1)).contains m=false) (h2:a ρ1=some (ls,ρ2)) (hps:ls.map Lc.pv=ps) (h3:g (.ptr n::ps) ρ2.mu=some (r,mu2)):cL C m g fo a ρ=some (r,⟨ρ2.vs,mu2⟩):=by
 unfold cL
 rw [h1,aaa,hx]
 dsimp only
 rw [hm]
 unfold bA
 dsimp only
 rw [ab7 ⟨rfl,hc⟩,h2,aaa,hps,h3]
 rfl
theorem Iz {C:Str} {g:GF} {a:AF} {ρ ρ1:Ev} {ls:List Lc} {ps:List PV} {mu2:Mu} (h:a ρ=some (ls,ρ1)) (hps:ls.map Lc.pv=ps) (h2:g (.ptr ρ1.mu.length::ps) (ρ1.mu++[some (bA C [])])=some (.sh .non,mu2)):sW C g a ρ=some (.sh (.ptr ρ1.mu.length),⟨ρ1.vs,mu2⟩):=by
 unfold sW
 rw [h,aaa,hps]
 rw [show g (.ptr ρ1.mu.length::ps) (ρ1.mu++[some (.obj C [] [])])=_ from h2]
 rfl
theorem Uy {fo fv:EF} {ρ ρ1 ρ2:Ev} {o y:Lc} {n:Nat} {ws0 ws ps:List PV} {mu:Mu} (h1:fo ρ=some (o,ρ1)) (ho:o.pv=.ptr n) (hm:ρ1.mu[n]?=some (some (.lst ws0))) (h2:fv ρ1=some (y,ρ2)) (hy:y.pv=.lst ps) (hm2:ρ2.mu[n]?=some (some (.lst ws))) (hz:ws.length+ps.length<=100000) (e:ρ2.mu.set n (some (.lst (ws++ps)))=mu):Eo fo fv ρ=some (.nx ⟨ρ2.vs,mu⟩):=by
 unfold Eo
 rw [h1,aaa]
 dsimp only
 rw [ho]
 dsimp only
 rw [hm]
 dsimp only
 rw [h2,aaa,hy,hm2]
 dsimp only
 rw [ab7 hz,e]
theorem QK {f:EF} {ρ ρ1:Ev} {x:Lc} {n:Nat} {ks:List Key} {ps:List PV} (h:f ρ=some (x,ρ1)) (hx:x.pv=.ptr n) (hm:ρ1.mu[n]?=some (some (.dk ks ps))):wM f ρ=some (.own (.dk ks ps),ρ1):=by
 unfold wM
 rw [h,aaa,hx]
 dsimp only
 rw [hm]
theorem Uz {i:Nat} {f:EF} {ρ ρ1:Ev} {x:Lc} {n:Nat} {ks0 ks ls:List Key} {ps0 ps qs:List PV} (h0:ρ.vs[i]?=some (some (.own (.dk ks0 ps0)))) (h:f ρ=some (x,ρ1)) (hx:x.pv=.ptr n) (h1:ρ1.vs[i]?=some (some (.own (.dk ks ps)))) (hm:ρ1.mu[n]?=some (some (.dk ls qs))) (hz:ks.length+ls.length<=100000):xN i f ρ=some (.nx (ρ1.set i (some (.own (dN (jy (ls.zip qs) (ks.zip ps))))))):=by
 unfold xN
 rw [h0]
 dsimp only
 rw [h,aaa,hx,h1]
 dsimp only
 rw [hm]
 dsimp only
 rw [ab7 hz]
theorem Xl {fa fb:EF} {ρ ρ1 ρ2:Ev} {x y:Lc} {n:Nat} {k:Key} {ks:List Key} {ps:List PV} (h1:fa ρ=some (x,ρ1)) (h2:fb ρ1=some (y,ρ2)) (hy:y.pv=.ptr n) (hk:oE x.pv=some k) (hm:ρ2.mu[n]?=some (some (.dk ks ps))):Bx fa fb ρ=some (.sh (.bl (b8 (ks.zip ps) k).isSome),ρ2):=by
 unfold Bx
 rw [h1,aaa]
 dsimp only
 rw [h2,aaa,hy,hk]
 dsimp only
 rw [hm]
theorem qO {fo fi fv:EF} {ρ ρ1 ρ2 ρ3:Ev} {x o y:Lc} {n:Nat} {k:Key} {ks:List Key} {ps:List PV} {p:PV} {mu:Mu} (h1:fv ρ=some (x,ρ1)) (hx:x.pv=p) (h2:fo ρ1=some (o,ρ2)) (ho:o.pv=.ptr n) (h3:fi ρ2=some (y,ρ3)) (hy:oE y.pv=some k) (hm:ρ3.mu[n]?=some (some (.dk ks ps))) (hz:ks.length<100000) (e:ρ3.mu.set n (some (dN (gF (ks.zip ps) k p)))=mu):jJ fo fi fv ρ=some (.nx ⟨ρ3.vs,mu⟩):=by
 unfold jJ
 rw [h1,aaa]
 dsimp only
 rw [h2,aaa]
 dsimp only
 rw [h3,aaa,ho,hy]
 dsimp only
 rw [hm]
 dsimp only
 rw [ab7 hz,hx,e]
theorem nR {fa fb:EF} {ρ ρ1 ρ2:Ev} {x y:Lc} {n:Nat} {k:Key} {ks:List Key} {ps:List PV} {p:PV} (h1:fa ρ=some (x,ρ1)) (hx:x.pv=.ptr n) (h2:fb ρ1=some (y,ρ2)) (hk:oE y.pv=some k) (hm:ρ2.mu[n]?=some (some (.dk ks ps))) (hp:b8 (ks.zip ps) k=some p):aY fa fb ρ=some (.sh p,ρ2):=by
 unfold aY
 rw [h1,aaa]
 dsimp only
 rw [h2,aaa,hx,hk]
 dsimp only
 rw [hm]
 dsimp only
 rw [hp]
 rfl
theorem UG {f:EF} {ρ ρ1:Ev} {x:Lc} {n:Nat} {ws:List PV} (h:f ρ=some (x,ρ1)) (hx:x.pv=.ptr n) (hm:ρ1.mu[n]?=some (some (.lst ws))):Ad f ρ=some (!ws.isEmpty,ρ1):=by
 unfold Ad
 rw [h,aaa,hx]
 dsimp only
 rw [hm]
theorem zm {f:EF} {ρ ρ1:Ev} {x:Lc} {n:Nat} {p:PV} (h:f ρ=some (x,ρ1)) (hx:x.pv=.ptr n) (hm:ρ1.mu[n]?=some (some p)):jR f ρ=some (.sh p,⟨ρ1.vs,ρ1.mu.set n none⟩):=by
 unfold jR
 rw [h,aaa,hx]
 dsimp only
 rw [hm]
structure Ix where
 r:Nat
 p:Nat
 b:Nat
 e:Nat
 o:Nat
 m:Nat
 d:Nat
abbrev rF (I:Ix) (bu:Int) (wd:Str):FD:=[("plan",.ptr I.p),("boxes",.ptr I.b),("own",.ptr I.o),("budget",.int bu),("word",.str wd),("moments",.ptr I.m),("due",.ptr I.d)]
structure RS (mu:Mu) (I:Ix) (bu:Int) (wd:Str) (PO:PV) (B:Bs) (M D:List PV):Prop where
 l1:I.r<I.p
 l2:I.p<I.b
 l3:I.b<I.e
 l4:I.e<I.o
 l5:I.o<I.m
 l6:I.m<I.d
 hr:mu[I.r]?=some (some (bA "Running" (rF I bu wd)))
 hp:mu[I.p]?=some (some PO)
 hb:∃ ps,mu[I.b]?=some (some (.dk (bC B) ps))/\CB mu I.b (I.p+1) B ps
 he:mu[I.e]?=some (some (.dk [] []))
 ho:mu[I.o]?=some (some (.lst [.ptr I.e]))
 hm:mu[I.m]?=some (some (.lst M))
 hd:mu[I.d]?=some (some (.lst D))
theorem jY {α:Type} {l:List α} {n:Nat} {a:α} (h:l[n]?=some a):n<l.length:=(aan.mp h).1
section
variable {mu mu':Mu} {I:Ix} {bu:Int} {wd:Str} {PO:PV} {B:Bs} {M M' D D':List PV}
theorem RS.setM (S:RS mu I bu wd PO B M D):RS (mu.set I.m (some (.lst M'))) I bu wd PO B M' D:=by
 obtain ⟨l1,l2,l3,l4,l5,l6,hr,hp,⟨ps,hb,hc⟩,he,ho,hm,hd⟩:=S
 have f:∀ c,c≠I.m->(mu.set I.m (some (.lst M')))[c]?=mu[c]?:=fun c h=>aaw (Ne.symm h)
 exact ⟨l1,l2,l3,l4,l5,l6,by rw [f _ (by omega)]; exact hr,by rw [f _ (by omega)]; exact hp,⟨ps,by rw [f _ (by omega)]; exact hb,hc.frame fun c _ q=>f c (by omega)⟩,by rw [f _ (by omega)]; exact he,by rw [f _ (by omega)]; exact ho,aax (jY hm),by rw [f _ (by omega)]; exact hd⟩
theorem RS.setD (S:RS mu I bu wd PO B M D):RS (mu.set I.d (some (.lst D'))) I bu wd PO B M D':=by
 obtain ⟨l1,l2,l3,l4,l5,l6,hr,hp,⟨ps,hb,hc⟩,he,ho,hm,hd⟩:=S
 have f:∀ c,c≠I.d->(mu.set I.d (some (.lst D')))[c]?=mu[c]?:=fun c h=>aaw (Ne.symm h)
 exact ⟨l1,l2,l3,l4,l5,l6,by rw [f _ (by omega)]; exact hr,by rw [f _ (by omega)]; exact hp,⟨ps,by rw [f _ (by omega)]; exact hb,hc.frame fun c _ q=>f c (by omega)⟩,by rw [f _ (by omega)]; exact he,by rw [f _ (by omega)]; exact ho,by rw [f _ (by omega)]; exact hm,aax (jY hd)⟩
theorem RS.keep (S:RS mu I bu wd PO B M D) (f:∀ c,c<=I.d->mu'[c]?=mu[c]?):RS mu' I bu wd PO B M D:=by
 obtain ⟨l1,l2,l3,l4,l5,l6,hr,hp,⟨ps,hb,hc⟩,he,ho,hm,hd⟩:=S
 exact ⟨l1,l2,l3,l4,l5,l6,by rw [f _ (by omega)]; exact hr,by rw [f _ (by omega)]; exact hp,⟨ps,by rw [f _ (by omega)]; exact hb,hc.frame fun c _ q=>f c (by omega)⟩,by rw [f _ (by omega)]; exact he,by rw [f _ (by omega)]; exact ho,by rw [f _ (by omega)]; exact hm,by rw [f _ (by omega)]; exact hd⟩
theorem xR {x:Option PV} {c:Nat} (h:c<mu.length):(mu++[x])[c]?=mu[c]?:=aaI h
theorem RS.push (S:RS mu I bu wd PO B M D) {x:Option PV}:RS (mu++[x]) I bu wd PO B M D:=S.keep fun c h=>xR (abC h (jY S.hd))
theorem RS.setR (S:RS mu I bu wd PO B M D) {bu':Int} {wd':Str}:RS (mu.set I.r (some (bA "Running" (rF I bu' wd')))) I bu' wd' PO B M D:=by
 obtain ⟨l1,l2,l3,l4,l5,l6,hr,hp,⟨ps,hb,hc⟩,he,ho,hm,hd⟩:=S
 have f:∀ c,c≠I.r->(mu.set I.r (some (bA "Running" (rF I bu' wd'))))[c]?=mu[c]?:=fun c h=>aaw (Ne.symm h)
 exact ⟨l1,l2,l3,l4,l5,l6,aax (jY hr),by rw [f _ (by omega)]; exact hp,⟨ps,by rw [f _ (by omega)]; exact hb,hc.frame fun c q _=>f c (by omega)⟩,by rw [f _ (by omega)]; exact he,by rw [f _ (by omega)]; exact ho,by rw [f _ (by omega)]; exact hm,by rw [f _ (by omega)]; exact hd⟩
theorem RS.num (S:RS mu I bu wd PO B M D) (nd:(B.map (·.1)).Nodup) {x:Str} {v:Int} (hx:tG B x):∃ ks ps,mu[I.b]?=some (some (.dk ks ps))/\ks.length=B.length/\RS (mu.set I.b (some (dN (gF (ks.zip ps) (.inr x) (.int v))))) I bu wd PO (setB B x (.n v)) M D:=by
 obtain ⟨l1,l2,l3,l4,l5,l6,hr,hp,⟨ps,hb,hc⟩,he,ho,hm,hd⟩:=S
 obtain ⟨i,hx⟩:=hx
 have hv:=hc.val.1 i hx
 obtain ⟨ps',g1,g2,g3⟩:=hc.setN (v:=v) nd (fun is q=>by rw [hx] at q; cases q)
 have ep:dN (gF ((bC B).zip ps) (.inr x) (.int v))=.dk (bC (setB B x (.n v))) ps':=by
  unfold gF
  rw [hv]
  unfold dN
  dsimp only
  rw [g1,g2,Nu]
 refine ⟨bC B,ps,hb,aad ..,?_⟩
 rw [ep]
 have f:∀ c,c≠I.b->(mu.set I.b (some (.dk (bC (setB B x (.n v))) ps')))[c]?=mu[c]?:=fun c h=>aaw (Ne.symm h)
 exact ⟨l1,l2,l3,l4,l5,l6,by rw [f _ (by omega)]; exact hr,by rw [f _ (by omega)]; exact hp,⟨ps',aax (jY hb),g3.frame fun c _ q=>f c (by omega)⟩,by rw [f _ (by omega)]; exact he,by rw [f _ (by omega)]; exact ho,by rw [f _ (by omega)]; exact hm,by rw [f _ (by omega)]; exact hd⟩
theorem RS.lst (S:RS mu I bu wd PO B M D) (nd:(B.map (·.1)).Nodup) {x:Str} {is:List Int} (hx:look B x=some (.l is)):∃ ks ps c,mu[I.b]?=some (some (.dk ks ps))/\b8 (ks.zip ps) (.inr x)=some (.ptr c)/\I.p<c/\c<I.b/\mu[c]?=some (some (.lst (is.map .int)))/\∀ js:List Int,RS (mu.set c (some (.lst (js.map .int)))) I bu wd PO (setB B x (.l js)) M D:=by
 obtain ⟨l1,l2,l3,l4,l5,l6,hr,hp,⟨ps,hb,hc⟩,he,ho,hm,hd⟩:=S
 obtain ⟨c,g1,g2,g3,g4⟩:=hc.val.2 is hx
 refine ⟨bC B,ps,c,hb,g1,by omega,g3,g4,fun js=>?_⟩
 have f:∀ d,d≠c->(mu.set c (some (.lst (js.map .int))))[d]?=mu[d]?:=fun d h=>aaw (Ne.symm h)
 refine ⟨l1,l2,l3,l4,l5,l6,by rw [f _ (by omega)]; exact hr,by rw [f _ (by omega)]; exact hp,⟨ps,by rw [f _ (by omega),Nu]; exact hb,hc.setL nd hx g1 (jY g4)⟩,by rw [f _ (by omega)]; exact he,by rw [f _ (by omega)]; exact ho,by rw [f _ (by omega)]; exact hm,by rw [f _ (by omega)]; exact hd⟩
end
abbrev qp:=Str×Int×Int
def qp.pv (q:qp):PV:=.tup [.str q.1,.int q.2.1,.int q.2.2]
abbrev evs (es:List qp):PV:=.lst (es.map qp.pv)
abbrev cY:=Int×Int×List qp
def cY.pv (m:cY):PV:=.tup [.int m.1,.int m.2.1,evs m.2.2]
def MO (mu:Mu):Nat->List PV->List cY->Prop
 | _,ms,[]=>ms=[]
 | lo,ms,m::r=>∃ c rest,ms=.tup [.int m.1,.int m.2.1,.ptr c]::rest/\lo<c/\mu[c]?=some (some (evs m.2.2))/\MO mu c rest r
theorem MO.frame {mu mu':Mu}:∀ {lo:Nat} {M:List PV} {ms:List cY},(∀ c,lo<c->c<mu.length->mu'[c]?=mu[c]?)->MO mu lo M ms->MO mu' lo M ms
 | lo,M,[],_,h=>h
 | lo,M,m::r,f,⟨c,rest,e,h1,h2,h⟩=>⟨c,rest,e,h1,by rw [f c h1 (jY h2)]; exact h2,MO.frame (fun d q1 q2=>f d (by omega) q2) h⟩
theorem MO.snoc {mu:Mu} {m:cY}:∀ {lo:Nat} {M:List PV} {ms:List cY},lo<mu.length->MO mu lo M ms->MO (mu++[some (evs m.2.2)]) lo (M++[PV.tup [.int m.1,.int m.2.1,.ptr mu.length]]) (ms++[m])
 | lo,M,[],hl,h=>by
  have h:M=[]:=h
  subst h
  exact ⟨mu.length,[],rfl,hl,by rw [aas (aaf _),aa6]; rfl,rfl⟩
 | lo,M,m'::r,hl,⟨c,rest,e,h1,h2,h⟩=>by
  subst e
  exact ⟨c,_,rfl,h1,by rw [xR (jY h2)]; exact h2,MO.snoc (jY h2) h⟩
theorem MO.len {mu:Mu}:∀ {lo:Nat} {M:List PV} {ms:List cY},MO mu lo M ms->M.length=ms.length
 | lo,M,[],h=>by have h:M=[]:=h; subst h; rfl
 | lo,M,m::r,⟨c,rest,e,h1,h2,h⟩=>by subst e; rw [aae,aae,h.len]
def Fr (I:Ix) (mu mu':Mu):Prop:=mu.length<=mu'.length/\∀ c,(c<I.r\/I.d<c)->c<mu.length->mu'[c]?=mu[c]?
theorem Fr.refl {I:Ix} {mu:Mu}:Fr I mu mu:=⟨aaf _,fun _ _ _=>rfl⟩
theorem Fr.trans {I:Ix} {a b c:Mu} (h:Fr I a b) (g:Fr I b c):Fr I a c:=⟨aaL h.1 g.1,fun k q l=>(g.2 k q (aay l h.1)).trans (h.2 k q l)⟩
theorem Fr.set {I:Ix} {mu:Mu} {c:Nat} {x:Option PV} (h:I.r<=c) (h2:c<=I.d):Fr I mu (mu.set c x):=⟨by rw [aaJ]; exact aaf _,fun k q l=>aaw (by omega)⟩
theorem Fr.push {I:Ix} {mu:Mu} {x:Option PV}:Fr I mu (mu++[x]):=⟨by simp,fun k _ l=>xR l⟩
section
variable {mu:Mu} {I:Ix} {bu:Int} {wd:Str} {PO:PV} {B:Bs} {M D:List PV}
theorem UJ (S:RS mu I bu wd PO B M D) {k t e:PV} (hl:M.length<100000):eU [.ptr I.r,k,t,e] mu=some (.sh .non,mu.set I.m (some (.lst (M++[PV.tup [k,t,e]])))):=
 f9 (ρ:=⟨[some (.sh (.ptr I.r)),some (.sh k),some (.sh t),some (.sh e)],mu.set I.m (some (.lst (M++[PV.tup [k,t,e]])))⟩) (qN (o:=.sh (.ptr I.m)) (y:=.sh (.tup [k,t,e])) (ρ1:=⟨[some (.sh (.ptr I.r)),some (.sh k),some (.sh t),some (.sh e)],mu⟩) (ρ2:=⟨[some (.sh (.ptr I.r)),some (.sh k),some (.sh t),some (.sh e)],mu⟩) (dj rfl rfl S.hr rfl) rfl S.hm rfl rfl S.hm hl rfl)
theorem qP {x:Str}:∀ k,bj mu k (.str x)=.str x
 | 0=>rfl
 | _+1=>rfl
theorem Ex.res:∀ (e:Ex) (k:Nat),bj mu k e.pv=e.pv
 | _,0=>rfl
 | .num i,k+1=>by show PV.tup [bj mu k (.str "num"),bj mu k (.int i)]=_; rw [qP,Cd]; rfl
 | .box x,k+1=>by show PV.tup [bj mu k (.str "box"),bj mu k (.str x)]=_; rw [qP,qP]; rfl
 | .at_ x e,k+1=>by show PV.tup [bj mu k (.str "@"),bj mu k (.str x),bj mu k e.pv]=_; rw [qP,qP,Ex.res e k]; rfl
 | .op s a b,k+1=>by show PV.tup [bj mu k (.str s),bj mu k a.pv,bj mu k b.pv]=_; rw [qP,Ex.res a k,Ex.res b k]; rfl
theorem Nx {ks:List Key} {ps:List PV} (h:ps.length=ks.length):dN (ks.zip ps)=.dk ks ps:=by
 unfold dN
 rw [show (fun x:Key×PV=>x.1)=Prod.fst from rfl,show (fun x:Key×PV=>x.2)=Prod.snd from rfl,List.map_fst_zip (by omega),List.map_snd_zip (by omega)]
theorem Ds (S:RS mu I bu wd PO B M D) (hB:GZ B) {e:Ex} (he:e.ok B) (hd:e.dp<=40) (h8:B.length<=100):dW [.ptr I.r,e.pv] mu=some (.sh (.int (ev B e)),mu):=by
 obtain ⟨ps,hb,hc⟩:=S.hb
 have hlen:ps.length=(bC B).length:=by rw [hc.len,aad]
 let E:=fun l2=>(⟨[some (.sh (.ptr I.r)),some (.sh e.pv),l2],mu⟩:Ev)
 have s1:aO 2 (wM (cg "Running" "boxes" (aj 0))) (E none)=some (.nx (E (some (.own (.dk (bC B) ps))))):=cH (QK (dj rfl rfl S.hr rfl) rfl hb) rfl rfl
 have s2:xN 2 (bx (cg "Running" "own" (aj 0)) (rA (eC (.int 1)))) (E (some (.own (.dk (bC B) ps))))=some (.nx (E (some (.own (.dk (bC B) ps))))):=by
  have u:=Uz (i:=2) (f:=bx (cg "Running" "own" (aj 0)) (rA (eC (.int 1)))) (ρ:=E (some (.own (.dk (bC B) ps)))) (ρ1:=E (some (.own (.dk (bC B) ps)))) (n:=I.e) (ls:=[]) (qs:=[]) (x:=.sh (.ptr I.e)) rfl (MF (l:=.sh (.ptr I.o)) (m:=.sh (.int (-1))) (ws:=[.ptr I.e]) (dj rfl rfl S.hr rfl) rfl rfl rfl S.ho rfl) rfl rfl S.he (by rw [aad]; simp; omega)
  rw [show dN (jy ([].zip []) ((bC B).zip ps))=.dk (bC B) ps from Nx hlen] at u
  exact u
 have s3:lW (aK (cR 40) (aa (aj 1) (aa (aj 2) ao))) (E (some (.own (.dk (bC B) ps))))=some (.sh (.int (ev B e)),E (some (.own (.dk (bC B) ps)))):=by
  refine yS (ρ1:=(E (some (.own (.dk (bC B) ps)))).peekD) (bh (ls:=[.sh (bj mu 40 e.pv),.sh (bj mu 40 (.dk (bC B) ps))]) (ps:=[e.pv,Y9 B]) (ρ1:=(E (some (.own (.dk (bC B) ps)))).peekD) (aC rfl (aC rfl rfl)) ?_ rfl rfl (value_eq hB he hd)) rfl
  show [bj mu 40 e.pv,.dk (bC B) (ps.map (bj mu 39))]=_
  rw [Ex.res,hc.res]
 exact bf (ρ:=E (some (.own (.dk (bC B) ps)))) (aB s1 (aB s2 (cD s3)))
theorem UL (S:RS mu I bu wd PO B M D) (nd:(B.map (·.1)).Nodup) (h8:B.length<=100) {x:Str} {v:Int} (hx:tG B x):∃ mu',iZ [.ptr I.r,.str x,.int v] mu=some (.sh (qp.pv (x,0,v)),mu')/\RS mu' I bu wd PO (setB B x (.n v)) M D/\Fr I mu mu'/\mu'.length=mu.length:=by
 obtain ⟨ks,ps,hb,hl,S'⟩:=S.num nd (v:=v) hx
 let E:=fun l3 mu=>(⟨[some (.sh (.ptr I.r)),some (.sh (.str x)),some (.sh (.int v)),l3],mu⟩:Ev)
 have ow:∀ l3,bx (cg "Running" "own" (aj 0)) (rA (eC (.int 1))) (E l3 mu)=some (.sh (.ptr I.e),E l3 mu):=fun l3=>MF (l:=.sh (.ptr I.o)) (m:=.sh (.int (-1))) (ws:=[.ptr I.e]) (dj rfl rfl S.hr rfl) rfl rfl rfl S.ho rfl
 have s1:aO 3 (qg (tT (Bx (aj 1) (bx (cg "Running" "own" (aj 0)) (rA (eC (.int 1))))) bB) (bx (cg "Running" "own" (aj 0)) (rA (eC (.int 1)))) (cg "Running" "boxes" (aj 0))) (E none mu)=some (.nx (E (some (.sh (.ptr I.b))) mu)):=by
  refine cH (l:=.sh (.ptr I.b)) (ρ1:=E none mu) ((Nq (ρ1:=E none mu) (fM (l:=.sh (.bl false)) (Xl (x:=.sh (.str x)) (y:=.sh (.ptr I.e)) (k:=.inr x) (ks:=[]) (ps:=[]) rfl (ow none) rfl rfl S.he) rfl rfl)).trans (dj rfl rfl S.hr rfl)) rfl rfl
 refine ⟨_,bf (ρ:=E (some (.sh (.ptr I.b))) _) (aB s1 (aB (ρ':=E (some (.sh (.ptr I.b))) _) (qO (ρ3:=E (some (.sh (.ptr I.b))) mu) (x:=.sh (.int v)) (o:=.sh (.ptr I.b)) (y:=.sh (.str x)) rfl rfl rfl rfl rfl rfl hb (by omega) rfl) rfl)),S',Fr.set (by have:=S.l1; have:=S.l2; omega) (by have:=S.l3; have:=S.l4; have:=S.l5; have:=S.l6; omega),aaJ⟩
end
theorem Ce {α:Type} {xs:List α} {k:Nat} {p:α} (h:xs[k]?=some p):gM xs (k:Int)=some p:=by
 have hk:=(aan.mp h).1
 unfold gM zu
 rw [ab7 (by omega),ab7 (by omega)]
 exact h
structure Gd (mu:Mu) (I:Ix) (bu:Int) (wd:Str) (PO:PV) (B:Bs) (ms:List cY) (D:List PV):Prop where
 ex:∃ M,RS mu I bu wd PO B M D/\MO mu I.d M ms
structure BG (B:Bs):Prop where
 ok:GZ B
 nd:(B.map (·.1)).Nodup
 l8:B.length<=100
theorem BG.n {B:Bs} (h:BG B) {x:Str} {v:Int} (hv:In v):BG (setB B x (.n v)):=⟨h.ok.set hv (fun is e=>by cases e),by rw [Nv]; exact h.nd,by unfold setB; rw [aad]; exact h.l8⟩
section
variable {mu:Mu} {I:Ix} {bu:Int} {wd:Str} {PO:PV} {B:Bs} {M D:List PV} {ms:List cY}
theorem noted {m:cY} (S:RS mu I bu wd PO B M D) (Mo:MO mu I.d M ms) (hl:ms.length<90000):∃ mu',eU [.ptr I.r,.int m.1,.int m.2.1,.ptr mu.length] (mu++[some (evs m.2.2)])=some (.sh .non,mu')/\Gd mu' I bu wd PO B (ms++[m]) D/\Fr I mu mu':=by
 have h6:=S.l6
 have hd:=jY S.hd
 have l5:=S.l1
 have l7:=S.l2
 have l8:=S.l3
 have l9:=S.l4
 have l10:=S.l5
 refine ⟨_,UJ S.push (by rw [Mo.len]; omega),⟨_,S.push.setM,(Mo.snoc hd).frame fun c q _=>aaw (by omega)⟩,Fr.push.trans (Fr.set (by omega) (by omega))⟩
theorem lO {m:Str} {g:GF} {a:AF} {vs:List (Option Lc)} {ls:List Lc} {mu1 mu2:Mu} {r:Lc} {ps:List PV} (hr:mu[I.r]?=some (some (bA "Running" (rF I bu wd)))) (hc:(["plan", "boxes", "own", "budget", "word", "moments", "due"]:List Str).contains m=false) (h2:a ⟨some (.sh (.ptr I.r))::vs,mu⟩=some (ls,⟨some (.sh (.ptr I.r))::vs,mu1⟩)) (hps:ls.map Lc.pv=ps) (h3:g (.ptr I.r::ps) mu1=some (r,mu2)):cL "Running" m g (aj 0) a ⟨some (.sh (.ptr I.r))::vs,mu⟩=some (r,⟨some (.sh (.ptr I.r))::vs,mu2⟩):=
 uC (ρ1:=⟨some (.sh (.ptr I.r))::vs,mu⟩) (ρ2:=⟨some (.sh (.ptr I.r))::vs,mu1⟩) rfl rfl hr hc h2 hps h3
abbrev nZ (p:PV):PV:=.tup [p,.int 0]
theorem QL {ws:List PV} {p:PV}:gM (ws++[p]) (-1)=some p:=by
 unfold gM zu
 have hl:(ws++[p]).length=ws.length+1:=by simp
 rw [hl,ab8 (by omega),ab7 (by omega)]
 show (ws++[p])[((-1:Int)+((ws.length+1:Nat):Int)).toNat]?=_
 rw [show ((-1:Int)+((ws.length+1:Nat):Int)).toNat=ws.length from by omega,aas (aaf _),aa6]
 rfl
theorem G5 {ps:List PV} (S:RS mu I bu wd PO B M D) (hl:D.length+ps.length<=90000):il [.ptr I.r,.lst ps] mu=some (.sh .non,mu.set I.d (some (.lst (D++ps.reverse.map nZ)))):=by
 let E:Ev:=⟨[some (.sh (.ptr I.r)),some (.sh (.lst ps))],mu⟩
 have ec:=kW (b:=aG 0) (te:=aQ (aa (aj 0) (aa (eC (.int 0)) ao))) (mu:=mu) (fun ρ=>∃ o,ρ=⟨[o],mu⟩) (fun ρ ⟨o,e⟩=>by rw [e]) nZ (xs:=ps.reverse) (ρ:=⟨[none],mu⟩) ⟨none,rfl⟩ (by simp; omega) (by
  rintro p hp ρ ⟨o,rfl⟩
  exact ⟨⟨[some (.sh p)],mu⟩,rfl,.sh (nZ p),⟨[some (.sh p)],mu⟩,rfl,rfl,_,rfl⟩) (by
  rintro p hp ρ ρ1 ⟨o,rfl⟩ e
  cases e
  exact ⟨_,rfl⟩)
 have e2:eO (En (aj 1)) 1 [] (aG 0) dq (aQ (aa (aj 0) (aa (eC (.int 0)) ao))) E=some (.own (.lst (ps.reverse.map nZ)),E):=je (f:=En (aj 1)) (m:=1) (ixs:=[]) (ρ:=E) (ρ1:=E) (xs:=ps.reverse) rfl ec
 exact f9 (ρ:=⟨[some (.sh (.ptr I.r)),some (.sh (.lst ps))],mu.set I.d (some (.lst (D++ps.reverse.map nZ)))⟩) (Uy (o:=.sh (.ptr I.d)) (ρ1:=E) (ρ2:=E) (y:=.own (.lst (ps.reverse.map nZ))) (dj rfl rfl S.hr rfl) rfl S.hd e2 rfl S.hd (by rw [aad,aby]; omega) rfl)
theorem UT {fo:EF} {ρ ρ1:Ev} {o:Lc} {n:Nat} {ws:List PV} (h:fo ρ=some (o,ρ1)) (ho:o.pv=.ptr n) (hm:ρ1.mu[n]?=some (some (.lst ws))):Ep fo ρ=some (.nx ⟨ρ1.vs,ρ1.mu.set n (some (.lst []))⟩):=by
 unfold Ep
 rw [h,aaa,ho]
 dsimp only
 rw [hm]
abbrev SE (I:Ix) (mu:Mu):Ev:=⟨[some (.sh (.ptr I.r))],mu⟩
theorem RS.ls (S:RS mu I bu wd PO B M D):I.r<I.p/\I.p<I.b/\I.b<I.e/\I.e<I.o/\I.o<I.m/\I.m<I.d:=⟨S.l1,S.l2,S.l3,S.l4,S.l5,S.l6⟩
theorem IK (S:RS mu I bu wd PO B M D):tT (aA zP (cg "Running" "budget" (aj 0)) (eC (.int 0))) bB (SE I mu)=some (decide (bu<=0),SE I mu):=
 fM (l:=.sh (.bl (decide (bu<=0)))) (cO (dj (p:=.int bu) rfl rfl S.hr rfl) rfl rfl rfl rfl) rfl rfl
theorem QM (S:RS mu I bu wd PO B M D) (h:bu<=0):∃ mu',gj [.ptr I.r] mu=some (.sh (.bl false),mu')/\RS mu' I bu "spent" PO B M []/\Fr I mu mu'/\mu'.length=mu.length:=by
 have ⟨l1,l2,l3,l4,l5,l6⟩:=S.ls
 have S1:=S.setR (bu':=bu) (wd' := "spent")
 have w1:fj "Running" "word" (aj 0) (eC (.str "spent")) (SE I mu)=some (.nx (SE I (mu.set I.r (some (bA "Running" (rF I bu "spent")))))):=oO (C := "Running") (f := "word") (p:=.str "spent") (y:=.sh (.str "spent")) (x:=.sh (.ptr I.r)) (ρ1:=SE I mu) (ρ2:=SE I mu) (l:=rF I bu wd) rfl rfl rfl rfl S.hr (show (7:Nat)<1000 from by decide)
 have w2:=UT (fo:=cg "Running" "due" (aj 0)) (ρ:=SE I (mu.set I.r (some (bA "Running" (rF I bu "spent"))))) (o:=.sh (.ptr I.d)) (dj rfl rfl S1.hr rfl) rfl S1.hd
 exact ⟨_,bf (ρ:=SE I _) (gh ((dI ((IK S).trans (by rw [acb h]))).trans (aB w1 (aB w2 rfl)))),S1.setD,(Fr.set (by omega) (by omega)).trans (Fr.set (by omega) (by omega)),by rw [aaJ]; show (mu.set _ _).length=_; rw [aaJ]⟩
theorem Ny (S:RS mu I bu wd PO B M D) (h:0<bu):∃ mu',gj [.ptr I.r] mu=some (.sh (.bl true),mu')/\RS mu' I (bu-1) wd PO B M D/\Fr I mu mu'/\mu'.length=mu.length:=by
 have ⟨l1,l2,l3,l4,l5,l6⟩:=S.ls
 have S1:=S.setR (bu':=bu-1) (wd':=wd)
 have w1:fj "Running" "budget" (aj 0) (aA m8 (cg "Running" "budget" (aj 0)) (eC (.int 1))) (SE I mu)=some (.nx (SE I (mu.set I.r (some (bA "Running" (rF I (bu-1) wd)))))):=oO (C := "Running") (f := "budget") (p:=.int (bu-1)) (y:=.sh (.int (bu-1))) (x:=.sh (.ptr I.r)) (ρ1:=SE I mu) (ρ2:=SE I mu) (l:=rF I bu wd) (cO (dj (p:=.int bu) rfl rfl S.hr rfl) rfl rfl rfl rfl) rfl rfl rfl S.hr (show (7:Nat)<1000 from by decide)
 exact ⟨_,bf (ρ:=SE I _) (aB (ρ':=SE I mu) ((bR ((IK S).trans (by rw [aca (by omega)]))).trans rfl) (aB w1 rfl)),S1,Fr.set (by omega) (by omega),aaJ⟩
end
abbrev pF (T:List PV) (L H:PV):FD:=[("told",.lst T),("lists",L),("heads",H)]
abbrev fZ (T:List PV) (L H:PV):PV:=bA "Plan" (pF T L H)
theorem xT {f:EF} {a b:Str} {ρ ρ1:Ev} (h:f ρ=some (.sh (.str a),ρ1)) {c:Bool} (e:(a==b)=c):tT (aA eqP f (eC (.str b))) bB ρ=some (c,ρ1):=fM (l:=.sh (.bl c)) (cO h rfl rfl rfl (by show some (Lc.sh (.bl (a==b)))=_; rw [e])) rfl rfl
theorem xU {f:EF} {a b:Int} {ρ ρ1:Ev} (h:f ρ=some (.sh (.int a),ρ1)) {c:Bool} (e:(a==b)=c):tT (aA eqP f (eC (.int b))) bB ρ=some (c,ρ1):=fM (l:=.sh (.bl c)) (cO h rfl rfl rfl (by show some (Lc.sh (.bl (a==b)))=_; rw [e])) rfl rfl
theorem uD {c d:TF} {ρ ρ1 ρ2:Ev} {b:Bool} (h:c ρ=some (true,ρ1)) (h2:d ρ1=some (b,ρ2)):mj c d ρ=some (b,ρ2):=by
 unfold mj
 rw [h,aaa]
 exact h2
theorem G6 {c d:TF} {ρ ρ1:Ev} (h:c ρ=some (false,ρ1)):mj c d ρ=some (false,ρ1):=by
 unfold mj
 rw [h,aaa]
 rfl
def jl (Q:PV) (k:Nat) (rv:PV):Prop:=∀ (mu:Mu) (p:Nat),mu[p]?=some (some Q)->jX [.ptr p,.int (k:Nat)] mu=some (.sh rv,mu)
def vC (Q:PV) (k:Nat) (ns:List PV):Prop:=∀ (mu:Mu) (p:Nat),mu[p]?=some (some Q)->iM [.ptr p,.int (k:Nat),.int 0] mu=some (.own (.lst ns),mu)
def wW (bu:Int) (wd:Str) (D:List PV) (k:Nat) (ns:List PV) (v:Int):Int×Str×List PV:=if v=0 then (bu,wd,D) else if bu<=0 then (bu, "spent",[]) else (bu-1,wd,D++[.tup [.int (k:Nat),.int 0]]++ns.reverse.map nZ)
section
variable {mu:Mu} {I:Ix} {bu:Int} {wd:Str} {T:List PV} {L H:PV} {B:Bs} {M D:List PV} {ms:List cY}
theorem UV {k:Nat} {e:Ex} {bl:PV} {ns:List PV} (S:RS mu I bu wd (fZ T L H) B M D) (hB:BG B) (he:e.ok B) (hd:e.dp<=40) (hb:vC (fZ T L H) k ns) (hl:D.length+ns.length+1<=90000):∃ mu',nO [.ptr I.r,.int (k:Nat),.tup [.str "while",e.pv,bl]] mu=some (.sh .non,mu')/\RS mu' I (wW bu wd D k ns (ev B e)).1 (wW bu wd D k ns (ev B e)).2.1 (fZ T L H) B M (wW bu wd D k ns (ev B e)).2.2/\Fr I mu mu'/\mu'.length=mu.length:=by
 have ⟨l1,l2,l3,l4,l5,l6⟩:=S.ls
 let E:=fun mu=>(⟨[some (.sh (.ptr I.r)),some (.sh (.int (k:Nat))),some (.sh (.tup [.str "while",e.pv,bl]))],mu⟩:Ev)
 have t1:∀ c:Bool,(!(ev B e==0))=c->tT (aA yq (cL "Running" "value" dW (aj 0) (aa (bx (aj 2) (eC (.int 1))) ao)) (eC (.int 0))) bB (E mu)=some (c,E mu):=fun c hc=>fM (l:=.sh (.bl c)) (cO (p:=.int (ev B e)) (lO S.hr (by decide +kernel) (ls:=[.sh e.pv]) (mu1:=mu) rfl rfl (Ds S hB.ok he hd hB.l8)) rfl rfl rfl (by show some (Lc.sh (.bl (!(ev B e==0))))=_; rw [hc])) rfl rfl
 have t2:∀ (b:Bool) (mu1:Mu),gj [.ptr I.r] mu=some (.sh (.bl b),mu1)->tT (cL "Running" "spend" gj (aj 0) ao) gn (E mu)=some (b,E mu1):=fun b mu1 h=>fM (l:=.sh (.bl b)) (lO S.hr (by decide +kernel) (ls:=[]) (mu1:=mu) rfl rfl h) rfl rfl
 unfold wW
 by_cases h:ev B e=0
 . rw [ab7 h]
   exact ⟨mu,f9 (ρ:=E mu) ((bR (G6 (t1 false (by rw [h]; rfl)))).trans rfl),S,Fr.refl,rfl⟩
 . rw [ab8 h]
   have hc:(!(ev B e==0))=true:=by rw [acd.mpr h]; rfl
   by_cases g:bu<=0
   . rw [ab7 g]
     obtain ⟨mu1,e1,S1,f1,n1⟩:=QM S g
     exact ⟨mu1,f9 (ρ:=E mu1) ((bR (uD (t1 true hc) (t2 false mu1 e1))).trans rfl),S1,f1,n1⟩
   . rw [ab8 g]
     obtain ⟨mu1,e1,S1,f1,n1⟩:=Ny S (by omega)
     have S2:=S1.setD (D':=D++[.tup [.int (k:Nat),.int 0]])
     let mu2:=mu1.set I.d (some (.lst (D++[.tup [.int (k:Nat),.int 0]])))
     have s3:iW (cg "Running" "due" (aj 0)) (aQ (aa (aj 1) (aa (eC (.int 0)) ao))) (E mu1)=some (.nx (E mu2)):=qN (o:=.sh (.ptr I.d)) (ρ1:=E mu1) (ρ2:=E mu1) (y:=.sh (.tup [.int (k:Nat),.int 0])) (dj rfl rfl S1.hr rfl) rfl S1.hd rfl rfl S1.hd (by omega) rfl
     have el:=G5 (ps:=ns) S2 (by rw [aai]; show D.length+1+ns.length<=_; omega)
     have s4:cW (cL "Running" "lay" il (aj 0) (aa (cL "Plan" "block" iM (cg "Running" "plan" (aj 0)) (aa (aj 1) (aa (eC (.int 0)) ao))) ao)) (E mu2)=some (.nx (E (mu2.set I.d (some (.lst (D++[.tup [.int (k:Nat),.int 0]]++ns.reverse.map nZ)))))):=fJ (lO S2.hr (by decide +kernel) (ls:=[.own (.lst ns)]) (mu1:=mu2) (aC (uC (x:=.sh (.ptr I.p)) (ls:=[.sh (.int (k:Nat)),.sh (.int 0)]) (ρ1:=E mu2) (ρ2:=E mu2) (dj rfl rfl S2.hr rfl) rfl S2.hp (show (["told", "lists", "heads"]:List Str).contains "block" = false from by decide +kernel) rfl rfl (hb mu2 I.p S2.hp)) rfl) rfl el)
     exact ⟨_,f9 (ρ:=E _) ((dI (uD (t1 true hc) (t2 true mu1 e1))).trans (aB s3 s4)),S2.setD,(f1.trans (Fr.set (by omega) (by omega))).trans (Fr.set (by omega) (by omega)),by rw [aaJ]; show (mu1.set _ _).length=_; rw [aaJ,n1]⟩
theorem Al {k:Nat} {rv:PV} {M':List PV} (S:RS mu I bu wd (fZ T L H) B M D) (Mo:MO mu I.d M ms) (hk:jl (fZ T L H) k rv) (hl:ms.length<90000):∃ mu1,Gd mu1 I bu wd (fZ T L H) B (ms++[((k:Int),0,[])]) D/\Fr I mu mu1/\∀ (f:SF) (R:Option Fl),f ⟨[some (.sh (.ptr I.r)),some (.sh (.int (k:Nat))),some (.sh rv)],mu1⟩=R->aF (aO 2 (cL "Plan" "row" jX (cg "Running" "plan" (aj 0)) (aa (aj 1) ao))) (aF (cW (cL "Running" "note" eU (aj 0) (aa (aj 1) (aa (eC (.int 0)) (aa (cV (aV ao)) ao))))) f) ⟨[some (.sh (.ptr I.r)),some (.sh (.int (k:Nat))),none],mu⟩=R:=by
 let E:=fun l2 mu=>(⟨[some (.sh (.ptr I.r)),some (.sh (.int (k:Nat))),l2],mu⟩:Ev)
 let Rv:Option Lc:=some (.sh rv)
 have s2:aO 2 (cL "Plan" "row" jX (cg "Running" "plan" (aj 0)) (aa (aj 1) ao)) (E none mu)=some (.nx (E Rv mu)):=cH (uC (x:=.sh (.ptr I.p)) (ls:=[.sh (.int (k:Nat))]) (ρ1:=E none mu) (ρ2:=E none mu) (dj rfl rfl S.hr rfl) rfl S.hp (show (["told", "lists", "heads"]:List Str).contains "row" = false from by decide +kernel) rfl rfl (hk mu I.p S.hp)) rfl rfl
 obtain ⟨mu1,e1,g1,f1⟩:=noted (m:=((k:Int),0,[])) S Mo hl
 have hs1:aa (aj 1) (aa (eC (.int 0)) (aa (cV (aV ao)) ao)) (E Rv mu)=some ([.sh (.int (k:Nat)),.sh (.int 0),.sh (.ptr mu.length)],E Rv (mu++[some (evs [])])):=rfl
 have s3:cW (cL "Running" "note" eU (aj 0) (aa (aj 1) (aa (eC (.int 0)) (aa (cV (aV ao)) ao)))) (E Rv mu)=some (.nx (E Rv mu1)):=fJ (lO S.hr (by decide +kernel) (ls:=[.sh (.int (k:Nat)),.sh (.int 0),.sh (.ptr mu.length)]) (mu1:=mu++[some (evs [])]) hs1 rfl e1)
 exact ⟨mu1,g1,f1,fun f R h=>aB s2 (aB s3 h)⟩
abbrev iC (x:Str) (e:Ex):PV:=.tup [.str "set",.str x,e.pv]
theorem Nz {k:Nat} {x:Str} {e:Ex} (G:Gd mu I bu wd (fZ T L H) B ms D) (hB:BG B) (hx:tG B x) (he:e.ok B) (de:e.dp<=40) (hk:jl (fZ T L H) k (iC x e)) (hl:ms.length+1<90000):∃ mu',iB [.ptr I.r,.int (k:Nat)] mu=some (.sh .non,mu')/\Gd mu' I bu wd (fZ T L H) (setB B x (.n (ev B e))) (ms++[((k:Int),0,[]),((k:Int),1,[(x,0,ev B e)])]) D/\Fr I mu mu':=by
 obtain ⟨M,S,Mo⟩:=G.ex
 obtain ⟨mu1,⟨⟨M1,S1,Mo1⟩⟩,f1,go⟩:=Al (M':=M) S Mo hk (by omega)
 let E:=fun mu=>(⟨[some (.sh (.ptr I.r)),some (.sh (.int (k:Nat))),some (.sh (iC x e))],mu⟩:Ev)
 have ll:(ms++[((k:Int),(0:Int),([]:List qp))]).length<90000:=by rw [aai]; show ms.length+1<90000; exact hl
 obtain ⟨mu2,e2,S2,f2,len2⟩:=UL (v:=ev B e) S1 hB.nd hB.l8 hx
 have Mo2:MO mu2 I.d M1 (ms++[((k:Int),0,[])]):=Mo1.frame fun c q l=>f2.2 c (.inr q) l
 obtain ⟨mu',e',g',f'⟩:=noted (m:=((k:Int),1,[(x,0,ev B e)])) S2 Mo2 ll
 have r0:bx (aj 2) (eC (.int 0)) (E mu1)=some (.sh (.str "set"),E mu1):=rfl
 have gv:cL "Running" "give" iZ (aj 0) (aa (bx (aj 2) (eC (.int 1))) (aa (cL "Running" "value" dW (aj 0) (aa (bx (aj 2) (eC (.int 2))) ao)) ao)) (E mu1)=some (.sh (qp.pv (x,0,ev B e)),E mu2):=lO S1.hr (by decide +kernel) (ls:=[.sh (.str x),.sh (.int (ev B e))]) (mu1:=mu1) (aC rfl (aC (lO S1.hr (by decide +kernel) (ls:=[.sh e.pv]) (mu1:=mu1) (aC rfl rfl) rfl (Ds S1 hB.ok he de hB.l8)) rfl)) rfl e2
 have sl:cV (aV (aa (cL "Running" "give" iZ (aj 0) (aa (bx (aj 2) (eC (.int 1))) (aa (cL "Running" "value" dW (aj 0) (aa (bx (aj 2) (eC (.int 2))) ao)) ao))) ao)) (E mu1)=some (.sh (.ptr mu2.length),E (mu2++[some (evs [(x,0,ev B e)])])):=lN (p:=evs [(x,0,ev B e)]) (ρ1:=E mu2) (wH (ls:=[.sh (qp.pv (x,0,ev B e))]) (aC gv rfl) rfl rfl)
 refine ⟨mu',f9 (ρ:=E mu') (go _ _ ((bR (xT r0 (by decide +kernel))).trans ((bR (xT r0 (by decide +kernel))).trans ((bR (xT r0 (by decide +kernel))).trans ((bR (xT r0 (by decide +kernel))).trans (fJ (lO S1.hr (by decide +kernel) (ls:=[.sh (.int (k:Nat)),.sh (.int 1),.sh (.ptr mu2.length)]) (mu1:=mu2++[some (evs [(x,0,ev B e)])]) (aC rfl (aC rfl (aC sl rfl))) rfl e'))))))),?_,(f1.trans f2).trans f'⟩
 rw [show ms++[((k:Int),0,[]),((k:Int),1,[(x,0,ev B e)])]=(ms++[((k:Int),0,[])])++[((k:Int),1,[(x,0,ev B e)])] from by rw [aah]; rfl]
 exact g'
theorem QQ {k:Nat} {e:Ex} {bl:PV} {ns:List PV} (G:Gd mu I bu wd (fZ T L H) B ms D) (hB:BG B) (he:e.ok B) (de:e.dp<=40) (hk:jl (fZ T L H) k (.tup [.str "while",e.pv,bl])) (hb:vC (fZ T L H) k ns) (hl:ms.length<90000) (hD:D.length+ns.length+1<=90000):∃ mu',iB [.ptr I.r,.int (k:Nat)] mu=some (.sh .non,mu')/\Gd mu' I (wW bu wd D k ns (ev B e)).1 (wW bu wd D k ns (ev B e)).2.1 (fZ T L H) B (ms++[((k:Int),0,[])]) (wW bu wd D k ns (ev B e)).2.2/\Fr I mu mu':=by
 obtain ⟨M,S,Mo⟩:=G.ex
 obtain ⟨mu1,⟨⟨M1,S1,Mo1⟩⟩,f1,go⟩:=Al (M':=M) S Mo hk hl
 let E:=fun mu=>(⟨[some (.sh (.ptr I.r)),some (.sh (.int (k:Nat))),some (.sh (.tup [.str "while",e.pv,bl]))],mu⟩:Ev)
 have r0:bx (aj 2) (eC (.int 0)) (E mu1)=some (.sh (.str "while"),E mu1):=rfl
 obtain ⟨mu2,e2,S2,f2,n2⟩:=UV (k:=k) (bl:=bl) S1 hB he de hb hD
 exact ⟨mu2,f9 (ρ:=E mu2) (go _ _ ((bR (xT r0 (by decide +kernel))).trans ((dI (xT r0 (by decide +kernel))).trans (fJ (lO S1.hr (by decide +kernel) (ls:=[.sh (.int (k:Nat)),.sh (.tup [.str "while",e.pv,bl])]) (mu1:=mu1) rfl rfl e2))))),⟨M1,S2,Mo1.frame fun c q l=>f2.2 c (.inr q) l⟩,f1.trans f2⟩
theorem IV {k:Nat} {mu':Mu} (S:RS mu I bu wd (fZ T L H) B M (D++[.tup [.int (k:Nat),.int 0]])) (e':iB [.ptr I.r,.int (k:Nat)] (mu.set I.d (some (.lst D)))=some (.sh .non,mu')):fX [.ptr I.r] mu=some (.sh .non,mu'):=by
 let mu1:=mu.set I.d (some (.lst D))
 have S1:RS mu1 I bu wd (fZ T L H) B M D:=S.setD
 let E:=fun l1 mu=>(⟨[some (.sh (.ptr I.r)),l1],mu⟩:Ev)
 let U:Option Lc:=some (.sh (.tup [.int (k:Nat),.int 0]))
 have s1:aO 1 (xK (cg "Running" "due" (aj 0))) (E none mu)=some (.nx (E U mu1)):=cH (Iw (ρ1:=E none mu) (o:=.sh (.ptr I.d)) (ws:=D) (p:=.tup [.int (k:Nat),.int 0]) (dj rfl rfl S.hr rfl) rfl S.hd rfl) rfl rfl
 exact f9 (ρ:=E U mu') (aB s1 ((dI (xU (a:=0) (ρ1:=E U mu1) rfl (by decide))).trans (fJ (lO S1.hr (by decide +kernel) (ls:=[.sh (.int (k:Nat))]) (mu1:=mu1) rfl rfl e'))))
theorem Gd.pop {x:PV} (G:Gd mu I bu wd (fZ T L H) B ms (D++[x])):Gd (mu.set I.d (some (.lst D))) I bu wd (fZ T L H) B ms D/\Fr I mu (mu.set I.d (some (.lst D))):=by
 obtain ⟨M,S,Mo⟩:=G.ex
 have ⟨l1,l2,l3,l4,l5,l6⟩:=S.ls
 exact ⟨⟨M,S.setD,Mo.frame fun c q _=>aaw (by omega)⟩,Fr.set (by omega) (aaf _)⟩
theorem QR {k:Int} (G:Gd mu I bu wd (fZ T L H) B ms (D++[.tup [.int k,.int 3]])) (hl:ms.length<90000):∃ mu',fX [.ptr I.r] mu=some (.sh .non,mu')/\Gd mu' I bu wd (fZ T L H) B (ms++[(k,3,[])]) D/\Fr I mu mu':=by
 obtain ⟨M,S,Mo⟩:=G.ex
 have l1:=S.l1
 have l2:=S.l2
 have l3:=S.l3
 have l4:=S.l4
 have l5:=S.l5
 have l6:=S.l6
 let mu1:=mu.set I.d (some (.lst D))
 have S1:RS mu1 I bu wd (fZ T L H) B M D:=S.setD
 have Mo1:MO mu1 I.d M ms:=Mo.frame fun c q _=>aaw (by omega)
 obtain ⟨mu',e',g',f'⟩:=noted (m:=(k,3,[])) S1 Mo1 hl
 let E:=fun l1 mu=>(⟨[some (.sh (.ptr I.r)),l1],mu⟩:Ev)
 let U:Option Lc:=some (.sh (.tup [.int k,.int 3]))
 have s1:aO 1 (xK (cg "Running" "due" (aj 0))) (E none mu)=some (.nx (E U mu1)):=cH (Iw (ρ1:=E none mu) (o:=.sh (.ptr I.d)) (ws:=D) (p:=.tup [.int k,.int 3]) (dj rfl rfl S.hr rfl) rfl S.hd rfl) rfl rfl
 have ha:aa (bx (aj 1) (eC (.int 0))) (aa (bx (aj 1) (eC (.int 1))) (aa (cV (aV ao)) ao)) (E U mu1)=some ([.sh (.int k),.sh (.int 3),.sh (.ptr mu1.length)],E U (mu1++[some (evs [])])):=rfl
 exact ⟨mu',f9 (ρ:=E U mu') (aB s1 ((bR (xU (a:=3) (ρ1:=E U mu1) rfl (by decide))).trans ((bR (xU (a:=3) (ρ1:=E U mu1) rfl (by decide))).trans (fJ (lO S1.hr (by decide +kernel) (ls:=[.sh (.int k),.sh (.int 3),.sh (.ptr mu1.length)]) (mu1:=mu1++[some (evs [])]) ha rfl e'))))),g',(Fr.set (by omega) (aaf _)).trans f'⟩
end
theorem UW {n:Nat} {c:TF} {f:SF} {ρ ρ1 ρ2:Ev} (h:c ρ=some (true,ρ1)) (g:f ρ1=some (.nx ρ2)):pL (n+1) c f ρ=pL n c f ρ2:=by
 show lV c f (n+1) ρ=lV c f n ρ2
 conv=>lhs; unfold lV
 rw [h,aaa]
 dsimp only
 rw [ab7 rfl,g,aaa]
theorem U0 {n:Nat} {c:TF} {f:SF} {ρ ρ1:Ev} (h:c ρ=some (false,ρ1)):pL (n+1) c f ρ=some (.nx ρ1):=by
 show lV c f (n+1) ρ=_
 unfold lV
 rw [h,aaa]
 rfl
abbrev R7:SF:=cW (cL "Running" "step" fX (aj 3) ao)
abbrev stC:TF:=Ad (cg "Running" "due" (aj 3))
section
variable {I:Ix} {bu:Int} {wd:Str} {T:List PV} {L H:PV}
abbrev GE (p v b:PV) (I:Ix) (mu:Mu):Ev:=⟨[some (.sh p),some (.sh v),some (.sh b),some (.sh (.ptr I.r))],mu⟩
theorem YH {p v b:PV} {mu mu':Mu} (hr:mu[I.r]?=some (some (bA "Running" (rF I bu wd)))) (e:fX [.ptr I.r] mu=some (.sh .non,mu')):R7 (GE p v b I mu)=some (.nx (GE p v b I mu')):=
 fJ (uC (x:=.sh (.ptr I.r)) (ls:=[]) (ρ1:=GE p v b I mu) (ρ2:=GE p v b I mu) rfl rfl hr (show (["plan", "boxes", "own", "budget", "word", "moments", "due"]:List Str).contains "step" = false from by decide +kernel) rfl rfl e)
theorem R8 {p v b:PV} {mu:Mu} {PO:PV} {B:Bs} {M D:List PV} (S:RS mu I bu wd PO B M D):stC (GE p v b I mu)=some (!D.isEmpty,GE p v b I mu):=UG (x:=.sh (.ptr I.d)) (dj rfl rfl S.hr rfl) rfl S.hd
structure AS where
 bu:Int
 wd:Str
 B:Bs
 ms:List cY
 D:List PV
abbrev GA (mu:Mu) (I:Ix) (Q:PV) (s:AS):Prop:=Gd mu I s.bu s.wd Q s.B s.ms s.D
def Rn (I:Ix) (Q:PV) (n:Nat) (s s':AS):Prop:=∀ (p v b:PV) (mu:Mu),GA mu I Q s->∃ mu',(∀ m,pL (m+n) stC R7 (GE p v b I mu)=pL m stC R7 (GE p v b I mu'))/\GA mu' I Q s'/\Fr I mu mu'
theorem Rn.refl {Q:PV} {s:AS}:Rn I Q 0 s s:=fun p v b mu G=>⟨mu,fun _=>rfl,G,Fr.refl⟩
theorem Rn.trans {Q:PV} {n m:Nat} {s s' s'':AS} (h:Rn I Q n s s') (g:Rn I Q m s' s''):Rn I Q (n+m) s s'':=fun p v b mu G=>by
 obtain ⟨mu1,e1,G1,f1⟩:=h p v b mu G
 obtain ⟨mu2,e2,G2,f2⟩:=g p v b mu1 G1
 exact ⟨mu2,fun k=>by rw [show k+(n+m)=(k+m)+n from by omega,e1,e2],G2,f1.trans f2⟩
abbrev due (k:Nat) (t:Int):PV:=.tup [.int (k:Nat),.int t]
theorem U3 {D:List PV} {x:PV}:(!(D++[x]).isEmpty)=true:=by cases D<;>rfl
theorem Ks {s s':AS} {x:PV} {D:List PV} (hD:s.D=D++[x]) (h:∀ mu,GA mu I (fZ T L H) s->∃ mu',fX [.ptr I.r] mu=some (.sh .non,mu')/\GA mu' I (fZ T L H) s'/\Fr I mu mu'):Rn I (fZ T L H) 1 s s':=fun p v b mu G=>by
 obtain ⟨mu',e,G',f⟩:=h mu G
 obtain ⟨M,S,Mo⟩:=G.ex
 exact ⟨mu',fun m=>UW ((R8 S).trans (by rw [hD,U3])) (YH S.hr e),G',f⟩
theorem Xm {B:Bs} {ms:List cY} {D:List PV} {k:Nat} {x:Str} {e:Ex} (hB:BG B) (hx:tG B x) (he:e.ok B) (de:e.dp<=40) (hk:jl (fZ T L H) k (iC x e)) (hl:ms.length+1<90000):Rn I (fZ T L H) 1 ⟨bu,wd,B,ms,D++[due k 0]⟩ ⟨bu,wd,setB B x (.n (ev B e)),ms++[((k:Int),0,[]),((k:Int),1,[(x,0,ev B e)])],D⟩:=
 Ks rfl fun mu G=>by
  obtain ⟨M,S,Mo⟩:=Gd.ex G
  obtain ⟨G1,f1⟩:=Gd.pop G
  obtain ⟨mu',e',G',f'⟩:=Nz G1 hB hx he de hk hl
  exact ⟨mu',IV S e',G',f1.trans f'⟩
theorem YJ {B:Bs} {ms:List cY} {D:List PV} {k:Nat} {e:Ex} {bl:PV} {ns:List PV} (hB:BG B) (he:e.ok B) (de:e.dp<=40) (hk:jl (fZ T L H) k (.tup [.str "while",e.pv,bl])) (hb:vC (fZ T L H) k ns) (hl:ms.length<90000) (hD:D.length+ns.length+1<=90000):Rn I (fZ T L H) 1 ⟨bu,wd,B,ms,D++[due k 0]⟩ ⟨(wW bu wd D k ns (ev B e)).1,(wW bu wd D k ns (ev B e)).2.1,B,ms++[((k:Int),0,[])],(wW bu wd D k ns (ev B e)).2.2⟩:=
 Ks rfl fun mu G=>by
  obtain ⟨M,S,Mo⟩:=Gd.ex G
  obtain ⟨G1,f1⟩:=Gd.pop G
  obtain ⟨mu',e',G',f'⟩:=QQ G1 hB he de hk hb hl hD
  exact ⟨mu',IV S e',G',f1.trans f'⟩
theorem Xn {B:Bs} {ms:List cY} {D:List PV} {k:Nat} (hl:ms.length<90000):Rn I (fZ T L H) 1 ⟨bu,wd,B,ms,D++[due k 3]⟩ ⟨bu,wd,B,ms++[((k:Int),3,[])],D⟩:=
 Ks rfl fun mu G=>QR G hl
end
mutual
def Xo:PV->Nat
 | .tup ps=>Ku ps+1
 | _=>1
def Ku:List PV->Nat
 | []=>0
 | p::ps=>max (Xo p) (Ku ps)
end
def fl (p:PV):Prop:=jF p=true/\Xo p<=20
def R9 (ps:List PV):Prop:=rz ps=true/\Ku ps<=20
theorem G7 {p:PV} {ps:List PV} (h:fl p) (t:R9 ps):R9 (p::ps):=by
 obtain ⟨h1,h2⟩:=h
 obtain ⟨t1,t2⟩:=t
 refine ⟨?_,?_⟩
 . show (jF p&&rz ps)=true
   rw [h1,t1]; rfl
 . show max (Xo p) (Ku ps)<=20
   omega
theorem U4:R9 []:=⟨rfl,aa3 _⟩
theorem Xp {x:Str}:fl (.str x):=⟨rfl,by show 1<=20; decide⟩
abbrev zI (x:Int):Option Lc:=some (.sh (.int x))
abbrev zT (x:Str):Option Lc:=some (.sh (.str x))
abbrev zL (x:List PV):Option Lc:=some (.sh (.lst x))
abbrev zO (x:List PV):Option Lc:=some (.own (.lst x))
abbrev zS (x:PV):Option Lc:=some (.sh x)
mutual
inductive Row where
 | leaf (w:Str) (ps:List PV)
 | wh (e:PV) (b:Rows)
inductive Rows where
 | nil
 | cons (r:Row) (rs:Rows)
end
mutual
def Row.pv:Row->PV
 | .leaf w ps=>.tup (.str w::ps)
 | .wh e b=>.tup [.str "while",e,.lst b.pvs]
def Rows.pvs:Rows->List PV
 | .nil=>[]
 | .cons r rs=>r.pv::rs.pvs
end
mutual
def Row.dep:Row->Nat
 | .leaf _ _=>1
 | .wh _ b=>b.dep+1
def Rows.dep:Rows->Nat
 | .nil=>1
 | .cons r rs=>max (r.dep+1) rs.dep
end
theorem Rows.dep_pos:∀ b:Rows,1<=b.dep
 | .nil=>aaf _
 | .cons r rs=>aaL (Rows.dep_pos rs) (Nat.le_max_right _ _)
def Plain (w:Str):Prop:=(w == "if")=false/\(w == "while")=false/\(w == "call")=false
mutual
def Row.ok:Row->Prop
 | .leaf w ps=>Plain w/\R9 ps
 | .wh e b=>fl e/\b.ok
def Rows.ok:Rows->Prop
 | .nil=>True
 | .cons r rs=>r.ok/\rs.ok
end
mutual
def Row.cnt:Row->Nat
 | .leaf _ _=>1
 | .wh _ b=>b.cnt+1
def Rows.cnt:Rows->Nat
 | .nil=>0
 | .cons r rs=>r.cnt+rs.cnt
end
theorem Row.cnt_pos:∀ r:Row,1<=r.cnt:=fun r=>by cases r<;>simp [Row.cnt]
theorem qH {f:EF} {a b:Str} {ρ ρ1:Ev} (h:f ρ=some (.sh (.str a),ρ1)):tT (aA eqP f (eC (.str b))) bB ρ=some (a==b,ρ1):=zZ (l:=.sh (.bl (a==b))) (cz h rfl rfl) rfl
theorem vD {c:TF} {f g:SF} {ρ ρ1:Ev} {b:Bool} (h:c ρ=some (b,ρ1)) (hb:b=false):aF (cG c f bN) g ρ=g ρ1:=by subst hb; exact uo ((bR h).trans rfl)
theorem NB {c:TF} {f g:SF} {ρ ρ1 ρ2:Ev} {b:Bool} {r:Lc} (h:c ρ=some (b,ρ1)) (hb:b=true) (h2:f ρ1=some (.rt r ρ2)):aF (cG c f bN) g ρ=some (.rt r ρ2):=by subst hb; exact gh ((dI h).trans h2)
theorem at0 {p:PV} {t:List PV}:gM (p::t) 0=some p:=by
 obtain ⟨x,h,h2⟩:=yR (l:=p::t) (i:=0) (by decide) (by simp only [aae]; omega)
 rw [h,← h2]; rfl
abbrev E1 (p:PV) (mu:Mu):Ev:=⟨[zS p],mu⟩
theorem w0 {w:Str} {ps:List PV} {mu:Mu}:bx (aj 0) (eC (.int 0)) (E1 (.tup (.str w::ps)) mu)=some (.sh (.str w),E1 (.tup (.str w::ps)) mu):=
 oX (p:=.tup (.str w::ps)) (q:=.int 0) (l:=.sh (.tup (.str w::ps))) (m:=.sh (.int 0)) rfl rfl rfl rfl (fun n h=>by cases h) (by show (gM (PV.str w::ps) 0).map _=_; rw [at0]; rfl)
theorem Am {b:BF} {te:EF} {x:PV} {xs:List PV} {ρ ρ1 ρ2:Ev} {acc:List PV} {l:Lc} {R:Option (List PV×Mu)} (h1:b x ρ=some ρ1) (h2:te ρ1=some (l,ρ2)) (hz:acc.length<100000) (h3:jj b dq te xs ρ2 (acc++[l.pv])=R):jj b dq te (x::xs) ρ acc=R:=by
 show (b x ρ).bind _=R
 rw [h1,aaa]
 show (te ρ1).bind _=R
 rw [h2,aaa,ab7 hz]
 exact h3
abbrev Za (n:Nat):EF:=aK (jL n) (aa (aj 0) ao)
theorem Xq {rs:Rows} {n:Nat} {mu:Mu} (h:jj (aG 0) dq (Za n) rs.pvs ⟨[none],mu⟩ []=some ([]++rs.pvs,mu)):fW (n+1) [.lst rs.pvs] mu=some (.own (.lst rs.pvs),mu):=
 bf (ρ:=⟨[zL rs.pvs],mu⟩) (cD (je (m:=1) (ixs:=[]) (ρ1:=E1 (.lst rs.pvs) mu) (xs:=rs.pvs) (jP (l:=.sh (.lst rs.pvs)) rfl rfl) h))
mutual
theorem Dt:∀ (r:Row) (f:Nat) (mu:Mu),r.ok->r.dep<=f->r.cnt<=1000->jL f [r.pv] mu=some (.sh r.pv,mu)
 | .leaf w ps,f,mu,ok,hd,hc=>by
  obtain ⟨m,rfl⟩:∃ m,f=m+1:=⟨f-1,by simp only [Row.dep] at hd; omega⟩
  obtain ⟨⟨h1,h2,h3⟩,_⟩:=ok
  refine bf (ρ:=⟨[none],mu⟩) ?_
  exact (vD (qH w0) h1).trans ((vD (qH w0) h2).trans ((vD (qH w0) h3).trans rfl))
 | .wh e b,f,mu,ok,hd,hc=>by
  simp only [Row.dep] at hd
  simp only [Row.cnt] at hc
  obtain ⟨m,rfl⟩:∃ m,f=m+1:=⟨f-1,by omega⟩
  have hb:1<=b.dep:=Rows.dep_pos b
  obtain ⟨m,rfl⟩:∃ k,m=k+1:=⟨m-1,by omega⟩
  have ih:=Xq (Du b m mu none [] ok.2 (by omega) (by simp only [aaK]; omega))
  let P:=(Row.wh e b).pv
  have s1:aK (fW (m+1)) (aa (bx (aj 0) (eC (.int 2))) ao) (E1 P mu)=some (.own (.lst b.pvs),E1 P mu):=
   bh (ls:=[.sh (.lst b.pvs)]) (ps:=[.lst b.pvs]) (ρ1:=E1 P mu) rfl rfl rfl rfl ih
  refine bf (ρ:=E1 P mu) ?_
  exact (vD (qH w0) (by decide +kernel)).trans (NB (qH w0) (by decide +kernel) (cD (kY (ls:=[.sh (.str "while"),.sh e,.own (.lst b.pvs)]) (ρ1:=E1 P mu) (aC (ρ1:=E1 P mu) rfl (aC (ρ1:=E1 P mu) rfl (aC s1 rfl))) rfl rfl)))
theorem Du:∀ (rs:Rows) (n:Nat) (mu:Mu) (o:Option Lc) (acc:List PV),rs.ok->rs.dep<=n+1->acc.length+rs.cnt<=1000->jj (aG 0) dq (Za n) rs.pvs ⟨[o],mu⟩ acc=some (acc++rs.pvs,mu)
 | .nil,n,mu,o,acc,_,_,_=>by simp [Rows.pvs,jj]
 | .cons r rs,n,mu,o,acc,ok,hd,hc=>by
  simp only [Rows.dep] at hd
  simp only [Rows.cnt] at hc
  have h1:=r.cnt_pos
  have e1:=Dt r n mu ok.1 (by omega) (by omega)
  have e2:=Du rs n mu (zS r.pv) (acc++[r.pv]) ok.2 (by omega) (by rw [aai]; simp only [aae,aaK]; omega)
  refine Am (ρ1:=E1 r.pv mu) (ρ2:=E1 r.pv mu) (l:=.sh r.pv) rfl (bh (ls:=[.sh r.pv]) (ps:=[r.pv]) (ρ1:=E1 r.pv mu) rfl rfl rfl rfl e1) (by omega) (e2.trans ?_)
  simp only [Rows.pvs,aah]
  rfl
end
structure Ent where
 w:Str
 ab:PV
 bl:Int
 r:Row
def Ent.pv (e:Ent):PV:=.tup [.str e.w,e.ab,.int e.bl,e.r.pv]
mutual
def Row.es:Row->Str->PV->Int->Nat->List Ent
 | .leaf x ps,w,ab,bl,_=>[⟨w,ab,bl,.leaf x ps⟩]
 | .wh e b,w,ab,bl,k=>⟨w,ab,bl,.wh e b⟩::b.es w (.int k) 0 (k+1)
def Rows.es:Rows->Str->PV->Int->Nat->List Ent
 | .nil,_,_,_,_=>[]
 | .cons r rs,w,ab,bl,k=>r.es w ab bl k++rs.es w ab bl (k+r.cnt)
end
mutual
theorem Row.es_len:∀ (r:Row) (w:Str) (ab:PV) (bl:Int) (k:Nat),(r.es w ab bl k).length=r.cnt
 | .leaf _ _,w,ab,bl,k=>rfl
 | .wh e b,w,ab,bl,k=>by simp [Row.es,Row.cnt,Rows.es_len b]
theorem Rows.es_len:∀ (rs:Rows) (w:Str) (ab:PV) (bl:Int) (k:Nat),(rs.es w ab bl k).length=rs.cnt
 | .nil,w,ab,bl,k=>rfl
 | .cons r rs,w,ab,bl,k=>by simp [Rows.es,Rows.cnt,Row.es_len r,Rows.es_len rs]
end
abbrev ens (l:List Ent):List PV:=l.map Ent.pv
theorem Cg (a b:List Ent):ens (a++b)=ens a++ens b:=aaz
theorem qQ (a:List Ent):(ens a).length=a.length:=aad _
theorem ZX {b:BF} {body:SF} {x:PV} {ρ ρ1 ρ2:Ev} (h1:b x ρ=some ρ1) (h2:body ρ1=some (.nx ρ2)):fD b body [x] ρ=some (.nx ρ2):=fY h1 h2 rfl
theorem HH {w:Str} {ps:List PV} {mu:Mu} (h1:(w == "if")=false) (h2:(w == "while")=false):jW [.tup (.str w::ps)] mu=some (.own (.lst []),mu):=
 bf (ρ:=E1 (.tup (.str w::ps)) mu) ((vD (qH w0) h1).trans ((vD (qH w0) h2).trans rfl))
theorem NK {e p:PV} {mu:Mu}:jW [.tup [.str "while",e,p]] mu=some (.own (.lst [p]),mu):=
 bf (ρ:=E1 (.tup [.str "while",e,p]) mu) ((vD (qH w0) (by decide +kernel)).trans (NB (qH w0) (by decide +kernel) rfl))
abbrev LE (w:Str) (ab:PV) (bl:Int) (X:PV) (st:Nat) (acc:List PV) (o6 o7 o8 o9:Option Lc) (mu:Mu):Ev:=⟨[zT w,zS ab,zI bl,zS X,zI st,zO acc,o6,o7,o8,o9],mu⟩
abbrev Xr (n:Nat):SF:=ni 5 (aK (fu n) (aa (aj 0) (aa (aj 7) (aa (aj 8) (aa (aj 9) (aa (qy (aA cN (aj 4) (eB gR (aa (aj 5) ao)))) ao))))))
abbrev Sd (n:Nat):SF:=aF (aO 7 (qy (aA cN (aj 4) (eB gR (aa (aj 5) ao)))))
 (aF (j0 5 (aQ (aa (aj 0) (aa (aj 1) (aa (aj 2) (aa (aK (jL 40) (aa (aj 6) ao)) ao))))))
 (iG (wK (aK jW (aa (aj 6) ao))) (eG 2 (aL (aG 8) (aL (aG 9) eF))) (Xr n)))
theorem Xu {n:Nat} {w:Str} {ab X:PV} {bl pl:Int} {st k:Nat} {acc qs:List PV} {o6:Option Lc} {p:PV} {mu:Mu} (h:fu n [.str w,.int k,.int pl,p,.int ((st+acc.length:Nat):Int)] mu=some (.own (.lst qs),mu)) (hz:acc.length+qs.length<=100000):
 Xr n (LE w ab bl X st acc o6 (zI k) (zI pl) (zS p) mu)=some (.nx (LE w ab bl X st (acc++qs) o6 (zI k) (zI pl) (zS p) mu)):=
 wJ (i:=5) (ws0:=acc) (ws:=acc) (ps:=qs) (l:=.own (.lst qs)) (ρ1:=LE w ab bl X st acc o6 (zI k) (zI pl) (zS p) mu) rfl
  (bh (ls:=[.sh (.str w),.sh (.int k),.sh (.int pl),.sh p,.sh (.int ((st:Int)+acc.length))]) (ps:=[.str w,.int k,.int pl,p,.int ((st+acc.length:Nat):Int)]) (ρ1:=LE w ab bl X st acc o6 (zI k) (zI pl) (zS p) mu) rfl (by simp [Lc.pv]) rfl rfl h) rfl rfl hz rfl
abbrev en (w:Str) (ab:PV) (bl:Int) (r:Row):PV:=.tup [.str w,ab,.int bl,r.pv]
theorem NP {n:Nat} {w:Str} {ab X:PV} {bl:Int} {st:Nat} {acc:List PV} {o7 o8 o9:Option Lc} {mu:Mu} {r:Row} {R:Option Fl} {bs:List PV} (ok:r.ok) (hd:r.dep<=40) (hc:r.cnt<=1000) (hz:acc.length<1000) (hb:∀ mu,jW [r.pv] mu=some (.own (.lst bs),mu))
 (h:fD (eG 2 (aL (aG 8) (aL (aG 9) eF))) (Xr n) (qC bs) (LE w ab bl X st (acc++[en w ab bl r]) (zS r.pv) (zI ((st+acc.length:Nat):Int)) o8 o9 mu)=R):
 Sd n (LE w ab bl X st acc (zS r.pv) o7 o8 o9 mu)=R:=by
 have e1:=Dt r 40 mu ok hd hc
 let E:=LE w ab bl X st acc (zS r.pv) (zI ((st+acc.length:Nat):Int)) o8 o9 mu
 refine aB (ρ':=E) (cH (l:=.sh (.int ((st:Int)+acc.length))) (ρ1:=LE w ab bl X st acc (zS r.pv) o7 o8 o9 mu) rfl rfl (by show _=LE w ab bl X st acc (zS r.pv) (zI ((st+acc.length:Nat):Int)) o8 o9 mu; rw [Int.natCast_add]; rfl)) ?_
 refine aB (ρ':=LE w ab bl X st (acc++[en w ab bl r]) (zS r.pv) (zI ((st+acc.length:Nat):Int)) o8 o9 mu) ?_ ?_
 . exact wI (i:=5) (ws0:=acc) (ws:=acc) (p:=en w ab bl r) (l:=.sh (en w ab bl r)) (ρ1:=E) rfl
    (kY (ls:=[.sh (.str w),.sh ab,.sh (.int bl),.sh r.pv]) (aC (ρ1:=E) rfl (aC (ρ1:=E) rfl (aC (ρ1:=E) rfl (aC (bh (ls:=[.sh r.pv]) (ps:=[r.pv]) (ρ1:=E) rfl rfl rfl rfl e1) rfl)))) rfl rfl) rfl rfl (by omega) rfl
 . refine jQ (xs:=qC bs) (ρ1:=LE w ab bl X st (acc++[en w ab bl r]) (zS r.pv) (zI ((st+acc.length:Nat):Int)) o8 o9 mu) ?_ h
   unfold wK
   rw [bh (ls:=[.sh r.pv]) (ps:=[r.pv]) (ρ1:=LE w ab bl X st (acc++[en w ab bl r]) (zS r.pv) (zI ((st+acc.length:Nat):Int)) o8 o9 mu) rfl rfl rfl rfl (hb _),aaa]
   rfl
theorem Sq {rs:Rows} {n:Nat} {w:Str} {ab:PV} {bl:Int} {st:Nat} {mu:Mu}
 (h:∃ o6 o7 o8 o9,fD (aG 6) (Sd n) rs.pvs (LE w ab bl (.lst rs.pvs) st [] none none none none mu)=some (.nx (LE w ab bl (.lst rs.pvs) st ([]++ens (rs.es w ab bl (st+0))) o6 o7 o8 o9 mu))):
 fu (n+1) [.str w,ab,.int bl,.lst rs.pvs,.int st] mu=some (.own (.lst (ens (rs.es w ab bl st))),mu):=by
 obtain ⟨o6,o7,o8,o9,h⟩:=h
 refine bf (ρ:=⟨[zT w,zS ab,zI bl,zL rs.pvs,zI st,none,o6,o7,o8,o9],mu⟩) ?_
 exact aB (ρ':=LE w ab bl (.lst rs.pvs) st [] none none none none mu) rfl (aB (jQ (xs:=rs.pvs) (ρ1:=LE w ab bl (.lst rs.pvs) st [] none none none none mu) (jP (l:=.sh (.lst rs.pvs)) rfl rfl) h) rfl)
mutual
theorem Xv:∀ (r:Row) (n:Nat) (w:Str) (ab:PV) (bl:Int) (X:PV) (st:Nat) (acc:List PV) (o7 o8 o9:Option Lc) (mu:Mu),r.ok->r.dep<=n->r.dep<=40->acc.length+r.cnt<=1000->
 ∃ p7 p8 p9,Sd n (LE w ab bl X st acc (zS r.pv) o7 o8 o9 mu)=some (.nx (LE w ab bl X st (acc++ens (r.es w ab bl (st+acc.length))) (zS r.pv) p7 p8 p9 mu))
 | .leaf x ps,n,w,ab,bl,X,st,acc,o7,o8,o9,mu,ok,hd,h40,hc=>by
  simp only [Row.cnt] at hc
  exact ⟨zI ((st+acc.length:Nat):Int),o8,o9,NP (r:=.leaf x ps) ok h40 (by simp only [Row.cnt]; omega) (by omega) (fun mu=>HH ok.1.1 ok.1.2.1) rfl⟩
 | .wh e b,n,w,ab,bl,X,st,acc,o7,o8,o9,mu,ok,hd,h40,hc=>by
  simp only [Row.cnt] at hc
  simp only [Row.dep] at hd h40
  have hb:=Rows.dep_pos b
  obtain ⟨m,rfl⟩:∃ m,n=m+1:=⟨n-1,by omega⟩
  let r:Row:=.wh e b
  let k:=st+acc.length
  let acc1:=acc++[en w ab bl r]
  have hl1:acc1.length=acc.length+1:=by simp [acc1]
  have ih:=Sq (n:=m) (w:=w) (ab:=.int (k:Nat)) (bl:=0) (st:=st+acc1.length) (mu:=mu) (rs:=b) (Ci b m w (.int (k:Nat)) 0 (.lst b.pvs) (st+acc1.length) [] none none none none mu ok.2 (by omega) (by omega) (by simp only [aaK]; omega))
  have he:(ens (b.es w (.int (k:Nat)) 0 (st+acc1.length))).length=b.cnt:=by rw [qQ,Rows.es_len]
  have st1:=Xu (n:=m+1) (w:=w) (ab:=ab) (X:=X) (bl:=bl) (pl:=0) (st:=st) (k:=k) (acc:=acc1) (o6:=zS r.pv) (p:=.lst b.pvs) ih (by rw [he,hl1]; omega)
  refine ⟨zI (k:Nat),zI 0,zL b.pvs,NP (r:=.wh e b) ok (by simp only [Row.dep]; omega) (by simp only [Row.cnt]; omega) (by omega) (fun mu=>NK) ((ZX (ρ1:=LE w ab bl X st acc1 (zS r.pv) (zI (k:Nat)) (zI 0) (zL b.pvs) mu) rfl st1).trans ?_)⟩
  have ek:st+acc1.length=k+1:=by rw [hl1]; omega
  rw [ek]
  simp only [Row.es,acc1,aah,abd,abi,ens,aav]
  rfl
theorem Ci:∀ (rs:Rows) (n:Nat) (w:Str) (ab:PV) (bl:Int) (X:PV) (st:Nat) (acc:List PV) (o6 o7 o8 o9:Option Lc) (mu:Mu),rs.ok->rs.dep<=n+1->rs.dep<=41->acc.length+rs.cnt<=1000->
 ∃ p6 p7 p8 p9,fD (aG 6) (Sd n) rs.pvs (LE w ab bl X st acc o6 o7 o8 o9 mu)=some (.nx (LE w ab bl X st (acc++ens (rs.es w ab bl (st+acc.length))) p6 p7 p8 p9 mu))
 | .nil,n,w,ab,bl,X,st,acc,o6,o7,o8,o9,mu,ok,hd,h41,hc=>⟨o6,o7,o8,o9,by simp [Rows.pvs,fD,Rows.es,ens]⟩
 | .cons r rs,n,w,ab,bl,X,st,acc,o6,o7,o8,o9,mu,ok,hd,h41,hc=>by
  simp only [Rows.dep] at hd h41
  simp only [Rows.cnt] at hc
  obtain ⟨q7,q8,q9,e1⟩:=Xv r n w ab bl X st acc o7 o8 o9 mu ok.1 (by omega) (by omega) (by omega)
  have hl:(acc++ens (r.es w ab bl (st+acc.length))).length=acc.length+r.cnt:=by rw [aai,qQ,Row.es_len]
  obtain ⟨p6,p7,p8,p9,e2⟩:=Ci rs n w ab bl X st (acc++ens (r.es w ab bl (st+acc.length))) (zS r.pv) q7 q8 q9 mu ok.2 (by omega) (by omega) (by rw [hl]; omega)
  refine ⟨p6,p7,p8,p9,fY (ρ1:=LE w ab bl X st acc (zS r.pv) o7 o8 o9 mu) rfl e1 (e2.trans ?_)⟩
  rw [hl,← Nat.add_assoc]
  simp only [Rows.es,Cg,aah]
end
theorem yC {rs:Rows} {w:Str} {ab:PV} {bl:Int} {st:Nat} {mu:Mu} (ok:rs.ok) (hd:rs.dep<=40) (hc:rs.cnt<=1000):
 fu 40 [.str w,ab,.int bl,.lst rs.pvs,.int st] mu=some (.own (.lst (ens (rs.es w ab bl st))),mu):=
 Sq (n:=39) (Ci rs 39 w ab bl _ st [] none none none none mu ok (by omega) (by omega) (by simp only [aaK]; omega))
structure Fn where
 name:Str
 rank:PV
 params:List PV
 rows:Rows
def Fn.pv (f:Fn):PV:=.tup [.str f.name,f.rank,.lst f.params,.lst f.rows.pvs]
structure Pg where
 boxes:List PV
 grants:List PV
 fns:List Fn
 rows:Rows
def Pg.pv (P:Pg):PV:=.tup [.lst P.boxes,.lst P.grants,.lst (P.fns.map Fn.pv),.lst P.rows.pvs]
def sr:List Fn->Nat
 | []=>0
 | f::fs=>f.rows.cnt+sr fs
def An:List Fn->Nat->List Ent
 | [],_=>[]
 | f::fs,k=>f.rows.es f.name .non 0 k++An fs (k+f.rows.cnt)
theorem Cj:∀ (fs:List Fn) (k:Nat),(An fs k).length=sr fs
 | [],k=>rfl
 | f::fs,k=>by simp [An,sr,Rows.es_len,Cj fs]
def Pg.es (P:Pg):List Ent:=An P.fns 0++P.rows.es "main" .non 0 (sr P.fns)
structure Pg.ok (P:Pg):Prop where
 fn:∀ f∈P.fns,f.rows.ok/\f.rows.dep<=30
 rw:P.rows.ok
 dp:P.rows.dep<=30
 ct:sr P.fns+P.rows.cnt<=250
 pm:∀ f∈P.fns,∃ xs:List Str,f.params=xs.map (fun x=>.tup [.str x,.non])/\xs.length<=100
 fl:P.fns.length<=100
abbrev NE (p:PV) (acc:List PV) (o2 o3 o4 o5:Option Lc) (mu:Mu):Ev:=⟨[zS p,zO acc,o2,o3,o4,o5],mu⟩
abbrev Zb:SF:=ni 1 (aK (fu 40) (aa (aj 2) (aa (eC .non) (aa (eC (.int 0)) (aa (aj 5) (aa (qy (eB gR (aa (aj 1) ao))) ao))))))
theorem IW {p:PV}:∀ (fs:List Fn) (acc:List PV) (o2 o3 o4 o5:Option Lc) (mu:Mu),(∀ f∈fs,f.rows.ok/\f.rows.dep<=30)->acc.length+sr fs<=1000->
 ∃ p2 p3 p4 p5,fD (eG 4 (aL (aG 2) (aL (aG 3) (aL (aG 4) (aL (aG 5) eF))))) Zb (fs.map Fn.pv) (NE p acc o2 o3 o4 o5 mu)=some (.nx (NE p (acc++ens (An fs acc.length)) p2 p3 p4 p5 mu))
 | [],acc,o2,o3,o4,o5,mu,_,_=>⟨o2,o3,o4,o5,by simp [fD,An,ens]⟩
 | f::fs,acc,o2,o3,o4,o5,mu,h,hl=>by
  simp only [sr] at hl
  obtain ⟨ok,hd⟩:=h f aab
  have e:=yC (w:=f.name) (ab:=.non) (bl:=0) (st:=acc.length) (mu:=mu) ok (by omega) (by omega)
  have hl1:(acc++ens (f.rows.es f.name .non 0 acc.length)).length=acc.length+f.rows.cnt:=by rw [aai,qQ,Rows.es_len]
  let E:=NE p acc (zT f.name) (zS f.rank) (zL f.params) (zL f.rows.pvs) mu
  obtain ⟨p2,p3,p4,p5,ih⟩:=IW (p:=p) fs (acc++ens (f.rows.es f.name .non 0 acc.length)) (zT f.name) (zS f.rank) (zL f.params) (zL f.rows.pvs) mu (fun x hx=>h x (aag _ hx)) (by rw [hl1]; omega)
  have st:Zb E=some (.nx (NE p (acc++ens (f.rows.es f.name .non 0 acc.length)) (zT f.name) (zS f.rank) (zL f.params) (zL f.rows.pvs) mu)):=
   wJ (i:=1) (ws0:=acc) (ws:=acc) (ps:=ens (f.rows.es f.name .non 0 acc.length)) (l:=.own (.lst (ens (f.rows.es f.name .non 0 acc.length)))) (ρ1:=E) rfl
    (bh (ls:=[.sh (.str f.name),.sh .non,.sh (.int 0),.sh (.lst f.rows.pvs),.sh (.int acc.length)]) (ps:=[.str f.name,.non,.int 0,.lst f.rows.pvs,.int acc.length]) (ρ1:=E) rfl rfl rfl rfl e) rfl rfl (by rw [qQ,Rows.es_len]; omega) rfl
  refine ⟨p2,p3,p4,p5,(fY (ρ1:=E) rfl st (ih.trans ?_))⟩
  rw [hl1]
  simp only [An,Cg,aah]
theorem HJ {P:Pg} {mu:Mu} (ok:P.ok):vo [P.pv] mu=some (.own (.lst (ens P.es)),mu):=by
 have hc:=ok.ct
 obtain ⟨p2,p3,p4,p5,e1⟩:=IW (p:=P.pv) P.fns [] none none none none mu ok.fn (by simp only [aaK]; omega)
 simp only [abi,aaK] at e1
 let a1:=ens (An P.fns 0)
 have ha:a1.length=sr P.fns:=by simp only [a1,qQ,Cj]
 have e2:=yC (w := "main") (ab:=.non) (bl:=0) (st:=a1.length) (mu:=mu) ok.rw (by have:=ok.dp; omega) (by omega)
 rw [ha] at e2
 let b:=ens (P.rows.es "main" .non 0 (sr P.fns))
 refine (bf (ρ:=⟨[zS P.pv,none,p2,p3,p4,p5],mu⟩) (r:=.own (.lst (a1++b))) ?_).trans ?_
 . refine aB (ρ':=NE P.pv [] none none none none mu) rfl (aB (ρ':=NE P.pv a1 p2 p3 p4 p5 mu) (jQ (xs:=P.fns.map Fn.pv) (ρ1:=NE P.pv [] none none none none mu) (jP (l:=.sh (.lst (P.fns.map Fn.pv))) rfl rfl) e1) (aB (ρ':=NE P.pv (a1++b) p2 p3 p4 p5 mu) ?_ rfl))
   exact wJ (i:=1) (ws0:=a1) (ws:=a1) (ps:=b) (l:=.own (.lst b)) (ρ1:=NE P.pv a1 p2 p3 p4 p5 mu) rfl
    (bh (ls:=[.sh (.str "main"),.sh .non,.sh (.int 0),.sh (.lst P.rows.pvs),.sh (.int a1.length)]) (ps:=[.str "main",.non,.int 0,.lst P.rows.pvs,.int a1.length]) (ρ1:=NE P.pv a1 p2 p3 p4 p5 mu) rfl rfl rfl rfl (by rw [ha]; exact e2)) rfl rfl (by simp only [b]; rw [ha,qQ,Rows.es_len]; omega) rfl
 . simp only [a1,b,Pg.es,Cg]
def Ent.key (e:Ent):List cC:=[some (.inr e.w),(okP e.ab).getD none,some (.inl e.bl)]
def pos (K:List cC):Nat->List Ent->List Nat
 | _,[]=>[]
 | i,e::es=>if e.key=K then i::pos K (i+1) es else pos K (i+1) es
theorem qR (K:List cC):∀ (i:Nat) (a b:List Ent),pos K i (a++b)=pos K i a++pos K (i+a.length) b
 | i,[],b=>rfl
 | i,e::a,b=>by
  show (if e.key=K then i::pos K (i+1) (a++b) else pos K (i+1) (a++b))=(if e.key=K then i::pos K (i+1) a else pos K (i+1) a)++_
  rw [qR K (i+1) a b,show i+(e::a).length=i+1+a.length by simp only [aae]; omega]
  split<;>rfl
theorem uE {K:List cC}:∀ {i:Nat} {a:List Ent},(∀ e∈a,e.key≠K)->pos K i a=[]
 | i,[],_=>rfl
 | i,e::a,h=>by
  show (if e.key=K then i::pos K (i+1) a else pos K (i+1) a)=[]
  rw [ab8 (h e aab)]
  exact uE fun x hx=>h x (aag _ hx)
def Rows.nums:Rows->Nat->List Nat
 | .nil,_=>[]
 | .cons r rs,k=>k::rs.nums (k+r.cnt)
abbrev KEY (w:Str) (m:Nat) (b:Int):List cC:=[some (.inr w),some (.inl (m:Int)),some (.inl b)]
theorem key_ne {e:Ent} {w:Str} {m:Nat} {b:Int} (h:e.ab≠.int m) (ha:e.ab=.non\/∃ j:Nat,e.ab=.int j):e.key≠KEY w m b:=by
 intro q
 unfold Ent.key at q
 injection q with _ q
 injection q with q _
 rcases ha with e1 | ⟨j,e1⟩
 . rw [e1] at q
   cases q
 . rw [e1] at q h
   have q:some (Sum.inl (j:Int))=some (Sum.inl (m:Int)):=q
   injection q with q
   injection q with q
   exact h (by rw [q])
theorem G8 {e:Ent} {w:Str} {m:Nat} {b:Int} (h:e.bl≠b):e.key≠KEY w m b:=by
 intro q
 unfold Ent.key at q
 injection q with _ q
 injection q with _ q
 injection q with q _
 injection q with q
 injection q with q
 exact h q
def qd (ab:PV) (s t:Nat) (e:Ent):Prop:=e.ab=ab\/∃ m:Nat,e.ab=.int m/\s<=m/\m<t
theorem qd.mono {ab:PV} {s t s' t':Nat} {e:Ent} (h:qd ab s t e) (h1:s'<=s) (h2:t<=t'):qd ab s' t' e:=by
 rcases h with h | ⟨m,h,g1,g2⟩
 . exact .inl h
 . exact .inr ⟨m,h,by omega,by omega⟩
theorem qd.up {k s t:Nat} {ab:PV} {e:Ent} (h:qd (.int (k:Nat)) s t e) (h1:k<s) (h2:k<t):qd ab k t e:=by
 rcases h with h | ⟨m,h,g1,g2⟩
 . exact .inr ⟨k,h,aaf _,h2⟩
 . exact .inr ⟨m,h,by omega,g2⟩
mutual
theorem Row.abs:∀ (r:Row) (w:Str) (ab:PV) (bl:Int) (k:Nat),∀ e∈r.es w ab bl k,qd ab k (k+r.cnt) e
 | .leaf _ _,w,ab,bl,k,e,he=>by
  rw [aa4.mp he]
  exact .inl rfl
 | .wh x b,w,ab,bl,k,e,he=>by
  rcases aao.mp he with rfl | he
  . exact .inl rfl
  . have h:=Rows.abs b w (.int (k:Nat)) 0 (k+1) e he
    simp only [Row.cnt]
    exact (h.up (by omega) (by omega)).mono (aaf _) (by omega)
theorem Rows.abs:∀ (rs:Rows) (w:Str) (ab:PV) (bl:Int) (k:Nat),∀ e∈rs.es w ab bl k,qd ab k (k+rs.cnt) e
 | .nil,w,ab,bl,k,e,he=>by cases he
 | .cons r rs,w,ab,bl,k,e,he=>by
  simp only [Rows.cnt]
  rcases aaF.mp he with he | he
  . exact (Row.abs r w ab bl k e he).mono (aaf _) (by omega)
  . exact (Rows.abs rs w ab bl (k+r.cnt) e he).mono (by omega) (by omega)
end
def vG (ab:PV) (k:Nat):Prop:=ab=.non\/∃ j:Nat,ab=.int j/\j<k
theorem qd.num {ab:PV} {s t k:Nat} {e:Ent} (h:qd ab s t e) (a:vG ab k):e.ab=.non\/∃ j:Nat,e.ab=.int j:=by
 rcases h with h | ⟨m,h,_⟩
 . rcases a with a | ⟨j,a,_⟩
   . exact .inl (h.trans a)
   . exact .inr ⟨j,h.trans a⟩
 . exact .inr ⟨m,h⟩
theorem Ao {a b:Nat} (h:a≠b):(PV.int (a:Nat))≠.int (b:Nat):=fun q=>by
 injection q with q
 exact h (by omega)
theorem qd.ne {ab:PV} {s t m:Nat} {e:Ent} (h:qd ab s t e) (h1:ab≠.int m) (h2:m<s\/t<=m):e.ab≠.int m:=by
 rcases h with h | ⟨j,h,g1,g2⟩
 . rw [h]; exact h1
 . rw [h]; exact Ao (by omega)
theorem vG.ne {ab:PV} {k m:Nat} (a:vG ab k) (h:k<=m):ab≠.int m:=by
 rcases a with a | ⟨j,a,hj⟩
 . rw [a]; intro q; cases q
 . rw [a]; exact Ao (by omega)
theorem Row.pos_top (r:Row) (w:Str) (m:Nat) (b:Int) (k:Nat) (h:m<k):pos (KEY w m b) k (r.es w (.int m) b k)=[k]:=by
 have own:∀ (e:Ent),e.w=w->e.ab=.int m->e.bl=b->e.key=KEY w m b:=fun e h1 h2 h3=>by
  unfold Ent.key
  rw [h1,h2,h3]
  rfl
 have sub:∀ (rs:Rows) (c:Int) (s:Nat),k<s->pos (KEY w m b) s (rs.es w (.int (k:Nat)) c s)=[]:=fun rs c s hs=>uE fun e he=>by
  have g:=Rows.abs rs w (.int (k:Nat)) c s e he
  exact key_ne (g.ne (Ao (by omega)) (.inl (by omega))) (g.num (k:=s) (.inr ⟨k,rfl,hs⟩))
 cases r with
 | leaf x ps=>show (if _ then _ else _)=_; rw [ab7 (own _ rfl rfl rfl)]; rfl
 | wh x c=>
  show (if _ then _ else _)=_
  rw [ab7 (own _ rfl rfl rfl),sub c 0 (k+1) (by omega)]
theorem Rows.pos_top:∀ (rs:Rows) (w:Str) (m:Nat) (b:Int) (k:Nat),m<k->pos (KEY w m b) k (rs.es w (.int m) b k)=rs.nums k
 | .nil,w,m,b,k,h=>rfl
 | .cons r rs,w,m,b,k,h=>by
  show pos _ k (r.es w (.int m) b k++rs.es w (.int m) b (k+r.cnt))=_
  rw [qR,Row.pos_top r w m b k h,Row.es_len,Rows.pos_top rs w m b (k+r.cnt) (by omega)]
  rfl
def Row.bnums:Row->Nat->Int->List Nat
 | .wh _ b,k,i=>if i=0 then b.nums (k+1) else []
 | _,_,_=>[]
theorem Row.pos_in (r:Row) (w:Str) (ab:PV) (bl:Int) (k:Nat) (i:Int) (a:vG ab k):pos (KEY w k i) k (r.es w ab bl k)=r.bnums k i:=by
 have own:∀ (e:Ent),e.ab=ab->e.key≠KEY w k i:=fun e h=>key_ne (by rw [h]; exact a.ne (aaf _)) (by
  rcases a with a | ⟨j,a,_⟩
  . exact .inl (h.trans a)
  . exact .inr ⟨j,h.trans a⟩)
 have sub:∀ (rs:Rows) (c:Int) (s:Nat),k<s->c≠i->pos (KEY w k i) s (rs.es w (.int (k:Nat)) c s)=[]:=fun rs c s hs hc=>by
  have go:∀ (rs:Rows) (s:Nat),k<s->pos (KEY w k i) s (rs.es w (.int (k:Nat)) c s)=[]:=by
   intro rs
   induction rs using Rows.rec (motive_1:=fun _=>True) with
   | nil=>intro s _; rfl
   | cons r rs _ ih=>
    intro s hs
    show pos _ s (r.es w (.int (k:Nat)) c s++rs.es w (.int (k:Nat)) c (s+r.cnt))=_
    rw [qR,Row.es_len,ih (s+r.cnt) (by omega),aat]
    have deep:∀ (bs:Rows) (d:Int) (t:Nat),s<t->pos (KEY w k i) t (bs.es w (.int (s:Nat)) d t)=[]:=fun bs d t ht=>uE fun e he=>by
     have g:=Rows.abs bs w (.int (s:Nat)) d t e he
     exact key_ne (g.ne (Ao (by omega)) (.inl (by omega))) (g.num (k:=t) (.inr ⟨s,rfl,ht⟩))
    cases r with
    | leaf x ps=>show (if _ then _ else _)=_; rw [ab8 (G8 hc)]; rfl
    | wh x bs=>show (if _ then _ else _)=_; rw [ab8 (G8 hc)]; exact deep bs 0 (s+1) (by omega)
   | _=>trivial
  exact go rs s hs
 cases r with
 | leaf x ps=>show (if _ then _ else _)=_; rw [ab8 (own _ rfl)]; rfl
 | wh x c=>
  show (if _ then _ else _)=_
  rw [ab8 (own _ rfl)]
  show _=if i=0 then c.nums (k+1) else []
  by_cases hi:i=0
  . subst hi
    rw [ab7 rfl]
    exact Rows.pos_top c w k 0 (k+1) (by omega)
  . rw [ab8 hi]
    exact sub c 0 (k+1) (by omega) (fun q=>hi q.symm)
structure vH (es:List Ent) (w:Str) (ab:PV) (bl:Int) (k:Nat) (rs:Rows):Prop where
 ex:∃ pre post,es=pre++(rs.es w ab bl k++post)/\pre.length=k/\∀ e∈pre++post,(e.ab=.non\/∃ j:Nat,e.ab=.int j)/\∀ m:Nat,k<=m->m<k+rs.cnt->e.ab≠.int m
 ab:vG ab k
structure lG (es:List Ent) (w:Str) (ab:PV) (bl:Int) (k:Nat) (r:Row):Prop where
 ex:∃ pre post,es=pre++(r.es w ab bl k++post)/\pre.length=k/\∀ e∈pre++post,(e.ab=.non\/∃ j:Nat,e.ab=.int j)/\∀ m:Nat,k<=m->m<k+r.cnt->e.ab≠.int m
 ab:vG ab k
theorem vG.mono {ab:PV} {k k':Nat} (a:vG ab k) (h:k<=k'):vG ab k':=by
 rcases a with a | ⟨j,a,hj⟩
 . exact .inl a
 . exact .inr ⟨j,a,by omega⟩
theorem vH.cons {es:List Ent} {w:Str} {ab:PV} {bl:Int} {k:Nat} {r:Row} {rs:Rows} (h:vH es w ab bl k (.cons r rs)):lG es w ab bl k r/\vH es w ab bl (k+r.cnt) rs:=by
 obtain ⟨⟨pre,post,e,hl,hx⟩,ha⟩:=h
 simp only [Rows.cnt] at hx
 refine ⟨⟨⟨pre,rs.es w ab bl (k+r.cnt)++post,by rw [e]; simp only [Rows.es,aah],hl,fun x hx'=>?_⟩,ha⟩,⟨⟨pre++r.es w ab bl k,post,by rw [e]; simp only [Rows.es,aah],by rw [aai,Row.es_len,hl],fun x hx'=>?_⟩,ha.mono (by omega)⟩⟩
 . rcases aaF.mp hx' with q | q
   . obtain ⟨g1,g2⟩:=hx x (aaT _ q)
     exact ⟨g1,fun m h1 h2=>g2 m h1 (by omega)⟩
   . rcases aaF.mp q with q | q
     . have g:=Rows.abs rs w ab bl (k+r.cnt) x q
       exact ⟨g.num ha,fun m h1 h2=>g.ne (ha.ne h1) (.inl (by omega))⟩
     . obtain ⟨g1,g2⟩:=hx x (aaE _ q)
       exact ⟨g1,fun m h1 h2=>g2 m h1 (by omega)⟩
 . rcases aaF.mp hx' with q | q
   . rcases aaF.mp q with q | q
     . obtain ⟨g1,g2⟩:=hx x (aaT _ q)
       exact ⟨g1,fun m h1 h2=>g2 m (by omega) (by omega)⟩
     . have g:=Row.abs r w ab bl k x q
       exact ⟨g.num ha,fun m h1 h2=>g.ne (ha.ne (by omega)) (.inr h1)⟩
   . obtain ⟨g1,g2⟩:=hx x (aaE _ q)
     exact ⟨g1,fun m h1 h2=>g2 m (by omega) (by omega)⟩
theorem lG.wh {es:List Ent} {w:Str} {ab:PV} {bl:Int} {k:Nat} {x:PV} {b:Rows} (h:lG es w ab bl k (.wh x b)):vH es w (.int (k:Nat)) 0 (k+1) b:=by
 obtain ⟨⟨pre,post,e,hl,hx⟩,ha⟩:=h
 simp only [Row.cnt] at hx
 refine ⟨⟨pre++[⟨w,ab,bl,.wh x b⟩],post,by rw [e]; simp [Row.es],by simp [hl],fun y hy=>?_⟩,.inr ⟨k,rfl,by omega⟩⟩
 rcases aaF.mp hy with q | q
 . rcases aaF.mp q with q | q
   . obtain ⟨g1,g2⟩:=hx y (aaT _ q)
     exact ⟨g1,fun m h1 h2=>g2 m (by omega) (by omega)⟩
   . rw [aa4.mp q]
     exact ⟨by rcases ha with a | ⟨j,a,_⟩; exact .inl a; exact .inr ⟨j,a⟩,fun m h1 _=>ha.ne (by omega)⟩
 . obtain ⟨g1,g2⟩:=hx y (aaE _ q)
   exact ⟨g1,fun m h1 h2=>g2 m (by omega) (by omega)⟩
theorem Row.es_head (r:Row) (w:Str) (ab:PV) (bl:Int) (k:Nat):∃ t,r.es w ab bl k=⟨w,ab,bl,r⟩::t:=by
 cases r<;>exact ⟨_,rfl⟩
theorem lG.get {es:List Ent} {w:Str} {ab:PV} {bl:Int} {k:Nat} {r:Row} (h:lG es w ab bl k r):es[k]?=some ⟨w,ab,bl,r⟩:=by
 obtain ⟨⟨pre,post,e,hl,hx⟩,ha⟩:=h
 obtain ⟨t,et⟩:=r.es_head w ab bl k
 rw [e,et,aas (by omega),hl,aa6]
 rfl
theorem lG.pos {es:List Ent} {w:Str} {ab:PV} {bl:Int} {k:Nat} {r:Row} (h:lG es w ab bl k r) (i:Int):Law.pos (KEY w k i) 0 es=r.bnums k i:=by
 obtain ⟨⟨pre,post,e,hl,hx⟩,ha⟩:=h
 have hc:=r.cnt_pos
 have out:∀ (l:List Ent) (j:Nat),(∀ x∈l,x∈pre++post)->Law.pos (KEY w k i) j l=[]:=fun l j hl=>uE fun x hx'=>by
  obtain ⟨g1,g2⟩:=hx x (hl x hx')
  exact key_ne (g2 k (aaf _) (by omega)) g1
 rw [e,qR,qR,out pre 0 fun x h=>aaT _ h,out post _ fun x h=>aaE _ h,abi,aat,Nat.zero_add,hl]
 exact r.pos_in w ab bl k i ha
abbrev bK (l:List Nat):List PV:=l.map fun (i:Nat)=>PV.int (i:Nat)
abbrev SD:=List (List cC×List Nat)
def gJ (K:List cC) (i:Nat):SD->SD
 | []=>[(K,[i])]
 | x::r=>if x.1=K then (x.1,x.2++[i])::r else x::gJ K i r
def jT:SD->List cC->Option (List Nat)
 | [],_=>none
 | x::r,K=>if x.1=K then some x.2 else jT r K
def pz:Nat->SD->W5
 | _,[]=>[]
 | N,x::r=>(x.1,.ptr N)::pz (N+1) r
abbrev dG (S:SD):Mu:=S.map fun x=>some (.lst (bK x.2))
theorem NQ:∀ (N:Nat) (S:SD),(pz N S).length=S.length
 | _,[]=>rfl
 | N,x::r=>by simp [pz,NQ]
theorem Xw:∀ l:W5,(l.map (·.1)).zip (l.map (·.2))=l
 | []=>rfl
 | x::r=>by rw [aav,aav,aa5,Xw r]
theorem NT:∀ {S:SD} {N i:Nat} {K:List cC},jT S K=none->jH (pz N S) K=none/\gJ K i S=S++[(K,[i])]/\pz N (gJ K i S)=pz N S++[(K,.ptr (N+S.length))]
 | [],N,i,K,_=>⟨rfl,rfl,rfl⟩
 | x::r,N,i,K,h=>by
  unfold jT at h
  split at h
  . cases h
  . rename_i hx
    obtain ⟨h1,h2,h3⟩:=NT (N:=N+1) (i:=i) h
    refine ⟨?_,?_,?_⟩
    . show (if x.1=K then _ else _)=_
      rw [ab8 hx]; exact h1
    . show (if x.1=K then _ else _)=_
      rw [ab8 hx,h2]; rfl
    . unfold gJ
      rw [ab8 hx]
      show (x.1,PV.ptr N)::pz (N+1) (gJ K i r)=_
      rw [h3,show N+1+r.length=N+(x::r).length by simp only [aae]; omega]
      rfl
theorem NZ:∀ {S:SD} {N i:Nat} {K:List cC} {l:List Nat},jT S K=some l->∃ j,jH (pz N S) K=some (.ptr (N+j))/\(dG S)[j]?=some (some (.lst (bK l)))/\(dG S).set j (some (.lst (bK (l++[i]))))=dG (gJ K i S)/\pz N (gJ K i S)=pz N S
 | [],N,i,K,l,h=>by cases h
 | x::r,N,i,K,l,h=>by
  unfold jT at h
  split at h
  . rename_i hx
    cases h
    refine ⟨0,?_,rfl,?_,?_⟩
    . show (if x.1=K then _ else _)=_
      rw [ab7 hx]; rfl
    . unfold gJ
      rw [ab7 hx]; rfl
    . unfold gJ
      rw [ab7 hx]; rfl
  . rename_i hx
    obtain ⟨j,h1,h2,h3,h4⟩:=NZ (N:=N+1) (i:=i) h
    refine ⟨j+1,?_,?_,?_,?_⟩
    . show (if x.1=K then _ else _)=_
      rw [ab8 hx,h1,show N+1+j=N+(j+1) by omega]
    . simpa using h2
    . unfold gJ
      rw [ab8 hx]
      show _::(dG r).set j _=_::dG (gJ K i r)
      rw [h3]
    . unfold gJ
      rw [ab8 hx]
      show (x.1,PV.ptr N)::pz (N+1) (gJ K i r)=_
      rw [h4]
      rfl
theorem Xx {S:SD} {i:Nat} {K K':List cC}:(jT (gJ K' i S) K).getD []=(jT S K).getD []++if K'=K then [i] else []:=by
 induction S with
 | nil=>
  show (if K'=K then some [i] else none).getD []=[]++_
  split<;>rfl
 | cons x r ih=>
  unfold gJ
  by_cases hx:x.1=K'
  . rw [ab7 hx]
    show (if x.1=K then some (x.2++[i]) else jT r K).getD []=(if x.1=K then some x.2 else jT r K).getD []++_
    by_cases h:x.1=K
    . rw [ab7 h,ab7 h,ab7 (hx▸h)]; rfl
    . rw [ab8 h,ab8 h,ab8 (fun q=>h (hx.trans q)),aat]
  . rw [ab8 hx]
    show (if x.1=K then some x.2 else jT (gJ K' i r) K).getD []=(if x.1=K then some x.2 else jT r K).getD []++_
    by_cases h:x.1=K
    . rw [ab7 h,ab7 h,ab8 (fun q=>hx (h.trans q.symm)),aat]
    . rw [ab8 h,ab8 h]
      exact ih
def pB:Nat->List Ent->SD->SD
 | _,[],S=>S
 | i,e::es,S=>pB (i+1) es (gJ e.key i S)
theorem Ck {K:List cC}:∀ (es:List Ent) (i:Nat) (S:SD),(jT (pB i es S) K).getD []=(jT S K).getD []++pos K i es
 | [],i,S=>(aat _).symm
 | e::es,i,S=>by
  show (jT (pB (i+1) es (gJ e.key i S)) K).getD []=_++if e.key=K then i::pos K (i+1) es else pos K (i+1) es
  rw [Ck es,Xx,aah]
  split<;>rfl
theorem G9 {K:List cC} {i:Nat}:∀ S:SD,(gJ K i S).length<=S.length+1
 | []=>aaf _
 | x::r=>by
  unfold gJ
  split
  . simp
  . have:=G9 (K:=K) (i:=i) r
    simp only [aae]
    omega
def Short (m:Nat) (S:SD):Prop:=∀ x∈S,x.2.length<=m
theorem Short.put {m i:Nat} {K:List cC}:∀ {S:SD},Short m S->Short (m+1) (gJ K i S)
 | [],_,x,hx=>by
  rw [aa4.mp hx]
  simp
 | y::r,h,x,hx=>by
  unfold gJ at hx
  split at hx
  . rcases aao.mp hx with rfl | hx
    . have:=h y aab
      simp only [aai,aae,aaK]
      omega
    . have:=h x (aag _ hx)
      omega
  . rcases aao.mp hx with rfl | hx
    . have:=h x aab
      omega
    . exact Short.put (fun z hz=>h z (aag _ hz)) x hx
theorem N5:∀ {S:SD} {K:List cC} {l:List Nat},jT S K=some l->∃ x∈S,x.2=l
 | [],K,l,h=>by cases h
 | y::r,K,l,h=>by
  unfold jT at h
  split at h
  . cases h; exact ⟨y,aab,rfl⟩
  . obtain ⟨x,hx,e⟩:=N5 h
    exact ⟨x,aag _ hx,e⟩
theorem Ja:∀ (S:SD) (A:Mu),meltL (A++dG S) ((pz A.length S).map (·.2))=some (S.map fun x=>.lst (bK x.2),A++S.map fun _=>none)
 | [],A=>by simp [pz,meltL]
 | x::r,A=>by
  have ih:=Ja r (A++[none])
  rw [aai] at ih
  have e1:(A++dG (x::r))[A.length]?=some (some (.lst (bK x.2))):=by
   rw [aas (aaf _),aa6]; rfl
  have e2:(A++dG (x::r)).set A.length none=(A++[none])++dG r:=by
   rw [List.set_append_right _ _ (aaf _),aa6,aah]; rfl
  show meltL (A++dG (x::r)) (.ptr A.length::(pz (A.length+1) r).map (·.2))=_
  unfold meltL
  rw [e1]
  dsimp only
  rw [e2,show A.length+1=A.length+[(none:Option PV)].length from rfl,ih,abz]
  simp
theorem Kv:∀ (S:SD) (N:Nat) (K:List cC),jH (((pz N S).map (·.1)).zip (S.map fun x=>PV.lst (bK x.2))) K=(jT S K).map fun l=>.lst (bK l)
 | [],N,K=>rfl
 | x::r,N,K=>by
  show (if x.1=K then some (PV.lst (bK x.2)) else jH (((pz (N+1) r).map (·.1)).zip (r.map fun x=>PV.lst (bK x.2))) K)=(if x.1=K then some x.2 else jT r K).map _
  by_cases h:x.1=K
  . rw [ab7 h,ab7 h]; rfl
  . rw [ab8 h,ab8 h]; exact Kv r (N+1) K
def N6:Nat->List PV->List PV
 | _,[]=>[]
 | i,p::ps=>.tup [.int (i:Nat),p]::N6 (i+1) ps
theorem N7:∀ (ps:List PV) (i:Nat),(ps.zipIdx i).map (fun x=>PV.tup [.int (x.2:Nat),x.1])=N6 i ps
 | [],i=>rfl
 | p::ps,i=>by
  rw [ab1,aav,N7 ps (i+1)]
  rfl
theorem QS (ps:List PV):qC ps=N6 0 ps:=N7 ps 0
abbrev nT (N:Nat) (S:SD):PV:=.dx HK.hk ((pz N S).map (·.1)) ((pz N S).map (·.2))
abbrev AE (o0 o1 o2 o3 o4 o5 o6 o7 o8 o9 o10:Option Lc) (mu:Mu):Ev:=⟨[o0,o1,o2,o3,o4,o5,o6,o7,o8,o9,o10],mu⟩
abbrev Zc:SF:=iW (xM 3 (Gk (aj 5) zU (zV (eC (.int 3))))) (aj 4)
theorem N8 {e:Ent} (ha:e.ab=.non\/∃ j:Nat,e.ab=.int j):rC [.str e.w,e.ab,.int e.bl]=some e.key:=by
 unfold Ent.key
 rcases ha with h | ⟨j,h⟩<;>rw [h]<;>rfl
open Classical in
theorem U5 {e:Ent} {i:Nat} {S:SD} {A:Mu} {o0 o1 o2 o6 o7 o8 o9 o10:Option Lc} (ha:e.ab=.non\/∃ j:Nat,e.ab=.int j) (hS:S.length<=1000) (hs:Short 1000 S):
 Zc (AE o0 o1 o2 (some (.own (nT A.length S))) (zI (i:Nat)) (zS e.pv) o6 o7 o8 o9 o10 (A++dG S))=some (.nx (AE o0 o1 o2 (some (.own (nT A.length (gJ e.key i S)))) (zI (i:Nat)) (zS e.pv) o6 o7 o8 o9 o10 (A++dG (gJ e.key i S)))):=by
 let E:=AE o0 o1 o2 (some (.own (nT A.length S))) (zI (i:Nat)) (zS e.pv) o6 o7 o8 o9 o10 (A++dG S)
 have hk:Gk (aj 5) zU (zV (eC (.int 3))) E=some (.sh (.tup [.str e.w,e.ab,.int e.bl]),E):=rfl
 have set:xM 3 (Gk (aj 5) zU (zV (eC (.int 3)))) E=(match jH (pz A.length S) e.key with
  | some p=>some (.sh p,E)
  | none=>some (.sh (.ptr (A++dG S).length),⟨E.vs.set 3 (some (.own (.dx HK.hk ((pz A.length S).map (·.1)++[e.key]) ((pz A.length S).map (·.2)++[.ptr (A++dG S).length])))),(A++dG S)++[some (.lst [])]⟩)):=by
  unfold xM
  rw [show E.vs[3]?=some (some (.own (nT A.length S))) from rfl]
  dsimp only
  rw [hk,aaa]
  show ((rC [.str e.w,e.ab,.int e.bl]).bind _)=_
  rw [N8 ha,aaa,ab7 ⟨rfl,by rw [aad,NQ]; omega⟩,Xw]
  all_goals (cases jH (pz A.length S) e.key<;>rfl)
 cases h:jT S e.key with
 | none=>
  obtain ⟨h1,h2,h3⟩:=NT (N:=A.length) (i:=i) h
  rw [h1] at set
  have hl:(A++dG S).length=A.length+S.length:=by rw [aai,aad]
  refine (qN set rfl (n:=(A++dG S).length) (ws0:=[]) (ws:=[]) (p:=.int (i:Nat)) ?_ (y:=.sh (.int (i:Nat))) (ρ2:=⟨E.vs.set 3 (some (.own (.dx HK.hk ((pz A.length S).map (·.1)++[e.key]) ((pz A.length S).map (·.2)++[.ptr (A++dG S).length])))),(A++dG S)++[some (.lst [])]⟩) rfl rfl ?_ (by simp) rfl).trans ?_
  . show ((A++dG S)++[some (PV.lst [])])[(A++dG S).length]?=_
    rw [aas (aaf _),aa6]; rfl
  . show ((A++dG S)++[some (PV.lst [])])[(A++dG S).length]?=_
    rw [aas (aaf _),aa6]; rfl
  . show some (Fl.nx ⟨_,((A++dG S)++[some (PV.lst [])]).set (A++dG S).length _⟩)=_
    rw [List.set_append_right _ _ (aaf _),aa6,nT,h3,h2,aaz,aaz,hl,show dG (S++[(e.key,[i])])=dG S++[some (.lst (bK [i]))] from aaz,← aah]
    rfl
 | some l=>
  obtain ⟨j,h1,h2,h3,h4⟩:=NZ (N:=A.length) (i:=i) h
  rw [h1] at set
  obtain ⟨x,hx,ex⟩:=N5 h
  have hl:=hs x hx
  have g:(A++dG S)[A.length+j]?=some (some (.lst (bK l))):=by
   rw [aas (by omega),show A.length+j-A.length=j by omega]; exact h2
  refine (qN set rfl (n:=A.length+j) (ws0:=bK l) (ws:=bK l) (p:=.int (i:Nat)) g (y:=.sh (.int (i:Nat))) (ρ2:=E) rfl rfl g (by rw [aad,← ex]; omega) rfl).trans ?_
  show some (Fl.nx ⟨_,(A++dG S).set (A.length+j) _⟩)=_
  rw [List.set_append_right _ _ (by omega),show A.length+j-A.length=j by omega,show bK l++[PV.int (i:Nat)]=bK (l++[i]) by simp [bK],h3,nT,h4]
theorem Jb {A:Mu} {o0 o1 o2 o6 o7 o8 o9 o10:Option Lc}:∀ (es:List Ent) (i:Nat) (S:SD) (o4 o5:Option Lc),(∀ e∈es,e.ab=.non\/∃ j:Nat,e.ab=.int j)->S.length+es.length<=1000->∀ m,Short m S->m+es.length<=1000->
 ∃ p4 p5,fD (eG 2 (aL (aG 4) (aL (aG 5) eF))) Zc (N6 i (ens es)) (AE o0 o1 o2 (some (.own (nT A.length S))) o4 o5 o6 o7 o8 o9 o10 (A++dG S))=some (.nx (AE o0 o1 o2 (some (.own (nT A.length (pB i es S)))) p4 p5 o6 o7 o8 o9 o10 (A++dG (pB i es S))))
 | [],i,S,o4,o5,_,_,m,_,_=>⟨o4,o5,rfl⟩
 | e::es,i,S,o4,o5,ha,hl,m,hs,hm=>by
  simp only [aae] at hl hm
  have hp:=G9 (K:=e.key) (i:=i) S
  obtain ⟨p4,p5,ih⟩:=Jb (A:=A) (o0:=o0) (o1:=o1) (o2:=o2) (o6:=o6) (o7:=o7) (o8:=o8) (o9:=o9) (o10:=o10) es (i+1) (gJ e.key i S) (zI (i:Nat)) (zS e.pv) (fun x hx=>ha x (aag _ hx)) (by omega) (m+1) hs.put (by omega)
  exact ⟨p4,p5,fY (ρ1:=AE o0 o1 o2 (some (.own (nT A.length S))) (zI (i:Nat)) (zS e.pv) o6 o7 o8 o9 o10 (A++dG S)) rfl (U5 (ha e aab) (by omega) fun x hx=>by have:=hs x hx; omega) ih⟩
theorem Dv {k:Key} {v:PV}:∀ l:PD,(jG k v l).length=l.length
 | []=>rfl
 | x::r=>by simp [jG,Dv r]
theorem QT {k:Key} {v:PV} {l:PD}:(gF l k v).length<=l.length+1:=by
 unfold gF
 split
 . rw [Dv]; omega
 . simp
abbrev Xy:EF:=eO (gB (aj 9) cX) 2 [] (eG 2 (aL (aG 0) (aL (aG 1) eF))) dq (aj 0)
theorem Jc {mu:Mu}:∀ (xs:List Str) (o0 o1:Option Lc) (acc:List PV),acc.length+xs.length<=1000->jj (eG 2 (aL (aG 0) (aL (aG 1) eF))) dq (aj 0) (xs.map fun x=>.tup [.str x,.non]) ⟨[o0,o1],mu⟩ acc=some (acc++xs.map PV.str,mu)
 | [],o0,o1,acc,_=>by simp [jj]
 | x::xs,o0,o1,acc,h=>by
  simp only [aae] at h
  refine Am (ρ1:=⟨[zT x,some (.sh .non)],mu⟩) (l:=.sh (.str x)) (ρ2:=⟨[zT x,some (.sh .non)],mu⟩) rfl rfl (by omega) ((Jc xs _ _ (acc++[.str x]) (by rw [aai]; simp only [aae,aaK]; omega)).trans ?_)
  simp
theorem U6 {f:Fn} {d:PD} {o0 o1 o2 o3 o4 o5 o8 o10:Option Lc} {mu:Mu} (hp:∃ xs:List Str,f.params=xs.map (fun x=>.tup [.str x,.non])/\xs.length<=100) (hd:d.length<=1000):∃ p,
 qD 6 (aj 7) Xy (AE o0 o1 o2 o3 o4 o5 (some (.own (dN d))) (zT f.name) o8 (zL f.params) o10 mu)=some (.nx (AE o0 o1 o2 o3 o4 o5 (some (.own (dN (gF d (.inr f.name) p)))) (zT f.name) o8 (zL f.params) o10 mu)):=by
 obtain ⟨xs,e,hl⟩:=hp
 let E:=AE o0 o1 o2 o3 o4 o5 (some (.own (dN d))) (zT f.name) o8 (zL f.params) o10 mu
 refine ⟨.lst (xs.map PV.str),?_⟩
 have c:Xy E=some (.own (.lst (xs.map PV.str)),E):=je (ρ1:=E) (xs:=f.params) (jP (l:=.sh (.lst f.params)) rfl rfl) (by rw [e]; exact Jc xs none none [] (by simp only [aaK]; omega))
 unfold qD
 rw [c,aaa]
 show (if (d.map (·.1)).length<100000 then _ else _)=_
 rw [ab7 (by rw [aad]; omega),R6]
 rfl
theorem Jd {o0 o1 o2 o3 o4 o5:Option Lc} {mu:Mu}:∀ (fs:List Fn) (d:PD) (o7 o8 o9 o10:Option Lc),(∀ f∈fs,∃ xs:List Str,f.params=xs.map (fun x=>.tup [.str x,.non])/\xs.length<=100)->d.length+fs.length<=1000->
 ∃ d' p7 p8 p9 p10,fD (eG 4 (aL (aG 7) (aL (aG 8) (aL (aG 9) (aL (aG 10) eF))))) (qD 6 (aj 7) Xy) (fs.map Fn.pv) (AE o0 o1 o2 o3 o4 o5 (some (.own (dN d))) o7 o8 o9 o10 mu)=some (.nx (AE o0 o1 o2 o3 o4 o5 (some (.own (dN d'))) p7 p8 p9 p10 mu))
 | [],d,o7,o8,o9,o10,_,_=>⟨d,o7,o8,o9,o10,rfl⟩
 | f::fs,d,o7,o8,o9,o10,h,hl=>by
  simp only [aae] at hl
  obtain ⟨p,st⟩:=U6 (f:=f) (d:=d) (o0:=o0) (o1:=o1) (o2:=o2) (o3:=o3) (o4:=o4) (o5:=o5) (o8:=zS f.rank) (o10:=zL f.rows.pvs) (mu:=mu) (h f aab) (by omega)
  have hp:=QT (k:=.inr f.name) (v:=p) (l:=d)
  obtain ⟨d',p7,p8,p9,p10,ih⟩:=Jd (o0:=o0) (o1:=o1) (o2:=o2) (o3:=o3) (o4:=o4) (o5:=o5) (mu:=mu) fs (gF d (.inr f.name) p) (zT f.name) (zS f.rank) (zL f.params) (zL f.rows.pvs) (fun x hx=>h x (aag _ hx)) (by omega)
  exact ⟨d',p7,p8,p9,p10,fY (ρ1:=AE o0 o1 o2 o3 o4 o5 (some (.own (dN d))) (zT f.name) (zS f.rank) (zL f.params) (zL f.rows.pvs) mu) rfl st ih⟩
abbrev LX (N:Nat) (S:SD):PV:=.dx HK.hk ((pz N S).map (·.1)) (S.map fun x=>.lst (bK x.2))
abbrev Je (es:List Ent) (N:Nat) (hd:PV):FD:=[("told",.lst (ens es)),("lists",LX N (pB 0 es [])),("heads",hd)]
theorem YK (P:Pg):∀ e∈P.es,e.ab=.non\/∃ j:Nat,e.ab=.int j:=by
 have f:∀ (fs:List Fn) (k:Nat),∀ e∈An fs k,e.ab=.non\/∃ j:Nat,e.ab=.int j:=by
  intro fs
  induction fs with
  | nil=>intro k e he; cases he
  | cons f fs ih=>
   intro k e he
   rcases aaF.mp he with he | he
   . exact (Rows.abs f.rows f.name .non 0 k e he).num (k:=0) (.inl rfl)
   . exact ih _ e he
 intro e he
 rcases aaF.mp he with he | he
 . exact f _ _ e he
 . exact (Rows.abs P.rows "main" .non 0 _ e he).num (k:=0) (.inl rfl)
theorem es_len (P:Pg):P.es.length=sr P.fns+P.rows.cnt:=by
 unfold Pg.es
 rw [aai,Cj,Rows.es_len]
theorem QV {α:Type} {A B:List α} {x:α}:(A++x::B)[A.length]?=some x:=by rw [aas (aaf _),aa6]; rfl
theorem QW {α:Type} {A B:List α} {x y:α}:(A++x::B).set A.length y=A++y::B:=by rw [List.set_append_right _ _ (aaf _),aa6]; rfl
theorem QX {P:Pg} (ok:P.ok) (A:Mu):∃ hd B,fG [.ptr A.length,P.pv] (A++[some (bA "Plan" [])])=some (.sh .non,A++some (bA "Plan" (Je P.es (A.length+1) hd))::B):=by
 have hc:=ok.ct
 have hlen:=es_len P
 let A1:Mu:=A++[some (bA "Plan" [])]
 have hA1:A1.length=A.length+1:=by simp [A1]
 let S:=pB 0 P.es []
 let o0:Option Lc:=zS (.ptr A.length)
 let o1:Option Lc:=zS P.pv
 let o2:Option Lc:=zL (ens P.es)
 obtain ⟨p4,p5,e1⟩:=Jb (A:=A1) (o0:=o0) (o1:=o1) (o2:=o2) (o6:=none) (o7:=none) (o8:=none) (o9:=none) (o10:=none) P.es 0 [] none none (YK P) (by simp only [aaK]; omega) 0 (fun x hx=>by cases hx) (by omega)
 obtain ⟨d,p7,p8,p9,p10,e2⟩:=Jd (o0:=o0) (o1:=o1) (o2:=o2) (o3:=some (.own (nT A1.length S))) (o4:=p4) (o5:=p5) (mu:=A1++dG S) P.fns [] none none none none ok.pm (by have:=ok.fl; simp only [aaK]; omega)
 have n1:=HJ (mu:=A1) ok
 let T:PV:=.lst (ens P.es)
 let A2:Mu:=A++[some (bA "Plan" [("told",T)])]
 let B:Mu:=S.map fun _=>none
 have hA2:A2.length=A1.length:=by simp [A1,A2]
 have hm:=Ja S A2
 rw [hA2] at hm
 let Q:=AE o0 o1 o2 (some (.own (nT A1.length S))) p4 p5 (some (.own (dN d))) p7 p8 p9 p10
 let Q2:=AE o0 o1 o2 (zS (nT A1.length S)) p4 p5 (some (.own (dN d))) p7 p8 p9 p10
 let Q3:=AE o0 o1 o2 (zS (nT A1.length S)) p4 p5 (zS (dN d)) p7 p8 p9 p10
 refine ⟨dN d,B,?_⟩
 have run:∀ {g:SF} {ρ1:Ev},g (env0 11 [.ptr A.length,P.pv] A1)=some (.nx ρ1)->cA 11 g [.ptr A.length,P.pv] A1=some (.sh .non,ρ1.mu):=fun h=>f9 h
 refine run (ρ1:=Q3 (A++some (bA "Plan" (Je P.es (A.length+1) (dN d)))::B)) ?_
 refine aB (ρ':=AE o0 o1 (some (.own T)) none none none none none none none none A1) (cH (l:=.own T) (ρ1:=AE o0 o1 none none none none none none none none none A1) (bh (ls:=[.sh P.pv]) (ps:=[P.pv]) (ρ1:=AE o0 o1 none none none none none none none none none A1) rfl rfl rfl rfl n1) rfl rfl) ?_
 refine aB (ρ':=AE o0 o1 (some (.own T)) (some (.own (nT A1.length []))) none none none none none none none A1) rfl ?_
 refine aB (ρ':=AE o0 o1 o2 (some (.own (nT A1.length S))) p4 p5 none none none none none (A1++dG S)) (jQ (xs:=N6 0 (ens P.es)) (ρ1:=AE o0 o1 o2 (some (.own (nT A1.length []))) none none none none none none none (A1++dG [])) ?_ e1) ?_
 . rw [← QS,show A1++dG []=A1 from aat _]
   rfl
 refine aB (ρ':=AE o0 o1 o2 (some (.own (nT A1.length S))) p4 p5 (some (.own (dN []))) none none none none (A1++dG S)) rfl ?_
 refine aB (ρ':=Q (A1++dG S)) (jQ (xs:=P.fns.map Fn.pv) (ρ1:=AE o0 o1 o2 (some (.own (nT A1.length S))) p4 p5 (some (.own (dN []))) none none none none (A1++dG S)) (jP (l:=.sh (.lst (P.fns.map Fn.pv))) rfl rfl) e2) ?_
 refine aB (ρ':=Q (A2++dG S)) ((oO (C := "Plan") (f := "told") (p:=T) (n:=A.length) (l:=[]) (y:=.sh T) (x:=.sh (.ptr A.length)) (ρ1:=Q (A1++dG S)) (ρ2:=Q (A1++dG S)) rfl rfl rfl rfl ?_ (by decide)).trans ?_) ?_
 . show (A++[some (bA "Plan" [])]++dG S)[A.length]?=_
   rw [aah]
   exact QV
 . show some (Fl.nx ⟨_,(A++[some (bA "Plan" [])]++dG S).set A.length _⟩)=some (Fl.nx ⟨_,A++[some (bA "Plan" [("told",T)])]++dG S⟩)
   rw [aah,aah,List.singleton_append,QW]
   rfl
 refine aB (ρ':=Q2 (A++some (bA "Plan" [("told",T),("lists",LX A1.length S)])::B)) ((oO (C := "Plan") (f := "lists") (p:=LX A1.length S) (n:=A.length) (l:=[("told",T)]) (y:=.sh (LX A1.length S)) (x:=.sh (.ptr A.length)) (ρ1:=Q2 (A2++B)) (ρ2:=Q2 (A2++B)) ?_ rfl rfl rfl ?_ (by simp only [aae,aaK]; omega)).trans ?_) ?_
 . unfold Gp
   rw [show aj 3 (Q (A2++dG S))=some (.sh (nT A1.length S),Q2 (A2++dG S)) from rfl,aaa]
   show ((meltL (A2++dG S) ((pz A1.length S).map (·.2))).map _)=_
   rw [hm]
   rfl
 . show (A++[some (bA "Plan" [("told",T)])]++B)[A.length]?=_
   rw [aah]
   exact QV
 . show some (Fl.nx ⟨_,(A++[some (bA "Plan" [("told",T)])]++B).set A.length _⟩)=some (Fl.nx ⟨_,A++some (bA "Plan" [("told",T),("lists",LX A1.length S)])::B⟩)
   rw [aah,List.singleton_append,QW]
   rfl
 refine (oO (C := "Plan") (f := "heads") (p:=dN d) (n:=A.length) (l:=[("told",T),("lists",LX A1.length S)]) (y:=.sh (dN d)) (x:=.sh (.ptr A.length)) (ρ1:=Q3 (A++some (bA "Plan" [("told",T),("lists",LX A1.length S)])::B)) (ρ2:=Q3 (A++some (bA "Plan" [("told",T),("lists",LX A1.length S)])::B)) rfl rfl rfl rfl QV (by simp only [aae,aaK]; omega)).trans ?_
 show some (Fl.nx ⟨_,(A++some (bA "Plan" [("told",T),("lists",LX A1.length S)])::B).set A.length _⟩)=some (Fl.nx ⟨_,A++some (bA "Plan" (Je P.es (A.length+1) (dN d)))::B⟩)
 rw [QW,← hA1]
 rfl
structure Ha (mu:Mu) (n:Nat) (es:List Ent):Prop where
 ex:∃ N hd,mu[n]?=some (some (bA "Plan" (Je es N hd)))
theorem Jf {es:List Ent} {k:Nat} {e:Ent} (h:es[k]?=some e):gM (ens es) ((k:Nat):Int)=some e.pv:=Ce (by rw [aaN,h]; rfl)
theorem Xz {mu:Mu} {n k:Nat} {es:List Ent} {e:Ent} (h:Ha mu n es) (he:es[k]?=some e):jX [.ptr n,.int (k:Nat)] mu=some (.sh e.r.pv,mu):=by
 obtain ⟨N,hd,hm⟩:=h
 let E:Ev:=⟨[zS (.ptr n),zI (k:Nat)],mu⟩
 refine bf (ρ:=E) (cD (oX (p:=e.pv) (q:=.int 3) (ρ1:=E) (ρ2:=E) (l:=.sh e.pv) (m:=.sh (.int 3)) (oX (p:=.lst (ens es)) (q:=.int (k:Nat)) (ρ1:=E) (ρ2:=E) (l:=.sh (.lst (ens es))) (m:=.sh (.int (k:Nat))) (dj (ρ1:=E) (x:=.sh (.ptr n)) (n:=n) rfl rfl hm rfl) rfl rfl rfl (fun n h=>by cases h) ?_) rfl rfl rfl (fun n h=>by cases h) rfl))
 show (gM (ens es) ((k:Nat):Int)).map _=_
 rw [Jf he]
 rfl
open Classical in
theorem QZ {mu:Mu} {n k:Nat} {es:List Ent} {e:Ent} {i:Int} (h:Ha mu n es) (he:es[k]?=some e):iM [.ptr n,.int (k:Nat),.int i] mu=some (.own (.lst (bK (pos (KEY e.w k i) 0 es))),mu):=by
 obtain ⟨N,hd,hm⟩:=h
 let E:Ev:=⟨[zS (.ptr n),zI (k:Nat),zI i],mu⟩
 have hk:aQ (aa (bx (bx (cg "Plan" "told" (aj 0)) (aj 1)) (eC (.int 0))) (aa (aj 1) (aa (aj 2) ao))) E=some (.sh (.tup [.str e.w,.int (k:Nat),.int i]),E):=by
  refine kY (ls:=[.sh (.str e.w),.sh (.int (k:Nat)),.sh (.int i)]) (aC (ρ1:=E) (oX (p:=e.pv) (q:=.int 0) (ρ1:=E) (ρ2:=E) (l:=.sh e.pv) (m:=.sh (.int 0)) (oX (p:=.lst (ens es)) (q:=.int (k:Nat)) (ρ1:=E) (ρ2:=E) (l:=.sh (.lst (ens es))) (m:=.sh (.int (k:Nat))) (dj (ρ1:=E) (x:=.sh (.ptr n)) (n:=n) rfl rfl hm rfl) rfl rfl rfl (fun n h=>by cases h) ?_) rfl rfl rfl (fun n h=>by cases h) rfl) rfl) rfl rfl
  show (gM (ens es) ((k:Nat):Int)).map _=_
  rw [Jf he]
  rfl
 let S:=pB 0 es []
 have hS:(jT S (KEY e.w k i)).getD []=pos (KEY e.w k i) 0 es:=Ck es 0 []
 have g:∃ l,u9 (cg "Plan" "lists" (aj 0)) (aQ (aa (bx (bx (cg "Plan" "told" (aj 0)) (aj 1)) (eC (.int 0))) (aa (aj 1) (aa (aj 2) ao)))) E=some (l,E)/\l.pv=.lst (bK ((jT S (KEY e.w k i)).getD [])):=by
  unfold u9
  rw [dj (C := "Plan") (f := "lists") (fo:=aj 0) (ρ:=E) (ρ1:=E) (x:=.sh (.ptr n)) (n:=n) (p:=LX N S) rfl rfl hm rfl,aaa]
  show ∃ l,((aQ (aa (bx (bx (cg "Plan" "told" (aj 0)) (aj 1)) (eC (.int 0))) (aa (aj 1) (aa (aj 2) ao))) E).bind _)=some (l,E)/\_
  rw [hk,aaa]
  show ∃ l,(if HK.hk=HK.hk then some ((match jH (((pz N S).map (·.1)).zip (S.map fun x=>PV.lst (bK x.2))) (KEY e.w k i) with | some p=>Lc.sh p | none=>.own (.lst [])),E) else none)=some (l,E)/\_
  rw [ab7 rfl,Kv]
  cases jT S (KEY e.w k i) with
  | none=>exact ⟨_,rfl,rfl⟩
  | some l=>exact ⟨_,rfl,rfl⟩
 obtain ⟨l,g1,g2⟩:=g
 refine bf (ρ:=E) (cD (uZ (ls:=[l]) (ps:=[.lst (bK (pos (KEY e.w k i) 0 es))]) (ρ1:=E) (aC g1 rfl) (by rw [← hS,← g2]; rfl) rfl))
abbrev KM:List cC:=[some (.inr "main"),none,some (.inl 0)]
theorem Hb {e:Ent} {j:Nat} (h:e.ab=.int j):e.key≠KM:=by
 unfold Ent.key
 rw [h]
 intro q
 injection q with _ q
 injection q with q _
 cases q
theorem Row.pos_main (r:Row) (k:Nat):pos KM k (r.es "main" .non 0 k)=[k]:=by
 have sub:∀ (rs:Rows) (c:Int) (s:Nat),k<s->pos KM s (rs.es "main" (.int (k:Nat)) c s)=[]:=fun rs c s hs=>uE fun e he=>by
  rcases (Rows.abs rs "main" (.int (k:Nat)) c s e he) with h | ⟨m,h,_⟩
  . exact Hb h
  . exact Hb h
 have own:∀ r:Row,(⟨"main",.non,0,r⟩:Ent).key=KM:=fun _=>rfl
 cases r with
 | leaf x ps=>show (if _ then _ else _)=_; rw [ab7 (own _)]; rfl
 | wh x c=>
  show (if _ then _ else _)=_
  rw [ab7 (own _),sub c 0 (k+1) (by omega)]
theorem Rows.pos_main:∀ (rs:Rows) (k:Nat),pos KM k (rs.es "main" .non 0 k)=rs.nums k
 | .nil,k=>rfl
 | .cons r rs,k=>by
  show pos _ k (r.es "main" .non 0 k++rs.es "main" .non 0 (k+r.cnt))=_
  rw [qR,Row.pos_main r k,Row.es_len,Rows.pos_main rs (k+r.cnt)]
  rfl
open Classical in
theorem U7 {mu:Mu} {n:Nat} {es:List Ent} (h:Ha mu n es):lC [.ptr n,.str "main"] mu=some (.own (.lst (bK (pos KM 0 es))),mu):=by
 obtain ⟨N,hd,hm⟩:=h
 let E:Ev:=⟨[zS (.ptr n),some (.sh (.str "main"))],mu⟩
 let S:=pB 0 es []
 have hS:(jT S KM).getD []=pos KM 0 es:=Ck es 0 []
 have g:∃ l,u9 (cg "Plan" "lists" (aj 0)) (aQ (aa (aj 1) (aa (eC .non) (aa (eC (.int 0)) ao)))) E=some (l,E)/\l.pv=.lst (bK ((jT S KM).getD [])):=by
  unfold u9
  rw [dj (C := "Plan") (f := "lists") (fo:=aj 0) (ρ:=E) (ρ1:=E) (x:=.sh (.ptr n)) (n:=n) (p:=LX N S) rfl rfl hm rfl,aaa]
  show ∃ l,(if HK.hk=HK.hk then some ((match jH (((pz N S).map (·.1)).zip (S.map fun x=>PV.lst (bK x.2))) KM with | some p=>Lc.sh p | none=>.own (.lst [])),E) else none)=some (l,E)/\_
  rw [ab7 rfl,Kv]
  cases jT S KM with
  | none=>exact ⟨_,rfl,rfl⟩
  | some l=>exact ⟨_,rfl,rfl⟩
 obtain ⟨l,g1,g2⟩:=g
 refine bf (ρ:=E) (cD (uZ (ls:=[l]) (ps:=[.lst (bK (pos KM 0 es))]) (ρ1:=E) (aC g1 rfl) (by rw [← hS,← g2]; rfl) rfl))
abbrev PQ (es:List Ent) (N:Nat) (hd:PV):PV:=fZ (ens es) (LX N (pB 0 es [])) hd
theorem lG.row {es:List Ent} {N:Nat} {hd ab:PV} {w:Str} {bl:Int} {k:Nat} {r:Row} (h:lG es w ab bl k r):jl (PQ es N hd) k r.pv:=fun mu p hm=>Xz ⟨N,hd,hm⟩ h.get
theorem lG.blk {es:List Ent} {N:Nat} {hd ab e:PV} {w:Str} {bl:Int} {k:Nat} {b:Rows} (h:lG es w ab bl k (.wh e b)):vC (PQ es N hd) k (bK (b.nums (k+1))):=fun mu p hm=>by
 have q:=QZ (i:=0) ⟨N,hd,hm⟩ h.get
 rw [h.pos 0] at q
 exact q
theorem CB.snocN {mu:Mu} {hi:Nat} {x:Str} {i:Int}:∀ {lo:Nat} {A:Bs} {ps:List PV},CB mu hi lo A ps->CB mu hi lo (A++[(x,.n i)]) (ps++[.int i])
 | lo,[],ps,h=>by have h:ps=[]:=h; subst h; exact ⟨[],rfl,rfl⟩
 | lo,(_,.n j)::A,ps,⟨r,e,h⟩=>by subst e; exact ⟨_,rfl,h.snocN⟩
 | lo,(_,.l js)::A,ps,⟨c,r,e,h1,h2,h3,h⟩=>by subst e; exact ⟨c,_,rfl,h1,h2,h3,h.snocN⟩
theorem CB.snocL {mu:Mu} {x:Str} {is:List Int}:∀ {lo:Nat} {A:Bs} {ps:List PV},lo<=mu.length->CB mu mu.length lo A ps->CB (mu++[some (.lst (is.map .int))]) (mu.length+1) lo (A++[(x,.l is)]) (ps++[.ptr mu.length])
 | lo,[],ps,hl,h=>by have h:ps=[]:=h; subst h; exact ⟨mu.length,[],rfl,hl,abb _,by rw [aas (aaf _),aa6]; rfl,rfl⟩
 | lo,(_,.n j)::A,ps,hl,⟨r,e,h⟩=>by subst e; exact ⟨_,rfl,h.snocL hl⟩
 | lo,(_,.l js)::A,ps,hl,⟨c,r,e,h1,h2,h3,h⟩=>by subst e; exact ⟨c,_,rfl,h1,by omega,by rw [xR h2]; exact h3,h.snocL (by omega)⟩
theorem CB.hi {mu:Mu} {hi hi':Nat}:∀ {lo:Nat} {A:Bs} {ps:List PV},hi<=hi'->CB mu hi lo A ps->CB mu hi' lo A ps
 | lo,[],ps,_,h=>h
 | lo,(_,.n j)::A,ps,hl,⟨r,e,h⟩=>⟨r,e,h.hi hl⟩
 | lo,(_,.l js)::A,ps,hl,⟨c,r,e,h1,h2,h3,h⟩=>⟨c,r,e,h1,by omega,h3,h.hi hl⟩
theorem Dw {k:Key}:∀ {ks:List Key} {ps:List PV},k∉ks->b8 (ks.zip ps) k=none
 | [],_,_=>rfl
 | _::_,[],_=>rfl
 | y::ks,p::ps,h=>by
  show (if y=k then some p else b8 (ks.zip ps) k)=none
  rw [ab8 (fun e=>h (by rw [e]; exact aab)),Dw fun q=>h (aag _ q)]
theorem Hc {i:Nat} {fi fv:EF} {ρ ρ1 ρ2 ρ':Ev} {x y:Lc} {ks0 ks:List Key} {ps0 ps:List PV} {k:Key} {p:PV} (h1:fv ρ=some (x,ρ1)) (hx:x.pv=p) (h0:ρ1.vs[i]?=some (some (.own (.dk ks0 ps0)))) (h2:fi ρ1=some (y,ρ2)) (hy:oE y.pv=some k) (h3:ρ2.vs[i]?=some (some (.own (.dk ks ps)))) (hl:ks.length<100000) (e:ρ2.set i (some (.own (dN (gF (ks.zip ps) k p))))=ρ'):qD i fi fv ρ=some (.nx ρ'):=by
 unfold qD
 rw [h1,aaa,h0]
 dsimp only
 rw [h2,aaa,hy,h3]
 dsimp only
 rw [ab7 hl,hx,e]
theorem Cm {ks:List Key} {ps:List PV} {k:Key} {p:PV} (hl:ps.length=ks.length) (hk:k∉ks):dN (gF (ks.zip ps) k p)=.dk (ks++[k]) (ps++[p]):=by
 unfold gF
 rw [Dw hk]
 show dN (ks.zip ps++[(k,p)])=_
 rw [show ks.zip ps++[(k,p)]=(ks++[k]).zip (ps++[p]) from by rw [abg hl.symm]; rfl]
 exact Nx (by rw [aai,aai,hl]; rfl)
abbrev dcl (D:List (Str×Int)):List PV:=D.map fun q=>.tup [.str q.1,.int q.2,.non]
abbrev aR (B:Bs):List PV:=B.map fun q=>q.2.pv
abbrev Zd:SF:=qD 2 (bx (aj 3) (eC (.int 0))) (qg (tT (jt "list" (aj 4)) gn) (cV (eB list1 (aa (aj 4) ao))) (aj 4))
abbrev FE (P V:PV) (l2 l3 l4:Option Lc) (mu:Mu):Ev:=⟨[zS P,zS V,l2,l3,l4],mu⟩
theorem Hd {A:Bs} {x:Str} (h:x∉A.map (·.1)):(.inr x:Key)∉bC A:=fun q=>by
 obtain ⟨z,hz,e⟩:=aaD.mp q
 exact h (aaD.mpr ⟨z,hz,Sum.inr.inj e⟩)
theorem U8 {P V:PV} {A:Bs} {ps:List PV} {mu:Mu} {lo:Nat} {x:Str} {s:Int} {v:BV} (hx:x∉A.map (·.1)) (hA:A.length<=100) (hlo:lo<=mu.length) (hc:CB mu mu.length lo A ps):∃ ps' t,Zd (FE P V (some (.own (.dk (bC A) ps))) (zS (.tup [.str x,.int s,.non])) (zS v.pv) mu)=some (.nx (FE P V (some (.own (.dk (bC (A++[(x,v)])) ps'))) (zS (.tup [.str x,.int s,.non])) (zS v.pv) (mu++t)))/\CB (mu++t) (mu++t).length lo (A++[(x,v)]) ps':=by
 have hl:ps.length=(bC A).length:=by rw [hc.len,aad]
 have hk:=Hd hx
 have ek:bC (A++[(x,v)])=bC A++[.inr x]:=aaz
 cases v with
 | n i=>
  refine ⟨ps++[.int i],[],?_,?_⟩
  . rw [aat,ek,← Cm hl hk]
    exact Hc (ρ2:=FE P V (some (.own (.dk (bC A) ps))) (zS (.tup [.str x,.int s,.non])) (some (.sh (BV.n i).pv)) mu) (x:=.sh (.int i)) (y:=.sh (.str x)) rfl rfl rfl rfl rfl rfl (by rw [aad]; omega) rfl
  . rw [aat]
    exact hc.snocN
 | l is=>
  refine ⟨ps++[.ptr mu.length],[some (.lst (is.map .int))],?_,?_⟩
  . rw [ek,← Cm hl hk]
    exact Hc (ρ1:=FE P V (some (.own (.dk (bC A) ps))) (zS (.tup [.str x,.int s,.non])) (some (.sh (BV.l is).pv)) (mu++[some (.lst (is.map .int))])) (ρ2:=FE P V (some (.own (.dk (bC A) ps))) (zS (.tup [.str x,.int s,.non])) (some (.sh (BV.l is).pv)) (mu++[some (.lst (is.map .int))])) (x:=.sh (.ptr mu.length)) (y:=.sh (.str x)) rfl rfl rfl rfl rfl rfl (by rw [aad]; omega) rfl
  . rw [aai]
    exact hc.snocL hlo
theorem Jg {P V:PV} {lo:Nat}:∀ (B:Bs) (D:List (Str×Int)) (A:Bs) (ps:List PV) (l3 l4:Option Lc) (mu:Mu),D.map (·.1)=B.map (·.1)->((A++B).map (·.1)).Nodup->(A++B).length<=100->lo<=mu.length->CB mu mu.length lo A ps->
 ∃ ps' t p3 p4,fD (eG 2 (aL (aG 3) (aL (aG 4) eF))) Zd (nq (dcl D) (aR B)) (FE P V (some (.own (.dk (bC A) ps))) l3 l4 mu)=some (.nx (FE P V (some (.own (.dk (bC (A++B)) ps'))) p3 p4 (mu++t)))/\CB (mu++t) (mu++t).length lo (A++B) ps'
 | [],D,A,ps,l3,l4,mu,hD,_,_,_,hc=>by
  obtain rfl:D=[]:=by cases D with | nil=>rfl | cons q D=>(simp at hD)
  refine ⟨ps,[],l3,l4,?_,by rw [aat,aat]; exact hc⟩
  rw [aat,aat]
  rfl
 | (x,w)::B,D,A,ps,l3,l4,mu,hD,nd,h1,hlo,hc=>by
  obtain ⟨s,D',rfl,hD'⟩:∃ s D',D=(x,s)::D'/\D'.map (·.1)=B.map (·.1):=by
   cases D with
   | nil=>simp at hD
   | cons q D=>
    simp only [aav,List.cons.injEq] at hD
    exact ⟨q.2,D,by rw [← hD.1],hD.2⟩
  have e1:A++(x,w)::B=(A++[(x,w)])++B:=by rw [aah]; rfl
  have hx:x∉A.map (·.1):=fun q=>by
   rw [aaz] at nd
   exact (abu.mp nd).2.2 x q x (by rw [aav]; exact aab) rfl
  rw [e1] at nd h1 ⊢
  obtain ⟨ps1,t1,es,hc1⟩:=U8 (P:=P) (V:=V) (s:=s) (v:=w) hx (by rw [aai,aai] at h1; omega) hlo hc
  obtain ⟨ps',t,p3,p4,el,hc'⟩:=Jg (P:=P) (V:=V) (lo:=lo) B D' (A++[(x,w)]) ps1 (zS (.tup [.str x,.int s,.non])) (zS w.pv) (mu++t1) hD' nd h1 (by rw [aai]; omega) hc1
  rw [aah mu t1 t] at el hc'
  exact ⟨ps',t1++t,p3,p4,fY (ρ1:=FE P V (some (.own (.dk (bC A) ps))) (zS (.tup [.str x,.int s,.non])) (zS w.pv) mu) rfl es el,hc'⟩
theorem Oa {gr R4 R3:PV} {B:Bs} {D:List (Str×Int)} {mu:Mu} (hD:D.map (·.1)=B.map (·.1)) (nd:(B.map (·.1)).Nodup) (h1:B.length<=100):∃ ps t,rM [.tup [.lst (dcl D),gr,R3,R4],.lst (aR B)] mu=some (.own (.dk (bC B) ps),mu++t)/\CB (mu++t) (mu++t).length mu.length B ps:=by
 let P:PV:=.tup [.lst (dcl D),gr,R3,R4]
 obtain ⟨ps,t,p3,p4,el,hc⟩:=Jg (P:=P) (V:=.lst (aR B)) (lo:=mu.length) B D [] [] none none mu hD nd h1 (aaf _) rfl
 exact ⟨ps,t,bf (ρ:=FE P (.lst (aR B)) none p3 p4 (mu++t)) (aB (ρ':=FE P (.lst (aR B)) (some (.own (.dk [] []))) none none mu) rfl (aB (ρ':=FE P (.lst (aR B)) (some (.own (.dk (bC B) ps))) p3 p4 (mu++t)) (jQ (xs:=nq (dcl D) (aR B)) (ρ1:=FE P (.lst (aR B)) (some (.own (.dk [] []))) none none mu) rfl el) rfl)),hc⟩
abbrev jB (D:List (Str×Int)) (rs:Rows):Pg:=⟨dcl D,[],[],rs⟩
theorem Ob {D:List (Str×Int)} {rs:Rows}:(jB D rs).es=rs.es "main" .non 0 0:=rfl
theorem Rows.nums_len:∀ (rs:Rows) (k:Nat),(rs.nums k).length<=rs.cnt
 | .nil,k=>aaf _
 | .cons r rs,k=>by
  have:=r.cnt_pos
  have:=Rows.nums_len rs (k+r.cnt)
  simp only [Rows.nums,Rows.cnt,aae]
  omega
def Dy (rs:Rows):List PV:=match (rs.nums 0).getLast? with
 | none=>[]
 | some m=>[due m 3]++(bK (rs.nums 0)).reverse.map nZ
theorem Kw {mu:Mu} {I:Ix} {bu:Int} {wd:Str} {B:Bs} {M:List PV} {D:List (Str×Int)} {rs:Rows} {N:Nat} {hd:PV} (S:RS mu I bu wd (PQ ((jB D rs).es) N hd) B M []) (hl:(rs.nums 0).length<=900):∃ mu',j6 [.ptr I.r,.str "main"] mu=some (.sh .non,mu')/\RS mu' I bu wd (PQ ((jB D rs).es) N hd) B M (Dy rs)/\mu'.length=mu.length/\∀ c,c≠I.d->mu'[c]?=mu[c]?:=by
 let E:=fun l2 mu=>(⟨[zS (.ptr I.r),some (.sh (.str "main")),l2],mu⟩:Ev)
 obtain ⟨ns,hns⟩:∃ ns,rs.nums 0=ns:=⟨_,rfl⟩
 let N':Option Lc:=zL (bK ns)
 have be:lC [.ptr I.p,.str "main"] mu=some (.own (.lst (bK ns)),mu):=by
  have q:=U7 (mu:=mu) (n:=I.p) (es:=(jB D rs).es) ⟨N,hd,S.hp⟩
  rw [Ob,Rows.pos_main,hns] at q
  exact q
 have s2:aO 2 (cL "Plan" "body" lC (cg "Running" "plan" (aj 0)) (aa (aj 1) ao)) (E none mu)=some (.nx (E (zO (bK ns)) mu)):=cH (uC (x:=.sh (.ptr I.p)) (ls:=[.sh (.str "main")]) (ρ1:=E none mu) (ρ2:=E none mu) (dj rfl rfl S.hr rfl) rfl S.hp (show (["told", "lists", "heads"]:List Str).contains "body" = false from by decide +kernel) rfl rfl be) rfl rfl
 have t3:tT (aj 2) gn (E (zO (bK ns)) mu)=some (!(bK ns).isEmpty,E N' mu):=rfl
 unfold Dy
 rw [hns] at hl ⊢
 rcases List.eq_nil_or_concat ns with e0 | ⟨ms,m,e0⟩
 . subst e0
   have el:=G5 (ps:=[]) S (by simp)
   exact ⟨_,f9 (ρ:=E N' _) (aB s2 (aB (ρ':=E N' mu) ((bR t3).trans rfl) (fJ (lO S.hr (by decide +kernel) (ls:=[.sh (.lst [])]) (mu1:=mu) rfl rfl el)))),S.setD (D':=[]),aaJ,fun c hc=>aaw (Ne.symm hc)⟩
 . have e0:ns=ms++[m]:=by rw [e0,List.concat_eq_append]
   have en:bK ns=bK ms++[.int (m:Nat)]:=by rw [e0]; exact aaz
   have S1:=S.setD (D':=[]++[PV.tup [.int (m:Nat),.int 3]])
   have el:=G5 (ps:=bK ns) S1 (by rw [aad]; simp; omega)
   have gl:ns.getLast?=some m:=by rw [e0,List.getLast?_concat]
   rw [gl]
   refine ⟨_,?_,S1.setD,by rw [aaJ,aaJ],fun c hc=>(aaw (Ne.symm hc)).trans (aaw (Ne.symm hc))⟩
   have s3:iW (cg "Running" "due" (aj 0)) (aQ (aa (bx (aj 2) (rA (eC (.int 1)))) (aa (eC (.int 3)) ao))) (E N' mu)=some (.nx (E N' (mu.set I.d (some (.lst ([]++[PV.tup [.int (m:Nat),.int 3]])))))):=qN (o:=.sh (.ptr I.d)) (ρ1:=E N' mu) (ρ2:=E N' mu) (y:=.sh (.tup [.int (m:Nat),.int 3])) (dj rfl rfl S.hr rfl) rfl S.hd (kY (ls:=[.sh (.int (m:Nat)),.sh (.int 3)]) (aC (oX (l:=.sh (.lst (bK ns))) (m:=.sh (.int (-1))) rfl rfl rfl rfl (fun n h=>by cases h) (by show (gM (bK ns) (-1)).map _=_; rw [en,QL]; rfl)) rfl) rfl rfl) rfl S.hd (by decide) rfl
   exact f9 (ρ:=E N' _) (aB s2 (aB (ρ':=E N' _) ((dI (t3.trans (by rw [en]; cases bK ms<;>rfl))).trans s3) (fJ (lO S1.hr (by decide +kernel) (ls:=[.sh (.lst (bK ns))]) (mu1:=mu.set I.d (some (.lst ([]++[PV.tup [.int (m:Nat),.int 3]])))) rfl rfl el))))
section
variable {b0:Mu} {r:Nat}
abbrev WW (b0:Mu) (r:Nat) (l:FD) (t:Mu):Mu:=b0.set r (some (bA "Running" l))++t
theorem XC {l l':FD} {t:Mu} (h:r<b0.length):(WW b0 r l t).set r (some (bA "Running" l'))=WW b0 r l' t:=by
 unfold WW
 rw [List.set_append_left _ _ (by rw [aaJ]; exact h),aa7]
theorem Ky {l:FD} {t:Mu} {i:Nat}:(WW b0 r l t)[b0.length+i]?=t[i]?:=by
 unfold WW
 rw [aas (by rw [aaJ]; omega),aaJ]
 congr 1
 omega
theorem XF {l:FD} {t:Mu} (h:r<b0.length):(WW b0 r l t)[r]?=some (some (bA "Running" l)):=by
 unfold WW
 rw [aaI (by rw [aaJ]; exact h),aax h]
theorem Kz {l:FD} {t:Mu} {c:Nat} (h:c<b0.length) (hc:c≠r):(WW b0 r l t)[c]?=b0[c]?:=by
 unfold WW
 rw [aaI (by rw [aaJ]; exact h),aaw (Ne.symm hc)]
theorem sy {l:FD} {t:Mu}:(WW b0 r l t).length=b0.length+t.length:=by
 unfold WW
 rw [aai,aaJ]
theorem mX {l:FD} {t u:Mu}:WW b0 r l t++u=WW b0 r l (t++u):=aah ..
abbrev RE (r:Nat) (P V:PV) (bu:Int) (mu:Mu):Ev:=⟨[zS (.ptr r),zS P,zS V,zI bu],mu⟩
theorem Cp {f:Str} {fv:EF} {P V:PV} {bu:Int} {l l':FD} {t t':Mu} {y:Lc} {p:PV} (h:r<b0.length) (h1:fv (RE r P V bu (WW b0 r l t))=some (y,RE r P V bu (WW b0 r l t'))) (hy:y.pv=p) (hl:l.length<1000) (e:nu f p l=l'):fj "Running" f (aj 0) fv (RE r P V bu (WW b0 r l t))=some (.nx (RE r P V bu (WW b0 r l' t'))):=by
 have q:=oO (C := "Running") (f:=f) (fo:=aj 0) (x:=.sh (.ptr r)) (ρ2:=RE r P V bu (WW b0 r l t')) (n:=r) (l:=l) h1 hy rfl rfl (XF h) hl
 rw [q,e,show (RE r P V bu (WW b0 r l t')).mu=WW b0 r l t' from rfl,XC h]
end
theorem U9 {rs:Rows} {B:Bs} {D:List (Str×Int)} {bu:Int} {mu:Mu} (hD:D.map (·.1)=B.map (·.1)) (nd:(B.map (·.1)).Nodup) (h1:B.length<=100) (ok:(jB D rs).ok):
 ∃ mu' I N hd,eX [.ptr mu.length,(jB D rs).pv,.lst (aR B),.int bu] (mu++[some (bA "Running" [])])=some (.sh .non,mu')/\I.r=mu.length/\RS mu' I bu "done" (PQ ((jB D rs).es) N hd) B [] (Dy rs)/\mu'.length=I.d+1/\∀ c,c<mu.length->mu'[c]?=mu[c]?:=by
 let P:PV:=(jB D rs).pv
 let r:=mu.length
 have hrm:r=mu.length:=rfl
 obtain ⟨hd,Bm,e0'⟩:=QX ok (mu++[some (bA "Running" [])])
 let b0:Mu:=(mu++[some (bA "Running" [])])++some (bA "Plan" (Je (jB D rs).es ((mu++[some (bA "Running" [])]).length+1) hd))::Bm
 have hN:(mu++[some (bA "Running" [])]).length=r+1:=by simp [r]
 have e0:fG [.ptr (r+1),P] ((mu++[some (bA "Running" [])])++[some (bA "Plan" [])])=some (.sh .non,b0):=by rw [← hN]; exact e0'
 have h0:b0[r+1]?=some (some (PQ ((jB D rs).es) (r+2) hd)):=by
  show ((mu++[some (bA "Running" [])])++some (bA "Plan" (Je (jB D rs).es ((mu++[some (bA "Running" [])]).length+1) hd))::Bm)[r+1]?=_
  rw [hN,aas (by rw [hN]; omega),hN,aa6]
  rfl
 have l0:((mu++[some (bA "Running" [])])++[some (bA "Plan" [])]).length<=b0.length:=by simp [b0]
 have f0:∀ c,c<((mu++[some (bA "Running" [])])++[some (bA "Plan" [])]).length->c≠r+1->b0[c]?=((mu++[some (bA "Running" [])])++[some (bA "Plan" [])])[c]?:=fun c h1 h2=>by
  have h3:c<(mu++[some (bA "Running" [])]).length:=by rw [aai] at h1; simp only [aae,aaK] at h1; omega
  show ((mu++[some (bA "Running" [])])++_)[c]?=_
  rw [aaI h3,aaI h3]
 have lb:r+2<=b0.length:=by have:=l0; simp [r] at this ⊢; omega
 have fr:∀ c,c<mu.length->b0[c]?=mu[c]?:=fun c hc=>by
  rw [f0 c (by simp; omega) (by simp only [r]; omega),aaI (by simp; omega),aaI hc]
 have br:b0[r]?=some (some (bA "Running" [])):=by
  rw [f0 r (by simp [r]) (by simp [r]),aaI (by simp [r]),aas (by simp [r]),show r-mu.length=0 from by simp [r]]
  rfl
 have hr:r<b0.length:=by omega
 have w0:b0=WW b0 r [] []:=by
  unfold WW
  rw [aat,ach br]
 have s1:fj "Running" "plan" (aj 0) (sW "Plan" fG (aa (aj 1) ao)) (RE r P (.lst (aR B)) bu (mu++[some (bA "Running" [])]))=some (.nx (RE r P (.lst (aR B)) bu (WW b0 r [("plan",.ptr (r+1))] []))):=by
  have mk:=Iz (C := "Plan") (g:=fG) (a:=aa (aj 1) ao) (ρ:=RE r P (.lst (aR B)) bu (mu++[some (bA "Running" [])])) (ρ1:=RE r P (.lst (aR B)) bu (mu++[some (bA "Running" [])])) (ls:=[.sh P]) (ps:=[P]) (mu2:=b0) rfl rfl (by
   rw [show (RE r P (.lst (aR B)) bu (mu++[some (bA "Running" [])])).mu.length=r+1 from by simp [r]]
   exact e0)
  rw [show (RE r P (.lst (aR B)) bu (mu++[some (bA "Running" [])])).mu.length=r+1 from by simp [r]] at mk
  have q:=oO (C := "Running") (f := "plan") (fo:=aj 0) (x:=.sh (.ptr r)) (ρ2:=RE r P (.lst (aR B)) bu b0) (n:=r) (l:=[]) mk rfl rfl rfl br (by decide)
  rw [q]
  show some (Fl.nx (RE r P (.lst (aR B)) bu (b0.set r (some (bA "Running" [("plan",.ptr (r+1))])))))=_
  unfold WW
  rw [aat]
 obtain ⟨ps,t,ef,hc⟩:=Oa (gr:=.lst []) (R3:=.lst []) (R4:=.lst rs.pvs) (D:=D) (mu:=WW b0 r [("plan",.ptr (r+1))] []) hD nd h1
 rw [mX] at ef hc
 rw [abi] at ef hc
 have s2:fj "Running" "boxes" (aj 0) (cV (aK rM (aa (aj 1) (aa (aj 2) ao)))) (RE r P (.lst (aR B)) bu (WW b0 r [("plan",.ptr (r+1))] []))=some (.nx (RE r P (.lst (aR B)) bu (WW b0 r [("plan",.ptr (r+1)),("boxes",.ptr (b0.length+t.length))] (t++[some (.dk (bC B) ps)])))):=by
  refine Cp (y:=.sh (.ptr (b0.length+t.length))) hr ?_ rfl (show (1:Nat)<1000 from by decide) rfl
  have q:=lN (f:=aK rM (aa (aj 1) (aa (aj 2) ao))) (p:=.dk (bC B) ps) (ρ:=RE r P (.lst (aR B)) bu (WW b0 r [("plan",.ptr (r+1))] [])) (ρ1:=RE r P (.lst (aR B)) bu (WW b0 r [("plan",.ptr (r+1))] t)) (bh (ls:=[.sh P,.sh (.lst (aR B))]) (ρ1:=RE r P (.lst (aR B)) bu (WW b0 r [("plan",.ptr (r+1))] [])) (aC rfl (aC rfl rfl)) rfl rfl rfl ef)
  rw [show (RE r P (.lst (aR B)) bu (WW b0 r [("plan",.ptr (r+1))] t)).mu.length=b0.length+t.length from sy,show (RE r P (.lst (aR B)) bu (WW b0 r [("plan",.ptr (r+1))] t)).mu++[some (.dk (bC B) ps)]=WW b0 r [("plan",.ptr (r+1))] (t++[some (.dk (bC B) ps)]) from mX] at q
  exact q
 let n:=b0.length+t.length
 let l2:FD:=[("plan",.ptr (r+1)),("boxes",.ptr n)]
 let t2:Mu:=t++[some (.dk (bC B) ps)]
 let t3:Mu:=t2++[some (.dk [] []),some (.lst [.ptr (n+1)])]
 let l3:FD:=[("plan",.ptr (r+1)),("boxes",.ptr n),("own",.ptr (n+2))]
 have lt2:∀ l,(WW b0 r l t2).length=n+1:=fun l=>by rw [sy]; simp [t2,n]; omega
 have s3:fj "Running" "own" (aj 0) (cV (aV (aa (cV kZ) ao))) (RE r P (.lst (aR B)) bu (WW b0 r l2 t2))=some (.nx (RE r P (.lst (aR B)) bu (WW b0 r l3 t3))):=by
  refine Cp (y:=.sh (.ptr (n+2))) (t':=t3) hr ?_ rfl (show (2:Nat)<1000 from by decide) rfl
  have a1:cV kZ (RE r P (.lst (aR B)) bu (WW b0 r l2 t2))=some (.sh (.ptr (n+1)),RE r P (.lst (aR B)) bu (WW b0 r l2 (t2++[some (.dk [] [])]))):=by
   have q:=lN (f:=kZ) (p:=.dk [] []) (ρ:=RE r P (.lst (aR B)) bu (WW b0 r l2 t2)) rfl
   rw [show (RE r P (.lst (aR B)) bu (WW b0 r l2 t2)).mu.length=n+1 from lt2 l2] at q
   rw [q,← mX (t:=t2) (u:=[some (.dk [] [])])]
  have q:=lN (f:=aV (aa (cV kZ) ao)) (p:=.lst [.ptr (n+1)]) (ρ:=RE r P (.lst (aR B)) bu (WW b0 r l2 t2)) (ρ1:=RE r P (.lst (aR B)) bu (WW b0 r l2 (t2++[some (.dk [] [])]))) (wH (ls:=[.sh (.ptr (n+1))]) (aC a1 rfl) rfl rfl)
  rw [show (RE r P (.lst (aR B)) bu (WW b0 r l2 (t2++[some (.dk [] [])]))).mu.length=n+2 from by show (WW b0 r l2 (t2++[some (.dk [] [])])).length=_; rw [← mX,aai,lt2]; rfl] at q
  rw [q,← mX (t:=t2) (u:=[some (.dk [] [])])]
  show some (_,RE r P (.lst (aR B)) bu ((WW b0 r l2 t2++[some (.dk [] [])])++[some (.lst [.ptr (n+1)])]))=_
  rw [aah,mX]
  rfl
 let l4:FD:=[("plan",.ptr (r+1)),("boxes",.ptr n),("own",.ptr (n+2)),("budget",.int bu)]
 let l5:FD:=[("plan",.ptr (r+1)),("boxes",.ptr n),("own",.ptr (n+2)),("budget",.int bu),("word",.str "done")]
 have s4:fj "Running" "budget" (aj 0) (aj 3) (RE r P (.lst (aR B)) bu (WW b0 r l3 t3))=some (.nx (RE r P (.lst (aR B)) bu (WW b0 r l4 t3))):=Cp (y:=.sh (.int bu)) hr rfl rfl (show (3:Nat)<1000 from by decide) rfl
 have s5:fj "Running" "word" (aj 0) (eC (.str "done")) (RE r P (.lst (aR B)) bu (WW b0 r l4 t3))=some (.nx (RE r P (.lst (aR B)) bu (WW b0 r l5 t3))):=Cp (y:=.sh (.str "done")) hr rfl rfl (show (4:Nat)<1000 from by decide) rfl
 have lt3:∀ l,(WW b0 r l t3).length=n+3:=fun l=>by rw [sy]; simp [t3,t2,n]; omega
 let t4:Mu:=t3++[some (.lst [])]
 let l6:FD:=[("plan",.ptr (r+1)),("boxes",.ptr n),("own",.ptr (n+2)),("budget",.int bu),("word",.str "done"),("moments",.ptr (n+3))]
 have s6:fj "Running" "moments" (aj 0) (cV (aV ao)) (RE r P (.lst (aR B)) bu (WW b0 r l5 t3))=some (.nx (RE r P (.lst (aR B)) bu (WW b0 r l6 t4))):=by
  refine Cp (y:=.sh (.ptr (n+3))) (t':=t4) hr ?_ rfl (show (5:Nat)<1000 from by decide) rfl
  have q:=lN (f:=aV ao) (p:=.lst []) (ρ:=RE r P (.lst (aR B)) bu (WW b0 r l5 t3)) rfl
  rw [show (RE r P (.lst (aR B)) bu (WW b0 r l5 t3)).mu.length=n+3 from lt3 l5] at q
  rw [q,← mX (t:=t3) (u:=[some (.lst [])])]
 have lt4:∀ l,(WW b0 r l t4).length=n+4:=fun l=>by rw [sy]; simp [t4,t3,t2,n]; omega
 let t5:Mu:=t4++[some (.lst [])]
 let l7:FD:=[("plan",.ptr (r+1)),("boxes",.ptr n),("own",.ptr (n+2)),("budget",.int bu),("word",.str "done"),("moments",.ptr (n+3)),("due",.ptr (n+4))]
 have s7:fj "Running" "due" (aj 0) (cV (aV ao)) (RE r P (.lst (aR B)) bu (WW b0 r l6 t4))=some (.nx (RE r P (.lst (aR B)) bu (WW b0 r l7 t5))):=by
  refine Cp (y:=.sh (.ptr (n+4))) (t':=t5) hr ?_ rfl (show (6:Nat)<1000 from by decide) rfl
  have q:=lN (f:=aV ao) (p:=.lst []) (ρ:=RE r P (.lst (aR B)) bu (WW b0 r l6 t4)) rfl
  rw [show (RE r P (.lst (aR B)) bu (WW b0 r l6 t4)).mu.length=n+4 from lt4 l6] at q
  rw [q,← mX (t:=t4) (u:=[some (.lst [])])]
 let I:Ix:=⟨r,r+1,n,n+1,n+2,n+3,n+4⟩
 have et:t5=t++[some (.dk (bC B) ps),some (.dk [] []),some (.lst [.ptr (n+1)]),some (.lst []),some (.lst [])]:=by simp [t5,t4,t3,t2]
 have at5:∀ i:Nat,(WW b0 r l7 t5)[n+i]?=[some (PV.dk (bC B) ps),some (.dk [] []),some (.lst [.ptr (n+1)]),some (.lst []),some (.lst [])][i]?:=fun i=>by
  rw [show n+i=b0.length+(t.length+i) from by simp only [n]; omega,Ky,et,aas (by omega)]
  congr 1
  omega
 have S:RS (WW b0 r l7 t5) I bu "done" (PQ ((jB D rs).es) (r+2) hd) B [] []:=by
  refine ⟨by show r<r+1; omega,by show r+1<n; simp only [n]; omega,by show n<n+1; omega,by show n+1<n+2; omega,by show n+2<n+3; omega,by show n+3<n+4; omega,XF hr,?_,⟨ps,at5 0,?_⟩,at5 1,at5 2,at5 3,at5 4⟩
  . show (WW b0 r l7 t5)[r+1]?=_
    rw [Kz (by omega) (by omega)]
    exact h0
  . rw [sy] at hc
    refine (hc.lo (lo':=r+1+1) (by rw [sy]; omega)).frame fun c c1 c2=>?_
    have c1':r+1+1<=c:=c1
    by_cases hcb:c<b0.length
    . rw [Kz hcb (by omega),Kz hcb (by omega)]
    . obtain ⟨i,rfl⟩:∃ i,c=b0.length+i:=⟨c-b0.length,by omega⟩
      rw [Ky,Ky,et,aaI (by have:b0.length+i<b0.length+t.length:=c2; omega)]
 obtain ⟨mu',el,S',len',fr'⟩:=Kw S (by have:=ok.ct; exact aaL (aaL (Nat.le_of_eq rfl) (Rows.nums_len rs 0)) (by have:sr ([]:List Fn)=0:=rfl; show rs.cnt<=900; have h:=ok.ct; simp only [jB] at h; omega))
 refine ⟨mu',I,r+2,hd,?_,rfl,S',?_,fun c hc=>?_⟩
 . refine f9 (ρ:=RE r P (.lst (aR B)) bu mu') (aB s1 (aB s2 (aB s3 (aB s4 (aB s5 (aB s6 (aB s7 (fJ (l:=.sh .non) ?_))))))))
   exact lO (I:=I) S.hr (by decide +kernel) (ls:=[.sh (.str "main")]) (mu1:=WW b0 r l7 t5) rfl rfl el
 . rw [len',sy,et]
   simp [I,n]
   omega
 . have hnd:n=b0.length+t.length:=rfl
   rw [fr' c (by show c≠n+4; omega),Kz (by omega) (by omega),fr c hc]
structure LS where
 bu:Int
 wd:Str
 B:Bs
 ms:List cY
abbrev kS:List Key:=[.inr "moments",.inr "word",.inr "left",.inr "boxes"]
abbrev LM (L:LS):Mu:=[some (.lst (L.ms.map cY.pv)),some (.dk (bC L.B) (aR L.B)),some (.dk kS [.ptr 0,.str L.wd,.int L.bu,.ptr 1])]
def gU (k:Int) (x:Str) (v:Int) (L:LS):LS:=⟨L.bu,L.wd,setB L.B x (.n (v%1000000000000)),L.ms++[(k,0,[]),(k,1,[(x,0,v%1000000000000)])]⟩
def bL (k:Int) (t:Bool) (L:LS):Bool×LS:=if t=true then (if L.bu=0 then (false,⟨L.bu, "spent",L.B,L.ms++[(k,0,[])]⟩) else (true,⟨L.bu-1,L.wd,L.B,L.ms++[(k,0,[])]⟩)) else (false,⟨L.bu,L.wd,L.B,L.ms++[(k,0,[])]⟩)
theorem Oc {x:Str} {v:Int}:∀ {B:Bs},jG (.inr x) (.int v) (B.map fun q=>(.inr q.1,q.2.pv))=(setB B x (.n v)).map fun q=>(.inr q.1,q.2.pv)
 | []=>rfl
 | (y,w)::B=>by
  have ih:=Oc (x:=x) (v:=v) (B:=B)
  have er:jG (.inr x) (.int v) (((y,w)::B).map fun q=>(.inr q.1,q.2.pv))=(if (Sum.inr y:Key)=.inr x then (Sum.inr y,PV.int v) else (Sum.inr y,w.pv))::jG (.inr x) (.int v) (B.map fun q=>(.inr q.1,q.2.pv)):=rfl
  rw [er,ih]
  show _=((fun q:Str×BV=>((Sum.inr q.1:Key),q.2.pv)) (if y=x then (y,BV.n v) else (y,w)))::_
  by_cases e:y=x
  . rw [ab7 e,ab7 (congrArg Sum.inr e)]
    rfl
  . rw [ab8 e,ab8 (fun h=>e (Sum.inr.inj h))]
    rfl
theorem YL {B:Bs} {x:Str} {v:Int} (h:tG B x):dN (gF ((bC B).zip (aR B)) (.inr x) (.int v))=.dk (bC (setB B x (.n v))) (aR (setB B x (.n v))):=by
 obtain ⟨i,h⟩:=h
 rw [BZ (f:=BV.pv)]
 unfold gF
 rw [Ca,h]
 show dN (jG _ _ _)=_
 rw [Oc]
 unfold dN
 rw [aaY,aaY]
 rfl
theorem KD {B:Bs} {x:Str} (h:tG B x):b8 ((bC B).zip (aR B)) (.inr x)=some (.int (numAt B x)):=by
 obtain ⟨i,h⟩:=h
 rw [BZ (f:=BV.pv),Ca,h]
 unfold numAt
 rw [h]
 rfl
section
variable {L:LS}
theorem YM {vs:List (Option Lc)}:aY (aj 0) (eC (.str "moments")) ⟨zS (.ptr 2)::vs,LM L⟩=some (.sh (.ptr 0),⟨zS (.ptr 2)::vs,LM L⟩):=nR (x:=.sh (.ptr 2)) (y:=.sh (.str "moments")) (k:=.inr "moments") (ks:=kS) (ps:=[.ptr 0,.str L.wd,.int L.bu,.ptr 1]) rfl rfl rfl rfl rfl rfl
theorem Er {vs:List (Option Lc)}:aY (aj 0) (eC (.str "word")) ⟨zS (.ptr 2)::vs,LM L⟩=some (.sh (.str L.wd),⟨zS (.ptr 2)::vs,LM L⟩):=nR (x:=.sh (.ptr 2)) (y:=.sh (.str "word")) (k:=.inr "word") (ks:=kS) (ps:=[.ptr 0,.str L.wd,.int L.bu,.ptr 1]) rfl rfl rfl rfl rfl rfl
theorem Ss {vs:List (Option Lc)}:aY (aj 0) (eC (.str "left")) ⟨zS (.ptr 2)::vs,LM L⟩=some (.sh (.int L.bu),⟨zS (.ptr 2)::vs,LM L⟩):=nR (x:=.sh (.ptr 2)) (y:=.sh (.str "left")) (k:=.inr "left") (ks:=kS) (ps:=[.ptr 0,.str L.wd,.int L.bu,.ptr 1]) rfl rfl rfl rfl rfl rfl
theorem KH {vs:List (Option Lc)}:aY (aj 0) (eC (.str "boxes")) ⟨zS (.ptr 2)::vs,LM L⟩=some (.sh (.ptr 1),⟨zS (.ptr 2)::vs,LM L⟩):=nR (x:=.sh (.ptr 2)) (y:=.sh (.str "boxes")) (k:=.inr "boxes") (ks:=kS) (ps:=[.ptr 0,.str L.wd,.int L.bu,.ptr 1]) rfl rfl rfl rfl rfl rfl
theorem KJ {fv:EF} {vs:List (Option Lc)} {m:cY} {y:Lc} (h:fv ⟨zS (.ptr 2)::vs,LM L⟩=some (y,⟨zS (.ptr 2)::vs,LM L⟩)) (hy:y.pv=m.pv) (hl:L.ms.length<90000):iW (aY (aj 0) (eC (.str "moments"))) fv ⟨zS (.ptr 2)::vs,LM L⟩=some (.nx ⟨zS (.ptr 2)::vs,LM ⟨L.bu,L.wd,L.B,L.ms++[m]⟩⟩):=
 qN (o:=.sh (.ptr 0)) (ρ1:=⟨zS (.ptr 2)::vs,LM L⟩) (ρ2:=⟨zS (.ptr 2)::vs,LM L⟩) YM rfl rfl h hy rfl (by rw [aad]; omega) (by show [some (PV.lst (L.ms.map cY.pv++[m.pv])),_,_]=[some (PV.lst ((L.ms++[m]).map cY.pv)),_,_]; rw [aaz]; rfl)
theorem Aq {k v:Int} {x:Str} (hx:tG L.B x) (hB:L.B.length<=100) (hl:L.ms.length+1<90000):gm [.ptr 2,.int k,.str x,.int v] (LM L)=some (.sh .non,LM (gU k x v L)):=by
 let V:=v%1000000000000
 let E:=fun (l3:Int) mu=>(⟨[zS (.ptr 2),zI k,zT x,zI l3],mu⟩:Ev)
 have s1:aO 3 (aA cF (aj 3) (aA Bp (eC (.int 10)) (eC (.int 12)))) (E v (LM L))=some (.nx (E V (LM L))):=cH (cO (q:=.int 1000000000000) rfl rfl rfl rfl (di (by decide))) rfl rfl
 let L1:LS:=⟨L.bu,L.wd,L.B,L.ms++[(k,0,[])]⟩
 let L2:LS:=⟨L.bu,L.wd,L.B,(L.ms++[(k,0,[])])++[(k,1,[(x,0,V)])]⟩
 have s2:iW (aY (aj 0) (eC (.str "moments"))) (aQ (aa (aj 1) (aa (eC (.int 0)) (aa (aV ao) ao)))) (E V (LM L))=some (.nx (E V (LM L1))):=KJ (m:=(k,0,[])) (y:=.sh (cY.pv (k,0,[]))) rfl rfl (by omega)
 have s3:iW (aY (aj 0) (eC (.str "moments"))) (aQ (aa (aj 1) (aa (eC (.int 1)) (aa (aV (aa (aQ (aa (aj 2) (aa (eC (.int 0)) (aa (aj 3) ao)))) ao)) ao)))) (E V (LM L1))=some (.nx (E V (LM L2))):=KJ (L:=L1) (m:=(k,1,[(x,0,V)])) (y:=.sh (cY.pv (k,1,[(x,0,V)]))) rfl rfl (by show (L.ms++[_]).length<_; rw [aai]; exact hl)
 have s4:jJ (aY (aj 0) (eC (.str "boxes"))) (aj 2) (aj 3) (E V (LM L2))=some (.nx (E V (LM ⟨L.bu,L.wd,setB L.B x (.n V),L2.ms⟩))):=qO (x:=.sh (.int V)) (ρ1:=E V (LM L2)) (ρ2:=E V (LM L2)) (ρ3:=E V (LM L2)) (o:=.sh (.ptr 1)) (y:=.sh (.str x)) (k:=.inr x) (ks:=bC L.B) (ps:=aR L.B) rfl rfl (KH (L:=L2)) rfl rfl rfl rfl (by rw [aad]; omega) (by show List.set _ 1 (some (dN (gF ((bC L.B).zip (aR L.B)) (.inr x) (.int V))))=_; rw [YL hx]; rfl)
 have el:LM ⟨L.bu,L.wd,setB L.B x (.n V),L2.ms⟩=LM (gU k x v L):=by
  show LM ⟨L.bu,L.wd,setB L.B x (.n V),(L.ms++[(k,0,[])])++[(k,1,[(x,0,V)])]⟩=LM ⟨L.bu,L.wd,setB L.B x (.n V),L.ms++[(k,0,[]),(k,1,[(x,0,V)])]⟩
  rw [aah]
  rfl
 rw [← el]
 exact f9 (ρ:=E V _) (aB s1 (aB s2 (aB s3 s4)))
theorem Hf {k:Int} {t:Bool} (hl:L.ms.length<90000):gY [.ptr 2,.int k,.bl t] (LM L)=some (.sh (.bl (bL k t L).1),LM (bL k t L).2):=by
 let L1:LS:=⟨L.bu,L.wd,L.B,L.ms++[(k,0,[])]⟩
 let E:=fun mu=>(⟨[zS (.ptr 2),zI k,zS (.bl t)],mu⟩:Ev)
 have s1:iW (aY (aj 0) (eC (.str "moments"))) (aQ (aa (aj 1) (aa (eC (.int 0)) (aa (aV ao) ao)))) (E (LM L))=some (.nx (E (LM L1))):=KJ (m:=(k,0,[])) (y:=.sh (cY.pv (k,0,[]))) rfl rfl hl
 have t2:jh (tT (aj 2) gn) (E (LM L1))=some (!t,E (LM L1)):=rfl
 have t3:∀ c:Bool,(L.bu==0)=c->tT (aA eqP (aY (aj 0) (eC (.str "left"))) (eC (.int 0))) bB (E (LM L1))=some (c,E (LM L1)):=fun c h=>xU (Ss (L:=L1)) h
 unfold bL
 cases t with
 | false=>exact bf (ρ:=E (LM L1)) (aB s1 (gh ((dI t2).trans rfl)))
 | true=>
  rw [ab7 rfl]
  by_cases h:L.bu=0
  . rw [ab7 h]
    have s4:jJ (aj 0) (eC (.str "word")) (eC (.str "spent")) (E (LM L1))=some (.nx (E (LM ⟨L.bu, "spent",L.B,L.ms++[(k,0,[])]⟩))):=qO (x:=.sh (.str "spent")) (ρ1:=E (LM L1)) (ρ2:=E (LM L1)) (ρ3:=E (LM L1)) (o:=.sh (.ptr 2)) (y:=.sh (.str "word")) (k:=.inr "word") (ks:=kS) (ps:=[.ptr 0,.str L.wd,.int L.bu,.ptr 1]) rfl rfl rfl rfl rfl rfl rfl (by decide) rfl
    exact bf (ρ:=E _) (aB s1 (aB (ρ':=E (LM L1)) ((bR t2).trans rfl) (gh ((dI (t3 true (by rw [h]; rfl))).trans (aB s4 rfl)))))
  . rw [ab8 h]
    have s4:jJ (aj 0) (eC (.str "left")) (aA m8 (aY (aj 0) (eC (.str "left"))) (eC (.int 1))) (E (LM L1))=some (.nx (E (LM ⟨L.bu-1,L.wd,L.B,L.ms++[(k,0,[])]⟩))):=qO (x:=.sh (.int (L.bu-1))) (ρ1:=E (LM L1)) (ρ2:=E (LM L1)) (ρ3:=E (LM L1)) (o:=.sh (.ptr 2)) (y:=.sh (.str "left")) (k:=.inr "left") (ks:=kS) (ps:=[.ptr 0,.str L.wd,.int L.bu,.ptr 1]) (cO (Ss (L:=L1)) rfl rfl rfl rfl) rfl rfl rfl rfl rfl rfl (by decide) rfl
    exact bf (ρ:=E _) (aB s1 (aB (ρ':=E (LM L1)) ((bR t2).trans rfl) (aB (ρ':=E (LM L1)) ((bR (t3 false (acd.mpr h))).trans rfl) (aB s4 rfl))))
end
structure Sh where
 way:Int
 c:Str
 step:Int
 many:Int
abbrev kH:List Key:=[.inr "way",.inr "counter",.inr "step",.inr "many"]
def Sh.pv (h:Sh):PV:=.dk kH [.int h.way,.str h.c,.int h.step,.int h.many]
def jM (at_:Int) (n:Str):Nat->LS->LS
 | 0,L=>L
 | f+1,L=>if L.wd = "done" then (if (bL (at_+4) (decide (numAt L.B n>0)) L).1=true then jM at_ n f (gU (at_+5) n (numAt (bL (at_+4) (decide (numAt L.B n>0)) L).2.B n-1) (bL (at_+4) (decide (numAt L.B n>0)) L).2) else (bL (at_+4) (decide (numAt L.B n>0)) L).2) else L
def jf (at_:Int) (h:Sh) (t:Str) (L:LS):LS:=gU (at_+2) t (numAt (gU (at_+1) h.c (numAt L.B h.c-1) L).B t*3+h.step) (gU (at_+1) h.c (numAt L.B h.c-1) L)
def gD (at_:Int) (h:Sh) (t n:Str) (L:LS):LS:=if h.way=2 then jM at_ n 6 (gU (at_+3) n h.many (jf at_ h t L)) else jf at_ h t L
def gZ (h:Sh) (L:LS):Bool:=if h.way=3 then decide (h.many<numAt L.B h.c) else !(numAt L.B h.c==0)
def dJ (at_:Int) (h:Sh) (t n:Str):Nat->LS->LS
 | 0,L=>L
 | f+1,L=>if L.wd = "spent" then L else if (bL at_ (gZ h L) L).1=true then dJ at_ h t n f (if h.way=3 then (bL at_ (gZ h L) L).2 else gD at_ h t n (bL at_ (gZ h L) L).2) else (bL at_ (gZ h L) L).2
structure LK (nm:List Str) (L:LS):Prop where
 bg:BG L.B
 nm:∀ x∈nm,tG L.B x
theorem wX {k:Int} {t:Bool} {L:LS}:(bL k t L).2.B=L.B:=by unfold bL; split<;>(try split)<;>rfl
theorem oR {k:Int} {t:Bool} {L:LS}:(bL k t L).2.ms.length=L.ms.length+1:=by unfold bL; split<;>(try split)<;>simp
theorem set_len {k v:Int} {x:Str} {L:LS}:(gU k x v L).ms.length=L.ms.length+2:=by simp [gU]
theorem LK.look {nm:List Str} {L:LS} (h:LK nm L) {k:Int} {t:Bool}:LK nm (bL k t L).2:=⟨by rw [wX]; exact h.bg,by rw [wX]; exact h.nm⟩
theorem LK.set {nm:List Str} {L:LS} (h:LK nm L) {k v:Int} {x:Str} (hx:x∈nm):LK nm (gU k x v L):=⟨h.bg.n ⟨aaO _ (by decide),aaH _ (by decide)⟩,fun y hy=>(YG (h.nm x hx)).1 y (h.nm y hy)⟩
theorem LK.inn {nm:List Str} {at_:Int} {n:Str} (hn:n∈nm):∀ (f:Nat) (L:LS),LK nm L->LK nm (jM at_ n f L)/\(jM at_ n f L).ms.length<=L.ms.length+3*f
 | 0,L,h=>⟨h,aaf _⟩
 | f+1,L,h=>by
  unfold jM
  have h2:=h.look (k:=at_+4) (t:=decide (numAt L.B n>0))
  have l2:=oR (k:=at_+4) (t:=decide (numAt L.B n>0)) (L:=L)
  split
  . split
    . have ih:=LK.inn (at_:=at_) hn f _ (h2.set (k:=at_+5) (v:=numAt (bL (at_+4) (decide (numAt L.B n>0)) L).2.B n-1) hn)
      exact ⟨ih.1,aaL ih.2 (by rw [set_len,l2]; omega)⟩
    . exact ⟨h2,by rw [l2]; omega⟩
  . exact ⟨h,by omega⟩
theorem LK.two {nm:List Str} {L:LS} (h:LK nm L) {at_:Int} {s:Sh} {t:Str} (hc:s.c∈nm) (ht:t∈nm):LK nm (jf at_ s t L)/\(jf at_ s t L).ms.length=L.ms.length+4:=⟨(h.set hc).set ht,by unfold jf; rw [set_len,set_len]⟩
theorem LK.turn {nm:List Str} {L:LS} (h:LK nm L) {at_:Int} {s:Sh} {t n:Str} (hc:s.c∈nm) (ht:t∈nm) (hn:n∈nm):LK nm (gD at_ s t n L)/\(gD at_ s t n L).ms.length<=L.ms.length+24:=by
 obtain ⟨h2,l2⟩:=h.two (at_:=at_) hc ht
 unfold gD
 split
 . obtain ⟨h3,l3⟩:=LK.inn (at_:=at_) hn 6 _ (h2.set (k:=at_+3) (v:=s.many) hn)
   exact ⟨h3,aaL l3 (by rw [set_len,l2]; omega)⟩
 . exact ⟨h2,by omega⟩
theorem LK.loop {nm:List Str} {at_:Int} {s:Sh} {t n:Str} (hc:s.c∈nm) (ht:t∈nm) (hn:n∈nm):∀ (f:Nat) (L:LS),LK nm L->LK nm (dJ at_ s t n f L)/\(dJ at_ s t n f L).ms.length<=L.ms.length+25*f
 | 0,L,h=>⟨h,aaf _⟩
 | f+1,L,h=>by
  unfold dJ
  have h2:=h.look (k:=at_) (t:=gZ s L)
  have l2:=oR (k:=at_) (t:=gZ s L) (L:=L)
  split
  . exact ⟨h,by omega⟩
  . split
    . have h3:LK nm (if s.way=3 then (bL at_ (gZ s L) L).2 else gD at_ s t n (bL at_ (gZ s L) L).2)/\(if s.way=3 then (bL at_ (gZ s L) L).2 else gD at_ s t n (bL at_ (gZ s L) L).2).ms.length<=L.ms.length+25:=by
       split
       . exact ⟨h2,by omega⟩
       . obtain ⟨h4,l4⟩:=h2.turn (at_:=at_) hc ht hn
         exact ⟨h4,by omega⟩
      obtain ⟨h5,l5⟩:=LK.loop hc ht hn f _ h3.1
      exact ⟨h5,by omega⟩
    . exact ⟨h2,by omega⟩
def Dn (o:Option Fl) (mu:Mu):Prop:=∃ ρ:Ev,(o=some (.nx ρ)\/o=some (.rt (.sh .non) ρ))/\ρ.mu=mu
theorem Dn.run {n:Nat} {g:SF} {ps:List PV} {mu mu':Mu} (h:Dn (g (env0 n ps mu)) mu'):cA n g ps mu=some (.sh .non,mu'):=by
 obtain ⟨ρ,h | h,rfl⟩:=h
 . exact f9 h
 . exact bf h
theorem Dn.nx {o:Option Fl} {ρ:Ev} {mu:Mu} (h:o=some (.nx ρ)) (e:ρ.mu=mu):Dn o mu:=⟨ρ,.inl h,e⟩
theorem Dn.seq {f g:SF} {ρ ρ':Ev} {mu:Mu} (h:f ρ=some (.nx ρ')) (h2:Dn (g ρ') mu):Dn (aF f g ρ) mu:=by rw [uo h]; exact h2
theorem Dn.eq {o o':Option Fl} {mu:Mu} (h:Dn o' mu) (e:o=o'):Dn o mu:=e▸h
theorem Dn.step {b:BF} {body:SF} {x:PV} {xs:List PV} {ρ ρ1 ρ2:Ev} {mu:Mu} (h1:b x ρ=some ρ1) (h2:body ρ1=some (.nx ρ2)) (h3:Dn (fD b body xs ρ2) mu):Dn (fD b body (x::xs) ρ) mu:=by rw [fY h1 h2 rfl]; exact h3
theorem Dn.stop {b:BF} {body:SF} {x:PV} {xs:List PV} {ρ ρ1 ρ2:Ev} {mu:Mu} (h1:b x ρ=some ρ1) (h2:body ρ1=some (.rt (.sh .non) ρ2)) (e:ρ2.mu=mu):Dn (fD b body (x::xs) ρ) mu:=by
 refine ⟨ρ2,.inr ?_,e⟩
 show (b x ρ).bind _=_
 rw [h1,aaa,h2,aaa]
section
variable {a b c t n:Str} {at_:Int} {h:Sh}
abbrev NM (a b c t n:Str):PV:=.lst [.str a,.str b,.str c,.str t,.str n]
abbrev TE (at_:Int) (h:Sh) (N:PV) (l4 l5:Option Lc) (mu:Mu):Ev:=⟨[zS (.ptr 2),zI at_,zS h.pv,zS N,l4,l5],mu⟩
abbrev P1:Option Lc:=zS (.ptr 1)
abbrev ZZ:SF:=cG (mj (tT (aA dO (aY (aj 0) (eC (.str "word"))) (eC (.str "done"))) bB) (tT (aK gY (aa (aj 0) (aa (aA cN (aj 1) (eC (.int 4))) (aa (aA zQ (aY (aj 4) (bF (aj 3) (eC (.int 4)))) (eC (.int 0))) ao)))) gn))
 (cW (aK gm (aa (aj 0) (aa (aA cN (aj 1) (eC (.int 5))) (aa (bF (aj 3) (eC (.int 4))) (aa (aA m8 (aY (aj 4) (bF (aj 3) (eC (.int 4)))) (eC (.int 1))) ao))))))
 xn
theorem Ar {L:LS} {f:EF} {vs:List (Option Lc)} {i:Nat} {x:Str} (hi:aj i ⟨vs,LM L⟩=some (.sh (.ptr 1),⟨vs,LM L⟩)) (hf:f ⟨vs,LM L⟩=some (.sh (.str x),⟨vs,LM L⟩)) (hx:tG L.B x):aY (aj i) f ⟨vs,LM L⟩=some (.sh (.int (numAt L.B x)),⟨vs,LM L⟩):=
 nR (x:=.sh (.ptr 1)) (y:=.sh (.str x)) (k:=.inr x) (ks:=bC L.B) (ps:=aR L.B) hi rfl hf rfl rfl (KD hx)
theorem Od (hn:n∈[a,b,c,t,n]):∀ (xs:List PV) (L:LS) (l5:Option Lc),LK [a,b,c,t,n] L->L.ms.length+3*xs.length<90000->Dn (fD (aG 5) ZZ xs (TE at_ h (NM a b c t n) P1 l5 (LM L))) (LM (jM at_ n xs.length L))
 | [],L,l5,_,_=>.nx rfl rfl
 | x::xs,L,l5,hk,hl=>by
  simp only [aae] at hl
  let E:=fun L=>TE at_ h (NM a b c t n) P1 (zS x) (LM L)
  have hx:=hk.nm n hn
  have w:∀ c:Bool,(L.wd == "done")=c->tT (aA dO (aY (aj 0) (eC (.str "word"))) (eC (.str "done"))) bB (E L)=some (c,E L):=fun c e=>by
   cases c
   . exact lE (Er (L:=L)) e
   . exact pN (Er (L:=L)) e
  have lk:=Hf (L:=L) (k:=at_+4) (t:=decide (numAt L.B n>0)) (by omega)
  have g:∀ bl:Bool,(bL (at_+4) (decide (numAt L.B n>0)) L).1=bl->tT (aK gY (aa (aj 0) (aa (aA cN (aj 1) (eC (.int 4))) (aa (aA zQ (aY (aj 4) (bF (aj 3) (eC (.int 4)))) (eC (.int 0))) ao)))) gn (E L)=some (bl,E (bL (at_+4) (decide (numAt L.B n>0)) L).2):=fun bl e=>by
   subst e
   exact fM (l:=.sh (.bl _)) (bh (ls:=[.sh (.ptr 2),.sh (.int (at_+4)),.sh (.bl (decide (numAt L.B n>0)))]) (ρ1:=E L) (aC rfl (aC rfl (aC (cO (Ar (i:=4) rfl rfl hx) rfl rfl rfl rfl) rfl))) rfl rfl rfl lk) rfl rfl
  show Dn _ (LM (jM at_ n (xs.length+1) L))
  unfold jM
  by_cases hw:L.wd = "done"
  . rw [ab7 hw]
    by_cases hb:(bL (at_+4) (decide (numAt L.B n>0)) L).1=true
    . rw [ab7 hb]
      have h2:=hk.look (k:=at_+4) (t:=decide (numAt L.B n>0))
      have l2:=oR (k:=at_+4) (t:=decide (numAt L.B n>0)) (L:=L)
      obtain ⟨L2,e2⟩:∃ L2,(bL (at_+4) (decide (numAt L.B n>0)) L).2=L2:=⟨_,rfl⟩
      have g:=g true hb
      rw [e2] at g h2 l2 ⊢
      have st:=Aq (L:=L2) (k:=at_+5) (x:=n) (v:=numAt L2.B n-1) (h2.nm n hn) h2.bg.l8 (by omega)
      refine .step (ρ1:=E L) (ρ2:=E (gU (at_+5) n (numAt L2.B n-1) L2)) rfl ((dI (uD (w true (by rw [hw]; exact ace _)) g)).trans (fJ (bh (ls:=[.sh (.ptr 2),.sh (.int (at_+5)),.sh (.str n),.sh (.int (numAt L2.B n-1))]) (ρ1:=E L2) (aC rfl (aC rfl (aC rfl (aC (cO (Ar (i:=4) rfl rfl (h2.nm n hn)) rfl rfl rfl rfl) rfl)))) rfl rfl rfl st))) ?_
      exact Od hn xs _ _ (h2.set hn) (by rw [set_len]; omega)
    . rw [ab8 hb]
      exact .stop (ρ1:=E L) (ρ2:=E (bL (at_+4) (decide (numAt L.B n>0)) L).2) rfl ((bR (uD (w true (by rw [hw]; exact ace _)) (g false (Bool.eq_false_iff.mpr hb)))).trans rfl) rfl
  . rw [ab8 hw]
    exact .stop (ρ1:=E L) (ρ2:=E L) rfl ((bR (G6 (w false (acd.mpr hw)))).trans rfl) rfl
end
section
variable {a b c t n:Str} {at_:Int} {h:Sh}
abbrev mY (k:Str):EF:=bF (aj 2) (eC (.str k))
theorem tH {k:Str} {p:PV} {vs:List (Option Lc)} {mu:Mu} {x0 x1:Option Lc} (hv:b8 (kH.zip [.int h.way,.str h.c,.int h.step,.int h.many]) (.inr k)=some p):mY k ⟨x0::x1::zS h.pv::vs,mu⟩=some (.sh p,⟨x0::x1::zS h.pv::vs,mu⟩):=
 oN (x:=.sh h.pv) (y:=.sh (.str k)) rfl rfl (.inl ⟨_,_,rfl,rfl⟩) rfl hv
theorem Va {L:LS} (hk:LK [a,b,c,t,n] L) (hc:h.c∈[a,b,c,t,n]) (hl:L.ms.length+24<90000):pA [.ptr 2,.int at_,h.pv,NM a b c t n] (LM L)=some (.sh .non,LM (gD at_ h t n L)):=by
 have ht:t∈[a,b,c,t,n]:=by simp
 have hn:n∈[a,b,c,t,n]:=by simp
 let E:=fun l4 L=>TE at_ h (NM a b c t n) l4 none (LM L)
 have s1:aO 4 (aY (aj 0) (eC (.str "boxes"))) (E none L)=some (.nx (E P1 L)):=cH (KH (L:=L)) rfl rfl
 have ca:∀ L,mY "counter" (E P1 L)=some (.sh (.str h.c),E P1 L):=fun L=>tH rfl
 let L1:=gU (at_+1) h.c (numAt L.B h.c-1) L
 have k1:LK [a,b,c,t,n] L1:=hk.set hc
 have e1:=Aq (L:=L) (k:=at_+1) (x:=h.c) (v:=numAt L.B h.c-1) (hk.nm _ hc) hk.bg.l8 (by omega)
 have s2:cW (aK gm (aa (aj 0) (aa (aA cN (aj 1) (eC (.int 1))) (aa (mY "counter") (aa (aA m8 (aY (aj 4) (mY "counter")) (eC (.int 1))) ao))))) (E P1 L)=some (.nx (E P1 L1)):=fJ (bh (ls:=[.sh (.ptr 2),.sh (.int (at_+1)),.sh (.str h.c),.sh (.int (numAt L.B h.c-1))]) (ρ1:=E P1 L) (aC rfl (aC rfl (aC (ca L) (aC (cO (Ar (i:=4) rfl (ca L) (hk.nm _ hc)) rfl rfl rfl rfl) rfl)))) rfl rfl rfl e1)
 have n1:L1.ms.length=L.ms.length+2:=set_len
 have e2:=Aq (L:=L1) (k:=at_+2) (x:=t) (v:=numAt L1.B t*3+h.step) (k1.nm _ ht) k1.bg.l8 (by omega)
 have bt:=KD (k1.nm _ ht)
 have vt:0<=numAt L1.B t:=by
  obtain ⟨i,hi⟩:=k1.nm _ ht
  have q:=k1.bg.ok.ok _ (mQ hi)
  unfold numAt
  rw [hi]
  exact q.1
 have vt2:numAt L1.B t<1000000000000:=by
  obtain ⟨i,hi⟩:=k1.nm _ ht
  have q:=k1.bg.ok.ok _ (mQ hi)
  unfold numAt
  rw [hi]
  exact q.2
 have s3:cW (aK gm (aa (aj 0) (aa (aA cN (aj 1) (eC (.int 2))) (aa (bF (aj 3) (eC (.int 3))) (aa (aA cN (aA kO (aY (aj 4) (bF (aj 3) (eC (.int 3)))) (eC (.int 3))) (mY "step")) ao))))) (E P1 L1)=some (.nx (E P1 (jf at_ h t L))):=fJ (bh (ls:=[.sh (.ptr 2),.sh (.int (at_+2)),.sh (.str t),.sh (.int (numAt L1.B t*3+h.step))]) (ρ1:=E P1 L1) (aC rfl (aC rfl (aC rfl (aC (cO (cO (Ar (L:=L1) (i:=4) (x:=t) rfl rfl (k1.nm _ ht)) rfl rfl rfl (zX (by omega) (by omega))) rfl (tH (p:=.int h.step) rfl) rfl rfl) rfl)))) rfl rfl rfl e2)
 obtain ⟨k2,n2⟩:=hk.two (at_:=at_) hc ht
 have tw:tT (aA dO (mY "way") (eC (.int 2))) bB (E P1 (jf at_ h t L))=some (decide (h.way=2),E P1 (jf at_ h t L)):=GR (tH rfl)
 refine Dn.run (.seq s1 (.seq s2 (.seq s3 ?_)))
 unfold gD
 by_cases hw:h.way=2
 . rw [ab7 hw]
   have e3:=Aq (L:=jf at_ h t L) (k:=at_+3) (x:=n) (v:=h.many) (k2.nm _ hn) k2.bg.l8 (by omega)
   have s4:cW (aK gm (aa (aj 0) (aa (aA cN (aj 1) (eC (.int 3))) (aa (bF (aj 3) (eC (.int 4))) (aa (mY "many") ao))))) (E P1 (jf at_ h t L))=some (.nx (E P1 (gU (at_+3) n h.many (jf at_ h t L)))):=fJ (bh (ls:=[.sh (.ptr 2),.sh (.int (at_+3)),.sh (.str n),.sh (.int h.many)]) (ρ1:=E P1 (jf at_ h t L)) (aC rfl (aC rfl (aC rfl (aC (tH rfl) rfl)))) rfl rfl rfl e3)
   refine (Dn.seq s4 ?_).eq (dI (tw.trans (by rw [acb hw])))
   have g:=Od (at_:=at_) (h:=h) hn [.int 0,.int 1,.int 2,.int 3,.int 4,.int 5] (gU (at_+3) n h.many (jf at_ h t L)) none (k2.set hn) (by rw [set_len]; show _+2+3*6<_; omega)
   exact g.eq rfl
 . rw [ab8 hw]
   exact .nx ((bR (tw.trans (by rw [aca hw]))).trans rfl) rfl
abbrev QE (at_:Int) (h:Sh) (N:PV) (l4 l5 l6:Option Lc) (mu:Mu):Ev:=⟨[zS (.ptr 2),zI at_,zS h.pv,zS N,l4,l5,l6],mu⟩
abbrev Z3:SF:=aF (aO 6 (aA Dm (aY (aj 4) (mY "counter")) (eC (.int 0))))
 (aF (cG (tT (aA dO (mY "way") (eC (.int 3))) bB)
 (aO 6 (aA wA (mY "many") (aY (aj 4) (mY "counter"))))
 bN)
 (aF (cG (m6 (tT (aA dO (aY (aj 0) (eC (.str "word"))) (eC (.str "spent"))) bB) (jh (tT (aK gY (aa (aj 0) (aa (aj 1) (aa (aj 6) ao)))) gn)))
 xn
 bN)
 (cG (tT (aA Dm (mY "way") (eC (.int 3))) bB)
 (cW (aK pA (aa (aj 0) (aa (aj 1) (aa (aj 2) (aa (aj 3) ao))))))
 bN)))
theorem YQ {c d:TF} {ρ ρ1:Ev} (h:c ρ=some (true,ρ1)):m6 c d ρ=some (true,ρ1):=by
 unfold m6
 rw [h,aaa]
 rfl
theorem Su {c d:TF} {ρ ρ1 ρ2:Ev} {b:Bool} (h:c ρ=some (false,ρ1)) (h2:d ρ1=some (b,ρ2)):m6 c d ρ=some (b,ρ2):=by
 unfold m6
 rw [h,aaa]
 exact h2
theorem Cq (hc:h.c∈[a,b,c,t,n]):∀ (xs:List PV) (L:LS) (l5 l6:Option Lc),LK [a,b,c,t,n] L->L.ms.length+25*xs.length<90000->Dn (fD (aG 5) Z3 xs (QE at_ h (NM a b c t n) P1 l5 l6 (LM L))) (LM (dJ at_ h t n xs.length L))
 | [],L,l5,l6,_,_=>.nx rfl rfl
 | x::xs,L,l5,l6,hk,hl=>by
  simp only [aae] at hl
  let E:=fun l6 L=>QE at_ h (NM a b c t n) P1 (zS x) l6 (LM L)
  have ht:t∈[a,b,c,t,n]:=by simp
  have hn:n∈[a,b,c,t,n]:=by simp
  have hx:=hk.nm _ hc
  have ca:∀ l6,mY "counter" (E l6 L)=some (.sh (.str h.c),E l6 L):=fun l6=>tH rfl
  have cb:∀ l6,aY (aj 4) (mY "counter") (E l6 L)=some (.sh (.int (numAt L.B h.c)),E l6 L):=fun l6=>Ar (i:=4) rfl (ca l6) hx
  let B0:Option Lc:=zS (.bl (!(numAt L.B h.c==0)))
  let B1:Option Lc:=zS (.bl (gZ h L))
  have s1:aO 6 (aA Dm (aY (aj 4) (mY "counter")) (eC (.int 0))) (E l6 L)=some (.nx (E B0 L)):=cH (cO (cb l6) rfl rfl rfl rfl) rfl rfl
  have tw:∀ l6 L,tT (aA dO (mY "way") (eC (.int 3))) bB (E l6 L)=some (decide (h.way=3),E l6 L):=fun l6 L=>GR (tH rfl)
  have s2:cG (tT (aA dO (mY "way") (eC (.int 3))) bB) (aO 6 (aA wA (mY "many") (aY (aj 4) (mY "counter")))) bN (E B0 L)=some (.nx (E B1 L)):=by
   by_cases hw:h.way=3
   . refine (dI ((tw B0 L).trans (by rw [acb hw]))).trans (cH (l:=.sh (.bl (gZ h L))) (cO (tH (p:=.int h.many) rfl) rfl (cb B0) rfl ?_) rfl rfl)
     show some (Lc.sh (.bl (decide (h.many<numAt L.B h.c))))=_
     unfold gZ
     rw [ab7 hw]
   . refine (bR ((tw B0 L).trans (by rw [aca hw]))).trans ?_
     show some (Fl.nx (E B0 L))=some (Fl.nx (E B1 L))
     have:gZ h L=!(numAt L.B h.c==0):=by unfold gZ; rw [ab8 hw]
     show some (Fl.nx (E (zS (.bl (!(numAt L.B h.c==0)))) L))=some (Fl.nx (E (zS (.bl (gZ h L))) L))
     rw [this]
  have w:∀ c:Bool,(L.wd == "spent")=c->tT (aA dO (aY (aj 0) (eC (.str "word"))) (eC (.str "spent"))) bB (E B1 L)=some (c,E B1 L):=fun c e=>by
   cases c
   . exact lE (Er (L:=L)) e
   . exact pN (Er (L:=L)) e
  have lk:=Hf (L:=L) (k:=at_) (t:=gZ h L) (by omega)
  have g:∀ bl:Bool,(bL at_ (gZ h L) L).1=bl->jh (tT (aK gY (aa (aj 0) (aa (aj 1) (aa (aj 6) ao)))) gn) (E B1 L)=some (!bl,E B1 (bL at_ (gZ h L) L).2):=fun bl e=>by
   subst e
   exact wG (fM (l:=.sh (.bl _)) (bh (ls:=[.sh (.ptr 2),.sh (.int at_),.sh (.bl (gZ h L))]) (ρ1:=E B1 L) (aC rfl (aC rfl (aC rfl rfl))) rfl rfl rfl lk) rfl rfl)
  show Dn _ (LM (dJ at_ h t n (xs.length+1) L))
  unfold dJ
  by_cases hw:L.wd = "spent"
  . rw [ab7 hw]
    exact .stop (ρ1:=E l6 L) (ρ2:=E B1 L) rfl (aB s1 (aB s2 (gh ((dI (YQ (w true (by rw [hw]; exact ace _)))).trans rfl)))) rfl
  . rw [ab8 hw]
    by_cases hb:(bL at_ (gZ h L) L).1=true
    . rw [ab7 hb]
      have h2:=hk.look (k:=at_) (t:=gZ h L)
      have l2:=oR (k:=at_) (t:=gZ h L) (L:=L)
      have g:=g true hb
      obtain ⟨L2,e2⟩:∃ L2,(bL at_ (gZ h L) L).2=L2:=⟨_,rfl⟩
      rw [e2] at g h2 l2 ⊢
      have tn:tT (aA Dm (mY "way") (eC (.int 3))) bB (E B1 L2)=some (!(h.way==3),E B1 L2):=fM (l:=.sh (.bl (!(h.way==3)))) (cO (tH (p:=.int h.way) rfl) rfl rfl rfl rfl) rfl rfl
      have s3:=(bR (f:=xn) (g:=bN) (Su (w false (acd.mpr hw)) g)).trans (show bN (E B1 L2)=some (.nx (E B1 L2)) from rfl)
      by_cases h3:h.way=3
      . rw [ab7 h3]
        exact .step (ρ1:=E l6 L) (ρ2:=E B1 L2) rfl (aB s1 (aB s2 (aB s3 ((bR (tn.trans (by rw [h3]; rfl))).trans rfl)))) (Cq hc xs _ _ _ h2 (by omega))
      . rw [ab8 h3]
        obtain ⟨k4,l4⟩:=h2.turn (at_:=at_) hc ht hn
        refine .step (ρ1:=E l6 L) (ρ2:=E B1 (gD at_ h t n L2)) rfl (aB s1 (aB s2 (aB s3 ((dI (tn.trans (by rw [acd.mpr h3]; rfl))).trans (fJ (bh (ls:=[.sh (.ptr 2),.sh (.int at_),.sh h.pv,.sh (NM a b c t n)]) (ρ1:=E B1 L2) (aC rfl (aC rfl (aC rfl (aC rfl rfl)))) rfl rfl rfl (Va h2 hc (by omega)))))))) (Cq hc xs _ _ _ k4 (by omega))
    . rw [ab8 hb]
      exact .stop (ρ1:=E l6 L) (ρ2:=E B1 (bL at_ (gZ h L) L).2) rfl (aB s1 (aB s2 (gh ((dI (Su (w false (acd.mpr hw)) (g false (Bool.eq_false_iff.mpr hb)))).trans rfl)))) rfl
theorem Q0 {L:LS} (hk:LK [a,b,c,t,n] L) (hc:h.c∈[a,b,c,t,n]) (hl:L.ms.length+550<90000):lY [.ptr 2,.int at_,h.pv,NM a b c t n] (LM L)=some (.sh .non,LM (dJ at_ h t n 22 L)):=by
 let E:=fun l4 L=>QE at_ h (NM a b c t n) l4 none none (LM L)
 have s1:aO 4 (aY (aj 0) (eC (.str "boxes"))) (E none L)=some (.nx (E P1 L)):=cH (KH (L:=L)) rfl rfl
 have g:=Cq (at_:=at_) (h:=h) hc ((List.range 22).map fun (i:Nat)=>PV.int (i:Nat)) L none none hk (by rw [aad,abX]; omega)
 rw [aad,abX] at g
 exact Dn.run (.seq s1 (g.eq rfl))
end
abbrev LS.as (L:LS) (D:List PV):AS:=⟨L.bu,L.wd,L.B,L.ms,D⟩
def gE (h:Sh):Ex:=if h.way=3 then .op "<" (.num h.many) (.box h.c) else .box h.c
abbrev dE (x:Str):Ex:=.op "-" (.box x) (.num 1)
abbrev tE (t:Str) (h:Sh):Ex:=.op "+" (.op "*" (.box t) (.num 3)) (.num h.step)
abbrev iE (n:Str):Ex:=.op "<" (.num 0) (.box n)
abbrev Hg (x:Str) (e:Ex):Row:=.leaf "set" [.str x,e.pv]
def uF (h:Sh) (t n:Str):Rows:=if h.way=3 then .nil else .cons (Hg h.c (dE h.c)) (.cons (Hg t (tE t h)) (if h.way=2 then .cons (Hg n (.num h.many)) (.cons (.wh (iE n).pv (.cons (Hg n (dE n)) .nil)) .nil) else .nil))
def lH (h:Sh) (t n:Str):Row:=.wh (gE h).pv (uF h t n)
structure Sh.ok (h:Sh) (nm:List Str):Prop where
 w0:0<=h.way
 w1:h.way<4
 c:h.c∈nm
 s0:0<=h.step
 s1:h.step<1000003
 m0:0<=h.many
 m1:h.many<5
theorem Av {nm:List Str} {L:LS} (h:LK nm L) {x:Str} (hx:x∈nm):In (numAt L.B x):=by
 obtain ⟨i,hi⟩:=h.nm _ hx
 have q:=h.bg.ok.ok _ (mQ hi)
 unfold numAt
 rw [hi]
 exact q
theorem Jh {nm:List Str} {L:LS} (h:LK nm L) {x:Str} (hx:x∈nm) {v k:Int}:numAt (gU k x v L).B x=v%1000000000000:=by
 obtain ⟨i,hi⟩:=h.nm _ hx
 unfold numAt gU
 show (match look (setB L.B x (.n (v%1000000000000))) x with | some (.n i)=>i | _=>0)=_
 rw [rZ,ab7 rfl,hi]
 rfl
section
variable {I:Ix} {T:List PV} {Lx H:PV} {nm:List Str}
theorem Hh {k:Nat} {e:Ex} {bl:PV} {ns:List PV} {L:LS} {D:List PV} {tr:Bool} (hk:LK nm L) (he:e.ok L.B) (de:e.dp<=40) (hr:jl (fZ T Lx H) k (.tup [.str "while",e.pv,bl])) (hb:vC (fZ T Lx H) k ns) (ht:tr=true ↔ ev L.B e≠0) (h0:0<=L.bu) (hw:L.wd = "done") (hl:L.ms.length<90000) (hD:D.length+ns.length+1<=90000):
 Rn I (fZ T Lx H) 1 (L.as (D++[due k 0])) ((bL (k:Nat) tr L).2.as (if (bL (k:Nat) tr L).1=true then D++[due k 0]++ns.reverse.map nZ else if (bL (k:Nat) tr L).2.wd = "done" then D else [])):=by
 have q:=YJ (I:=I) (bu:=L.bu) (wd:=L.wd) (ms:=L.ms) (D:=D) hk.bg he de hr hb hl hD
 unfold wW at q
 unfold bL
 cases tr with
 | false=>
  have e0:ev L.B e=0:=Classical.byContradiction fun c=>by have:=ht.mpr c; cases this
  rw [ab7 e0] at q
  rw [ab8 aaA]
  rw [ab8 aaA,ab7 hw]
  exact q
 | true=>
  rw [ab8 (ht.mp rfl)] at q
  rw [ab7 rfl]
  by_cases hb:L.bu=0
  . rw [ab7 (by omega)] at q
    rw [ab7 hb,ab8 aaA,ab8 (show ¬ ("spent" : Str) = "done" from by decide +kernel)]
    exact q
  . rw [ab8 (by omega)] at q
    rw [ab8 hb,ab7 rfl]
    exact q
theorem Aw {k:Int} {t:Bool} {L:LS} (h0:0<=L.bu) (hw:L.wd = "done"):((bL k t L).1=true/\t=true/\(bL k t L).2.wd = "done" /\ (bL k t L).2.bu=L.bu-1/\0<L.bu)\/((bL k t L).1=false/\(bL k t L).2.bu=L.bu/\((bL k t L).2.wd = "done" \/ (bL k t L).2.wd = "spent")):=by
 unfold bL
 cases t with
 | false=>exact .inr ⟨rfl,rfl,.inl hw⟩
 | true=>
  rw [ab7 rfl]
  by_cases hb:L.bu=0
  . rw [ab7 hb]; exact .inr ⟨rfl,rfl,.inr rfl⟩
  . rw [ab8 hb]; exact .inl ⟨rfl,rfl,hw,rfl,by omega⟩
theorem xV {k:Nat} {x:Str} {e:Ex} {L:LS} {D:List PV} {v:Int} (hk:LK nm L) (hx:x∈nm) (he:e.ok L.B) (de:e.dp<=40) (hr:jl (fZ T Lx H) k (iC x e)) (hv:ev L.B e=v%1000000000000) (hl:L.ms.length+1<90000):Rn I (fZ T Lx H) 1 (L.as (D++[due k 0])) ((gU (k:Nat) x v L).as D):=by
 have q:=Xm (I:=I) (bu:=L.bu) (wd:=L.wd) (D:=D) hk.bg (hk.nm x hx) he de hr hl
 rw [hv] at q
 exact q
theorem XH:In 1:=by decide
theorem Sv {B:Bs} {x:Str}:ev B (dE x)=(numAt B x-1)%1000000000000:=rfl
theorem Sw {L:LS} (hk:LK nm L) {x:Str} (hx:x∈nm):(dE x).ok L.B:=⟨.inr (.inl rfl),hk.nm x hx,XH⟩
theorem Ji {k:Nat} {n:Str} {bl:PV} (hn:n∈nm) (r4:jl (fZ T Lx H) (k+4) (.tup [.str "while",(iE n).pv,bl])) (b4:vC (fZ T Lx H) (k+4) [.int ((k+5:Nat):Int)]) (r5:jl (fZ T Lx H) (k+5) (iC n (dE n))):∀ (f:Nat) (L:LS) (D:List PV),LK nm L->L.wd = "done" -> 0<=L.bu->numAt L.B n<f->L.ms.length+3*f<90000->D.length<=1000->
 ∃ m:Nat,Rn I (fZ T Lx H) m (L.as (D++[due (k+4) 0])) ((jM (k:Nat) n f L).as (if (jM (k:Nat) n f L).wd = "done" then D else []))/\(m:Int)+2*(jM (k:Nat) n f L).bu<=2*L.bu+1/\0<=(jM (k:Nat) n f L).bu/\((jM (k:Nat) n f L).wd = "done" \/ (jM (k:Nat) n f L).wd = "spent")
 | 0,L,D,hk,hw,h0,hf,hl,hD=>by have:=Av hk hn; have:=this.1; omega
 | f+1,L,D,hk,hw,h0,hf,hl,hD=>by
  have vi:=Av hk hn
  have ee:ev L.B (iE n)=if 0<numAt L.B n then 1 else 0:=rfl
  have q1:=Hh (I:=I) (D:=D) (tr:=decide (numAt L.B n>0)) hk (e:=iE n) ⟨.inr (.inr (.inr (.inl rfl))),(by decide:In 0),hk.nm n hn⟩ (by show 2<=40; decide) r4 b4 (by
   rw [ee,decide_eq_true_iff]
   by_cases c:0<numAt L.B n
   . rw [ab7 c]; exact ⟨fun _=>by decide,fun _=>c⟩
   . rw [ab8 c]; exact ⟨fun h=>absurd h c,fun h=>absurd rfl h⟩) h0 hw (by omega) (by simp; omega)
  have ec:((k+4:Nat):Int)=(k:Nat)+4:=by omega
  have ec5:((k+5:Nat):Int)=(k:Nat)+5:=by omega
  rw [ec] at q1
  have fa:=Aw (k:=(k:Nat)+4) (t:=decide (numAt L.B n>0)) h0 hw
  have k2:=hk.look (k:=(k:Nat)+4) (t:=decide (numAt L.B n>0))
  have l2:=oR (k:=(k:Nat)+4) (t:=decide (numAt L.B n>0)) (L:=L)
  have b2:=wX (k:=(k:Nat)+4) (t:=decide (numAt L.B n>0)) (L:=L)
  unfold jM
  rw [ab7 hw]
  obtain ⟨⟨bo,L2⟩,e2⟩:∃ r,bL ((k:Nat)+4) (decide (numAt L.B n>0)) L=r:=⟨_,rfl⟩
  rw [e2] at q1 fa k2 l2 b2 ⊢
  dsimp only at q1 fa k2 l2 b2 ⊢
  rcases fa with ⟨f1,f2,f3,f4,f5⟩ | ⟨f1,f2,f3⟩
  . rw [ab7 f1] at q1
    rw [ab7 f1]
    have vp:numAt L.B n>0:=of_decide_eq_true f2
    have q2:=xV (I:=I) (D:=D++[due (k+4) 0]) (v:=numAt L2.B n-1) k2 hn (Sw k2 hn) (by show 2<=40; decide) r5 Sv (by omega)
    rw [ec5] at q2
    have k3:=k2.set (k:=(k:Nat)+5) (v:=numAt L2.B n-1) hn
    have nv:=Jh k2 hn (v:=numAt L2.B n-1) (k:=(k:Nat)+5)
    have l3:=set_len (k:=(k:Nat)+5) (v:=numAt L2.B n-1) (x:=n) (L:=L2)
    have vi2:=Av k2 hn
    obtain ⟨m,q3,c1,c2,c3⟩:=Ji hn r4 b4 r5 f (gU ((k:Nat)+5) n (numAt L2.B n-1) L2) D k3 f3 (by show 0<=L2.bu; omega) (by rw [nv,b2]; omega) (by rw [l3]; omega) hD
    have c1':(m:Int)+2*(jM (k:Nat) n f (gU ((k:Nat)+5) n (numAt L2.B n-1) L2)).bu<=2*L2.bu+1:=c1
    exact ⟨1+(1+m),q1.trans (q2.trans q3),by omega,c2,c3⟩
  . rw [ab8 (by rw [f1]; exact aaA)] at q1
    rw [ab8 (by rw [f1]; exact aaA)]
    exact ⟨1,q1,by omega,by omega,f3⟩
end
section
variable {I:Ix} {es:List Ent} {N:Nat} {hd:PV} {nm:List Str} {h:Sh} {t n:Str} {k:Nat}
theorem KN {w:Str} {ab:PV} {bl:Int} (S:lG es w ab bl k (lH h t n)) (h3:¬ h.way=3):jl (PQ es N hd) (k+1) (iC h.c (dE h.c))/\jl (PQ es N hd) (k+2) (iC t (tE t h))/\(h.way=2->jl (PQ es N hd) (k+3) (iC n (.num h.many))/\jl (PQ es N hd) (k+4) (.tup [.str "while",(iE n).pv,.lst [iC n (dE n)]])/\vC (PQ es N hd) (k+4) [.int ((k+5:Nat):Int)]/\jl (PQ es N hd) (k+5) (iC n (dE n))):=by
 have s:=lG.wh S
 unfold uF at s
 rw [ab8 h3] at s
 obtain ⟨s1,s⟩:=s.cons
 obtain ⟨s2,s⟩:=s.cons
 refine ⟨s1.row,s2.row,fun h2=>?_⟩
 rw [ab7 h2] at s
 obtain ⟨s3,s⟩:=s.cons
 obtain ⟨s4,s⟩:=s.cons
 exact ⟨s3.row,s4.row,s4.blk,(lG.wh s4).cons.1.row⟩
theorem Q4 {w:Str} {ab:PV} {bl:Int} (S:lG es w ab bl k (lH h t n)) (h3:¬ h.way=3) (ok:h.ok nm) (ht:t∈nm) (hn:n∈nm) {L:LS} {D:List PV} (hk:LK nm L) (hw:L.wd = "done") (h0:0<=L.bu) (hl:L.ms.length+24<90000) (hD:D.length<=1000):
 ∃ m:Nat,Rn I (PQ es N hd) m (L.as (D++(bK ((uF h t n).nums (k+1))).reverse.map nZ)) ((gD (k:Nat) h t n L).as (if (gD (k:Nat) h t n L).wd = "done" then D else []))/\(m:Int)+2*(gD (k:Nat) h t n L).bu<=2*L.bu+4/\0<=(gD (k:Nat) h t n L).bu/\(gD (k:Nat) h t n L).bu<=L.bu/\((gD (k:Nat) h t n L).wd = "done" \/ (gD (k:Nat) h t n L).wd = "spent"):=by
 obtain ⟨r1,r2,r3⟩:=KN (N:=N) (hd:=hd) S h3
 have e1:((k+1:Nat):Int)=(k:Nat)+1:=by omega
 have e2:((k+2:Nat):Int)=(k:Nat)+2:=by omega
 have e3:((k+3:Nat):Int)=(k:Nat)+3:=by omega
 let L1:=gU ((k:Nat)+1) h.c (numAt L.B h.c-1) L
 have k1:LK nm L1:=hk.set ok.c
 have n1:L1.ms.length=L.ms.length+2:=set_len
 have ti:=Av k1 ht
 have q1:∀ D,Rn I (PQ es N hd) 1 (L.as (D++[due (k+1) 0])) (L1.as D):=fun D=>by
  have q:=xV (I:=I) (D:=D) (v:=numAt L.B h.c-1) hk ok.c (Sw hk ok.c) (by show 2<=40; decide) r1 Sv (by omega)
  rw [e1] at q
  exact q
 have q2:∀ D,Rn I (PQ es N hd) 1 (L1.as (D++[due (k+2) 0])) ((jf (k:Nat) h t L).as D):=fun D=>by
  have tev:ev L1.B (tE t h)=(numAt L1.B t*3+h.step)%1000000000000:=by
   show ((numAt L1.B t*3)%1000000000000+h.step)%1000000000000=_
   omega
  have q:=xV (I:=I) (D:=D) (v:=numAt L1.B t*3+h.step) k1 ht (e:=tE t h) ⟨.inl rfl,⟨.inr (.inr (.inl rfl)),k1.nm t ht,(by decide:In 3)⟩,⟨ok.s0,by have:=ok.s1; omega⟩⟩ (by show 3<=40; decide) r2 tev (by omega)
  rw [e2] at q
  exact q
 obtain ⟨k2,n2⟩:=hk.two (at_:=(k:Nat)) ok.c ht
 unfold gD uF
 rw [ab8 h3]
 by_cases h2:h.way=2
 . rw [ab7 h2,ab7 h2]
   obtain ⟨r3,r4,b4,r5⟩:=r3 h2
   have k3:=k2.set (k:=(k:Nat)+3) (v:=h.many) hn
   have mm:h.many%1000000000000=h.many:=Int.emod_eq_of_lt ok.m0 (by have:=ok.m1; omega)
   have q3:∀ D,Rn I (PQ es N hd) 1 ((jf (k:Nat) h t L).as (D++[due (k+3) 0])) ((gU ((k:Nat)+3) n h.many (jf (k:Nat) h t L)).as D):=fun D=>by
    have q:=xV (I:=I) (D:=D) (v:=h.many) k2 hn (e:=.num h.many) (show In h.many from ⟨ok.m0,by have:=ok.m1; omega⟩) (by show 1<=40; decide) r3 (by rw [mm]; rfl) (by omega)
    rw [e3] at q
    exact q
   have nv:=Jh k2 hn (v:=h.many) (k:=(k:Nat)+3)
   have l3:=set_len (k:=(k:Nat)+3) (v:=h.many) (x:=n) (L:=jf (k:Nat) h t L)
   obtain ⟨m,q4,c1,c2,c3⟩:=Ji (I:=I) hn r4 b4 r5 6 (gU ((k:Nat)+3) n h.many (jf (k:Nat) h t L)) D k3 hw h0 (by rw [nv,mm]; have:=ok.m1; omega) (by rw [l3]; omega) hD
   have c1':(m:Int)+2*(jM (k:Nat) n 6 (gU ((k:Nat)+3) n h.many (jf (k:Nat) h t L))).bu<=2*L.bu+1:=c1
   refine ⟨1+(1+(1+m)),?_,by omega,c2,by omega,c3⟩
   have q:=(q1 (((D++[due (k+4) 0])++[due (k+3) 0])++[due (k+2) 0])).trans ((q2 _).trans ((q3 _).trans q4))
   rw [aah,aah,aah] at q
   exact q
 . rw [ab8 h2,ab8 h2]
   refine ⟨1+1,?_,by show ((1+1:Nat):Int)+2*L.bu<=_; omega,h0,Int.le_refl _,.inl hw⟩
   rw [ab7 (show (jf (k:Nat) h t L).wd = "done" from hw)]
   have q:=(q1 (D++[due (k+2) 0])).trans (q2 D)
   rw [aah] at q
   exact q
theorem KQ {at_:Int} {L:LS} (hw:L.wd = "spent"):∀ f,dJ at_ h t n f L=L
 | 0=>rfl
 | f+1=>by
  unfold dJ
  rw [ab7 hw]
theorem YS (ok:h.ok nm) {L:LS} (hk:LK nm L):(gE h).ok L.B/\(gE h).dp<=40/\(gZ h L=true ↔ ev L.B (gE h)≠0):=by
 unfold gE gZ
 split
 . refine ⟨⟨.inr (.inr (.inr (.inl rfl))),(show In h.many from ⟨ok.m0,by have:=ok.m1; omega⟩),hk.nm _ ok.c⟩,by show 2<=40; decide,?_⟩
   rw [show ev L.B (.op "<" (.num h.many) (.box h.c))=if h.many<numAt L.B h.c then 1 else 0 from rfl,decide_eq_true_iff]
   by_cases c:h.many<numAt L.B h.c
   . rw [ab7 c]; exact ⟨fun _=>by decide,fun _=>c⟩
   . rw [ab8 c]; exact ⟨fun h=>absurd h c,fun h=>absurd rfl h⟩
 . refine ⟨hk.nm _ ok.c,by show 1<=40; decide,?_⟩
   rw [show ev L.B (.box h.c)=numAt L.B h.c from rfl]
   by_cases c:numAt L.B h.c=0
   . rw [c]; exact ⟨fun h=>(by cases h),fun h=>absurd rfl h⟩
   . rw [acd.mpr c]; exact ⟨fun _=>c,fun _=>rfl⟩
theorem zp {w:Str} {ab:PV} {bl:Int} (S:lG es w ab bl k (lH h t n)) (ok:h.ok nm) (ht:t∈nm) (hn:n∈nm):∀ (f:Nat) (L:LS) (D:List PV),LK nm L->L.wd = "done" -> 0<=L.bu->L.bu<f->L.ms.length+25*f<90000->D.length<=999->
 ∃ m:Nat,Rn I (PQ es N hd) m (L.as (D++[due k 0])) ((dJ (k:Nat) h t n f L).as (if (dJ (k:Nat) h t n f L).wd = "done" then D else []))/\(m:Int)+5*(dJ (k:Nat) h t n f L).bu<=5*L.bu+1/\0<=(dJ (k:Nat) h t n f L).bu/\((dJ (k:Nat) h t n f L).wd = "done" \/ (dJ (k:Nat) h t n f L).wd = "spent")
 | 0,L,D,hk,hw,h0,hf,hl,hD=>by omega
 | f+1,L,D,hk,hw,h0,hf,hl,hD=>by
  obtain ⟨g1,g2,g3⟩:=YS ok hk
  have bl2:((uF h t n).nums (k+1)).length<=4:=by
   unfold uF
   split
   . exact aa3 _
   . split<;>simp [Rows.nums]
  have q1:=Hh (I:=I) (D:=D) (tr:=gZ h L) hk g1 g2 (show jl (PQ es N hd) k (.tup [.str "while",(gE h).pv,.lst (uF h t n).pvs]) from S.row) (lG.blk S) g3 h0 hw (by omega) (by rw [aad]; omega)
  have fa:=Aw (k:=(k:Nat)) (t:=gZ h L) h0 hw
  have k2:=hk.look (k:=(k:Nat)) (t:=gZ h L)
  have l2:=oR (k:=(k:Nat)) (t:=gZ h L) (L:=L)
  unfold dJ
  rw [ab8 (show ¬ L.wd = "spent" from by rw [hw]; decide +kernel)]
  obtain ⟨⟨bo,L2⟩,e2⟩:∃ r,bL (k:Nat) (gZ h L) L=r:=⟨_,rfl⟩
  rw [e2] at q1 fa k2 l2 ⊢
  dsimp only at q1 fa k2 l2 ⊢
  rcases fa with ⟨f1,f2,f3,f4,f5⟩ | ⟨f1,f2,f3⟩
  . rw [ab7 f1] at q1
    rw [ab7 f1]
    by_cases h3:h.way=3
    . rw [ab7 h3]
      obtain ⟨m,q3,c1,c2,c3⟩:=zp S ok ht hn f L2 D k2 f3 (by omega) (by omega) (by omega) hD
      have eb:(uF h t n).nums (k+1)=[]:=by unfold uF; rw [ab7 h3]; rfl
      rw [eb] at q1
      rw [show D++[due k 0]++(bK []).reverse.map nZ=D++[due k 0] from aat _] at q1
      exact ⟨1+m,q1.trans q3,by omega,c2,c3⟩
    . rw [ab8 h3]
      obtain ⟨m,q2,c1,c2,c3,c4⟩:=Q4 (I:=I) (N:=N) (hd:=hd) (D:=D++[due k 0]) S h3 ok ht hn k2 f3 (by omega) (by omega) (by rw [aai]; show D.length+1<=1000; omega)
      obtain ⟨k4,l4⟩:=k2.turn (at_:=(k:Nat)) ok.c ht hn
      rcases c4 with c4 | c4
      . rw [ab7 c4] at q2
        obtain ⟨m',q3,d1,d2,d3⟩:=zp S ok ht hn f (gD (k:Nat) h t n L2) D k4 c4 c2 (by omega) (by omega) hD
        exact ⟨1+(m+m'),q1.trans (q2.trans q3),by omega,d2,d3⟩
      . rw [ab8 (by rw [c4]; decide +kernel)] at q2
        rw [KQ c4,ab8 (by rw [c4]; decide +kernel)]
        exact ⟨1+m,q1.trans q2,by omega,c2,.inr c4⟩
  . rw [ab8 (by rw [f1]; exact aaA)] at q1
    rw [ab8 (by rw [f1]; exact aaA)]
    exact ⟨1,q1,by omega,by omega,f3⟩
end
def Sh.sz (h:Sh):Nat:=if h.way=3 then 1 else if h.way=2 then 6 else 3
def c7 (t n:Str):List Sh->Rows
 | []=>.nil
 | h::hs=>.cons (lH h t n) (c7 t n hs)
def eZ (t n:Str):Nat->List Sh->LS->LS
 | _,[],L=>L
 | k,h::hs,L=>eZ t n (k+h.sz) hs (if L.wd = "done" then dJ (k:Nat) h t n 22 L else L)
theorem Ax {h:Sh} {t n:Str}:(lH h t n).cnt=h.sz:=by
 unfold lH uF Sh.sz
 show (if _ then _ else _:Rows).cnt+1=_
 split
 . rfl
 . rename_i h3
   show 1+(1+(if _ then _ else _:Rows).cnt)+1=_
   split<;>rfl
theorem LK.all {nm:List Str} {t n:Str} (ht:t∈nm) (hn:n∈nm):∀ (hs:List Sh) (k:Nat) (L:LS),(∀ h∈hs,h.c∈nm)->LK nm L->LK nm (eZ t n k hs L)/\(eZ t n k hs L).ms.length<=L.ms.length+550*hs.length
 | [],k,L,_,h=>⟨h,aaf _⟩
 | s::hs,k,L,hc,h=>by
  have h3:LK nm (if L.wd = "done" then dJ (k:Nat) s t n 22 L else L)/\(if L.wd = "done" then dJ (k:Nat) s t n 22 L else L).ms.length<=L.ms.length+550:=by
   split
   . obtain ⟨a,b⟩:=LK.loop (at_:=(k:Nat)) (s:=s) (hc s aab) ht hn 22 L h
     exact ⟨a,by omega⟩
   . exact ⟨h,by omega⟩
  obtain ⟨a,b⟩:=LK.all ht hn hs (k+s.sz) _ (fun x hx=>hc x (aag _ hx)) h3.1
  refine ⟨a,?_⟩
  show (eZ t n (k+s.sz) hs _).ms.length<=_
  rw [aae]
  omega
theorem Dz {t n:Str}:∀ (hs:List Sh) (k:Nat) (L:LS),¬ L.wd = "done" -> eZ t n k hs L=L
 | [],k,L,_=>rfl
 | s::hs,k,L,h=>by
  show eZ t n (k+s.sz) hs (if L.wd = "done" then dJ (k:Nat) s t n 22 L else L)=L
  rw [ab8 h]
  exact Dz hs _ L h
section
variable {I:Ix} {es:List Ent} {N:Nat} {hd:PV} {nm:List Str} {t n:Str}
theorem Jj (ht:t∈nm) (hn:n∈nm) {D0:List PV} (h0:D0.length<=100):∀ (hs:List Sh) (k:Nat) (L:LS),(∀ h∈hs,h.ok nm)->vH es "main" .non 0 k (c7 t n hs)->hs.length<=100->LK nm L->L.wd = "done" -> 0<=L.bu->L.bu<=20->L.ms.length+550*hs.length<90000->
 ∃ m:Nat,Rn I (PQ es N hd) m (L.as (D0++(bK ((c7 t n hs).nums k)).reverse.map nZ)) ((eZ t n k hs L).as (if (eZ t n k hs L).wd = "done" then D0 else []))/\(m:Int)+5*(eZ t n k hs L).bu<=5*L.bu+hs.length/\0<=(eZ t n k hs L).bu/\((eZ t n k hs L).wd = "done" \/ (eZ t n k hs L).wd = "spent")
 | [],k,L,_,_,_,hk,hw,hb,_,_=>by
  refine ⟨0,?_,by show (0:Int)+5*L.bu<=5*L.bu+0; omega,hb,.inl hw⟩
  show Rn I (PQ es N hd) 0 (L.as (D0++[])) (L.as (if L.wd = "done" then D0 else []))
  rw [ab7 hw,aat]
  exact Rn.refl
 | h::hs,k,L,ok,S,hl,hk,hw,hb,hb2,hm=>by
  simp only [aae] at hl hm
  obtain ⟨S1,S2⟩:=vH.cons S
  rw [Ax] at S2
  have eD:D0++(bK ((c7 t n (h::hs)).nums k)).reverse.map nZ=(D0++(bK ((c7 t n hs).nums (k+h.sz))).reverse.map nZ)++[due k 0]:=by
   show D0++(bK (k::(c7 t n hs).nums (k+(lH h t n).cnt))).reverse.map nZ=_
   rw [Ax,bK,aav,List.reverse_cons,aaz,← aah]
   rfl
  have ln:∀ (hs:List Sh) (k:Nat),((c7 t n hs).nums k).length=hs.length:=by
   intro hs
   induction hs with
   | nil=>intro k; rfl
   | cons h hs ih=>intro k; show ((c7 t n hs).nums _).length+1=_; rw [ih]; rfl
  obtain ⟨m,q,c1,c2,c3⟩:=zp (I:=I) (N:=N) (hd:=hd) S1 (ok h aab) ht hn 22 L (D0++(bK ((c7 t n hs).nums (k+h.sz))).reverse.map nZ) hk hw hb (by omega) (by omega) (by rw [aai,aad,aby,aad,ln]; omega)
  obtain ⟨k3,l3⟩:=LK.loop (at_:=(k:Nat)) (s:=h) (ok h aab).c ht hn 22 L hk
  rw [eD]
  have ea:eZ t n k (h::hs) L=eZ t n (k+h.sz) hs (dJ (k:Nat) h t n 22 L):=by
   show eZ t n (k+h.sz) hs (if L.wd = "done" then _ else _)=_
   rw [ab7 hw]
  rw [ea,aae]
  rcases c3 with c3 | c3
  . rw [ab7 c3] at q
    obtain ⟨m',q',d1,d2,d3⟩:=Jj ht hn h0 hs (k+h.sz) _ (fun x hx=>ok x (aag _ hx)) S2 (by omega) k3 c3 c2 (by omega) (by omega)
    exact ⟨m+m',q.trans q',by omega,d2,d3⟩
  . have nd:¬ (dJ (k:Nat) h t n 22 L).wd = "done" := by rw [c3]; decide +kernel
    rw [ab8 nd] at q
    rw [Dz hs _ _ nd,ab8 nd]
    exact ⟨m,q,by omega,c2,.inr c3⟩
def pC:Nat->List Sh->Nat
 | k,[]=>k
 | k,[_]=>k
 | k,h::h'::hs=>pC (k+h.sz) (h'::hs)
def lJ (t n:Str) (hs:List Sh) (L:LS):LS:=if (eZ t n 0 hs L).wd = "done" /\ ¬ hs=[] then ⟨(eZ t n 0 hs L).bu,(eZ t n 0 hs L).wd,(eZ t n 0 hs L).B,(eZ t n 0 hs L).ms++[(((pC 0 hs:Nat):Int),3,[])]⟩ else eZ t n 0 hs L
theorem Hi:∀ (hs:List Sh) (k:Nat),¬ hs=[]->((c7 t n hs).nums k).getLast?=some (pC k hs)
 | [],k,h=>absurd rfl h
 | [h],k,_=>rfl
 | h::h'::hs,k,_=>by
  have ih:=Hi (h'::hs) (k+h.sz) (by simp)
  show (k::(c7 t n (h'::hs)).nums (k+(lH h t n).cnt)).getLast?=some (pC (k+h.sz) (h'::hs))
  rw [Ax,← ih]
  show (k::(k+h.sz)::_).getLast?=((k+h.sz)::_).getLast?
  rw [List.getLast?_cons_cons]
theorem Vb (ht:t∈nm) (hn:n∈nm) (hs:List Sh) (L:LS) (ok:∀ h∈hs,h.ok nm) (S:vH es "main" .non 0 0 (c7 t n hs)) (hl:hs.length<=100) (hk:LK nm L) (hw:L.wd = "done") (hb:0<=L.bu) (hb2:L.bu<=20) (hm:L.ms=[]):
 ∃ m:Nat,Rn I (PQ es N hd) m (L.as (Dy (c7 t n hs))) ((lJ t n hs L).as [])/\m<900:=by
 have e0:L.ms.length=0:=by rw [hm]; rfl
 obtain ⟨ka,la⟩:=LK.all ht hn hs 0 L (fun h hh=>(ok h hh).c) hk
 by_cases hh:hs=[]
 . subst hh
   refine ⟨0,?_,by decide⟩
   unfold lJ
   rw [ab8 (fun h=>h.2 rfl)]
   exact Rn.refl
 . have g:=Hi (t:=t) (n:=n) hs 0 hh
   have ed:Dy (c7 t n hs)=[due (pC 0 hs) 3]++(bK ((c7 t n hs).nums 0)).reverse.map nZ:=by unfold Dy; rw [g]
   rw [ed]
   obtain ⟨m,q,c1,c2,c3⟩:=Jj (I:=I) (N:=N) (hd:=hd) ht hn (D0:=[due (pC 0 hs) 3]) (by simp) hs 0 L ok S hl hk hw hb hb2 (by omega)
   unfold lJ
   rcases c3 with c3 | c3
   . rw [ab7 c3] at q
     rw [ab7 ⟨c3,hh⟩]
     refine ⟨m+1,q.trans (Xn (D:=[]) (by omega)),by omega⟩
   . have nd:¬ (eZ t n 0 hs L).wd = "done" := by rw [c3]; decide +kernel
     rw [ab8 nd] at q
     rw [ab8 (fun h=>nd h.1)]
     exact ⟨m,q,by omega⟩
end
def Sx (s:Int):BV->Prop
 | .n i=>s=0/\In i
 | .l is=>s=is.length/\s≠0/\is.length<=8/\∀ i∈is,In i
def ue:List (Str×Int)->Bs->Prop
 | [],[]=>True
 | (x,s)::D,(y,v)::B=>x=y/\Sx s v/\ue D B
 | _,_=>False
theorem ue.names:∀ {D:List (Str×Int)} {B:Bs},ue D B->D.map (·.1)=B.map (·.1)
 | [],[],_=>rfl
 | (x,s)::D,(y,v)::B,h=>by rw [aav,aav,ue.names h.2.2,show (x,s).1=(y,v).1 from h.1]
 | [],_::_,h=>h.elim
 | _::_,[],h=>h.elim
theorem Jk {i:Int} {mu:Mu} (h:In i):gG [.int i] mu=some (.sh (.bl true),mu):=by
 let E:Ev:=⟨[zI i],mu⟩
 have h1:jt "int" (aj 0) E=some (.sh (.bl true),E):=sU (p:=.int i) rfl rfl rfl
 have h2:wj (jt "bool" (aj 0)) E=some (.sh (.bl true),E):=by
  unfold wj
  rw [show jt "bool" (aj 0) E=some (.sh (.bl false),E) from sU (p:=.int i) rfl rfl rfl,aaa]
  rfl
 have h3:nj zP wA (eC (.int 0)) (aj 0) (eC qM) E=some (.sh (.bl true),E):=by
  unfold nj
  rw [show eC (.int 0) E=some (.sh (.int 0),E) from rfl,aaa,show aj 0 E=some (.sh (.int i),E) from rfl,aaa]
  dsimp only
  rw [show zP (Lc.sh (PV.int 0)).pv (Lc.sh (PV.int i)).pv=zS (.bl (decide ((0:Int)<=i))) from rfl,acb h.1]
  show some (Lc.sh (.bl (decide (i<1000000000000))),E)=_
  rw [acb h.2]
 have an:∀ (f g:EF),f E=some (.sh (.bl true),E)->g E=some (.sh (.bl true),E)->jq f g E=some (.sh (.bl true),E):=fun f g hf hg=>by
  unfold jq
  rw [hf,aaa]
  exact hg
 exact bf (ρ:=E) (cD (an _ _ h1 (an _ _ h2 h3)))
theorem Q5 {s:Int} {v:BV} {mu:Mu} (h:Sx s v):uv [.int s,v.pv] mu=some (.sh (.bl true),mu):=by
 let E:Ev:=⟨[zI s,zS v.pv],mu⟩
 cases v with
 | n i=>
  obtain ⟨rfl,hi⟩:=h
  exact bf (ρ:=E) (gh ((dI (xU (a:=0) (ρ1:=E) rfl (by decide))).trans (cD (bh (ls:=[.sh (.int i)]) (ρ1:=E) rfl rfl rfl rfl (Jk hi)))))
 | l is=>
  obtain ⟨hs,h0,h8,hi⟩:=h
  have ec:=kW (b:=aG 0) (te:=aK gG (aa (aj 0) ao)) (mu:=mu) (fun ρ=>∃ o,ρ=⟨[o],mu⟩) (fun ρ ⟨o,e⟩=>by rw [e]) (fun _=>.bl true) (xs:=is.map .int) (ρ:=⟨[none],mu⟩) ⟨none,rfl⟩ (by simp; omega) (by
   rintro p hp ρ ⟨o,rfl⟩
   obtain ⟨i,hi',rfl⟩:=aaD.mp hp
   exact ⟨⟨[zI i],mu⟩,rfl,.sh (.bl true),⟨[zI i],mu⟩,bh (ls:=[.sh (.int i)]) (ρ1:=⟨[zI i],mu⟩) rfl rfl rfl rfl (Jk (hi i hi')),rfl,_,rfl⟩) (by
   rintro p hp ρ ρ1 ⟨o,rfl⟩ e
   cases e
   exact ⟨_,rfl⟩)
  have e2:eO (gB (aj 1) cX) 1 [] (aG 0) dq (aK gG (aa (aj 0) ao)) E=some (.own (.lst ((is.map PV.int).map fun _=>.bl true)),E):=je (f:=gB (aj 1) cX) (m:=1) (ixs:=[]) (ρ:=E) (ρ1:=E) (xs:=is.map .int) rfl ec
  have bo:∀ ws:List PV,boolsOf (ws.map fun _=>PV.bl true)=some (ws.map fun _=>true):=fun ws=>by
   induction ws with
   | nil=>rfl
   | cons w ws ih=>
    show (boolsOf (ws.map fun _=>PV.bl true)).map _=_
    rw [ih]
    rfl
  have ba:∀ ws:List PV,(ws.map fun _=>true).all id=true:=fun ws=>by
   induction ws with
   | nil=>rfl
   | cons w ws ih=>exact ih
  have h3:eB all1 (aa (eO (gB (aj 1) cX) 1 [] (aG 0) dq (aK gG (aa (aj 0) ao))) ao) E=some (.sh (.bl true),E):=uZ (ls:=[.own (.lst ((is.map PV.int).map fun _=>.bl true))]) (aC e2 rfl) rfl (by show (boolsOf ((is.map PV.int).map fun _=>PV.bl true)).map _=_; rw [bo,abz,ba])
  have h2:aA eqP (eB gR (aa (aj 1) ao)) (aj 0) E=some (.sh (.bl true),E):=by
   refine cO (uZ (ls:=[.sh (.lst (is.map .int))]) rfl rfl rfl) rfl rfl rfl ?_
   show some (Lc.sh (.bl ((((is.map PV.int).length:Nat):Int)==s)))=_
   rw [aad,← hs,ace]
  have an:∀ (f g:EF),f E=some (.sh (.bl true),E)->g E=some (.sh (.bl true),E)->jq f g E=some (.sh (.bl true),E):=fun f g hf hg=>by
   unfold jq
   rw [hf,aaa]
   exact hg
  exact bf (ρ:=E) (aB (ρ':=E) ((bR (xU (a:=s) (ρ1:=E) rfl (acd.mpr h0))).trans rfl) (cD (an _ _ (sU (p:=.lst (is.map .int)) rfl rfl rfl) (an _ _ h2 h3))))
theorem yD {P V:PV} {mu:Mu}:∀ (B:Bs) (D:List (Str×Int)) (l2 l3 l4:Option Lc),ue D B->∃ p2 p3 p4,fD (eG 2 (aL (aG 2) (aL (aG 3) eF))) (aF (aO 4 (bx (aj 2) (eC (.int 0)))) (cG (jh (tT (aK uv (aa (bx (aj 2) (eC (.int 1))) (aa (aj 3) ao))) gn)) u5 bN)) (nq (dcl D) (aR B)) (FE P V l2 l3 l4 mu)=some (.nx (FE P V p2 p3 p4 mu))
 | [],[],l2,l3,l4,_=>⟨l2,l3,l4,rfl⟩
 | (y,v)::B,(x,s)::D,l2,l3,l4,h=>by
  let a:Option Lc:=zS (.tup [.str x,.int s,.non])
  let b:Option Lc:=zS v.pv
  obtain ⟨p2,p3,p4,e⟩:=yD (P:=P) (V:=V) (mu:=mu) B D a b (zT x) h.2.2
  have t:jh (tT (aK uv (aa (bx (aj 2) (eC (.int 1))) (aa (aj 3) ao))) gn) (FE P V a b (zT x) mu)=some (false,FE P V a b (zT x) mu):=wG (b:=true) (fM (bh (ls:=[.sh (.int s),.sh v.pv]) (ρ1:=FE P V a b (zT x) mu) rfl rfl rfl rfl (Q5 h.2.1)) rfl rfl)
  exact ⟨p2,p3,p4,fY (ρ1:=FE P V a b l4 mu) (ρ2:=FE P V a b (zT x) mu) rfl (aB (ρ':=FE P V a b (zT x) mu) rfl ((bR t).trans rfl)) e⟩
 | [],_::_,_,_,_,h=>h.elim
 | _::_,[],_,_,_,h=>h.elim
theorem ue.len:∀ {D:List (Str×Int)} {B:Bs},ue D B->D.length=B.length:=fun h=>by
 have:=congrArg List.length h.names
 rwa [aad,aad] at this
theorem refuse_eq {gr R3 R4:PV} {D:List (Str×Int)} {B:Bs} {mu:Mu} (h:ue D B):lM [.tup [.lst (dcl D),gr,R3,R4],.lst (aR B)] mu=some (.sh .non,mu):=by
 let P:PV:=.tup [.lst (dcl D),gr,R3,R4]
 let E:Ev:=FE P (.lst (aR B)) none none none mu
 obtain ⟨p2,p3,p4,e⟩:=yD (P:=P) (V:=.lst (aR B)) (mu:=mu) B D none none none h
 have t1:jh (tT (jt "list" (aj 1)) gn) E=some (false,E):=wG (b:=true) (fM (sU (p:=.lst (aR B)) rfl rfl rfl) rfl rfl)
 have t2:tT (aA yq (eB gR (aa (aj 1) ao)) (eB gR (aa (bx (aj 0) (eC (.int 0))) ao))) bB E=some (false,E):=by
  refine fM (l:=.sh (.bl false)) (cO (uZ (ls:=[.sh (.lst (aR B))]) rfl rfl rfl) rfl (uZ (ls:=[.sh (.lst (dcl D))]) rfl rfl rfl) rfl ?_) rfl rfl
  show some (Lc.sh (.bl (!((((aR B).length:Nat):Int)==(((dcl D).length:Nat):Int)))))=_
  rw [aad,aad,h.len,ace]
  rfl
 refine f9 (ρ:=FE P (.lst (aR B)) p2 p3 p4 mu) (aB (ρ':=E) ((bR (Ka t1 t2)).trans rfl) (jQ (xs:=nq (dcl D) (aR B)) (ρ1:=E) rfl e))
theorem XJ {mu:Mu} {v:BV}:∀ k,bj mu k v.pv=v.pv:=fun k=>by
 cases v with
 | n i=>exact Cd k
 | l is=>exact G3 k
theorem Jl {mu:Mu} {B:Bs} {k:Nat}:bj mu (k+1) (.lst (aR B))=.lst (aR B):=by
 show PV.lst ((aR B).map (bj mu k))=_
 rw [aaY]
 exact congrArg PV.lst (aaP fun q _=>XJ k)
theorem Vc {mu:Mu} {D:List (Str×Int)} {k:Nat}:bj mu (k+3) (.lst (dcl D))=.lst (dcl D):=by
 show PV.lst ((dcl D).map (bj mu (k+2)))=_
 rw [aaY]
 exact congrArg PV.lst (aaP fun q _=>rfl)
theorem Cr {mu:Mu} {n k:Nat} {p:PV} (h:mu[n]?=some (some p)):bj mu (k+1) (.ptr n)=bj mu k p:=by
 show (match mu[n]? with | some (some p)=>bj mu k p | _=>.ptr n)=_
 rw [h]
structure Pr (D:List (Str×Int)) (B:Bs) (rs:Rows) (bu:Int) (F:LS):Prop where
 su:ue D B
 g:BG B
 ok:(jB D rs).ok
 go:∀ (I:Ix) (N:Nat) (hd:PV),∃ m:Nat,Rn I (PQ ((jB D rs).es) N hd) m ⟨bu, "done",B,[],Dy rs⟩ (F.as [])/\m<900
 fn:F.B.map (·.1)=B.map (·.1)
 fg:BG F.B
 fl:F.ms.length<=80000
 fe:∀ m∈F.ms,m.2.2.length<=1
 fi:∀ q∈F.B,∃ i,q.2=.n i
section
variable {gr:PV} {rs:Rows} {B:Bs} {D:List (Str×Int)} {bu:Int} {mu:Mu} {F:LS}
theorem Jm (H:Pr D B rs bu F):∃ mu' I N hd,jz [(jB D rs).pv,.lst (aR B),.int bu] mu=some (.sh (.ptr I.r),mu')/\Gd mu' I F.bu F.wd (PQ ((jB D rs).es) N hd) F.B F.ms []/\I.r=mu.length/\∀ c,c<mu.length->mu'[c]?=mu[c]?:=by
 let P:PV:=(jB D rs).pv
 let V:PV:=.lst (aR B)
 let E0:Ev:=⟨[zS P,zS V,zI bu,none],mu⟩
 have s1:cW (lW (aK lM (aa (aj 0) (aa (aj 1) ao)))) E0=some (.nx E0):=by
  refine fJ (l:=.sh .non) (yS (ρ1:=E0.peekD) (bh (ls:=[.sh (bj mu 40 P),.sh (bj mu 40 V)]) (ps:=[.tup [.lst (dcl D),bj mu 39 (.lst []),bj mu 39 (.lst []),bj mu 39 (.lst rs.pvs)],.lst (aR B)]) (ρ1:=E0.peekD) (aC rfl (aC rfl rfl)) ?_ rfl rfl (refuse_eq H.su)) rfl)
  show [PV.tup [bj mu 39 (.lst (dcl D)),bj mu 39 (.lst []),bj mu 39 (.lst []),bj mu 39 (.lst rs.pvs)],bj mu 40 (.lst (aR B))]=_
  rw [Vc,Jl]
 obtain ⟨mu1,I,N,hd,ei,hI,S,hlen,fr⟩:=U9 (rs:=rs) (bu:=bu) (mu:=mu) H.su.names H.g.nd H.g.l8 H.ok
 have s2:aO 3 (sW "Running" eX (aa (aj 0) (aa (aj 1) (aa (aj 2) ao)))) E0=some (.nx (GE P V (.int bu) I mu1)):=by
  have mk:=Iz (C := "Running") (g:=eX) (a:=aa (aj 0) (aa (aj 1) (aa (aj 2) ao))) (ρ:=E0) (ρ1:=E0) (ls:=[.sh P,.sh V,.sh (.int bu)]) (mu2:=mu1) rfl rfl ei
  refine cH mk ?_ ?_
  . exact rfl
  . rw [← hI]
    rfl
 obtain ⟨m,R,hm⟩:=H.go I N hd
 obtain ⟨mu',ew,g,f⟩:=R P V (.int bu) mu1 ⟨[],S,rfl⟩
 obtain ⟨M2,S2,Mo2⟩:=Gd.ex g
 have ew:pL 1000 stC R7 (GE P V (.int bu) I mu1)=some (.nx (GE P V (.int bu) I mu')):=by
  rw [show 1000=((999-m)+1)+m from by omega,ew]
  exact U0 (R8 S2)
 refine ⟨mu',I,N,hd,bf (ρ:=⟨[zS P,zS V,zI bu,none],mu'⟩) (aB s1 (aB s2 (aB ew rfl))),g,hI,fun c hc=>?_⟩
 rw [f.2 c (.inl (by omega)) (by rw [hlen]; have:=S.l1; have:=S.l2; have:=S.l3; have:=S.l4; have:=S.l5; have:=S.l6; omega),fr c hc]
def qe (k:Int) (e:qp):PV:=.tup [.int k,.str e.1,.int e.2.1,.int e.2.2]
def jg:List cY->List PV
 | []=>[]
 | m::ms=>m.2.2.map (qe m.1)++jg ms
def wY:List cY->Nat
 | []=>0
 | m::ms=>m.2.2.length+wY ms
theorem Hj:∀ {ms:List cY},(jg ms).length=wY ms
 | []=>rfl
 | m::ms=>by
  show (m.2.2.map (qe m.1)++jg ms).length=m.2.2.length+wY ms
  rw [aai,aad,Hj]
def rcF (k:Int):PV->PV
 | .tup [a,b,c]=>.tup [.int k,a,b,c]
 | p=>p
abbrev vO (l0 l1 l2 l3 l4:Option Lc) (mu:Mu):Ev:=⟨[l0,l1,l2,l3,l4],mu⟩
theorem Jo {k:Int} {es:List qp} {mu:Mu} {o:List (Option Lc)} (hl:es.length<=90000):jj (eG 3 (aL (aG 0) (aL (aG 1) (aL (aG 2) eF)))) dq (aQ (aa (aj 3) (aa (aj 0) (aa (aj 1) (aa (aj 2) ao))))) (es.map qp.pv) ⟨[none,none,none,zI k],mu⟩ []=some (es.map (qe k),mu):=by
 have ec:=kW (b:=eG 3 (aL (aG 0) (aL (aG 1) (aL (aG 2) eF)))) (te:=aQ (aa (aj 3) (aa (aj 0) (aa (aj 1) (aa (aj 2) ao))))) (mu:=mu) (fun ρ=>∃ a b c,ρ=⟨[a,b,c,zI k],mu⟩) (fun ρ ⟨a,b,c,e⟩=>by rw [e]) (rcF k) (xs:=es.map qp.pv) (ρ:=⟨[none,none,none,zI k],mu⟩) ⟨_,_,_,rfl⟩ (by rw [aad]; omega) (by
  rintro p hp ρ ⟨a,b,c,rfl⟩
  obtain ⟨e,_,rfl⟩:=aaD.mp hp
  exact ⟨⟨[zT e.1,zI e.2.1,zI e.2.2,zI k],mu⟩,rfl,.sh (qe k e),⟨[zT e.1,zI e.2.1,zI e.2.2,zI k],mu⟩,rfl,rfl,_,_,_,rfl⟩) (by
  rintro p hp ρ ρ1 ⟨a,b,c,rfl⟩ e
  obtain ⟨q,_,rfl⟩:=aaD.mp hp
  cases e
  exact ⟨_,_,_,rfl⟩)
 rw [ec,aaY]
 rfl
theorem Jp {l0:Option Lc}:∀ (ms:List cY) (M:List PV) (lo:Nat) (mu:Mu) (ws:List PV) (l2 l3 l4:Option Lc),MO mu lo M ms->ws.length+wY ms<=90000->∃ mu' p2 p3 p4,fD (eG 3 (aL (aG 2) (aL (aG 3) (aL (aG 4) eF))))
 (ni 1 (eO (gB (jR (aj 4)) cX) 3 [2] (eG 3 (aL (aG 0) (aL (aG 1) (aL (aG 2) eF)))) dq (aQ (aa (aj 3) (aa (aj 0) (aa (aj 1) (aa (aj 2) ao))))))) M (vO l0 (zO ws) l2 l3 l4 mu)=some (.nx (vO l0 (zO (ws++jg ms)) p2 p3 p4 mu'))/\mu'.length=mu.length/\∀ c,c<=lo->mu'[c]?=mu[c]?
 | [],M,lo,mu,ws,l2,l3,l4,h,_=>by
  have h:M=[]:=h
  subst h
  exact ⟨mu,l2,l3,l4,by rw [show jg []=[] from rfl,aat]; rfl,rfl,fun _ _=>rfl⟩
 | m::ms,M,lo,mu,ws,l2,l3,l4,⟨c,rest,e,h1,h2,h⟩,hl=>by
  subst e
  have hl':ws.length+(m.2.2.length+wY ms)<=90000:=hl
  let K:Option Lc:=zI m.1
  let T:Option Lc:=zI m.2.1
  let C:Option Lc:=zS (.ptr c)
  let W:Option Lc:=zO ws
  have h':MO (mu.set c none) c rest ms:=h.frame fun d q _=>aaw (by omega)
  obtain ⟨mu',p2,p3,p4,el,ln,fr⟩:=Jp (l0:=l0) ms rest c (mu.set c none) (ws++m.2.2.map (qe m.1)) K T C h' (by rw [aai,aad]; omega)
  have em:gB (jR (aj 4)) cX (vO l0 W K T C mu)=some (m.2.2.map qp.pv,vO l0 W K T C (mu.set c none)):=jP (zm (ρ1:=vO l0 W K T C mu) (x:=.sh (.ptr c)) rfl rfl h2) rfl
  have ec:=je (f:=gB (jR (aj 4)) cX) (m:=3) (ixs:=[2]) em (Jo (k:=m.1) (es:=m.2.2) (mu:=mu.set c none) (o:=[]) (by omega))
  refine ⟨mu',p2,p3,p4,fY (ρ1:=vO l0 W K T C mu) (ρ2:=vO l0 (zO (ws++m.2.2.map (qe m.1))) K T C (mu.set c none)) rfl (wJ (ws0:=ws) (ws:=ws) (ps:=m.2.2.map (qe m.1)) rfl ec rfl rfl (by rw [aad]; omega) rfl) ?_,by rw [ln,aaJ],fun d hd=>?_⟩
  . rw [show jg (m::ms)=m.2.2.map (qe m.1)++jg ms from rfl,← aah]
    exact el
  . rw [fr d (by omega),aaw (by omega)]
theorem Oe {M:List PV} {ms:List cY} {m lo:Nat} (hm:mu[m]?=some (some (.lst M))) (hlo:m<=lo) (h:MO mu lo M ms) (hl:wY ms<=90000):∃ mu',pq [.ptr m] mu=some (.own (.lst (jg ms)),mu')/\mu'.length=mu.length/\∀ c,c<=lo->c≠m->mu'[c]?=mu[c]?:=by
 have h':MO (mu.set m none) lo M ms:=h.frame fun d q _=>aaw (by omega)
 obtain ⟨mu',p2,p3,p4,el,ln,fr⟩:=Jp (l0:=zS (.ptr m)) ms M lo (mu.set m none) [] none none none h' (by simpa using hl)
 have em:gB (jR (aj 0)) cX (vO (zS (.ptr m)) (zO []) none none none mu)=some (M,vO (zS (.ptr m)) (zO []) none none none (mu.set m none)):=jP (zm (ρ1:=vO (zS (.ptr m)) (zO []) none none none mu) (x:=.sh (.ptr m)) rfl rfl hm) rfl
 exact ⟨mu',bf (ρ:=vO (zS (.ptr m)) none p2 p3 p4 mu') (aB (ρ':=vO (zS (.ptr m)) (zO []) none none none mu) rfl (aB (jQ em el) rfl)),by rw [ln,aaJ],fun c hc hn=>by rw [fr c hc,aaw (Ne.symm hn)]⟩
theorem Jq:∀ {B:Bs} {ps:List PV},(B.map (·.1)).Nodup->ps.length=B.length->(B.map fun q=>(b8 ((bC B).zip ps) (.inr q.1)).getD .non)=ps
 | [],[],_,_=>rfl
 | [],_::_,_,h=>by simp at h
 | _::_,[],_,h=>by simp at h
 | (y,v)::B,p::ps,nd,h=>by
  obtain ⟨hy,nd'⟩:=aaM.mp nd
  have ev:∀ x,b8 ((bC ((y,v)::B)).zip (p::ps)) (.inr x)=if (Sum.inr y:Key)=.inr x then some p else b8 ((bC B).zip ps) (.inr x):=fun x=>rfl
  show (b8 ((bC ((y,v)::B)).zip (p::ps)) (.inr y)).getD .non::(B.map fun q=>(b8 ((bC ((y,v)::B)).zip (p::ps)) (.inr q.1)).getD .non)=_
  rw [ev,ab7 rfl]
  refine c2 rfl (Eq.trans (aaP fun q hq=>?_) (Jq nd' (by simpa using h)))
  rw [ev,ab8 fun e=>hy (by rw [show y=q.1 from Sum.inr.inj e]; exact aaD.mpr ⟨q,hq,rfl⟩)]
theorem KR {R3 R4:PV} {C:Bs} {ps:List PV} {b:Nat} (hD:D.map (·.1)=C.map (·.1)) (nd:(C.map (·.1)).Nodup) (h1:C.length<=100) (hb:mu[b]?=some (some (.dk (bC C) ps))) (hl:ps.length=C.length):tu [.tup [.lst (dcl D),gr,R3,R4],.ptr b] mu=some (.own (.lst ps),mu):=by
 let P:PV:=.tup [.lst (dcl D),gr,R3,R4]
 let E:Ev:=⟨[zS P,zS (.ptr b)],mu⟩
 let f:PV->PV:=fun p=>match p with
  | .tup (.str x::_)=>(b8 ((bC C).zip ps) (.inr x)).getD .non
  | _=>.non
 have hin:∀ x∈D.map (·.1),∃ p,b8 ((bC C).zip ps) (.inr x)=some p:=fun x hx=>by
  rw [hD] at hx
  cases h:b8 ((bC C).zip ps) (.inr x) with
  | some p=>exact ⟨p,rfl⟩
  | none=>
   exfalso
   have key:∀ (ks:List Key) (qs:List PV),qs.length=ks.length->(.inr x:Key)∈ks->b8 (ks.zip qs) (.inr x)≠none:=fun ks=>by
    induction ks with
    | nil=>intro qs _ h; cases h
    | cons k ks ih=>
     intro qs hq hk
     cases qs with
     | nil=>simp at hq
     | cons q qs=>
      show (if k=.inr x then some q else b8 (ks.zip qs) (.inr x))≠none
      split
      . exact fun e=>by cases e
      . rename_i hne
        rcases aao.mp hk with e | e
        . exact absurd e.symm hne
        . exact ih qs (by simpa using hq) e
   obtain ⟨q,hq,e⟩:=aaD.mp hx
   exact key _ _ (by rw [aad]; exact hl) (aaD.mpr ⟨q,hq,by rw [← e]⟩) h
 have ec:=kW (b:=eG 3 (aL (aG 0) (aL (aG 1) (aL (aG 2) eF)))) (te:=aY (aj 3) (aj 0)) (mu:=mu) (fun ρ=>∃ a b' c,ρ=⟨[a,b',c,zS (.ptr b)],mu⟩) (fun ρ ⟨a,b',c,e⟩=>by rw [e]) f (xs:=dcl D) (ρ:=⟨[none,none,none,zS (.ptr b)],mu⟩) ⟨_,_,_,rfl⟩ (by rw [aad,← aad (f:=(·.1)),hD,aad]; omega) (by
  rintro p hp ρ ⟨a,b',c,rfl⟩
  obtain ⟨q,hq,rfl⟩:=aaD.mp hp
  obtain ⟨w,hw⟩:=hin q.1 (aaD.mpr ⟨q,hq,rfl⟩)
  refine ⟨⟨[zT q.1,zI q.2,some (.sh .non),zS (.ptr b)],mu⟩,rfl,.sh w,⟨[zT q.1,zI q.2,some (.sh .non),zS (.ptr b)],mu⟩,nR (x:=.sh (.ptr b)) (y:=.sh (.str q.1)) (k:=.inr q.1) rfl rfl rfl rfl hb hw,?_,_,_,_,rfl⟩
  show w=(b8 ((bC C).zip ps) (.inr q.1)).getD .non
  rw [hw]
  rfl) (by
  rintro p hp ρ ρ1 ⟨a,b',c,rfl⟩ e
  obtain ⟨q,_,rfl⟩:=aaD.mp hp
  cases e
  exact ⟨_,_,_,rfl⟩)
 have ef:(dcl D).map f=ps:=by
  rw [aaY]
  have e1:D.map (f ∘ fun q=>PV.tup [.str q.1,.int q.2,.non])=(D.map (·.1)).map fun x=>(b8 ((bC C).zip ps) (.inr x)).getD .non:=by rw [aaY]; rfl
  rw [e1,hD,aaY]
  exact Jq nd hl
 rw [ef] at ec
 have e2:=je (f:=gB (bx (aj 0) (eC (.int 0))) cX) (m:=3) (ixs:=[1]) (ρ:=E) (ρ1:=E) (jP (l:=.sh (.lst (dcl D))) rfl rfl) ec
 exact bf (ρ:=E) (cD e2)
end
theorem Og:∀ {ms:List cY},(∀ m∈ms,m.2.2.length<=1)->wY ms<=ms.length
 | [],_=>aaf _
 | m::ms,h=>by
  have h1:=h m aab
  have h2:=Og fun x hx=>h x (aag m hx)
  show m.2.2.length+wY ms<=ms.length+1
  omega
section
variable {rs:Rows} {B:Bs} {D:List (Str×Int)} {bu:Int} {mu:Mu} {F:LS}
theorem Pr.nev (H:Pr D B rs bu F):wY F.ms<=80000:=aaL (Og H.fe) H.fl
abbrev lK (F:LS):PV:=.tup [.str F.wd,.lst (jg F.ms),.lst (aR F.B)]
theorem CB.nums {mu:Mu} {hi:Nat}:∀ {lo:Nat} {B:Bs} {ps:List PV},(∀ q∈B,∃ i,q.2=.n i)->CB mu hi lo B ps->ps=aR B
 | lo,[],ps,_,h=>h
 | lo,(_,.n i)::B,ps,hB,⟨r,e,h⟩=>by rw [e,h.nums fun q hq=>hB q (aag _ hq)]; rfl
 | lo,(_,.l is)::B,ps,hB,_=>by obtain ⟨i,h⟩:=hB _ aab; cases h
theorem Oh (H:Pr D B rs bu F):∃ mu',vy [(jB D rs).pv,.lst (aR B),.int bu] mu=some (.sh (lK F),mu'):=by
 let P:PV:=(jB D rs).pv
 let V:PV:=.lst (aR B)
 obtain ⟨mu1,I,N,hd,eg,⟨M,S,Mo⟩,hI,fr⟩:=Jm (mu:=mu) H
 have nm:=H.fn
 have ln:F.B.length=B.length:=by have:=congrArg List.length nm; rwa [aad,aad] at this
 have ne:=H.nev
 obtain ⟨ps,hb,hc⟩:=S.hb
 obtain ⟨mu2,er,len2,fr2⟩:=Oe S.hm (abA S.l6) Mo (by omega)
 have ⟨l1,l2,l3,l4,l5,l6⟩:=S.ls
 let E:=fun mu=>(⟨[zS P,zS V,zI bu,zS (.ptr I.r)],mu⟩:Ev)
 have s1:aO 3 (aK jz (aa (aj 0) (aa (aj 1) (aa (aj 2) ao)))) ⟨[zS P,zS V,zI bu,none],mu⟩=some (.nx (E mu1)):=cH (bh (ls:=[.sh P,.sh V,.sh (.int bu)]) (ρ1:=⟨[zS P,zS V,zI bu,none],mu⟩) rfl rfl rfl rfl eg) rfl rfl
 have c2':aK pq (aa (cg "Running" "moments" (aj 3)) ao) (E mu1)=some (.own (.lst (jg F.ms)),E mu2):=bh (ls:=[.sh (.ptr I.m)]) (ρ1:=E mu1) (aC (dj rfl rfl S.hr rfl) rfl) rfl rfl rfl er
 have hr3:mu2[I.r]?=some (some (bA "Running" (rF I F.bu F.wd))):=(fr2 I.r (by omega) (by omega)).trans S.hr
 have c3':aK tu (aa (aj 0) (aa (cg "Running" "boxes" (aj 3)) ao)) (E mu2)=some (.own (.lst ps),E mu2):=bh (ls:=[.sh P,.sh (.ptr I.b)]) (ρ1:=E mu2) (aC rfl (aC (dj rfl rfl hr3 rfl) rfl)) rfl rfl rfl (KR (by rw [H.su.names,nm]) (by rw [nm]; exact H.g.nd) (by rw [ln]; exact H.g.l8) ((fr2 I.b (by omega) (by omega)).trans hb) hc.len)
 rw [hc.nums H.fi] at c3'
 exact ⟨mu2,bf (ρ:=E mu2) (aB s1 (cD (kY (ls:=[.sh (.str F.wd),.own (.lst (jg F.ms)),.own (.lst (aR F.B))]) (aC (dj rfl rfl S.hr rfl) (aC c2' (aC c3' rfl))) rfl rfl)))⟩
theorem Vd {es:List qp} {k:Nat}:bj mu (k+3) (evs es)=evs es:=by
 show PV.lst ((es.map qp.pv).map (bj mu (k+2)))=_
 rw [aaY]
 exact congrArg PV.lst (aaP fun e _=>rfl)
theorem MO.res {k:Nat}:∀ {lo:Nat} {M:List PV} {ms:List cY},MO mu lo M ms->M.map (bj mu (k+5))=ms.map cY.pv
 | lo,M,[],h=>by have h:M=[]:=h; subst h; rfl
 | lo,M,m::ms,⟨c,rest,e,h1,h2,h⟩=>by
  subst e
  refine c2 ?_ h.res
  show PV.tup [.int m.1,.int m.2.1,bj mu (k+4) (.ptr c)]=_
  rw [Cr h2,Vd]
  rfl
theorem Oi (H:Pr D B rs bu F):∃ mu' n M,rN [(jB D rs).pv,.lst (aR B),.int bu] mu=some (.sh (.ptr n),mu')/\mu'[n]?=some (some (.lst M))/\MO mu' n M F.ms/\mu.length<=n/\∀ c,c<mu.length->mu'[c]?=mu[c]?:=by
 let P:PV:=(jB D rs).pv
 obtain ⟨mu1,I,N,hd,eg,⟨M,S,Mo⟩,hI,fr⟩:=Jm (mu:=mu) H
 have l1:=S.l1
 have l2:=S.l2
 have l3:=S.l3
 have l4:=S.l4
 have l5:=S.l5
 have l6:=S.l6
 let E:=fun mu=>(⟨[zS P,zL (aR B),zI bu],mu⟩:Ev)
 have lowMO:∀ {lo lo':Nat} {M:List PV} {ms:List cY},lo'<=lo->MO mu1 lo M ms->MO mu1 lo' M ms:=fun {lo lo' M ms} h q=>by
  cases ms with
  | nil=>exact q
  | cons m ms=>
   obtain ⟨c,rest,e,h1,h2,h3⟩:=q
   exact ⟨c,rest,e,by omega,h2,h3⟩
 exact ⟨mu1,I.m,M,bf (ρ:=E mu1) (cD (dj (x:=.sh (.ptr I.r)) (bh (ls:=[.sh P,.sh (.lst (aR B)),.sh (.int bu)]) (ρ1:=E mu) rfl rfl rfl rfl eg) rfl S.hr rfl)),S.hm,lowMO (abA l6) Mo,by omega,fr⟩
end
mutual
def nice:PV->Bool
 | .int _=>true
 | .str _=>true
 | .tup ps=>KY ps
 | .lst ps=>KY ps
 | _=>false
def KY:List PV->Bool
 | []=>true
 | p::ps=>nice p&&KY ps
end
mutual
def dpN:PV->Nat
 | .tup ps=>Q6 ps+1
 | .lst ps=>Q6 ps+1
 | _=>1
def Q6:List PV->Nat
 | []=>0
 | p::ps=>max (dpN p) (Q6 ps)
end
abbrev Hk (n:Nat):List PV:=(List.range n).map fun i=>.int (i:Nat)
def jC:Nat->PV->Prop
 | 0,_=>False
 | _+1,.int _=>True
 | _+1,.str _=>True
 | n+1,.tup ps=>ps.length<=90000/\∀ p∈ps,jC n p
 | n+1,.lst ps=>ps.length<=90000/\∀ p∈ps,jC n p
 | _+1,_=>False
theorem Ay:∀ ws:List PV,boolsOf (ws.map fun _=>PV.bl true)=some (ws.map fun _=>true)
 | []=>rfl
 | w::ws=>by
  show (boolsOf (ws.map fun _=>PV.bl true)).map _=_
  rw [Ay ws]
  rfl
theorem Hl:∀ ws:List PV,(ws.map fun _=>true).all id=true
 | []=>rfl
 | w::ws=>Hl ws
theorem xW {f g:EF} {E:Ev} {b:Bool} (hf:f E=some (.sh (.bl true),E)) (hg:g E=some (.sh (.bl b),E)):jq f g E=some (.sh (.bl b),E):=by
 unfold jq
 rw [hf,aaa]
 exact hg
theorem Oj {f:EF} {ρ ρ1:Ev} {n:Nat} (h:f ρ=some (.sh (.int (n:Nat)),ρ1)) (hn:n<=9000000):iI (aa f ao) ρ=some (Hk n,ρ1):=by
 unfold iI
 rw [aC (ls:=[]) h rfl,aaa]
 show (if _ then _ else _)=_
 rw [ab7 (by omega),show yL 0 ((n:Nat):Int).toNat=Hk n from by unfold yL; rw [abW]; exact aaP fun i _=>by rw [Int.zero_add]]
theorem DG {n:Nat} {X:PV} {ps:List PV} {mu:Mu} (k:Bool) (hX:X=vK k ps) (hl:ps.length<=90000) (ih:∀ p∈ps,∀ mu:Mu,cB n [p,p] mu=some (.sh (.bl true),mu)):cB (n+1) [X,X] mu=some (.sh (.bl true),mu):=by
 let E:Ev:=⟨[zS X,zS X],mu⟩
 have t1:tT (QC ["list", "tuple"] (aj 1)) gn E=some (true,E):=by
  subst hX
  cases k<;>exact fM (l:=.sh (.bl true)) rfl rfl rfl
 have t2:m6 (tT (aA yq (jt "list" (aj 0)) (jt "list" (aj 1))) bB) (tT (aA yq (jt "tuple" (aj 0)) (jt "tuple" (aj 1))) bB) E=some (false,E):=by
  subst hX
  cases k<;>exact Ka (b:=false) (b2:=false) (fM (l:=.sh (.bl false)) rfl rfl rfl) (fM (l:=.sh (.bl false)) rfl rfl rfl)
 have ln:∀ i:Nat,i<2->eB gR (aa (aj i) ao) E=some (.sh (.int (ps.length:Nat)),E):=fun i hi=>by
  subst hX
  match i,hi with
  | 0,_=>cases k<;>rfl
  | 1,_=>cases k<;>rfl
 have e1:aA eqP (eB gR (aa (aj 0) ao)) (eB gR (aa (aj 1) ao)) E=some (.sh (.bl true),E):=cO (ln 0 (by decide)) rfl (ln 1 (by decide)) rfl (by show some (Lc.sh (.bl (((ps.length:Nat):Int)==((ps.length:Nat):Int))))=_; rw [ace])
 have ix:∀ (i:Nat) (p:PV),ps[i]?=some p->yr X (.int (i:Nat))=zS p:=fun i p hp=>by
  subst hX
  cases k
  . show (gM ps (i:Nat)).map _=_
    rw [Ce hp]
    rfl
  . show (gM ps (i:Nat)).map _=_
    rw [Ce hp]
    rfl
 have np:∀ m,X≠.ptr m:=fun m h=>by
  subst hX
  cases k<;>cases h
 have ec:=kW (b:=aG 0) (te:=aK (cB n) (aa (bx (aj 1) (aj 0)) (aa (bx (aj 2) (aj 0)) ao))) (mu:=mu) (fun ρ=>∃ o,ρ=⟨[o,zS X,zS X],mu⟩) (fun ρ ⟨o,e⟩=>by rw [e]) (fun _=>.bl true) (xs:=Hk ps.length) (ρ:=⟨[none,zS X,zS X],mu⟩) ⟨none,rfl⟩ (by rw [aad,abX]; omega) (by
  rintro p hp ρ ⟨o,rfl⟩
  obtain ⟨i,hi,rfl⟩:=aaD.mp hp
  have hi:=List.mem_range.mp hi
  have hp:=aaC hi
  refine ⟨⟨[zI (i:Nat),zS X,zS X],mu⟩,rfl,.sh (.bl true),⟨[zI (i:Nat),zS X,zS X],mu⟩,bh (ls:=[.sh ps[i],.sh ps[i]]) (ρ1:=⟨[zI (i:Nat),zS X,zS X],mu⟩) (aC (oX (l:=.sh X) (m:=.sh (.int (i:Nat))) rfl rfl rfl rfl np (ix i _ hp)) (aC (oX (l:=.sh X) (m:=.sh (.int (i:Nat))) rfl rfl rfl rfl np (ix i _ hp)) rfl)) rfl rfl rfl (ih _ (List.getElem_mem hi) mu),rfl,_,rfl⟩) (by
  rintro p hp ρ ρ1 ⟨o,rfl⟩ e
  cases e
  exact ⟨_,rfl⟩)
 have e2:eO (iI (aa (eB gR (aa (aj 1) ao)) ao)) 1 [0,1] (aG 0) dq (aK (cB n) (aa (bx (aj 1) (aj 0)) (aa (bx (aj 2) (aj 0)) ao))) E=some (.own (.lst ((Hk ps.length).map fun _=>.bl true)),E):=je (f:=iI (aa (eB gR (aa (aj 1) ao)) ao)) (m:=1) (ixs:=[0,1]) (ρ:=E) (ρ1:=E) (xs:=Hk ps.length) (Oj (ln 1 (by decide)) (by omega)) ec
 have e3:eB all1 (aa (eO (iI (aa (eB gR (aa (aj 1) ao)) ao)) 1 [0,1] (aG 0) dq (aK (cB n) (aa (bx (aj 1) (aj 0)) (aa (bx (aj 2) (aj 0)) ao)))) ao) E=some (.sh (.bl true),E):=uZ (ls:=[.own (.lst ((Hk ps.length).map fun _=>.bl true))]) (aC e2 rfl) rfl (by show (boolsOf ((Hk ps.length).map fun _=>PV.bl true)).map _=_; rw [Ay,abz,Hl])
 exact bf (ρ:=E) (gh ((dI t1).trans (aB (ρ':=E) ((bR t2).trans rfl) (cD (xW e1 e3)))))
theorem nU:∀ {n:Nat} {X:PV},jC n X->∀ mu:Mu,cB n [X,X] mu=some (.sh (.bl true),mu)
 | n+1,.int i,_,mu=>by
  let E:Ev:=⟨[zI i,zI i],mu⟩
  have e:aA eqP (aj 0) (aj 1) E=some (.sh (.bl true),E):=cO rfl rfl rfl rfl (by show some (Lc.sh (.bl (i==i)))=_; rw [ace])
  have nb:wj (jt "bool" (aj 0)) E=some (.sh (.bl true),E):=by
   unfold wj
   rw [show jt "bool" (aj 0) E=some (.sh (.bl false),E) from sU (p:=.int i) rfl rfl rfl,aaa]
   rfl
  exact bf (ρ:=E) (aB (ρ':=E) ((bR (fM (l:=.sh (.bl false)) rfl rfl rfl)).trans rfl) (aB (ρ':=E) ((bR (fM (l:=.sh (.bl false)) rfl rfl rfl)).trans rfl) (aB (ρ':=E) ((bR (fM (l:=.sh (.bl false)) rfl rfl rfl)).trans rfl) (cD (xW (sU (p:=.int i) rfl rfl rfl) (xW nb e))))))
 | n+1,.str x,_,mu=>by
  let E:Ev:=⟨[zT x,zT x],mu⟩
  have e:aA eqP (aj 0) (aj 1) E=some (.sh (.bl true),E):=cO rfl rfl rfl rfl (by show some (Lc.sh (.bl (x==x)))=_; rw [ace])
  exact bf (ρ:=E) (aB (ρ':=E) ((bR (fM (l:=.sh (.bl false)) rfl rfl rfl)).trans rfl) (gh ((dI (fM (l:=.sh (.bl true)) rfl rfl rfl)).trans (cD (xW (sU (p:=.str x) rfl rfl rfl) e)))))
 | n+1,.tup ps,h,mu=>DG false rfl h.1 fun p hp mu=>nU (h.2 p hp) mu
 | n+1,.lst ps,h,mu=>DG true rfl h.1 fun p hp mu=>nU (h.2 p hp) mu
theorem jC.up:∀ {n m:Nat} {X:PV},n<=m->jC n X->jC m X
 | 0,_,_,_,h=>h.elim
 | n+1,m+1,.int _,_,_=>trivial
 | n+1,m+1,.str _,_,_=>trivial
 | n+1,m+1,.tup ps,hm,h=>⟨h.1,fun p hp=>(h.2 p hp).up (by omega)⟩
 | n+1,m+1,.lst ps,hm,h=>⟨h.1,fun p hp=>(h.2 p hp).up (by omega)⟩
 | n+1,0,_,hm,_=>by omega
theorem Q7 {B:Bs} (hB:BG B):jC 3 (.lst (aR B)):=by
 have h8:=hB.l8
 refine ⟨by rw [aad]; omega,fun p hp=>?_⟩
 obtain ⟨q,hq,rfl⟩:=aaD.mp hp
 cases hv:q.2 with
 | n i=>exact trivial
 | l is=>
  have:=hB.ok.sm q hq is hv
  refine ⟨by rw [aad]; omega,fun p hp=>?_⟩
  obtain ⟨i,_,rfl⟩:=aaD.mp hp
  exact trivial
theorem DK:∀ {ms:List cY} {p:PV},p∈jg ms->jC 2 p
 | m::ms,p,h=>by
  rcases aaF.mp (show p∈m.2.2.map (qe m.1)++jg ms from h) with h | h
  . obtain ⟨e,_,rfl⟩:=aaD.mp h
    refine ⟨by show (4:Nat)<=90000; decide,fun p hp=>?_⟩
    simp only [aao,aaV,or_false] at hp
    rcases hp with rfl | rfl | rfl | rfl<;>exact trivial
  . exact DK h
theorem Q8 {m:cY} (h:m.2.2.length<=1):jC 4 m.pv:=by
 refine ⟨by show (3:Nat)<=90000; decide,fun p hp=>?_⟩
 simp only [aao,aaV,or_false] at hp
 rcases hp with rfl | rfl | rfl
 . exact trivial
 . exact trivial
 . refine ⟨by rw [aad]; omega,fun p hp=>?_⟩
   obtain ⟨e,_,rfl⟩:=aaD.mp hp
   refine ⟨by show (3:Nat)<=90000; decide,fun p hp=>?_⟩
   simp only [aao,aaV,or_false] at hp
   rcases hp with rfl | rfl | rfl<;>exact trivial
section
variable {rs:Rows} {B:Bs} {D:List (Str×Int)} {bu:Int} {F:LS}
theorem Q9 (H:Pr D B rs bu F):jC 40 (lK F):=by
 have ne:=H.nev
 refine ⟨by show (3:Nat)<=90000; decide,fun p hp=>?_⟩
 simp only [aao,aaV,or_false] at hp
 rcases hp with rfl | rfl | rfl
 . exact trivial
 . exact ⟨by rw [Hj]; omega,fun p hp=>(DK hp).up (by decide)⟩
 . exact (Q7 H.fg).up (by decide)
theorem Ol (H:Pr D B rs bu F):jC 40 (.lst (F.ms.map cY.pv)):=by
 have:=H.fl
 refine ⟨by rw [aad]; omega,fun p hp=>?_⟩
 obtain ⟨m,hm,rfl⟩:=aaD.mp hp
 exact (Q8 (H.fe m hm)).up (by decide)
end
def Om (a b c:Str) (i:Int):Str:=if i=0 then a else if i=1 then b else c
def Ra (a b c:Str) (C:Int):Sh:=⟨C%4,Om a b c (C/4%3),C/12%1000003,C/12%5⟩
section
variable {a b c t n:Str} {mu:Mu}
theorem Ve {C:Int}:(Ra a b c C).ok [a,b,c,t,n]:=by
 refine ⟨aaO _ (by decide),aaH _ (by decide),?_,aaO _ (by decide),aaH _ (by decide),aaO _ (by decide),aaH _ (by decide)⟩
 show Om a b c (C/4%3)∈_
 unfold Om
 split
 . simp
 . split<;>simp
theorem Jr {d:DF} {ρ ρ1:Ev} {zs:List (Lc×Lc)} {l:PD} {p:PV} (h:d ρ=some (zs,ρ1)) (hk:keysOf zs=some l) (hl:l.length<=15) (e:dN (jy l [])=p):xH d ρ=some (.own p,ρ1):=by
 unfold xH
 rw [h,aaa,hk,aaa,ab7 hl,e]
theorem Rb {C:Int}:lD [.int C,NM a b c t n] mu=some (.own (Ra a b c C).pv,mu):=by
 let E:Ev:=⟨[zI C,zS (NM a b c t n)],mu⟩
 have m1:aA cF (aj 0) (eC (.int 4)) E=some (.sh (.int (C%4)),E):=cO rfl rfl rfl rfl (di (by decide))
 have d:∀ q:Int,0<q->q<1073741824->aA m9 (aj 0) (eC (.int q)) E=some (.sh (.int (C/q)),E):=fun q h h2=>cO rfl rfl rfl rfl (Mz h h2)
 have dm:∀ q r:Int,0<q->q<1073741824->0<r->aA cF (aA m9 (aj 0) (eC (.int q))) (eC (.int r)) E=some (.sh (.int (C/q%r)),E):=fun q r h h2 h3=>cO (d q h h2) rfl rfl rfl (di h3)
 have m2:bx (aj 1) (aA cF (aA m9 (aj 0) (eC (.int 4))) (eC (.int 3))) E=some (.sh (.str (Om a b c (C/4%3))),E):=by
  refine oX (l:=.sh (NM a b c t n)) rfl rfl (dm 4 3 (by decide) (by decide) (by decide)) rfl (fun n h=>by cases h) ?_
  have h0:=aaO (C/4) (b:=3) (by decide)
  have h1:=aaH (C/4) (b:=3) (by decide)
  obtain ⟨i,hi⟩:∃ i,C/4%3=i:=⟨_,rfl⟩
  rw [hi] at h0 h1 ⊢
  rcases (show i=0\/i=1\/i=2 by omega) with rfl | rfl | rfl<;>rfl
 have q:fU (eC (.str "way")) (aA cF (aj 0) (eC (.int 4))) (fU (eC (.str "counter")) (bx (aj 1) (aA cF (aA m9 (aj 0) (eC (.int 4))) (eC (.int 3)))) (fU (eC (.str "step")) (aA cF (aA m9 (aj 0) (eC (.int 12))) (eC (.int 1000003))) (fU (eC (.str "many")) (aA cF (aA m9 (aj 0) (eC (.int 12))) (eC (.int 5))) Br))) E=some ([(.sh (.str "way"),.sh (.int (C%4))),(.sh (.str "counter"),.sh (.str (Om a b c (C/4%3)))),(.sh (.str "step"),.sh (.int (C/12%1000003))),(.sh (.str "many"),.sh (.int (C/12%5)))],E):=lF rfl m1 (lF rfl m2 (lF rfl (dm 12 1000003 (by decide) (by decide) (by decide)) (lF rfl (dm 12 5 (by decide) (by decide) (by decide)) rfl)))
 exact bf (ρ:=E) (cD (Jr q rfl (show (4:Nat)<=15 from by decide) rfl))
theorem KZ {h:Sh} {f:EF} {ρ ρ1:Ev} (h0:0<=h.way) (h1:h.way<4) (hf:f ρ=some (.sh (.int h.way),ρ1)):bF (aV (aa (eC (.int 3)) (aa (eC (.int 3)) (aa (eC (.int 6)) (aa (eC (.int 1)) ao))))) f ρ=some (.sh (.int ((h.sz:Nat):Int)),ρ1):=by
 refine xQ (p:=.lst [.int 3,.int 3,.int 6,.int 1]) rfl rfl hf rfl uB ?_
 unfold Sh.sz
 obtain ⟨w,hw⟩:∃ w,h.way=w:=⟨_,rfl⟩
 rw [hw] at h0 h1 ⊢
 rcases (show w=0\/w=1\/w=2\/w=3 by omega) with rfl | rfl | rfl | rfl<;>rfl
def fC:List Sh->Nat
 | []=>0
 | h::hs=>h.sz+fC hs
theorem Cu:∀ {hs:List Sh} {h:Sh},fC (hs++[h])=fC hs+h.sz
 | [],h=>by show h.sz+0=0+h.sz; omega
 | g::hs,h=>by show g.sz+fC (hs++[h])=g.sz+fC hs+h.sz; rw [Cu]; omega
theorem XM {h:Sh}:1<=h.sz:=by unfold Sh.sz; split<;>(try split)<;>decide
theorem xX:∀ {hs:List Sh},hs.length<=fC hs
 | []=>aaf _
 | h::hs=>by
  have:=xX (hs:=hs)
  have:=XM (h:=h)
  show hs.length+1<=h.sz+fC hs
  omega
abbrev Ze:SF:=aF (aO 6 (aK lD (aa (aK eY (aa (aj 0) (aa (aA cN (eC (.int 6)) (aj 5)) ao))) (aa (aj 2) ao))))
 (cG (tT (aA RG (aj 4) (bF (aV (aa (eC (.int 3)) (aa (eC (.int 3)) (aa (eC (.int 6)) (aa (eC (.int 1)) ao))))) (bF (aj 6) (eC (.str "way"))))) bB)
 (aF (aO 4 (aA m8 (aj 4) (bF (aV (aa (eC (.int 3)) (aa (eC (.int 3)) (aa (eC (.int 6)) (aa (eC (.int 1)) ao))))) (bF (aj 6) (eC (.str "way"))))))
 (j0 3 (aj 6)))
 bN)
abbrev HE (S:PV) (T:Int) (N:PV) (hs:List Sh) (r:Int) (l5 l6:Option Lc) (mu:Mu):Ev:=⟨[zS S,zI T,zS N,zO (hs.map Sh.pv),zI r,l5,l6],mu⟩
theorem Cv {ns:List Int} (hn:ns.length<=63) {T:Int}:∀ (m i:Nat) (hs:List Sh) (l5 l6:Option Lc),i+m<=100->fC hs<=40->(∀ h∈hs,h.ok [a,b,c,t,n])->∃ hs' p5 p6,fD (aG 5) Ze ((List.range' i m).map fun (k:Nat)=>PV.int (k:Nat)) (HE (.lst (ns.map .int)) T (NM a b c t n) hs (40-(fC hs:Nat)) l5 l6 mu)=some (.nx (HE (.lst (ns.map .int)) T (NM a b c t n) hs' (40-(fC hs':Nat)) p5 p6 mu))/\fC hs'<=40/\∀ h∈hs',h.ok [a,b,c,t,n]
 | 0,i,hs,l5,l6,_,hz,ok=>⟨hs,l5,l6,rfl,hz,ok⟩
 | m+1,i,hs,l5,l6,hi,hz,ok=>by
  obtain ⟨C,_,_,ec⟩:=cell_eq (ns:=ns) (k:=6+(i:Nat)) hn (by omega) (by omega)
  let h:=Ra a b c C
  let S:PV:=.lst (ns.map .int)
  have hk:h.ok [a,b,c,t,n]:=Ve
  let I5:Option Lc:=zI (i:Nat)
  let E:=fun hs r l6=>HE S T (NM a b c t n) hs r I5 l6 mu
  have s6:aO 6 (aK lD (aa (aK eY (aa (aj 0) (aa (aA cN (eC (.int 6)) (aj 5)) ao))) (aa (aj 2) ao))) (E hs (40-(fC hs:Nat)) l6)=some (.nx (E hs (40-(fC hs:Nat)) (some (.own h.pv)))):=cH (bh (ls:=[.sh (.int C),.sh (NM a b c t n)]) (ρ1:=E hs (40-(fC hs:Nat)) l6) (aC (bh (ls:=[.sh S,.sh (.int (6+(i:Nat)))]) (ρ1:=E hs (40-(fC hs:Nat)) l6) rfl rfl rfl rfl (ec mu)) (aC rfl rfl)) rfl rfl rfl Rb) rfl rfl
  have w1:bF (aj 6) (eC (.str "way")) (E hs (40-(fC hs:Nat)) (some (.own h.pv)))=some (.sh (.int h.way),E hs (40-(fC hs:Nat)) (zS h.pv)):=oN (x:=.sh h.pv) (y:=.sh (.str "way")) rfl rfl (.inl ⟨_,_,rfl,rfl⟩) rfl rfl
  have w2:bF (aj 6) (eC (.str "way")) (E hs (40-(fC hs:Nat)) (zS h.pv))=some (.sh (.int h.way),E hs (40-(fC hs:Nat)) (zS h.pv)):=oN (x:=.sh h.pv) (y:=.sh (.str "way")) rfl rfl (.inl ⟨_,_,rfl,rfl⟩) rfl rfl
  have tt:tT (aA RG (aj 4) (bF (aV (aa (eC (.int 3)) (aa (eC (.int 3)) (aa (eC (.int 6)) (aa (eC (.int 1)) ao))))) (bF (aj 6) (eC (.str "way"))))) bB (E hs (40-(fC hs:Nat)) (some (.own h.pv)))=some (decide ((h.sz:Int)<=40-(fC hs:Nat)),E hs (40-(fC hs:Nat)) (zS h.pv)):=fM (l:=.sh (.bl (decide ((h.sz:Int)<=40-(fC hs:Nat))))) (cO rfl rfl (KZ hk.w0 hk.w1 w1) rfl rfl) rfl rfl
  show ∃ hs' p5 p6,fD (aG 5) Ze (PV.int (i:Nat)::(List.range' (i+1) m).map fun (k:Nat)=>PV.int (k:Nat)) _=_/\_
  by_cases hc:(h.sz:Int)<=40-(fC hs:Nat)
  . have e1:(40-(fC hs:Nat)-(h.sz:Nat):Int)=40-(fC (hs++[h]):Nat):=by rw [Cu]; omega
    obtain ⟨hs',p5,p6,el,z',ok'⟩:=Cv hn (T:=T) m (i+1) (hs++[h]) I5 (zS h.pv) (by omega) (by rw [Cu]; omega) (fun x hx=>by
     rcases aaF.mp hx with q | q
     . exact ok x q
     . rw [aa4.mp q]; exact hk)
    have hl:=xX (hs:=hs)
    refine ⟨hs',p5,p6,fY (ρ1:=E hs (40-(fC hs:Nat)) l6) rfl (aB s6 ((dI (tt.trans (by rw [acb hc]))).trans (aB (ρ':=E hs (40-(fC (hs++[h]):Nat)) (zS h.pv)) (cH (cO (l:=.sh (.int (40-(fC hs:Nat)))) rfl rfl (KZ hk.w0 hk.w1 w2) rfl rfl) rfl ?_) (wI (ws0:=hs.map Sh.pv) (ws:=hs.map Sh.pv) (l:=.sh h.pv) (ρ1:=E hs (40-(fC (hs++[h]):Nat)) (zS h.pv)) rfl rfl rfl rfl (by rw [aad]; omega) ?_)))) el,z',ok'⟩
    . rw [← e1]
      rfl
    . show (⟨[_,_,_,zO (hs.map Sh.pv++[h.pv]),_,_,_],mu⟩:Ev)=⟨[_,_,_,zO ((hs++[h]).map Sh.pv),_,_,_],mu⟩
      rw [aaz]
      rfl
  . obtain ⟨hs',p5,p6,el,z',ok'⟩:=Cv hn (T:=T) m (i+1) hs I5 (zS h.pv) (by omega) hz ok
    exact ⟨hs',p5,p6,fY (ρ1:=E hs (40-(fC hs:Nat)) l6) rfl (aB s6 ((bR (tt.trans (by rw [aca hc]))).trans rfl)) el,z',ok'⟩
end
theorem Vf {m:Nat} {g:SF} {ps:List PV} {mu mu':Mu} {r:Lc} (h:∃ ρ:Ev,g (env0 m ps mu)=some (.rt r ρ)/\ρ.mu=mu'):cA m g ps mu=some (r,mu'):=by
 obtain ⟨ρ,h,e⟩:=h
 subst e
 exact bf h
section
variable {a b c t n:Str} {mu:Mu}
theorem Oo {ns:List Int} (hn:ns.length<=63) {T:Int} (h0:0<=T) (h1:T<=40):∃ hs,my [.lst (ns.map .int),.int T,NM a b c t n] mu=some (.own (.lst (hs.map Sh.pv)),mu)/\fC hs<=40/\∀ h∈hs,h.ok [a,b,c,t,n]:=by
 obtain ⟨m,hm⟩:∃ m:Nat,T=(m:Nat):=⟨T.toNat,by omega⟩
 subst hm
 let S:PV:=.lst (ns.map .int)
 obtain ⟨hs,p5,p6,el,hz,ok⟩:=Cv (mu:=mu) (a:=a) (b:=b) (c:=c) (t:=t) (n:=n) hn (T:=(m:Nat)) m 0 [] none none (by omega) (aa3 _) (fun h hh=>by cases hh)
 refine ⟨hs,bf (ρ:=⟨[zS S,zI (m:Nat),zS (NM a b c t n),none,zI (40-(fC hs:Nat)),p5,p6],mu⟩) (aB (ρ':=⟨[zS S,zI (m:Nat),zS (NM a b c t n),zO [],none,none,none],mu⟩) rfl (aB (ρ':=HE S (m:Nat) (NM a b c t n) [] 40 none none mu) rfl (aB (jQ (xs:=(List.range' 0 m).map fun (k:Nat)=>PV.int (k:Nat)) (ρ1:=HE S (m:Nat) (NM a b c t n) [] 40 none none mu) ?_ el) rfl))),hz,ok⟩
 have q:=Oj (f:=aj 1) (ρ:=HE S (m:Nat) (NM a b c t n) [] 40 none none mu) (n:=m) rfl (by omega)
 rw [← List.range_eq_range']
 exact q
abbrev RW (h:Sh) (N:PV) (l2 l3 l4 l5 l6:Option Lc) (mu:Mu):Ev:=⟨[zS h.pv,zS N,l2,l3,l4,l5,l6],mu⟩
theorem Vg {h:Sh}:jA [h.pv,NM a b c t n] mu=some (.own (.lst [(lH h t n).pv]),mu):=by
 let E:=fun l5 l6=>RW h (NM a b c t n) (zT h.c) (zT t) (zT n) l5 l6 mu
 have at_:∀ {k:Str} {p:PV} {vs:List (Option Lc)},b8 (kH.zip [.int h.way,.str h.c,.int h.step,.int h.many]) (.inr k)=some p->bF (aj 0) (eC (.str k)) ⟨zS h.pv::vs,mu⟩=some (.sh p,⟨zS h.pv::vs,mu⟩):=fun hv=>oN (x:=.sh h.pv) (y:=.sh (.str _)) rfl rfl (.inl ⟨_,_,rfl,rfl⟩) rfl hv
 have s2:aO 2 (bF (aj 0) (eC (.str "counter"))) (RW h (NM a b c t n) none none none none none mu)=some (.nx (RW h (NM a b c t n) (zT h.c) none none none none mu)):=cH (at_ rfl) rfl rfl
 have tw:∀ (k:Int) l5 l6,tT (aA dO (bF (aj 0) (eC (.str "way"))) (eC (.int k))) bB (E l5 l6)=some (decide (h.way=k),E l5 l6):=fun k l5 l6=>GR (at_ rfl)
 have am:∀ l5 l6,bF (aj 0) (eC (.str "many")) (E l5 l6)=some (.sh (.int h.many),E l5 l6):=fun l5 l6=>at_ rfl
 have as:∀ l5 l6,bF (aj 0) (eC (.str "step")) (E l5 l6)=some (.sh (.int h.step),E l5 l6):=fun l5 l6=>at_ rfl
 have T1:∀ {f g:EF} {p q:PV} {ρ:Ev},f ρ=some (.sh p,ρ)->g ρ=some (.sh q,ρ)->aQ (aa f (aa g ao)) ρ=some (.sh (.tup [p,q]),ρ):=fun hf hg=>kY (ls:=[.sh _,.sh _]) (aC hf (aC hg rfl)) rfl rfl
 have T3:∀ {f g k:EF} {p q r:PV} {ρ:Ev},f ρ=some (.sh p,ρ)->g ρ=some (.sh q,ρ)->k ρ=some (.sh r,ρ)->aQ (aa f (aa g (aa k ao))) ρ=some (.sh (.tup [p,q,r]),ρ):=fun hf hg hk=>kY (ls:=[.sh _,.sh _,.sh _]) (aC hf (aC hg (aC hk rfl))) rfl rfl
 refine Vf ?_
 unfold lH uF
 by_cases h3:h.way=3
 . rw [ab7 h3]
   refine ⟨E none none,aB s2 (aB (ρ':=RW h (NM a b c t n) (zT h.c) (zT t) none none none mu) rfl (aB (ρ':=E none none) rfl (gh ((dI ((tw 3 none none).trans (by rw [acb h3]))).trans (cD (wH (ls:=[.sh (.tup [.str "while",(gE h).pv,.lst []])]) (aC (kY (ls:=[.sh (.str "while"),.sh (gE h).pv,.own (.lst [])]) (aC rfl (aC ?_ (aC rfl rfl))) rfl rfl) rfl) rfl rfl)))))),rfl⟩
   unfold gE
   rw [ab7 h3]
   exact T3 rfl (T1 rfl (am none none)) (T1 rfl rfl)
 . rw [ab8 h3]
   let b1:PV:=iC h.c (dE h.c)
   let b2:PV:=iC t (tE t h)
   let b3:PV:=iC n (.num h.many)
   let b4:PV:=.tup [.str "while",(iE n).pv,.lst [iC n (dE n)]]
   have hd:cG (tT (aA dO (bF (aj 0) (eC (.str "way"))) (eC (.int 3))) bB) (bO (aV (aa (aQ (aa (eC (.str "while")) (aa (aQ (aa (eC (.str "<")) (aa (aQ (aa (eC (.str "num")) (aa (bF (aj 0) (eC (.str "many"))) ao))) (aa (aQ (aa (eC (.str "box")) (aa (aj 2) ao))) ao)))) (aa (aV ao) ao)))) ao))) bN (E none none)=some (.nx (E none none)):=(bR ((tw 3 none none).trans (by rw [aca h3]))).trans rfl
   have s5:j0 5 (aQ (aa (eC (.str "set")) (aa (aj 3) (aa (aQ (aa (eC (.str "+")) (aa (aQ (aa (eC (.str "*")) (aa (aQ (aa (eC (.str "box")) (aa (aj 3) ao))) (aa (aQ (aa (eC (.str "num")) (aa (eC (.int 3)) ao))) ao)))) (aa (aQ (aa (eC (.str "num")) (aa (bF (aj 0) (eC (.str "step"))) ao))) ao)))) ao)))) (E (some (.own (.lst [b1]))) none)=some (.nx (E (some (.own (.lst [b1,b2]))) none)):=wI (ws0:=[b1]) (ws:=[b1]) (l:=.sh b2) (ρ1:=E (some (.own (.lst [b1]))) none) rfl (T3 rfl rfl (T3 rfl rfl (T1 rfl (as _ _)))) rfl rfl (show (1:Nat)<100000 from by decide) rfl
   have gw:(gE h).pv=.tup [.str "box",.str h.c]:=by unfold gE; rw [ab8 h3]; rfl
   have fin:∀ (bs:List PV) l6,bO (aV (aa (aQ (aa (eC (.str "while")) (aa (aQ (aa (eC (.str "box")) (aa (aj 2) ao))) (aa (aj 5) ao)))) ao)) (E (zO bs) l6)=some (.rt (.own (.lst [.tup [.str "while",(gE h).pv,.lst bs]])) (E (zL bs) l6)):=fun bs l6=>by
    rw [gw]
    rfl
   by_cases h2:h.way=2
   . rw [ab7 h2]
     have s6:j0 5 (aQ (aa (eC (.str "set")) (aa (aj 4) (aa (aQ (aa (eC (.str "num")) (aa (bF (aj 0) (eC (.str "many"))) ao))) ao)))) (E (some (.own (.lst [b1,b2]))) none)=some (.nx (E (some (.own (.lst [b1,b2,b3]))) none)):=wI (ws0:=[b1,b2]) (ws:=[b1,b2]) (l:=.sh b3) (ρ1:=E (some (.own (.lst [b1,b2]))) none) rfl (T3 rfl rfl (T1 rfl (am _ _))) rfl rfl (show (2:Nat)<100000 from by decide) rfl
     have s8:j0 5 (aQ (aa (eC (.str "while")) (aa (aQ (aa (eC (.str "<")) (aa (aQ (aa (eC (.str "num")) (aa (eC (.int 0)) ao))) (aa (aQ (aa (eC (.str "box")) (aa (aj 4) ao))) ao)))) (aa (aV (aa (aj 6) ao)) ao)))) (E (some (.own (.lst [b1,b2,b3]))) (zS (iC n (dE n))))=some (.nx (E (some (.own (.lst [b1,b2,b3,b4]))) (zS (iC n (dE n))))):=rfl
     exact ⟨_,aB s2 (aB (ρ':=RW h (NM a b c t n) (zT h.c) (zT t) none none none mu) rfl (aB (ρ':=E none none) rfl (aB hd (aB (ρ':=E (some (.own (.lst [b1]))) none) rfl (aB s5 (aB (ρ':=E (some (.own (.lst [b1,b2,b3,b4]))) (zS (iC n (dE n)))) ((dI ((tw 2 _ none).trans (by rw [acb h2]))).trans (aB s6 (aB (ρ':=E (some (.own (.lst [b1,b2,b3]))) (zS (iC n (dE n)))) rfl s8))) (fin [b1,b2,b3,b4] _))))))),rfl⟩
   . rw [ab8 h2]
     exact ⟨_,aB s2 (aB (ρ':=RW h (NM a b c t n) (zT h.c) (zT t) none none none mu) rfl (aB (ρ':=E none none) rfl (aB hd (aB (ρ':=E (some (.own (.lst [b1]))) none) rfl (aB s5 (aB (ρ':=E (some (.own (.lst [b1,b2]))) none) ((bR ((tw 2 _ none).trans (by rw [aca h2]))).trans rfl) (fin [b1,b2] _))))))),rfl⟩
end
theorem Js {x:Str}:∀ {C:Bs},x∈C.map (·.1)->∃ v,look C x=some v
 | (y,v)::C,h=>by
  by_cases e:y=x
  . exact ⟨v,by rw [pO,ab7 e]⟩
  . rcases aao.mp h with h | h
    . exact absurd h.symm e
    . obtain ⟨w,hw⟩:=Js h
      exact ⟨w,by rw [pO,ab8 e]; exact hw⟩
section
variable {P:LS->Prop} (hl:∀ k t L,P L->P (bL k t L).2) (hs:∀ k x v L,P L->P (gU k x v L))
include hl hs
theorem Jt {at_:Int} {n:Str}:∀ (f:Nat) (L:LS),P L->P (jM at_ n f L)
 | 0,L,h=>h
 | f+1,L,h=>by
  unfold jM
  split
  . split
    . exact Jt f _ (hs _ _ _ _ (hl _ _ _ h))
    . exact hl _ _ _ h
  . exact h
theorem Rc {at_:Int} {s:Sh} {t n:Str} {L:LS} (h:P L):P (gD at_ s t n L):=by
 have h2:P (jf at_ s t L):=hs _ _ _ _ (hs _ _ _ _ h)
 unfold gD
 split
 . exact Jt hl hs 6 _ (hs _ _ _ _ h2)
 . exact h2
theorem Hm {at_:Int} {s:Sh} {t n:Str}:∀ (f:Nat) (L:LS),P L->P (dJ at_ s t n f L)
 | 0,L,h=>h
 | f+1,L,h=>by
  unfold dJ
  split
  . exact h
  . split
    . refine Hm f _ ?_
      split
      . exact hl _ _ _ h
      . exact Rc hl hs (hl _ _ _ h)
    . exact hl _ _ _ h
theorem xY {t n:Str}:∀ (xs:List Sh) (k:Nat) (L:LS),P L->P (eZ t n k xs L)
 | [],k,L,h=>h
 | x::xs,k,L,h=>by
  refine xY xs (k+x.sz) _ ?_
  split
  . exact Hm hl hs 22 L h
  . exact h
end
abbrev wZ (B:Bs):Prop:=∀ q∈B,∃ i,q.2=.n i
theorem XN {B:Bs} {x:Str} {v:Int} (h:wZ B):wZ (setB B x (.n v)):=fun q hq=>by
 obtain ⟨p,hp,e⟩:=aaD.mp hq
 by_cases c:p.1=x
 . rw [ab7 c] at e; exact ⟨v,by rw [← e]⟩
 . rw [ab8 c] at e; rw [← e]; exact h p hp
theorem XQ {B:Bs} {x:Str} (h:wZ B) (hx:x∈B.map (·.1)):tG B x:=by
 obtain ⟨v,hv⟩:=Js hx
 obtain ⟨i,hi⟩:=h _ (mQ hv)
 exact ⟨i,by rw [hv,show v=.n i from hi]⟩
theorem Ju:∀ {B:Bs} {q:Str×BV},(B.map (·.1)).Nodup->q∈B->look B q.1=some q.2
 | (y,v)::B,q,nd,h=>by
  obtain ⟨hy,nd'⟩:=aaM.mp nd
  rw [pO]
  rcases aao.mp h with rfl | h
  . rw [ab7 rfl]
  . rw [ab8 fun e=>hy (by rw [show y=q.1 from e]; exact aaD.mpr ⟨q,h,rfl⟩)]
    exact Ju nd' h
theorem Vh {B:Bs} (nd:(B.map (·.1)).Nodup) (h:wZ B):(B.map (·.1)).map (fun x=>PV.int (numAt B x))=aR B:=by
 rw [aaY]
 refine aaP fun q hq=>?_
 obtain ⟨i,hi⟩:=h q hq
 show PV.int (numAt B q.1)=q.2.pv
 unfold numAt
 rw [Ju nd hq,hi]
 rfl
theorem XS {i:Int}:fl (Ex.num i).pv:=⟨rfl,Nat.le_of_ble_eq_true rfl⟩
theorem set_plain {x:Str} {e:Ex} (h:fl e.pv):(Hg x e).ok:=⟨⟨by decide +kernel,by decide +kernel,by decide +kernel⟩,G7 Xp (G7 h U4)⟩
theorem Rf {x:Str}:fl (dE x).pv:=⟨rfl,Nat.le_of_ble_eq_true rfl⟩
theorem XX {t:Str} {h:Sh}:fl (tE t h).pv:=⟨rfl,Nat.le_of_ble_eq_true rfl⟩
theorem Z4 {n:Str}:fl (iE n).pv:=⟨rfl,Nat.le_of_ble_eq_true rfl⟩
theorem Rg {h:Sh}:fl (gE h).pv:=by
 unfold gE
 split<;>exact ⟨rfl,Nat.le_of_ble_eq_true rfl⟩
theorem X3 {h:Sh} {t n:Str}:(lH h t n).ok/\(lH h t n).dep<=8:=by
 unfold lH uF
 split
 . exact ⟨⟨Rg,trivial⟩,Nat.le_of_ble_eq_true rfl⟩
 . split
   . exact ⟨⟨Rg,set_plain Rf,set_plain XX,set_plain XS,⟨Z4,set_plain Rf,trivial⟩,trivial⟩,Nat.le_of_ble_eq_true rfl⟩
   . exact ⟨⟨Rg,set_plain Rf,set_plain XX,trivial⟩,Nat.le_of_ble_eq_true rfl⟩
theorem Jv {t n:Str}:∀ hs:List Sh,(c7 t n hs).ok/\(c7 t n hs).dep<=10/\(c7 t n hs).cnt=fC hs
 | []=>⟨trivial,Nat.le_of_ble_eq_true rfl,rfl⟩
 | h::hs=>by
  obtain ⟨a,b,c⟩:=Jv (t:=t) (n:=n) hs
  obtain ⟨d,e⟩:=X3 (h:=h) (t:=t) (n:=n)
  refine ⟨⟨d,a⟩,?_,?_⟩
  . show max ((lH h t n).dep+1) (c7 t n hs).dep<=10
    omega
  . show (lH h t n).cnt+(c7 t n hs).cnt=h.sz+fC hs
    rw [Ax,c]
section
variable {a b c t n:Str} {v0 v1 v2 v3 v4:Int} {hs:List Sh} {bu:Int}
abbrev B5 (a b c t n:Str) (v0 v1 v2 v3 v4:Int):Bs:=[(a,.n v0),(b,.n v1),(c,.n v2),(t,.n v3),(n,.n v4)]
abbrev D5 (a b c t n:Str):List (Str×Int):=[(a,0),(b,0),(c,0),(t,0),(n,0)]
theorem Rh:wZ (B5 a b c t n v0 v1 v2 v3 v4):=fun q hq=>by
 simp only [aao,aaV,or_false] at hq
 rcases hq with rfl | rfl | rfl | rfl | rfl<;>exact ⟨_,rfl⟩
theorem YT (nd:[a,b,c,t,n].Nodup) (i0:In v0) (i1:In v1) (i2:In v2) (i3:In v3) (i4:In v4) (ok:∀ h∈hs,h.ok [a,b,c,t,n]) (hz:fC hs<=40) (b0:0<=bu) (b1:bu<=20):Pr (D5 a b c t n) (B5 a b c t n v0 v1 v2 v3 v4) (c7 t n hs) bu (lJ t n hs ⟨bu, "done",B5 a b c t n v0 v1 v2 v3 v4,[]⟩)/\LK [a,b,c,t,n] (⟨bu, "done",B5 a b c t n v0 v1 v2 v3 v4,[]⟩:LS)/\LK [a,b,c,t,n] (lJ t n hs ⟨bu, "done",B5 a b c t n v0 v1 v2 v3 v4,[]⟩):=by
 let B:=B5 a b c t n v0 v1 v2 v3 v4
 let L:LS:=⟨bu, "done",B,[]⟩
 have bg:BG B:=⟨⟨fun q hq=>by
  simp only [B,aao,aaV,or_false] at hq
  rcases hq with rfl | rfl | rfl | rfl | rfl
  . exact i0
  . exact i1
  . exact i2
  . exact i3
  . exact i4,fun q hq is e=>by
  obtain ⟨i,h⟩:=Rh q hq
  rw [h] at e
  cases e⟩,nd,Nat.le_of_ble_eq_true rfl⟩
 have lk:LK [a,b,c,t,n] L:=⟨bg,fun x hx=>XQ Rh hx⟩
 have ht:t∈[a,b,c,t,n]:=by simp
 have hn:n∈[a,b,c,t,n]:=by simp
 have hl:=xX (hs:=hs)
 obtain ⟨ka,la⟩:=LK.all ht hn hs 0 L (fun h hh=>(ok h hh).c) lk
 obtain ⟨r1,r2,r3⟩:=Jv (t:=t) (n:=n) hs
 have P1:(eZ t n 0 hs L).B.map (·.1)=B.map (·.1):=xY (P:=fun L=>L.B.map (·.1)=B.map (·.1)) (fun k t L h=>by rw [wX]; exact h) (fun k x v L h=>Nv.trans h) hs 0 L rfl
 have P2:wZ (eZ t n 0 hs L).B:=xY (P:=fun L=>wZ L.B) (fun k t L h=>by rw [wX]; exact h) (fun k x v L h=>XN h) hs 0 L Rh
 have P3:∀ m∈(eZ t n 0 hs L).ms,m.2.2.length<=1:=xY (P:=fun L=>∀ m∈L.ms,m.2.2.length<=1) (fun k t L h=>by
  have e:(bL k t L).2.ms=L.ms++[(k,0,[])]:=by unfold bL; split<;>(try split)<;>rfl
  rw [e]
  intro m hm
  rcases aaF.mp hm with q | q
  . exact h m q
  . rw [aa4.mp q]; exact aa3 _) (fun k x v L h m hm=>by
  rcases aaF.mp (show m∈L.ms++[(k,0,[]),(k,1,[(x,0,v%1000000000000)])] from hm) with q | q
  . exact h m q
  . simp only [aao,aaV,or_false] at q
    rcases q with rfl | rfl
    . exact aa3 _
    . exact aaf _) hs 0 L (fun m hm=>by cases hm)
 have la':(eZ t n 0 hs L).ms.length<=0+550*hs.length:=la
 have go:∀ (I:Ix) (N:Nat) (hd:PV),∃ m:Nat,Rn I (PQ ((jB (D5 a b c t n) (c7 t n hs)).es) N hd) m ⟨bu, "done",B,[],Dy (c7 t n hs)⟩ ((lJ t n hs L).as [])/\m<900:=fun I N hd=>Vb ht hn hs L ok ⟨⟨[],[],by rw [Ob]; simp,rfl,fun e he=>by cases he⟩,.inl rfl⟩ (by omega) lk rfl b0 b1 rfl
 have su:ue (D5 a b c t n) B:=⟨rfl,⟨rfl,i0⟩,rfl,⟨rfl,i1⟩,rfl,⟨rfl,i2⟩,rfl,⟨rfl,i3⟩,rfl,⟨rfl,i4⟩,trivial⟩
 have pk:(jB (D5 a b c t n) (c7 t n hs)).ok:=⟨fun f hf=>(by cases hf),r1,by show (c7 t n hs).dep<=30; omega,by show 0+(c7 t n hs).cnt<=250; omega,fun f hf=>(by cases hf),aa3 _⟩
 have fB:(lJ t n hs L).B=(eZ t n 0 hs L).B:=by unfold lJ; split<;>rfl
 have fm:(lJ t n hs L).ms.length<=(eZ t n 0 hs L).ms.length+1/\∀ m∈(lJ t n hs L).ms,m.2.2.length<=1:=by
  unfold lJ
  split
  . refine ⟨by simp,fun m hm=>?_⟩
    rcases aaF.mp hm with q | q
    . exact P3 m q
    . rw [aa4.mp q]; exact aa3 _
  . exact ⟨by omega,P3⟩
 refine ⟨⟨su,bg,pk,go,by rw [fB]; exact P1,by rw [fB]; exact ka.bg,aaL fm.1 (by omega),fm.2,by rw [fB]; exact P2⟩,lk,⟨by rw [fB]; exact ka.bg,by rw [fB]; exact ka.nm⟩⟩
end
abbrev WV (S:PV) (l1 l2 l3 l4 l5 l6 l7 l8 l9 l10 l11 l12 l13 l14 l15 l16 l17 l18 l19:Option Lc) (mu:Mu):Ev:=⟨[zS S,l1,l2,l3,l4,l5,l6,l7,l8,l9,l10,l11,l12,l13,l14,l15,l16,l17,l18,l19],mu⟩
theorem stK {L:LS} {i:Nat} {vs:List (Option Lc)} {k:Str} {p:PV} (hi:aj i ⟨vs,LM L⟩=some (.sh (.ptr 2),⟨vs,LM L⟩)) (hv:b8 (kS.zip [.ptr 0,.str L.wd,.int L.bu,.ptr 1]) (.inr k)=some p):aY (aj i) (eC (.str k)) ⟨vs,LM L⟩=some (.sh p,⟨vs,LM L⟩):=nR (x:=.sh (.ptr 2)) (y:=.sh (.str k)) (k:=.inr k) (ks:=kS) (ps:=[.ptr 0,.str L.wd,.int L.bu,.ptr 1]) hi rfl rfl rfl rfl hv
section
variable {S:PV} {l1 l2 l3 l4 l5 l6 l7 l8 l9 l10 l11 l12 l13 l14 l15 l16 l17 l18 l19:Option Lc} {mu:Mu}
abbrev vaB:SF:=aF (aO 6 (aK eY (aa (aj 0) (aa (aA cN (eC (.int 1)) (aj 5)) ao))))
 (j0 4 (bF (aV (aa (aA cF (aA dD (aj 6) (eC (.int 3))) (eC (.int 8))) (aa (aA cF (aA dD (aj 6) (eC (.int 3))) (eC (.int 8))) (aa (aK gH (aa (aA dD (aj 6) (eC (.int 3))) ao)) ao)))) (aA cF (aj 6) (eC (.int 3)))))
theorem Jw {ns:List Int} (hn:ns.length<=63) (hS:S=.lst (ns.map .int)):∀ (m i:Nat) (vs:List Int) (l5 l6:Option Lc),i+m<=100->vs.length+m<=100->∃ ws p5 p6,fD (aG 5) vaB ((List.range' i m).map fun (k:Nat)=>PV.int (k:Nat)) (WV S l1 l2 l3 (zO (vs.map .int)) l5 l6 l7 l8 l9 l10 l11 l12 l13 l14 l15 l16 l17 l18 l19 mu)=some (.nx (WV S l1 l2 l3 (zO ((vs++ws).map .int)) p5 p6 l7 l8 l9 l10 l11 l12 l13 l14 l15 l16 l17 l18 l19 mu))/\ws.length=m/\∀ w∈ws,In w
 | 0,i,vs,l5,l6,_,_=>⟨[],l5,l6,by rw [aat]; rfl,rfl,fun w h=>by cases h⟩
 | m+1,i,vs,l5,l6,hi,hv=>by
  obtain ⟨C,c0,c1,ec⟩:=cell_eq (ns:=ns) (k:=1+(i:Nat)) hn (by omega) (by omega)
  rw [← hS] at ec
  let E:=fun l4 l6=>WV S l1 l2 l3 l4 (zI (i:Nat)) l6 l7 l8 l9 l10 l11 l12 l13 l14 l15 l16 l17 l18 l19 mu
  let V:Option Lc:=zO (vs.map .int)
  let Cc:Option Lc:=zI C
  have s6:aO 6 (aK eY (aa (aj 0) (aa (aA cN (eC (.int 1)) (aj 5)) ao))) (E V l6)=some (.nx (E V Cc)):=cH (bh (ls:=[.sh S,.sh (.int (1+(i:Nat)))]) (ρ1:=E V l6) rfl rfl rfl rfl (ec mu)) rfl rfl
  have d3:aA dD (aj 6) (eC (.int 3)) (E V Cc)=some (.sh (.int (C/3)),E V Cc):=cO rfl rfl rfl rfl (mW (by decide) (by decide))
  have d8:aA cF (aA dD (aj 6) (eC (.int 3))) (eC (.int 8)) (E V Cc)=some (.sh (.int (C/3%8)),E V Cc):=cO d3 rfl rfl rfl (di (by decide))
  have dn:aK gH (aa (aA dD (aj 6) (eC (.int 3))) ao) (E V Cc)=some (.sh (.int (pZ (C/3))),E V Cc):=bh (ls:=[.sh (.int (C/3))]) (ρ1:=E V Cc) (aC d3 rfl) rfl rfl rfl (Nr _ _)
  have dm:aA cF (aj 6) (eC (.int 3)) (E V Cc)=some (.sh (.int (C%3)),E V Cc):=cO rfl rfl rfl rfl (di (by decide))
  obtain ⟨w,hw,iw⟩:∃ w:Int,yr (.lst [.int (C/3%8),.int (C/3%8),.int (pZ (C/3))]) (.int (C%3))=zI w/\In w:=by
   have h0:=aaO C (b:=3) (by decide)
   have h1:=aaH C (b:=3) (by decide)
   have g0:=aaO (C/3) (b:=8) (by decide)
   have g1:=aaH (C/3) (b:=8) (by decide)
   have nb:=QH (C/3)
   generalize C/3%8=x at g0 g1
   generalize pZ (C/3)=y at nb
   generalize C%3=j at h0 h1
   rcases (show j=0\/j=1\/j=2 by omega) with rfl | rfl | rfl
   . exact ⟨x,rfl,by constructor<;>omega⟩
   . exact ⟨x,rfl,by constructor<;>omega⟩
   . exact ⟨y,rfl,nb⟩
  have ix:bF (aV (aa (aA cF (aA dD (aj 6) (eC (.int 3))) (eC (.int 8))) (aa (aA cF (aA dD (aj 6) (eC (.int 3))) (eC (.int 8))) (aa (aK gH (aa (aA dD (aj 6) (eC (.int 3))) ao)) ao)))) (aA cF (aj 6) (eC (.int 3))) (E V Cc)=some (.sh (.int w),E V Cc):=xQ (wH (ls:=[.sh (.int (C/3%8)),.sh (.int (C/3%8)),.sh (.int (pZ (C/3)))]) (aC d8 (aC d8 (aC dn rfl))) rfl rfl) rfl dm rfl uB hw
  obtain ⟨ws,p5,p6,el,lw,aw⟩:=Jw hn hS m (i+1) (vs++[w]) (zI (i:Nat)) Cc (by omega) (by rw [aai]; show vs.length+1+m<=100; omega)
  refine ⟨w::ws,p5,p6,fY (ρ1:=E V l6) (ρ2:=E (zO ((vs++[w]).map .int)) Cc) rfl (aB s6 (wI (ws0:=vs.map .int) (ws:=vs.map .int) (l:=.sh (.int w)) (ρ1:=E V Cc) rfl ix rfl rfl (by rw [aad]; omega) ?_)) ?_,by rw [aae,lw],fun x hx=>by
   rcases aao.mp hx with rfl | hx
   . exact iw
   . exact aw x hx⟩
  . rw [aaz]
    rfl
  . rw [aah] at el
    exact el
abbrev bxB:SF:=jJ (aY (aj 8) (eC (.str "boxes"))) (aj 9) (aj 10)
abbrev nB (q:List (Str×Int)):Bs:=q.map fun x=>(x.1,.n x.2)
theorem Jx {bu:Int}:∀ (q:List (Str×Int)) (A:Bs) (l9 l10:Option Lc),((A++nB q).map (·.1)).Nodup->A.length+q.length<=100->∃ p9 p10,fD (eG 2 (aL (aG 9) (aL (aG 10) eF))) bxB (q.map fun x=>.tup [.str x.1,.int x.2]) (WV S l1 l2 l3 l4 l5 l6 l7 (zS (.ptr 2)) l9 l10 l11 l12 l13 l14 l15 l16 l17 l18 l19 (LM ⟨bu, "done",A,[]⟩))=some (.nx (WV S l1 l2 l3 l4 l5 l6 l7 (zS (.ptr 2)) p9 p10 l11 l12 l13 l14 l15 l16 l17 l18 l19 (LM ⟨bu, "done",A++nB q,[]⟩)))
 | [],A,l9,l10,_,_=>⟨l9,l10,by rw [show A++nB []=A from aat _]; rfl⟩
 | x::q,A,l9,l10,nd,hl=>by
  simp only [aae] at hl
  let E:=fun L=>WV S l1 l2 l3 l4 l5 l6 l7 (zS (.ptr 2)) (zT x.1) (zI x.2) l11 l12 l13 l14 l15 l16 l17 l18 l19 (LM L)
  have e1:A++nB (x::q)=(A++[(x.1,.n x.2)])++nB q:=by rw [aah]; rfl
  have hx:x.1∉A.map (·.1):=fun h=>by
   rw [aaz] at nd
   exact (abu.mp nd).2.2 x.1 h x.1 (by show x.1∈x.1::(nB q).map (·.1); exact aab) rfl
  rw [e1] at nd ⊢
  obtain ⟨p9,p10,el⟩:=Jx q (A++[(x.1,.n x.2)]) (zT x.1) (zI x.2) nd (by rw [aai]; show A.length+1+_<=100; omega)
  refine ⟨p9,p10,fY (ρ1:=E ⟨bu, "done",A,[]⟩) (ρ2:=E ⟨bu, "done",A++[(x.1,.n x.2)],[]⟩) rfl (qO (x:=.sh (.int x.2)) (ρ1:=E ⟨bu, "done",A,[]⟩) (ρ2:=E ⟨bu, "done",A,[]⟩) (ρ3:=E ⟨bu, "done",A,[]⟩) (o:=.sh (.ptr 1)) (y:=.sh (.str x.1)) (k:=.inr x.1) (ks:=bC A) (ps:=aR A) rfl rfl (stK (i:=8) rfl rfl) rfl rfl rfl rfl (by rw [aad]; omega) ?_) el⟩
  show List.set _ 1 (some (dN (gF ((bC A).zip (aR A)) (.inr x.1) (.int x.2))))=_
  rw [Cm (by rw [aad,aad]) (Hd hx)]
  show [_,some (PV.dk (bC A++[.inr x.1]) (aR A++[.int x.2])),_]=[_,some (PV.dk (bC (A++[(x.1,.n x.2)])) (aR (A++[(x.1,.n x.2)]))),_]
  rw [show bC (A++[(x.1,.n x.2)])=bC A++[.inr x.1] from aaz,show aR (A++[(x.1,.n x.2)])=aR A++[.int x.2] from aaz]
end
theorem w5 {f:PV->PV->Option Bool}:∀ ps:List PV,(∀ p∈ps,f p p=some true)->uU f ps ps=some true
 | [],_=>rfl
 | p::ps,h=>by
  show (f p p).bind _=_
  rw [h p aab,aaa,w5 ps fun q hq=>h q (aag _ hq)]
  rfl
theorem jC.eq:∀ {n:Nat} {p:PV},jC n p->lQ n p p=some true
 | n+1,.int i,_=>by show some (i==i)=_; rw [ace]
 | n+1,.str x,_=>by show some (x==x)=_; rw [ace]
 | n+1,.tup ps,h=>by
  show (uU (lQ n) ps ps).map _=_
  rw [w5 ps fun p hp=>jC.eq (h.2 p hp)]
  show some (true&&(ps.length==ps.length))=_
  rw [ace]
  rfl
 | n+1,.lst ps,h=>by
  show (if ps.length=ps.length then uU (lQ n) ps ps else some false)=_
  rw [ab7 rfl,w5 ps fun p hp=>jC.eq (h.2 p hp)]
theorem jC.res {mu:Mu}:∀ {n:Nat} {p:PV} {k:Nat},jC n p->bj mu k p=p
 | _,_,0,_=>rfl
 | n+1,.int i,k+1,_=>rfl
 | n+1,.str x,k+1,_=>rfl
 | n+1,.tup ps,k+1,h=>by
  show PV.tup (ps.map (bj mu k))=_
  rw [aaP fun p hp=>(h.2 p hp).res (k:=k),List.map_id']
 | n+1,.lst ps,k+1,h=>by
  show PV.lst (ps.map (bj mu k))=_
  rw [aaP fun p hp=>(h.2 p hp).res (k:=k),List.map_id']
def yE:Nat->PV->Bool
 | 0,_=>false
 | _+1,.non=>true
 | _+1,.int _=>true
 | _+1,.str _=>true
 | n+1,.tup ps=>ps.all (yE n)
 | n+1,.lst ps=>ps.all (yE n)
 | _+1,_=>false
theorem Cw {mu:Mu}:∀ {n:Nat} {p:PV} {k:Nat},yE n p=true->bj mu k p=p
 | _,_,0,_=>rfl
 | n+1,.non,k+1,_=>rfl
 | n+1,.int i,k+1,_=>rfl
 | n+1,.str x,k+1,_=>rfl
 | n+1,.tup ps,k+1,h=>by
  have h:=List.all_eq_true.mp (show ps.all (yE n)=true from h)
  show PV.tup (ps.map (bj mu k))=_
  rw [aaP fun p hp=>Cw (k:=k) (h p hp),List.map_id']
 | n+1,.lst ps,k+1,h=>by
  have h:=List.all_eq_true.mp (show ps.all (yE n)=true from h)
  show PV.lst (ps.map (bj mu k))=_
  rw [aaP fun p hp=>Cw (k:=k) (h p hp),List.map_id']
theorem X4 {h:Sh} {t n:Str}:yE 20 (lH h t n).pv=true:=by
 unfold lH uF gE
 split
 . rfl
 . split<;>rfl
theorem Jy {t n:Str}:∀ hs:List Sh,yE 21 (.lst (c7 t n hs).pvs)=true
 | []=>rfl
 | h::hs=>by
  show (yE 20 (lH h t n).pv&&yE 21 (.lst (c7 t n hs).pvs))=true
  rw [X4,Jy hs]
  rfl
theorem X5 {a b c t n:Str} {hs:List Sh} {mu:Mu} {k:Nat}:bj mu k (jB (D5 a b c t n) (c7 t n hs)).pv=(jB (D5 a b c t n) (c7 t n hs)).pv:=by
 refine Cw (n:=22) ?_
 show (true&&(true&&(true&&(yE 21 (.lst (c7 t n hs).pvs)&&true))))=true
 rw [Jy]
 rfl
theorem Vi {f g:EF} {ρ ρ1 ρ2:Ev} {l:Lc} (hf:f ρ=some (.sh (.bl true),ρ1)) (hg:g ρ1=some (l,ρ2)):jq f g ρ=some (l,ρ2):=by
 unfold jq
 rw [hf,aaa]
 exact hg
section
variable {S:PV} {l1 l2 l3 l4 l5 l6 l7 l8 l9 l10 l11 l12 l13 l14 l15 l16 l17 l18 l19:Option Lc} {mu:Mu}
abbrev Zf:SF:=(aF (cG (tT (aA dO (aY (aj 8) (eC (.str "word"))) (eC (.str "done"))) bB)
 (aF (cW (aK lY (aa (aj 8) (aa (aj 12) (aa (aj 13) (aa (aj 2) ao))))))
 (aO 14 (aV (aa (aQ (aa (aj 12) (aa (eC (.int 3)) (aa (aV ao) ao)))) ao))))
 bN)
 (aF (aO 11 (aA cN (aj 11) (aK jA (aa (aj 13) (aa (aj 2) ao)))))
 (aO 12 (aA cN (aj 12) (bF (aV (aa (eC (.int 3)) (aa (eC (.int 3)) (aa (eC (.int 6)) (aa (eC (.int 1)) ao))))) (bF (aj 13) (eC (.str "way"))))))))
abbrev Zg:SF:=(ni 15 (eO (gB (aj 17) cX) 3 [5] (eG 3 (aL (aG 0) (aL (aG 1) (aL (aG 2) eF)))) dq (aQ (aa (aj 3) (aa (aj 0) (aa (aj 1) (aa (aj 2) ao)))))))
abbrev q0:SF:=(aO 1 (aK eY (aa (aj 0) (aa (eC (.int 0)) ao))))
abbrev q1:SF:=(aO 2 (bF (aV (aa (aV (aa (eC (.str "c")) (aa (eC (.str "cc")) (aa (eC (.str "d")) (aa (eC (.str "dc")) (aa (eC (.str "e")) ao)))))) (aa (aV (aa (eC (.str "e")) (aa (eC (.str "d")) (aa (eC (.str "c")) (aa (eC (.str "ce")) (aa (eC (.str "cd")) ao)))))) ao))) (aA cF (aj 1) (eC (.int 2)))))
abbrev q2:SF:=(aO 3 (aK my (aa (aj 0) (aa (aA cF (aA dD (aj 1) (eC (.int 2))) (eC (.int 41))) (aa (aj 2) ao)))))
abbrev q3:SF:=(aO 4 (aV ao))
abbrev q4:SF:=(iG (iI (aa (eC (.int 5)) ao)) (aG 5)
 (aF (aO 6 (aK eY (aa (aj 0) (aa (aA cN (eC (.int 1)) (aj 5)) ao))))
 (j0 4 (bF (aV (aa (aA cF (aA dD (aj 6) (eC (.int 3))) (eC (.int 8))) (aa (aA cF (aA dD (aj 6) (eC (.int 3))) (eC (.int 8))) (aa (aK gH (aa (aA dD (aj 6) (eC (.int 3))) ao)) ao)))) (aA cF (aj 6) (eC (.int 3)))))))
abbrev q5:SF:=(aO 7 (aA cF (aA dD (aj 1) (eC (.int 82))) (eC (.int 21))))
abbrev q6:SF:=(aO 8 (cV (xH (fU (eC (.str "moments")) (cV (aV ao)) (fU (eC (.str "word")) (eC (.str "done")) (fU (eC (.str "left")) (aj 7) (fU (eC (.str "boxes")) (cV kZ) Br)))))))
abbrev q7:SF:=(iG (ur (aj 2) (aj 4)) (eG 2 (aL (aG 9) (aL (aG 10) eF)))
 (jJ (aY (aj 8) (eC (.str "boxes"))) (aj 9) (aj 10)))
abbrev q8:SF:=(aO 11 (aV ao))
abbrev q9:SF:=(aO 12 (eC (.int 0)))
abbrev Zh:SF:=(iG (gB (aj 3) cX) (aG 13)
 Zf)
abbrev Zi:SF:=(cG (mj (tT (aA dO (aY (aj 8) (eC (.str "word"))) (eC (.str "done"))) bB) (tT (aA zQ (lg (aj 3)) (eC (.int 0))) bB))
 (jJ (aj 8) (eC (.str "moments")) (aA cN (jR (aY (aj 8) (eC (.str "moments")))) (aj 14)))
 bN)
abbrev Zj:SF:=(aO 15 (aV ao))
abbrev Sy:SF:=(Em (xJ (aY (aj 8) (eC (.str "moments")))) (eG 3 (aL (aG 5) (aL (aG 16) (aL (aG 17) eF))))
 Zg)
abbrev X6:SF:=(aO 18 (aQ (aa (aY (aj 8) (eC (.str "word"))) (aa (aj 15) (aa (eO (gB (aj 2) cX) 1 [8] (aG 0) dq (aY (aY (aj 1) (eC (.str "boxes"))) (aj 0))) ao)))))
abbrev X7:SF:=(aO 19 (aQ (aa (eO (gB (aj 2) cX) 1 [] (aG 0) dq (aQ (aa (aj 0) (aa (eC (.int 0)) (aa (eC .non) ao))))) (aa (aV ao) (aa (aV ao) (aa (aj 11) ao))))))
abbrev X8:SF:=(cG (xG (jh (tT (nD (cB 40) (aa (aK vy (aa (aj 19) (aa (aj 4) (aa (aj 7) ao)))) (aa (aj 18) ao))) gn)))
 (bO (eC (.bl false)))
 bN)
abbrev Zk:SF:=(bO (jq (nD (cB 40) (aa (aK rN (aa (aj 19) (aa (aj 4) (aa (aj 7) ao)))) (aa (aY (aj 8) (eC (.str "moments"))) ao))) (lW (aA dO (aK vy (aa (aj 19) (aa (aj 4) (aa (aj 7) ao)))) (aj 18)))))
theorem Jz {a b c t n:Str}:∀ (hs:List Sh) (k:Nat) (rw:List PV) (L:LS) (l13 l14:Option Lc),(∀ h∈hs,h.ok [a,b,c,t,n])->LK [a,b,c,t,n] L->L.ms.length+550*hs.length<80000->rw.length+hs.length<=1000->
 ∃ p13 p14,fD (aG 13) Zf (hs.map Sh.pv) (WV S l1 (zS (NM a b c t n)) l3 l4 l5 l6 l7 (zS (.ptr 2)) l9 l10 (zO rw) (zI (k:Nat)) l13 l14 l15 l16 l17 l18 l19 (LM L))=some (.nx (WV S l1 (zS (NM a b c t n)) l3 l4 l5 l6 l7 (zS (.ptr 2)) l9 l10 (zO (rw++(c7 t n hs).pvs)) (zI ((k+fC hs:Nat):Int)) p13 p14 l15 l16 l17 l18 l19 (LM (eZ t n k hs L))))/\((eZ t n k hs L).wd = "done" -> ¬ hs=[]->p14=some (.own (.lst [.tup [.int ((pC k hs:Nat):Int),.int 3,.lst []]])))
 | [],k,rw,L,l13,l14,_,_,_,_=>⟨l13,l14,by rw [show (c7 t n []).pvs=[] from rfl,aat]; rfl,fun _ h=>absurd rfl h⟩
 | h::hs,k,rw,L,l13,l14,ok,hk,hm,hr=>by
  simp only [aae] at hm hr
  have hh:=ok h aab
  have ht:t∈[a,b,c,t,n]:=by simp
  have hn:n∈[a,b,c,t,n]:=by simp
  let E:=fun l11 l12 l14 L=>WV S l1 (zS (NM a b c t n)) l3 l4 l5 l6 l7 (zS (.ptr 2)) l9 l10 l11 l12 (zS h.pv) l14 l15 l16 l17 l18 l19 (LM L)
  let R0:Option Lc:=zO rw
  let K0:Option Lc:=zI (k:Nat)
  let L2:LS:=if L.wd = "done" then dJ (k:Nat) h t n 22 L else L
  let l14':Option Lc:=if L.wd = "done" then some (.own (.lst [.tup [.int (k:Nat),.int 3,.lst []]])) else l14
  have hk2:LK [a,b,c,t,n] L2/\L2.ms.length<=L.ms.length+550:=by
   show LK [a,b,c,t,n] (if _ then _ else _)/\(if _ then _ else _:LS).ms.length<=_
   split
   . obtain ⟨x,y⟩:=LK.loop (at_:=(k:Nat)) (s:=h) hh.c ht hn 22 L hk
     exact ⟨x,by omega⟩
   . exact ⟨hk,by omega⟩
  have w:∀ c:Bool,(L.wd == "done")=c->tT (aA dO (aY (aj 8) (eC (.str "word"))) (eC (.str "done"))) bB (E R0 K0 l14 L)=some (c,E R0 K0 l14 L):=fun c e=>by
   cases c
   . exact lE (stK (i:=8) rfl rfl) e
   . exact pN (stK (i:=8) rfl rfl) e
  have s1:cG (tT (aA dO (aY (aj 8) (eC (.str "word"))) (eC (.str "done"))) bB)
   (aF (cW (aK lY (aa (aj 8) (aa (aj 12) (aa (aj 13) (aa (aj 2) ao))))))
   (aO 14 (aV (aa (aQ (aa (aj 12) (aa (eC (.int 3)) (aa (aV ao) ao)))) ao)))) bN (E R0 K0 l14 L)=some (.nx (E R0 K0 l14' L2)):=by
   by_cases hw:L.wd = "done"
   . have e2:L2=dJ (k:Nat) h t n 22 L:=ab7 hw
     have e4:l14'=some (.own (.lst [.tup [.int (k:Nat),.int 3,.lst []]])):=ab7 hw
     rw [e2,e4]
     exact (dI (w true (by rw [hw]; exact ace _))).trans (aB (ρ':=E R0 K0 l14 (dJ (k:Nat) h t n 22 L)) (fJ (bh (ls:=[.sh (.ptr 2),.sh (.int (k:Nat)),.sh h.pv,.sh (NM a b c t n)]) (ρ1:=E R0 K0 l14 L) (aC rfl (aC rfl (aC rfl (aC rfl rfl)))) rfl rfl rfl (Q0 hk hh.c (by omega)))) rfl)
   . have e2:L2=L:=ab8 hw
     have e4:l14'=l14:=ab8 hw
     rw [e2,e4]
     exact (bR (w false (acd.mpr hw))).trans rfl
  have s2:aO 11 (aA cN (aj 11) (aK jA (aa (aj 13) (aa (aj 2) ao)))) (E R0 K0 l14' L2)=some (.nx (E (zO (rw++[(lH h t n).pv])) K0 l14' L2)):=cH (cO (p:=.lst rw) (q:=.lst [(lH h t n).pv]) (l:=.sh (.lst rw)) (ρ1:=E (zL rw) K0 l14' L2) rfl rfl (bh (ls:=[.sh h.pv,.sh (NM a b c t n)]) (ρ1:=E (zL rw) K0 l14' L2) (aC rfl (aC rfl rfl)) rfl rfl rfl Vg) rfl (Xk (by show rw.length+1<=_; omega))) rfl rfl
  have s3:aO 12 (aA cN (aj 12) (bF (aV (aa (eC (.int 3)) (aa (eC (.int 3)) (aa (eC (.int 6)) (aa (eC (.int 1)) ao))))) (bF (aj 13) (eC (.str "way"))))) (E (zO (rw++[(lH h t n).pv])) K0 l14' L2)=some (.nx (E (zO (rw++[(lH h t n).pv])) (zI ((k+h.sz:Nat):Int)) l14' L2)):=cH (l:=.sh (.int ((k+h.sz:Nat):Int))) (cO rfl rfl (KZ hh.w0 hh.w1 (oN (x:=.sh h.pv) (y:=.sh (.str "way")) rfl rfl (.inl ⟨_,_,rfl,rfl⟩) rfl rfl)) rfl rfl) rfl rfl
  obtain ⟨p13,p14,el,hp⟩:=Jz hs (k+h.sz) (rw++[(lH h t n).pv]) L2 (zS h.pv) l14' (fun x hx=>ok x (aag _ hx)) hk2.1 (by have:=hk2.2; omega) (by rw [aai]; show rw.length+1+_<=_; omega)
  refine ⟨p13,p14,fY (ρ1:=E R0 K0 l14 L) rfl (aB s1 (aB s2 s3)) ?_,?_⟩
  . rw [aah,show k+h.sz+fC hs=k+fC (h::hs) from by show _=k+(h.sz+fC hs); omega] at el
    exact el
  . intro hd _
    cases hs with
    | nil=>
     have el':some (Fl.nx _)=some (Fl.nx _):=el
     injection el' with el'
     injection el' with el'
     have q:=congrArg (fun ρ:Ev=>ρ.vs[14]?) el'
     have q':some l14'=some p14:=q
     injection q' with q'
     rw [← q']
     have hd':L2.wd = "done" := hd
     have hw:L.wd = "done" := Classical.byContradiction fun c=>c (by have e2:L2=L:=ab8 c; rw [← e2]; exact hd')
     exact ab7 hw
    | cons h' hs'=>exact hp hd (by simp)
abbrev MU (m0:Option PV) (X:PV) (F:LS):Mu:=[m0,some (.dk (bC F.B) (aR F.B)),some (.dk kS [X,.str F.wd,.int F.bu,.ptr 1])]
theorem SJ {m0:Option PV} {X:PV} {F:LS} {i:Nat} {vs:List (Option Lc)} {mu:Mu} {k:Str} {p:PV} (hi:aj i ⟨vs,mu⟩=some (.sh (.ptr 2),⟨vs,mu⟩)) (hm:mu[2]?=some (some (.dk kS [X,.str F.wd,.int F.bu,.ptr 1]))) (hv:b8 (kS.zip [X,.str F.wd,.int F.bu,.ptr 1]) (.inr k)=some p):aY (aj i) (eC (.str k)) ⟨vs,mu⟩=some (.sh p,⟨vs,mu⟩):=nR (x:=.sh (.ptr 2)) (y:=.sh (.str k)) (k:=.inr k) (ks:=kS) (ps:=[X,.str F.wd,.int F.bu,.ptr 1]) hi rfl rfl rfl hm hv
theorem JB {o:Option Nat} {ps:List PV} (hH:∀ vs,Holds o ps ⟨vs,mu⟩):∀ (ms:List cY) (ws:List PV) (l5 l16 l17:Option Lc),ws.length+wY ms<=90000->∃ p5 p16 p17,nC o ps (eG 3 (aL (aG 5) (aL (aG 16) (aL (aG 17) eF)))) Zg (ms.map cY.pv) (WV S l1 l2 l3 l4 l5 l6 l7 l8 l9 l10 l11 l12 l13 l14 (zO ws) l16 l17 l18 l19 mu)=some (.nx (WV S l1 l2 l3 l4 p5 l6 l7 l8 l9 l10 l11 l12 l13 l14 (zO (ws++jg ms)) p16 p17 l18 l19 mu))
 | [],ws,l5,l16,l17,_=>⟨l5,l16,l17,by rw [show jg []=[] from rfl,aat]; exact Qz (hH _)⟩
 | m::ms,ws,l5,l16,l17,hl=>by
  have hl':ws.length+(m.2.2.length+wY ms)<=90000:=hl
  let K:Option Lc:=zI m.1
  let T:Option Lc:=zI m.2.1
  let C:Option Lc:=zS (evs m.2.2)
  obtain ⟨p5,p16,p17,e⟩:=JB hH ms (ws++m.2.2.map (qe m.1)) K T C (by rw [aai,aad]; omega)
  rw [aah] at e
  let E:=fun l15=>WV S l1 l2 l3 l4 K l6 l7 l8 l9 l10 l11 l12 l13 l14 l15 T C l18 l19 mu
  have ec:=je (f:=gB (aj 17) cX) (m:=3) (ixs:=[5]) (ρ:=E (zO ws)) (ρ1:=E (zO ws)) (jP (l:=.sh (evs m.2.2)) rfl rfl) (Jo (k:=m.1) (es:=m.2.2) (mu:=mu) (o:=[]) (by omega))
  exact ⟨p5,p16,p17,Uo (ρ1:=E (zO ws)) (ρ2:=E (zO (ws++m.2.2.map (qe m.1)))) (hH _) rfl (wJ (ws0:=ws) (ws:=ws) (ps:=m.2.2.map (qe m.1)) rfl ec rfl rfl (by rw [aad]; omega) rfl) e⟩
end
section
variable {S:PV} {l1 l2 l3 l4 l5 l6 l7 l8 l9 l10 l11 l12 l13 l14 l15 l16 l17 l18 l19:Option Lc} {mu:Mu}
variable {a b c t n:Str} {v0 v1 v2 v3 v4 bu:Int} {hs:List Sh} {F:LS}
abbrev tlS:SF:=(aF Zj
 (aF Sy
 (aF X6
 (aF X7
 (aF X8
 Zk)))))
theorem YW {m0:Option PV} {X:PV} (nd:[a,b,c,t,n].Nodup) (hF:F.B.map (·.1)=[a,b,c,t,n]) (hN:wZ F.B):eO (gB (aj 2) cX) 1 [8] (aG 0) dq (aY (aY (aj 1) (eC (.str "boxes"))) (aj 0)) (WV S l1 (zS (NM a b c t n)) l3 l4 l5 l6 l7 (zS (.ptr 2)) l9 l10 l11 l12 l13 l14 l15 l16 l17 l18 l19 (MU m0 X F))=some (.own (.lst (aR F.B)),WV S l1 (zS (NM a b c t n)) l3 l4 l5 l6 l7 (zS (.ptr 2)) l9 l10 l11 l12 l13 l14 l15 l16 l17 l18 l19 (MU m0 X F)):=by
 let f:PV->PV:=fun p=>match p with
  | .str x=>.int (numAt F.B x)
  | _=>.non
 have ec:=kW (b:=aG 0) (te:=aY (aY (aj 1) (eC (.str "boxes"))) (aj 0)) (mu:=MU m0 X F) (fun ρ=>∃ o,ρ=⟨[o,zS (.ptr 2)],MU m0 X F⟩) (fun ρ ⟨o,e⟩=>by rw [e]) f (xs:=[.str a,.str b,.str c,.str t,.str n]) (ρ:=⟨[none,zS (.ptr 2)],MU m0 X F⟩) ⟨_,rfl⟩ (Nat.le_of_ble_eq_true rfl) (by
  rintro p hp ρ ⟨o,rfl⟩
  obtain ⟨x,hx,rfl⟩:=aaD.mp (show p∈[a,b,c,t,n].map PV.str from hp)
  have ix:=KD (XQ hN (by rw [hF]; exact hx))
  exact ⟨⟨[zT x,zS (.ptr 2)],MU m0 X F⟩,rfl,.sh (.int (numAt F.B x)),⟨[zT x,zS (.ptr 2)],MU m0 X F⟩,nR (x:=.sh (.ptr 1)) (y:=.sh (.str x)) (k:=.inr x) (ks:=bC F.B) (ps:=aR F.B) (SJ (m0:=m0) (X:=X) (F:=F) (i:=1) rfl rfl rfl) rfl rfl rfl rfl ix,rfl,_,rfl⟩) (by
  rintro p hp ρ ρ1 ⟨o,rfl⟩ e
  cases e
  exact ⟨_,rfl⟩)
 have e2:=je (f:=gB (aj 2) cX) (m:=1) (ixs:=[8]) (ρ:=WV S l1 (zS (NM a b c t n)) l3 l4 l5 l6 l7 (zS (.ptr 2)) l9 l10 l11 l12 l13 l14 l15 l16 l17 l18 l19 (MU m0 X F)) (ρ1:=WV S l1 (zS (NM a b c t n)) l3 l4 l5 l6 l7 (zS (.ptr 2)) l9 l10 l11 l12 l13 l14 l15 l16 l17 l18 l19 (MU m0 X F)) (jP (l:=.sh (NM a b c t n)) rfl rfl) ec
 rw [e2,← Vh (by rw [hF]; exact nd) hN,hF]
 rfl
theorem YX:eO (gB (aj 2) cX) 1 [] (aG 0) dq (aQ (aa (aj 0) (aa (eC (.int 0)) (aa (eC .non) ao)))) (WV S l1 (zS (NM a b c t n)) l3 l4 l5 l6 l7 l8 l9 l10 l11 l12 l13 l14 l15 l16 l17 l18 l19 mu)=some (.own (.lst (dcl (D5 a b c t n))),WV S l1 (zS (NM a b c t n)) l3 l4 l5 l6 l7 l8 l9 l10 l11 l12 l13 l14 l15 l16 l17 l18 l19 mu):=by
 have ec:=kW (b:=aG 0) (te:=aQ (aa (aj 0) (aa (eC (.int 0)) (aa (eC .non) ao)))) (mu:=mu) (fun ρ=>∃ o,ρ=⟨[o],mu⟩) (fun ρ ⟨o,e⟩=>by rw [e]) (fun p=>.tup [p,.int 0,.non]) (xs:=[.str a,.str b,.str c,.str t,.str n]) (ρ:=⟨[none],mu⟩) ⟨_,rfl⟩ (Nat.le_of_ble_eq_true rfl) (by
  rintro p hp ρ ⟨o,rfl⟩
  exact ⟨⟨[zS p],mu⟩,rfl,.sh (.tup [p,.int 0,.non]),⟨[zS p],mu⟩,rfl,rfl,_,rfl⟩) (by
  rintro p hp ρ ρ1 ⟨o,rfl⟩ e
  cases e
  exact ⟨_,rfl⟩)
 exact je (f:=gB (aj 2) cX) (m:=1) (ixs:=[]) (ρ:=WV S l1 (zS (NM a b c t n)) l3 l4 l5 l6 l7 l8 l9 l10 l11 l12 l13 l14 l15 l16 l17 l18 l19 mu) (ρ1:=WV S l1 (zS (NM a b c t n)) l3 l4 l5 l6 l7 l8 l9 l10 l11 l12 l13 l14 l15 l16 l17 l18 l19 mu) (jP (l:=.sh (NM a b c t n)) rfl rfl) ec
theorem tail_eq {m0:Option PV} {X:PV} (nd:[a,b,c,t,n].Nodup) (H:Pr (D5 a b c t n) (B5 a b c t n v0 v1 v2 v3 v4) (c7 t n hs) bu F) (hX:(X=.ptr 0/\m0=some (.lst (F.ms.map cY.pv)))\/(X=.lst (F.ms.map cY.pv)/\m0=none)):
 ∃ ρ:Ev,tlS (WV S l1 (zS (NM a b c t n)) l3 (zL (aR (B5 a b c t n v0 v1 v2 v3 v4))) l5 l6 (zI bu) (zS (.ptr 2)) l9 l10 (some (.own (.lst (c7 t n hs).pvs))) l12 l13 l14 none none none none none (MU m0 X F))=some (.rt (.sh (.bl true)) ρ):=by
 let P:PV:=(jB (D5 a b c t n) (c7 t n hs)).pv
 let V:PV:=.lst (aR (B5 a b c t n v0 v1 v2 v3 v4))
 let RS0:Option Lc:=some (.own (.lst (c7 t n hs).pvs))
 let E:=fun l5 l11 l15 l16 l17 l18 l19 mu=>WV S l1 (zS (NM a b c t n)) l3 (zL (aR (B5 a b c t n v0 v1 v2 v3 v4))) l5 l6 (zI bu) (zS (.ptr 2)) l9 l10 l11 l12 l13 l14 l15 l16 l17 l18 l19 mu
 have hF:F.B.map (·.1)=[a,b,c,t,n]:=H.fn
 have ne:=H.nev
 have NM':jC 40 (.lst (F.ms.map cY.pv)):=Ol H
 have NG:jC 40 (lK F):=Q9 H
 obtain ⟨o,hH,ic⟩:∃ o,(∀ vs,Holds o (F.ms.map cY.pv) ⟨vs,MU m0 X F⟩)/\xJ (aY (aj 8) (eC (.str "moments"))) (E l5 RS0 (zO []) none none none none (MU m0 X F))=some (o,F.ms.map cY.pv,E l5 RS0 (zO []) none none none none (MU m0 X F)):=by
  have sx:aY (aj 8) (eC (.str "moments")) (E l5 RS0 (zO []) none none none none (MU m0 X F))=some (.sh X,E l5 RS0 (zO []) none none none none (MU m0 X F)):=SJ (m0:=m0) (X:=X) (F:=F) (i:=8) rfl rfl rfl
  rcases hX with ⟨h1,h2⟩ | ⟨h1,h2⟩
  . subst h1 h2
    refine ⟨some 0,fun vs n e=>(by cases e; rfl),?_⟩
    unfold xJ
    rw [sx,aaa]
    rfl
  . subst h1 h2
    refine ⟨none,fun vs n e=>(by cases e),?_⟩
    unfold xJ
    rw [sx,aaa]
    rfl
 obtain ⟨p5,p16,p17,er⟩:=JB (S:=S) (l1:=l1) (l2:=zS (NM a b c t n)) (l3:=l3) (l4:=zS V) (l6:=l6) (l7:=zI bu) (l8:=zS (.ptr 2)) (l9:=l9) (l10:=l10) (l11:=RS0) (l12:=l12) (l13:=l13) (l14:=l14) (l18:=none) (l19:=none) hH F.ms [] l5 none none (by show 0+_<=_; omega)
 have s13:Sy (E l5 RS0 (zO []) none none none none (MU m0 X F))=some (.nx (E p5 RS0 (zO (jg F.ms)) p16 p17 none none (MU m0 X F))):=by
  unfold Sy Em
  rw [ic,aaa]
  exact er
 let G:Option Lc:=zS (lK F)
 let R1:Option Lc:=zL (jg F.ms)
 have sw:aY (aj 8) (eC (.str "word")) (E p5 RS0 (zO (jg F.ms)) p16 p17 none none (MU m0 X F))=some (.sh (.str F.wd),E p5 RS0 (zO (jg F.ms)) p16 p17 none none (MU m0 X F)):=SJ (m0:=m0) (X:=X) (F:=F) (i:=8) rfl rfl rfl
 have s14:X6 (E p5 RS0 (zO (jg F.ms)) p16 p17 none none (MU m0 X F))=some (.nx (E p5 RS0 R1 p16 p17 G none (MU m0 X F))):=cH (kY (ls:=[.sh (.str F.wd),.sh (.lst (jg F.ms)),.own (.lst (aR F.B))]) (ρ1:=E p5 RS0 R1 p16 p17 none none (MU m0 X F)) (aC sw (aC (ρ1:=E p5 RS0 R1 p16 p17 none none (MU m0 X F)) rfl (aC (YW nd hF H.fi) rfl))) rfl rfl) rfl rfl
 let RS1:Option Lc:=zS (.lst (c7 t n hs).pvs)
 let PP:Option Lc:=zS P
 have s15:X7 (E p5 RS0 R1 p16 p17 G none (MU m0 X F))=some (.nx (E p5 RS1 R1 p16 p17 G PP (MU m0 X F))):=cH (kY (ls:=[.own (.lst (dcl (D5 a b c t n))),.own (.lst []),.own (.lst []),.sh (.lst (c7 t n hs).pvs)]) (ρ1:=E p5 RS1 R1 p16 p17 G none (MU m0 X F)) (aC YX (aC rfl (aC rfl (aC rfl rfl)))) rfl rfl) rfl rfl
 let Z:=fun mu=>E p5 RS1 R1 p16 p17 G PP mu
 have al:∀ (X1 Y1:PV) (mu1:Mu),jC 40 X1->cB 40 [X1,X1] mu1=some (.sh (.bl true),mu1):=fun X1 _ mu1 h=>nU h mu1
 have s16:X8 (Z (MU m0 X F))=some (.nx (Z (MU m0 X F))):=by
  obtain ⟨mu',e⟩:=Oh (mu:=(MU m0 X F).map fun _=>none) H
  refine (bR (Gf (wG (b:=true) (fM (l:=.sh (.bl true)) (Gn (ls:=[.sh (lK F),.sh (lK F)]) (ps:=[lK F,lK F]) (ρ1:=⟨(Z (MU m0 X F)).peek.vs,mu'⟩) (aC (bh (ls:=[.sh P,.sh V,.sh (.int bu)]) (ρ1:=(Z (MU m0 X F)).peek) rfl rfl rfl rfl e) (aC rfl rfl)) ?_ (nU NG _) rfl) rfl rfl)))).trans rfl
  show [bj mu' 40 (lK F),bj mu' 40 (lK F)]=_
  rw [NG.res]
 obtain ⟨mu1,nn,M,et,hn1,Mo,n1,fr⟩:=Oi (mu:=MU m0 X F) H
 have m2:mu1[2]?=some (some (.dk kS [X,.str F.wd,.int F.bu,.ptr 1])):=(fr 2 (show 2<3 from by decide)).trans rfl
 have r1:bj mu1 40 (.ptr nn)=.lst (F.ms.map cY.pv):=by
  rw [Cr hn1]
  show PV.lst (M.map (bj mu1 38))=_
  rw [Mo.res]
 have r2:bj mu1 40 X=.lst (F.ms.map cY.pv):=by
  rcases hX with ⟨h1,h2⟩ | ⟨h1,h2⟩
  . subst h1 h2
    rw [Cr (p:=.lst (F.ms.map cY.pv)) ((fr 0 (show 0<3 from by decide)).trans rfl)]
    exact NM'.res
  . subst h1
    exact NM'.res
 have f1:nD (cB 40) (aa (aK rN (aa (aj 19) (aa (aj 4) (aa (aj 7) ao)))) (aa (aY (aj 8) (eC (.str "moments"))) ao)) (Z (MU m0 X F))=some (.sh (.bl true),Z mu1):=by
  refine Gn (ls:=[.sh (.ptr nn),.sh X]) (ps:=[.lst (F.ms.map cY.pv),.lst (F.ms.map cY.pv)]) (ρ1:=Z mu1) (aC (bh (ls:=[.sh P,.sh V,.sh (.int bu)]) (ρ1:=Z (MU m0 X F)) rfl rfl rfl rfl et) (aC (SJ (m0:=m0) (X:=X) (F:=F) (i:=8) rfl m2 rfl) rfl)) ?_ (nU NM' _) rfl
  show [bj mu1 40 (.ptr nn),bj mu1 40 X]=_
  rw [r1,r2]
 have f2:lW (aA dO (aK vy (aa (aj 19) (aa (aj 4) (aa (aj 7) ao)))) (aj 18)) (Z mu1)=some (.sh (.bl true),Z mu1):=by
  obtain ⟨mu',e⟩:=Oh (mu:=(Z mu1).peekD.mu) H
  refine yS (ρ1:=⟨(Z mu1).peekD.vs,mu'⟩) (cO (p:=lK F) (q:=lK F) (bh (ls:=[.sh (bj mu1 40 P),.sh (bj mu1 40 V),.sh (.int bu)]) (ps:=[P,V,.int bu]) (ρ1:=(Z mu1).peekD) rfl ?_ rfl rfl e) rfl (l:=.sh (lK F)) (m:=.sh (bj mu1 40 (lK F))) rfl ?_ ?_) rfl
  . show [bj mu1 40 P,bj mu1 40 V,_]=_
    rw [X5,Jl]
    rfl
  . show bj mu1 40 (lK F)=_
    exact NG.res
  . show (lQ 150 (lK F) (lK F)).map _=_
    rw [(NG.up (m:=150) (by decide)).eq]
    rfl
 exact ⟨Z mu1,aB (ρ':=E l5 RS0 (zO []) none none none none (MU m0 X F)) rfl (aB s13 (aB s14 (aB s15 (aB s16 (cD (Vi f1 f2))))))⟩
end
section
variable {a b c t n:Str}
abbrev reS:SF:=(aF q2
 (aF q3
 (aF q4
 (aF q5
 (aF q6
 (aF q7
 (aF q8
 (aF q9
 (aF Zh
 (aF Zi
 (aF Zj
 (aF Sy
 (aF X6
 (aF X7
 (aF X8
 Zk)))))))))))))))
theorem rest_eq {ns:List Int} (hn:ns.length<=63) {S:PV} (hS:S=.lst (ns.map .int)) {c0:Int} (nd:[a,b,c,t,n].Nodup):∃ ρ:Ev,reS (WV S (zI c0) (zS (NM a b c t n)) none none none none none none none none none none none none none none none none none [])=some (.rt (.sh (.bl true)) ρ):=by
 let C:Option Lc:=zI c0
 let Nm:Option Lc:=zS (NM a b c t n)
 obtain ⟨T,hT⟩:∃ T,c0/2%41=T:=⟨_,rfl⟩
 obtain ⟨bu,hbu⟩:∃ bu,c0/82%21=bu:=⟨_,rfl⟩
 have T0:=aaO (c0/2) (b:=41) (by decide)
 have T1:=aaH (c0/2) (b:=41) (by decide)
 have b0:=aaO (c0/82) (b:=21) (by decide)
 have b1:=aaH (c0/82) (b:=21) (by decide)
 rw [hT] at T0 T1
 rw [hbu] at b0 b1
 obtain ⟨hs,esh,hz,ok⟩:=Oo (a:=a) (b:=b) (c:=c) (t:=t) (n:=n) (mu:=[]) hn T0 (by omega)
 rw [← hS] at esh
 let HS:PV:=.lst (hs.map Sh.pv)
 have hl:=xX (hs:=hs)
 have s2:q2 (WV S C Nm none none none none none none none none none none none none none none none none none [])=some (.nx (WV S C Nm (some (.own HS)) none none none none none none none none none none none none none none none none [])):=cH (bh (ls:=[.sh S,.sh (.int T),.sh (NM a b c t n)]) (ρ1:=WV S C Nm none none none none none none none none none none none none none none none none none []) (aC rfl (aC (by
  rw [← hT]
  exact cO (cO rfl rfl rfl rfl (mW (by decide) (by decide))) rfl rfl rfl (di (by decide))) (aC rfl rfl))) rfl rfl rfl esh) rfl rfl
 obtain ⟨ws,p5,p6,ev,lw,aw⟩:=Jw (S:=S) (l1:=C) (l2:=Nm) (l3:=some (.own HS)) (l7:=none) (l8:=none) (l9:=none) (l10:=none) (l11:=none) (l12:=none) (l13:=none) (l14:=none) (l15:=none) (l16:=none) (l17:=none) (l18:=none) (l19:=none) (mu:=[]) hn hS 5 0 [] none none (by decide) (by decide)
 rw [abi] at ev
 obtain ⟨v0,v1,v2,v3,v4,rfl⟩:∃ v0 v1 v2 v3 v4,ws=[v0,v1,v2,v3,v4]:=by
  match ws,lw with
  | [v0,v1,v2,v3,v4],_=>exact ⟨v0,v1,v2,v3,v4,rfl⟩
 have i0:=aw v0 (by simp)
 have i1:=aw v1 (by simp)
 have i2:=aw v2 (by simp)
 have i3:=aw v3 (by simp)
 have i4:=aw v4 (by simp)
 let B:=B5 a b c t n v0 v1 v2 v3 v4
 have s4:q4 (WV S C Nm (some (.own HS)) (zO []) none none none none none none none none none none none none none none none [])=some (.nx (WV S C Nm (some (.own HS)) (zO (aR B)) p5 p6 none none none none none none none none none none none none none [])):=jQ (xs:=(List.range' 0 5).map fun (k:Nat)=>PV.int (k:Nat)) (ρ1:=WV S C Nm (some (.own HS)) (zO []) none none none none none none none none none none none none none none none []) rfl ev
 let U:Option Lc:=zI bu
 have s5:q5 (WV S C Nm (some (.own HS)) (zO (aR B)) p5 p6 none none none none none none none none none none none none none [])=some (.nx (WV S C Nm (some (.own HS)) (zO (aR B)) p5 p6 U none none none none none none none none none none none none [])):=cH (l:=.sh (.int bu)) (by
  rw [← hbu]
  exact cO (cO rfl rfl rfl rfl (mW (by decide) (by decide))) rfl rfl rfl (di (by decide))) rfl rfl
 let Q:Option Lc:=zS (.ptr 2)
 have s6:q6 (WV S C Nm (some (.own HS)) (zO (aR B)) p5 p6 U none none none none none none none none none none none none [])=some (.nx (WV S C Nm (some (.own HS)) (zO (aR B)) p5 p6 U Q none none none none none none none none none none none (LM ⟨bu, "done",[],[]⟩))):=by
  have d:fU (eC (.str "moments")) (cV (aV ao)) (fU (eC (.str "word")) (eC (.str "done")) (fU (eC (.str "left")) (aj 7) (fU (eC (.str "boxes")) (cV kZ) Br))) (WV S C Nm (some (.own HS)) (zO (aR B)) p5 p6 U none none none none none none none none none none none none [])=some ([(.sh (.str "moments"),.sh (.ptr 0)),(.sh (.str "word"),.sh (.str "done")),(.sh (.str "left"),.sh (.int bu)),(.sh (.str "boxes"),.sh (.ptr 1))],WV S C Nm (some (.own HS)) (zO (aR B)) p5 p6 U none none none none none none none none none none none none [some (.lst []),some (.dk [] [])]):=lF rfl (lN (p:=.lst []) (ρ1:=WV S C Nm (some (.own HS)) (zO (aR B)) p5 p6 U none none none none none none none none none none none none []) rfl) (lF rfl rfl (lF rfl rfl (lF rfl (lN (p:=.dk [] []) (ρ1:=WV S C Nm (some (.own HS)) (zO (aR B)) p5 p6 U none none none none none none none none none none none none [some (.lst [])]) rfl) rfl)))
  exact cH (lN (ρ1:=WV S C Nm (some (.own HS)) (zO (aR B)) p5 p6 U none none none none none none none none none none none none [some (.lst []),some (.dk [] [])]) (Jr (p:=.dk kS [.ptr 0,.str "done",.int bu,.ptr 1]) d rfl (show (4:Nat)<=15 from by decide) rfl)) rfl rfl
 obtain ⟨p9,p10,eb⟩:=Jx (S:=S) (l1:=C) (l2:=Nm) (l3:=some (.own HS)) (l4:=zL (aR B)) (l5:=p5) (l6:=p6) (l7:=U) (l11:=none) (l12:=none) (l13:=none) (l14:=none) (l15:=none) (l16:=none) (l17:=none) (l18:=none) (l19:=none) (bu:=bu) [(a,v0),(b,v1),(c,v2),(t,v3),(n,v4)] [] none none nd (by show 0+5<=100; decide)
 let L:LS:=⟨bu, "done",B,[]⟩
 rw [show ([]:Bs)++nB [(a,v0),(b,v1),(c,v2),(t,v3),(n,v4)]=B5 a b c t n v0 v1 v2 v3 v4 from rfl] at eb
 have z7:ur (aj 2) (aj 4) (WV S C Nm (some (.own HS)) (zO (aR B)) p5 p6 U Q none none none none none none none none none none none (LM ⟨bu, "done",[],[]⟩))=some ([(a,v0),(b,v1),(c,v2),(t,v3),(n,v4)].map (fun x=>.tup [.str x.1,.int x.2]),WV S C Nm (some (.own HS)) (zL (aR B)) p5 p6 U Q none none none none none none none none none none none (LM ⟨bu, "done",[],[]⟩)):=rfl
 have s7:q7 (WV S C Nm (some (.own HS)) (zO (aR B)) p5 p6 U Q none none none none none none none none none none none (LM ⟨bu, "done",[],[]⟩))=some (.nx (WV S C Nm (some (.own HS)) (zL (aR B)) p5 p6 U Q p9 p10 none none none none none none none none none (LM L))):=jQ z7 eb
 obtain ⟨H,lk,lkF⟩:=YT (hs:=hs) (bu:=bu) nd i0 i1 i2 i3 i4 ok hz b0 (by omega)
 obtain ⟨p13,p14,em,h14⟩:=Jz (S:=S) (l1:=C) (l3:=zS HS) (l4:=zL (aR B)) (l5:=p5) (l6:=p6) (l7:=U) (l9:=p9) (l10:=p10) (l15:=none) (l16:=none) (l17:=none) (l18:=none) (l19:=none) hs 0 [] L none none ok lk (by show 0+_<_; omega) (by show 0+_<=_; omega)
 rw [abi] at em
 let A:=eZ t n 0 hs L
 let W:=fun l14 mu=>WV S C Nm (zS HS) (zL (aR B)) p5 p6 U Q p9 p10 (some (.own (.lst (c7 t n hs).pvs))) (zI ((0+fC hs:Nat):Int)) p13 l14 none none none none none mu
 have s10:Zh (WV S C Nm (some (.own HS)) (zL (aR B)) p5 p6 U Q p9 p10 (zO []) (zI 0) none none none none none none none (LM L))=some (.nx (W p14 (LM A))):=jQ (xs:=hs.map Sh.pv) (ρ1:=WV S C Nm (zS HS) (zL (aR B)) p5 p6 U Q p9 p10 (zO []) (zI 0) none none none none none none none (LM L)) (jP (l:=.sh HS) rfl rfl) em
 have w:∀ c:Bool,(A.wd == "done")=c->tT (aA dO (aY (aj 8) (eC (.str "word"))) (eC (.str "done"))) bB (W p14 (LM A))=some (c,W p14 (LM A)):=fun c e=>by
  cases c
  . exact lE (stK (i:=8) rfl rfl) e
  . exact pN (stK (i:=8) rfl rfl) e
 have g:tT (aA zQ (lg (aj 3)) (eC (.int 0))) bB (W p14 (LM A))=some (decide (((hs.map Sh.pv).length:Int)>0),W p14 (LM A)):=rfl
 obtain ⟨l14,m0,X,s11,hX⟩:∃ l14 m0 X,Zi (W p14 (LM A))=some (.nx (W l14 (MU m0 X (lJ t n hs L))))/\((X=.ptr 0/\m0=some (.lst ((lJ t n hs L).ms.map cY.pv)))\/(X=.lst ((lJ t n hs L).ms.map cY.pv)/\m0=none)):=by
  by_cases hw:A.wd = "done"
  . have w1:=w true (by rw [hw]; exact ace _)
    by_cases hh:hs=[]
    . have ef:lJ t n hs L=A:=ab8 fun q=>q.2 hh
      rw [ef]
      exact ⟨p14,_,.ptr 0,(bR (uD w1 (g.trans (by rw [hh]; rfl)))).trans rfl,.inl ⟨rfl,rfl⟩⟩
    . have ef:lJ t n hs L=⟨A.bu,A.wd,A.B,A.ms++[(((pC 0 hs:Nat):Int),3,[])]⟩:=ab7 ⟨hw,hh⟩
      have e14:=h14 hw hh
      subst e14
      rw [ef]
      have hlen:0<hs.length:=List.length_pos_iff.mpr hh
      have hlA:A.ms.length<=0+550*hs.length:=(LK.all (by simp) (by simp) hs 0 L (fun h hh=>(ok h hh).c) lk).2
      let TT:PV:=.tup [.int ((pC 0 hs:Nat):Int),.int 3,.lst []]
      let m1:Mu:=[none,some (.dk (bC A.B) (aR A.B)),some (.dk kS [.ptr 0,.str A.wd,.int A.bu,.ptr 1])]
      have ad:aA cN (jR (aY (aj 8) (eC (.str "moments")))) (aj 14) (W (some (.own (.lst [TT]))) (LM A))=some (.own (.lst (A.ms.map cY.pv++[TT])),W (zS (.lst [TT])) m1):=cO (p:=.lst (A.ms.map cY.pv)) (q:=.lst [TT]) (l:=.sh (.lst (A.ms.map cY.pv))) (m:=.sh (.lst [TT])) (ρ1:=W (some (.own (.lst [TT]))) m1) (zm (x:=.sh (.ptr 0)) (ρ1:=W (some (.own (.lst [TT]))) (LM A)) (stK (i:=8) rfl rfl) rfl rfl) rfl rfl rfl (Xk (by rw [aad]; show _+1<=_; omega))
      refine ⟨zS (.lst [TT]),none,.lst ((A.ms++[(((pC 0 hs:Nat):Int),3,[])]).map cY.pv),(dI (uD w1 (g.trans (by rw [acb (by rw [aad]; omega)])))).trans (qO (x:=.own (.lst (A.ms.map cY.pv++[TT]))) (ρ1:=W (zS (.lst [TT])) m1) (ρ2:=W (zS (.lst [TT])) m1) (ρ3:=W (zS (.lst [TT])) m1) (o:=.sh (.ptr 2)) (y:=.sh (.str "moments")) (k:=.inr "moments") (ks:=kS) (ps:=[.ptr 0,.str A.wd,.int A.bu,.ptr 1]) ad rfl rfl rfl rfl rfl rfl (show (4:Nat)<100000 from by decide) ?_),.inr ⟨rfl,rfl⟩⟩
      rw [aaz]
      rfl
  . have ef:lJ t n hs L=A:=ab8 fun q=>hw q.1
    rw [ef]
    exact ⟨p14,_,.ptr 0,(bR (G6 (w false (acd.mpr hw)))).trans rfl,.inl ⟨rfl,rfl⟩⟩
 obtain ⟨ρ,et⟩:=tail_eq (S:=S) (l1:=C) (l3:=zS HS) (l5:=p5) (l6:=p6) (l9:=p9) (l10:=p10) (l12:=zI ((0+fC hs:Nat):Int)) (l13:=p13) (l14:=l14) nd H hX
 exact ⟨ρ,aB s2 (aB (ρ':=WV S C Nm (some (.own HS)) (zO []) none none none none none none none none none none none none none none none []) rfl (aB s4 (aB s5 (aB s6 (aB s7 (aB (ρ':=WV S C Nm (some (.own HS)) (zL (aR B)) p5 p6 U Q p9 p10 (zO []) none none none none none none none none (LM L)) rfl (aB (ρ':=WV S C Nm (some (.own HS)) (zL (aR B)) p5 p6 U Q p9 p10 (zO []) (zI 0) none none none none none none none (LM L)) rfl (aB s10 (aB s11 et)))))))))⟩
end
theorem law_true (ns:List Int) (hn:ns.length<=63):∃ mu,Km [.lst (ns.map PV.int)] []=some (.sh (.bl true),mu):=by
 obtain ⟨c0,_,_,ec⟩:=cell_eq (ns:=ns) (k:=0) hn (by decide) (by decide)
 obtain ⟨S,hS⟩:∃ S:PV,S=.lst (ns.map .int):=⟨_,rfl⟩
 rw [← hS] at ec ⊢
 have s0:q0 (WV S none none none none none none none none none none none none none none none none none none none [])=some (.nx (WV S (zI c0) none none none none none none none none none none none none none none none none none none [])):=cH (bh (ls:=[.sh S,.sh (.int 0)]) (ρ1:=WV S none none none none none none none none none none none none none none none none none none none []) rfl rfl rfl rfl (ec [])) rfl rfl
 obtain ⟨a,b,c,t,n,nd,s1⟩:∃ a b c t n:Str,[a,b,c,t,n].Nodup/\q1 (WV S (zI c0) none none none none none none none none none none none none none none none none none none [])=some (.nx (WV S (zI c0) (zS (NM a b c t n)) none none none none none none none none none none none none none none none none none [])):=by
  have md:aA cF (aj 1) (eC (.int 2)) (WV S (zI c0) none none none none none none none none none none none none none none none none none none [])=some (.sh (.int (c0%2)),WV S (zI c0) none none none none none none none none none none none none none none none none none none []):=cO rfl rfl rfl rfl (di (by decide))
  have h0:=aaO c0 (b:=2) (by decide)
  have h1:=aaH c0 (b:=2) (by decide)
  generalize c0%2=j at md h0 h1
  rcases (show j=0\/j=1 by omega) with rfl | rfl
  . exact ⟨"c", "cc", "d", "dc", "e",by decide +kernel,cH (xQ (p:=.lst [NM "c" "cc" "d" "dc" "e",NM "e" "d" "c" "ce" "cd"]) (r:=.sh (NM "c" "cc" "d" "dc" "e")) rfl rfl md rfl uB rfl) rfl rfl⟩
  . exact ⟨"e", "d", "c", "ce", "cd",by decide +kernel,cH (xQ (p:=.lst [NM "c" "cc" "d" "dc" "e",NM "e" "d" "c" "ce" "cd"]) (r:=.sh (NM "e" "d" "c" "ce" "cd")) rfl rfl md rfl uB rfl) rfl rfl⟩
 obtain ⟨ρ,er⟩:=rest_eq (c0:=c0) hn hS nd
 exact ⟨ρ.mu,bf (aB s0 (aB s1 er))⟩
end
section
variable (K:FG) (x qq:Str) (st:Stmt) (f c:Addr)
abbrev Zm:Prop:=∃ (oc kV dc pm cd ct:Value) (od an:Option Addr) (sl:Array (Option Value)),K.lookup f=some ⟨oc,od,.func (W.fnOf x qq (n8 st) (iH st) (aH st) .none kV dc pm an cd ct),sl⟩/\W.codeIn K cd qq=true/\W.keepIn K (.ref f)=true
abbrev FD:Prop:=∃ f,W.nsIn K mainGlobals x=some (some (.ref f))/\Zm K x x st f
abbrev FM:Prop:=∃ f,W.findIn K (.ref c) x=some (some (.ref f))/\W.isFn K (.ref f)=true/\Zm K x qq st f
abbrev KC:Prop:=W.nsIn K mainGlobals x=some (some (.ref c))/\W.plainGet K c Str.empty=true/\W.hasDictIn K c=true/\W.plainOver K c=true/\W.findIn K (.ref c) "__setattr__" = some (some (.builtin "object.__setattr__"))/\W.makesIn K c=true/\W.keepIn K (.ref c)=true
abbrev HB (ps:List Str):Prop:=∀ (kV doc pm:Value) (an:Option Addr) (cdv ct:Value) (us:List Value),us.length=ps.length->bindArgs (W.fnOf x qq (n8 st) (iH st) (aH st) .none kV doc pm an cdv ct) ⟨us,[]⟩=pure (ps.zip us)
end
section
variable {K:FG} {h:Heap} {mg:Str->Option Value} {x qq:Str} {st:Stmt} {c:Addr} {ps:List Str}
theorem jD (X:K.In h) (G:h.Ns mainGlobals mg) (d:FD K x st) (hb:HB x x st ps):cQ K mg x st ps:=by
 obtain ⟨f,a,_,_,_,_,_,_,_,_,_,l,e,k⟩:=d
 exact ⟨_,_,vW l e k,W.mg_of X G a,(vW l e k).binds hb⟩
theorem tK (d:FM K x qq st c) (hb:HB x qq st ps):pM K c x qq st ps:=by
 obtain ⟨f,a,i,_,_,_,_,_,_,_,_,_,l,e,k⟩:=d
 exact ⟨_,_,vW l e k,a,i,(vW l e k).binds hb⟩
theorem Zn (X:K.In h) (G:h.Ns mainGlobals mg) (d:KC K x c):tQ K mg x c:=⟨d.1,⟨d.2.1,d.2.2.1,d.2.2.2.1,d.2.2.2.2.1⟩,W.mg_of X G d.1⟩
theorem yF {l:List Str} (n:W.findIn K (.ref c) x=some none) (t:∀ f∈l,jm K c f):∀ f∈x::l,jm K c f:=by
 intro g hg
 rcases aao.mp hg with e | hg
 . rw [e]; exact n
 . exact t g hg
theorem nan:∀ f∈([]:List Str),jm K c f:=fun _ h=>nomatch h
theorem bc {l:List Str} (X:K.In h) (G:h.Ns mainGlobals mg) (n:W.nsIn K mainGlobals x=some none) (t:Ik mg l):Ik mg (x::l):=by
 intro g hg
 rcases aao.mp hg with e | hg
 . rw [e]; exact W.mg_none_of X G n
 . exact t g hg
theorem bn:Ik mg []:=fun _ h=>nomatch h
end
local macro_rules | `(tactic| walk_at "b")=>`(tactic| (intro _ _ _ _ _ _ us hl; first | (obtain ⟨_,e⟩:=yp hl; subst e; rfl) | (obtain ⟨_,_,e⟩:=ln2 hl; subst e; rfl) | (obtain ⟨_,_,_,e⟩:=Y4 hl; subst e; rfl) | (obtain ⟨_,_,_,_,e⟩:=Y5 hl; subst e; rfl) | (obtain ⟨_,_,_,_,_,e⟩:=ln5 hl; subst e; rfl)))
theorem all_mk {l:W.OpenLaw} {w:World} {K:FG} {h:Heap} {mg:Str->Option Value} {fa:Addr} (X:K.In h) (G:h.Ns mainGlobals mg) (hfa:mg "law" = some (.ref fa))
 (adY:∃ c,KC K "Plan" c/\(W.findIn K (.ref c) "told" = some none/\W.findIn K (.ref c) "lists" = some none/\W.findIn K (.ref c) "heads" = some none)/\FM K "__init__" "Plan.__init__" jK c/\FM K "row" "Plan.row" tZ c/\FM K "body" "Plan.body" rE c/\FM K "block" "Plan.block" pY c)
 (adR:∃ c,KC K "Running" c/\(W.findIn K (.ref c) "plan" = some none/\W.findIn K (.ref c) "boxes" = some none/\W.findIn K (.ref c) "own" = some none/\W.findIn K (.ref c) "budget" = some none/\W.findIn K (.ref c) "word" = some none/\W.findIn K (.ref c) "moments" = some none/\W.findIn K (.ref c) "due" = some none)/\FM K "__init__" "Running.__init__" j4 c/\FM K "lay" "Running.lay" lL c/\FM K "lay_body" "Running.lay_body" j5 c/\FM K "step" "Running.step" nF c/\FM K "note" "Running.note" nG c/\FM K "value" "Running.value" mJ c/\FM K "give" "Running.give" nH c/\FM K "spend" "Running.spend" mK c/\FM K "begin" "Running.begin" mL c/\FM K "look" "Running.look" nJ c)
 (adE:FD K "blocks_of" tR)
 (adT:FD K "copied" vd)
 (ady:FD K "all_copied" lr)
 (adM:FD K "laid_out" qF)
 (adN:FD K "numbered" vf)
 (adO:FD K "value_of" qG)
 (adF:FD K "number_at" tU)
 (adP:FD K "reckoned" vg)
 (adt:FD K "can_be_held" pU)
 (adW:FD K "suits" xO)
 (adn:FD K "refuse_input" oH)
 (adU:FD K "filled" yV)
 (adS:FD K "emptied" sX)
 (ado:FD K "gone_through" oJ)
 (adG:FD K "record_of" oZ)
 (adZ:FD K "run" Kh)
 (adV:FD K "traced" yW)
 (adH:FD K "_law_cell" tV)
 (adu:FD K "_law_number" pW)
 (adz:FD K "_law_alike" lu)
 (adQ:FD K "_law_set" vh)
 (adI:FD K "_law_look" tW)
 (adA:FD K "_law_shape" rD)
 (adv:FD K "_law_shapes" pX)
 (adp:FD K "_law_rows_of" oK)
 (adJ:FD K "_law_turn" tX)
 (adK:FD K "_law_loop" tY)
 (ad0:FD K "law" ph)
 (z0:W.nsIn K mainGlobals "ValueError" = some none)
 (z1:W.nsIn K mainGlobals "all" = some none)
 (z2:W.nsIn K mainGlobals "bool" = some none)
 (z3:W.nsIn K mainGlobals "dict" = some none)
 (z4:W.nsIn K mainGlobals "enumerate" = some none)
 (z5:W.nsIn K mainGlobals "int" = some none)
 (z6:W.nsIn K mainGlobals "isinstance" = some none)
 (z7:W.nsIn K mainGlobals "len" = some none)
 (z8:W.nsIn K mainGlobals "list" = some none)
 (z9:W.nsIn K mainGlobals "max" = some none)
 (z10:W.nsIn K mainGlobals "range" = some none)
 (z11:W.nsIn K mainGlobals "reversed" = some none)
 (z12:W.nsIn K mainGlobals "str" = some none)
 (z13:W.nsIn K mainGlobals "tuple" = some none)
 (z14:W.nsIn K mainGlobals "zip" = some none)
 (adX:∃ t,W.nsIn K mainGlobals "LIMIT" = some (some (.int 1000000000000 t)))
 (HL:∀ [HK] (ns:List Int),ns.length<=63->∃ mu,Km [.lst (ns.map PV.int)] []=some (.sh (.bl true),mu))
 : ∃ fd:FuncData,(∀ (s:Shared) (v:Value),BindsTo s fd ⟨[v],[]⟩ [("_law_script",v)])/\∀ base:Heap,K.In base->base.Ns mainGlobals mg->mD l.prog w K mg base nW 88 fa fd ["_law_script"] (El K):=by
 letI:HK:=⟨zM l.prog w⟩
 have hkx:HK.hk=zM l.prog w:=rfl
 obtain ⟨acs,adB,⟨n0,n1,n2⟩,adc,adL,adC,adw⟩:=adY
 have acl:=Zn X G adB
 have aco:=yF n0 (yF n1 (yF n2 (nan)))
 obtain ⟨acn,ac8,⟨n0,n1,n2,n3,n4,n5,n6⟩,ac5,adq,ac6,adh,adi,ade,adk,adf,adg,adl⟩:=adR
 have aci:=Zn X G ac8
 have acj:=yF n0 (yF n1 (yF n2 (yF n3 (yF n4 (yF n5 (yF n6 (nan)))))))
 have B:Ik mg BL:=bc X G z0 (bc X G z1 (bc X G z2 (bc X G z3 (bc X G z4 (bc X G z5 (bc X G z6 (bc X G z7 (bc X G z8 (bc X G z9 (bc X G z10 (bc X G z11 (bc X G z12 (bc X G z13 (bc X G z14 (bn)))))))))))))))
 have ack:∃ t,mg "LIMIT" = some (.int 1000000000000 t):=adX.imp fun _ y=>W.mg_of X G y
 obtain ⟨_,a,_,kV,dc,pm,cd,ct,_,an,_,lk,ce,kp⟩:=ad0
 have e:=hfa.symm.trans (W.mg_of X G a)
 cases e
 refine ⟨W.fnOf "law" "law" (n8 ph) (iH ph) (aH ph) .none kV dc pm an cd ct,fun s v=>.of_eq rfl,fun base _ _=>?_⟩
 have acz:=Gy (base:=base) B ack acl aco aci acj hkx (jD X G adE (by walk_at "b"))
 have adD:=Ag (base:=base) B ack acl aco aci acj hkx (jD X G adT (by walk_at "b")) (jD X G ady (by walk_at "b")) 40
 have acE:=adD.1
 have acM:=adD.2
 have acF:=wU (base:=base) B ack acl aco aci acj hkx (jD X G adM (by walk_at "b")) acz acE 40
 have ac4:=Hy (base:=base) B ack acl aco aci acj hkx (jD X G adN (by walk_at "b")) acF
 have acA:=Gz (base:=base) B ack acl aco aci acj hkx (jD X G adF (by walk_at "b"))
 have acG:=Hz (base:=base) B ack acl aco aci acj hkx (jD X G adP (by walk_at "b"))
 have acy:=wV (base:=base) B ack acl aco aci acj hkx (jD X G adO (by walk_at "b")) acA acG 40
 have acI:=BP (base:=base) B ack acl aco aci acj hkx (jD X G adt (by walk_at "b"))
 have adm:=QG (base:=base) B ack acl aco aci acj hkx (jD X G adW (by walk_at "b")) acI
 have acQ:=Ah (base:=base) B ack acl aco aci acj hkx (jD X G adn (by walk_at "b")) adm
 have ada:=Nk (base:=base) B ack acl aco aci acj hkx (jD X G adU (by walk_at "b"))
 have ac7:=Kq (base:=base) B ack acl aco aci acj hkx (jD X G adS (by walk_at "b"))
 have acJ:=RQ (yd (base:=base) B ack acl aco aci acj hkx (tK adc (by walk_at "b")) ac4) adB.2.2.2.2.2.1 adB.2.2.2.2.2.2
 have acV:=Ea (base:=base) B ack acl aco aci acj hkx (tK adC (by walk_at "b"))
 have acp:=Ai (base:=base) B ack acl aco aci acj hkx (tK adq (by walk_at "b"))
 have acC:=vA (base:=base) B ack acl aco aci acj hkx (tK ac6 (by walk_at "b")) acV acp
 have acD:=RQ (vB (base:=base) B ack acl aco aci acj hkx (tK ac5 (by walk_at "b")) acJ acC ada) ac8.2.2.2.2.2.1 ac8.2.2.2.2.2.2
 have acv:=BR (base:=base) B ack acl aco aci acj hkx (tK adw (by walk_at "b"))
 have acY:=GC (base:=base) B ack acl aco aci acj hkx (tK adL (by walk_at "b"))
 have acN:=zc (base:=base) B ack acl aco aci acj hkx (tK adk (by walk_at "b"))
 have acK:=ye (base:=base) B ack acl aco aci acj hkx (tK adf (by walk_at "b"))
 have acq:=yf (base:=base) B ack acl aco aci acj hkx (tK ade (by walk_at "b")) acy
 have acO:=zf (base:=base) B ack acl aco aci acj hkx (tK adl (by walk_at "b")) acv acp acK acq
 have acr:=zg (base:=base) B ack acl aco aci acj hkx (tK adi (by walk_at "b"))
 have acL:=yg (base:=base) B ack acl aco aci acj hkx (tK adg (by walk_at "b")) acv acY acN acp acO acr acq
 have acP:=zj (base:=base) B ack acl aco aci acj hkx (tK adh (by walk_at "b")) acL acr
 have acu:=Aj (base:=base) B ack acl aco aci acj hkx (jD X G ado (by walk_at "b")) acD acP acQ
 have acZ:=GD (base:=base) B ack acl aco aci acj hkx (jD X G adG (by walk_at "b"))
 have adx:=Xc (base:=base) B ack acl aco aci acj hkx (jD X G adZ (by walk_at "b")) ac7 acu acZ
 have adb:=Np (base:=base) B ack acl aco aci acj hkx (jD X G adV (by walk_at "b")) acu
 have acw:=GJ (base:=base) B ack acl aco aci acj hkx (jD X G adH (by walk_at "b"))
 have acS:=BW (base:=base) B ack acl aco aci acj hkx (jD X G adu (by walk_at "b"))
 have acx:=uA (base:=base) B ack acl aco aci acj hkx (jD X G adz (by walk_at "b")) 40
 have acH:=HF (base:=base) B ack acl aco aci acj hkx (jD X G adQ (by walk_at "b"))
 have acB:=GK (base:=base) B ack acl aco aci acj hkx (jD X G adI (by walk_at "b"))
 have acX:=Ec (base:=base) B ack acl aco aci acj hkx (jD X G adA (by walk_at "b"))
 have acT:=BX (base:=base) B ack acl aco aci acj hkx (jD X G adv (by walk_at "b")) acw acX
 have acR:=Ak (base:=base) B ack acl aco aci acj hkx (jD X G adp (by walk_at "b"))
 have ac0:=GP (base:=base) B ack acl aco aci acj hkx (jD X G adJ (by walk_at "b")) acB acH
 have ac1:=GQ (base:=base) B ack acl aco aci acj hkx (jD X G adK (by walk_at "b")) acB ac0
 exact WQ (Xd (base:=base) B ack acl aco aci acj hkx (vW (st:=ph) lk ce kp) acx acw ac1 acS acR acT adx adb) HL
theorem walk {l:W.OpenLaw} {q:Program} {loose:List Str} {XP:(Str->Option Value)->Heap->Prop} {YP:World->Heap->Prop} {d:DefRec} {K:Params->FG} (hn:l.most=some 63) (hdf:d.params.defaults=[])
 (hY:∀ (w:World) (h:Heap),YP w h->(K w.params).In h)
 (F:∀ (w:World) (mg:Str->Option Value) (fa:Addr) (h:Heap),(K w.params).In h->h.Ns mainGlobals mg->mg d.name=some (.ref fa)->
   ∃ fd:FuncData,(∀ (s:Shared) (u:Value),BindsTo s fd ⟨[u],[]⟩ [("_law_script",u)])/\∀ base:Heap,(K w.params).In base->base.Ns mainGlobals mg->mD l.prog w (K w.params) mg base nW 88 fa fd ["_law_script"] (El (K w.params))):
 W.WalkO q loose XP YP l.row.toRowW d [] (fun f vs=>PySem.call f vs):=
 L2.walk_of (n:=63) (k:=88) (x := "_law_script") (CX:=fun _=>nW) (sp:=fun w=>El (K w.params)) hn (by decide) hdf ⟨fun _=>rfl,by decide,by decide,rfl⟩ hY F (fun _ _ a ns hl _ hS=>⟨a,ns,rfl,hS,hl,fun _=>rfl⟩) fun _ _ _ _ _ z=>z
end Law
end
namespace PySem.W.Fast
def tw15082097138431697482:=0
def tw6008677443044600281:=0
def tw2738846992501603122:=0
def tw4527996813165796847:=0
def tw4410365666515544916:=0
def tw12963813501296053365:=0
def tw4250097708451729009:=0
def tw16253658381360628378:=0
def tw15591589357555376547:=0
def tw3486412382727304962:=0
def tw3837690333674393275:=0
def tw1821856490707765042:=0
def tw2078055731702364221:=0
def tw7145126280838310433:=0
def tw4916493241696684505:=0
def tw18165260021444829022:=0
def tw7111993037015853740:=0
def tw6525257909044563272:=0
def tw15247042856687461265:=0
def tw11502120641490478220:=0
def tw5238263762968056941:=0
def tw18023612747773196671:=0
def tw15779366517857858712:=0
def tw8708866613072670055:=0
def tw1359239350983987534:=0
def tw3198432205366242103:=0
end PySem.W.Fast
open PySem PySem.W PyProof.Rows
local macro_rules | `(tactic| walk_at "m")=>`(tactic| exact ⟨_,by k_is,by k_is,_,_,_,_,_,_,_,_,_,by k_is,by k_is,by k_is⟩)
local macro_rules | `(tactic| walk_at "d")=>`(tactic| exact ⟨_,by k_is,_,_,_,_,_,_,_,_,_,by k_is,by k_is,by k_is⟩)
set_option maxRecDepth 100000 in
set_option maxHeartbeats 0 in
theorem PySem.Challenge.cw_hushwise_k26_turns_holds : PySem.Challenge.rw_hushwise_k26_turns.Holds := by
 w_on; o_law; k_head; (case hw=>w_witness2)
 k_fill
 refine Law.walk (l:=PySem.Challenge.rw_hushwise_k26_turns) rfl rfl (fun w h Y=>W.kIn_of Y) ?F
 case F=>
  intro w mg fa h KX G hmg
  refine' Law.all_mk KX G hmg ?_ ?_ ?_ ?_ ?_ ?_ ?_ ?_ ?_ ?_ ?_ ?_ ?_ ?_ ?_ ?_ ?_ ?_ ?_ ?_ ?_ ?_ ?_ ?_ ?_ ?_ ?_ ?_ ?_ ?_ ?_ ?_ ?_ ?_ ?_ ?_ ?_ ?_ ?_ ?_ ?_ ?_ ?_ ?_ ?_ ?_ Law.law_true
  exact ⟨_,⟨by k_is,by k_is,by k_is,by k_is,by k_is,by k_is,by k_is⟩,⟨by k_is,by k_is,by k_is⟩,by walk_at "m",by walk_at "m",by walk_at "m",by walk_at "m"⟩
  exact ⟨_,⟨by k_is,by k_is,by k_is,by k_is,by k_is,by k_is,by k_is⟩,⟨by k_is,by k_is,by k_is,by k_is,by k_is,by k_is,by k_is⟩,by walk_at "m",by walk_at "m",by walk_at "m",by walk_at "m",by walk_at "m",by walk_at "m",by walk_at "m",by walk_at "m",by walk_at "m",by walk_at "m"⟩
  iterate 28 walk_at "d"
  iterate 15 k_is
  iterate 1 exact ⟨_,by k_is⟩
